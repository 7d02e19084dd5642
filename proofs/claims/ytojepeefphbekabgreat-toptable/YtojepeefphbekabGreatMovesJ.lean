import Derived.Test.YtojepeefphbekabGreatUniqJ
import Derived.Test.YtojepeefphbekabGreatBaseJ
namespace Go.Proofs.YtojepeefphbekabGreat
open Go.RowKit 

/-- From the floor on an update changes its own tag alone. -/
theorem App.form {d : Int} {S S' : List (Int × Int)} {M M' : Int × Int → Option Hd} {x y : Int} {n : Nat} {F : Bool × Bool} {h2 : Hd} (p : App d S S' M M' x y n F h2) (h : Inv d S M) (h0 : 0 ≤ d) (hp : isProper x y = true) (hF : ¬ tc (x, y) (floorT S d) < 0) :
    (∀ t, ¬ tc t (floorT S' d) < 0 → M' t = upd M (x, y) h2 t) ∧ (¬ ((M (x, y)).getD Hd.zero).fin = true ∨ F.2 = false → ¬ tc (x, y) (floorT S' d) < 0) := by
  have hpos := proper_pos x y hp
  cases hf : F.2
  · obtain ⟨rfl, rfl⟩ := p.same hf
    exact ⟨fun _ _ => rfl, fun _ => hF⟩
  · obtain ⟨b, e, S1, fx, fy, ad, ff, res⟩ := p.more hf
    have R1 : Rising S1 ∧ (∀ t, t ∈ S1 ↔ t = (x, y) ∨ t ∈ S) ∧ S1.length ≤ S.length + 1 := by
      rcases ad with ⟨z, _⟩ | ⟨_, hm, _, _, rfl⟩ | ⟨_, hm, _, _, rfl⟩
      · rw [hp] at z; cases z
      · exact ⟨h.up, fun t => ⟨.inr, fun z => z.elim (fun q => q ▸ hm) id⟩, by omega⟩
      · refine ⟨put_rising _ _ h.up hm, fun t => ?_, by rw [put_length]; omega⟩
        rw [(put_perm S (x, y)).mem_iff, List.mem_cons]
    obtain ⟨r1, r2, r3⟩ := R1
    have in1 : (x, y) ∈ S1 := (r2 _).2 (.inl rfl)
    rcases res with ⟨hz, eS, eM⟩ | ⟨hz, eS, eM⟩
    · rw [eS, eM]
      refine ⟨fun _ _ => rfl, fun _ => ?_⟩
      rw [ff, zero_of fx fy hz]
      exact tc_asym _ _ hpos
    · have hl : d < S1.length := by
        rcases floor_mem S1 d h0 with ⟨_, z⟩ | ⟨z, _⟩
        · rw [ff] at z
          have z1 : fx = 0 := congrArg Prod.fst z
          have z2 : fy = 0 := congrArg Prod.snd z
          rw [z1, z2] at hz
          cases hz
        · exact z
      have cf := cut_floor S1 r1 d h0 hl
      rw [ff] at cf
      rw [eS, eM, cf.2]
      refine ⟨fun t ht => ?_, fun hfin => ?_⟩
      · unfold throwM
        rw [if_neg ht]
      · have hns : (x, y) ∉ S := by
          intro z
          obtain ⟨k, hk, hk2⟩ := (h.fin _).1 z
          rw [hk] at hfin
          rcases hfin with q | q
          · exact q hk2
          · cases q
        obtain ⟨j, hj, ej⟩ := List.getElem_of_mem in1
        rcases floor_mem S1 d h0 with ⟨z, _⟩ | ⟨_, z2, z3⟩
        · omega
        · rw [← ff, z3]
          have card := h.card
          intro lt
          have jl : j < S1.length - 1 - d.toNat := by
            rcases Nat.lt_or_ge j (S1.length - 1 - d.toNat) with q | q
            · exact q
            · exfalso
              rcases Nat.lt_or_ge (S1.length - 1 - d.toNat) j with q2 | q2
              · have := rising_get S1 r1 _ _ z2 hj q2
                rw [ej] at this
                exact tc_asym _ _ this lt
              · have e3 : j = S1.length - 1 - d.toNat := by omega
                subst e3
                rw [ej, tc_self] at lt
                exact absurd lt (by decide)
          have j0 : j = 0 := by omega
          have sl : (S.length : Int) = d + 1 := by omega
          rcases floor_mem S d h0 with ⟨q, _⟩ | ⟨_, q2, q3⟩
          · omega
          · have fm : floorT S d ∈ S := by rw [q3]; exact List.getElem_mem _
            have fm1 := (r2 _).2 (.inr fm)
            obtain ⟨i, hi, ei⟩ := List.getElem_of_mem fm1
            have i0 : i ≠ 0 := by
              intro z
              subst z
              subst j0
              rw [ei] at ej
              rw [ej] at fm
              exact hns fm
            have := rising_get S1 r1 j i hj hi (by omega)
            rw [ej, ei] at this
            exact hF this
/-- What is held of a key, by what came. -/
structure By (d : Int) (S : List (Int × Int)) (M : Int × Int → Option Hd) (eF eH : Int × Int → Bool) : Prop where
  inn : ∀ t, ¬ tc t (floorT S d) < 0 → (M t).map (fun h => (h.fin, h.has)) = (if (eF t || eH t) = true then some (eF t, eH t) else none)
  pos : ∀ t, (eF t || eH t) = true → tc (0, 0) t < 0
theorem By.nil (d : Int) : By d [] (fun _ => none) (fun _ => false) (fun _ => false) := ⟨fun _ _ => rfl, fun _ h => absurd h (by decide)⟩
/-- One more came. -/
def more (e : Int × Int → Bool) (t0 : Int × Int) (b : Bool) (t : Int × Int) : Bool := e t || (decide (t = t0) && b)
theorem more_at (e : Int × Int → Bool) (t0 : Int × Int) (b : Bool) : more e t0 b t0 = (e t0 || b) := by unfold more; simp
theorem more_ne (e : Int × Int → Bool) {t0 t : Int × Int} (b : Bool) (h : t ≠ t0) : more e t0 b t = e t := by unfold more; simp [h]
theorem By.at {d : Int} {S : List (Int × Int)} {M : Int × Int → Option Hd} {eF eH : Int × Int → Bool} (h : By d S M eF eH) {t : Int × Int} (ht : ¬ tc t (floorT S d) < 0) : ((M t).getD Hd.zero).fin = eF t ∧ ((M t).getD Hd.zero).has = eH t := by
  have := h.inn t ht
  cases hm : M t with
  | none =>
    rw [hm] at this
    split at this
    · cases this
    · rename_i q
      simp at q
      exact ⟨q.1.symm, q.2.symm⟩
  | some k =>
    rw [hm] at this
    split at this
    · have q := Option.some.inj this
      exact ⟨congrArg Prod.fst q, congrArg Prod.snd q⟩
    · cases this
theorem By.no {d : Int} {S : List (Int × Int)} {M : Int × Int → Option Hd} {eF eH : Int × Int → Bool} {u : Upd} (h : By d S M eF eH) (hp : isProper u.x u.y = true) (hl : lackF S M u d = (false, false)) : By d S M (more eF (u.x, u.y) u.final) (more eH (u.x, u.y) u.brings) := by
  refine ⟨fun t ht => ?_, fun t ht => ?_⟩
  · by_cases e : t = (u.x, u.y)
    · rw [e] at ht ⊢
      unfold lackF at hl
      rw [if_neg ht] at hl
      obtain ⟨q1, q2⟩ := h.at ht
      rw [q1, q2] at hl
      have l1 : (u.brings && !eH (u.x, u.y)) = false := congrArg Prod.fst hl
      have l2 : (u.final && !eF (u.x, u.y)) = false := congrArg Prod.snd hl
      have m1 : more eF (u.x, u.y) u.final (u.x, u.y) = eF (u.x, u.y) := by
        rw [more_at]
        revert l2
        cases u.final <;> cases eF (u.x, u.y) <;> simp
      have m2 : more eH (u.x, u.y) u.brings (u.x, u.y) = eH (u.x, u.y) := by
        rw [more_at]
        revert l1
        cases u.brings <;> cases eH (u.x, u.y) <;> simp
      rw [m1, m2]
      exact h.inn _ ht
    · rw [more_ne _ _ e, more_ne _ _ e]
      exact h.inn t ht
  · by_cases e : t = (u.x, u.y)
    · rw [e]
      exact proper_pos _ _ hp
    · rw [more_ne _ _ e, more_ne _ _ e] at ht
      exact h.pos t ht
theorem By.app {d : Int} {S S' : List (Int × Int)} {M M' : Int × Int → Option Hd} {eF eH : Int × Int → Bool} {u : Upd} {h2 : Hd} (h : By d S M eF eH) (i : Inv d S M) (h0 : 0 ≤ d) (hp : isProper u.x u.y = true) (hx : (lackF S M u d).1 = true ∨ (lackF S M u d).2 = true) (p : App d S S' M M' u.x u.y u.n (lackF S M u d) h2) :
    By d S' M' (more eF (u.x, u.y) u.final) (more eH (u.x, u.y) u.brings) ∧ (M' (u.x, u.y)).map (fun h => (h.fin, h.has)) ≠ (M (u.x, u.y)).map (fun h => (h.fin, h.has)) := by
  have hF := lack_floor hx
  obtain ⟨fm, st⟩ := p.form i h0 hp hF
  obtain ⟨_, fl, _⟩ := i.app h0 hp hx p
  obtain ⟨q1, q2⟩ := h.at hF
  have el : lackF S M u d = (u.brings && !eH (u.x, u.y), u.final && !eF (u.x, u.y)) := by
    unfold lackF
    rw [if_neg hF, q1, q2]
  have hfin : h2.fin = (eF (u.x, u.y) || u.final) := by
    rw [p.fin, q1, el]
    cases u.final <;> cases eF (u.x, u.y) <;> rfl
  have hhas : h2.has = (eH (u.x, u.y) || u.brings) := by
    cases hl : (lackF S M u d).1
    · rw [(p.old hl).1, q2]
      rw [el] at hl
      revert hl
      cases u.brings <;> cases eH (u.x, u.y) <;> simp
    · rw [(p.new hl).1]
      rw [el] at hl
      revert hl
      cases u.brings <;> cases eH (u.x, u.y) <;> simp
  have sm : ((eF (u.x, u.y) || u.final) || (eH (u.x, u.y) || u.brings)) = true := by
    rw [el] at hx
    revert hx
    cases u.brings <;> cases eH (u.x, u.y) <;> cases u.final <;> cases eF (u.x, u.y) <;> simp
  have sty : ¬ tc (u.x, u.y) (floorT S' d) < 0 := by
    apply st
    rw [q1, el]
    cases u.final <;> cases eF (u.x, u.y) <;> simp
  have at1 : M' (u.x, u.y) = some h2 := by
    rw [fm _ sty]
    unfold upd
    rw [if_pos rfl]
  refine ⟨⟨fun t ht => ?_, fun t ht => ?_⟩, ?_⟩
  · by_cases e : t = (u.x, u.y)
    · rw [e, at1, more_at, more_at, if_pos sm]
      show some (h2.fin, h2.has) = _
      rw [hfin, hhas]
    · rw [more_ne _ _ e, more_ne _ _ e, fm t ht]
      unfold upd
      rw [if_neg e]
      exact h.inn t (tc_le_trans _ _ _ fl ht)
  · by_cases e : t = (u.x, u.y)
    · rw [e]
      exact proper_pos _ _ hp
    · rw [more_ne _ _ e, more_ne _ _ e] at ht
      exact h.pos t ht
  · intro z
    rw [at1, h.inn _ hF] at z
    have z : some (h2.fin, h2.has) = (if (eF (u.x, u.y) || eH (u.x, u.y)) = true then some (eF (u.x, u.y), eH (u.x, u.y)) else none) := z
    rw [hfin, hhas] at z
    rw [el] at hx
    revert hx z
    cases u.brings <;> cases eH (u.x, u.y) <;> cases u.final <;> cases eF (u.x, u.y) <;> simp
end Go.Proofs.YtojepeefphbekabGreat

namespace Go.Proofs.YtojepeefphbekabGreat

/-- A move. -/
structure Mv where
  key : Int
  fin : Bool
  both : Bool
  c : Int
  k : Int
def Mv.zero : Mv := ⟨0, false, false, 0, 0⟩
/-- A slice of moves reads as this list. -/
structure MReads (w : World) (a : Option Addr) (len cap : Nat) (l : List Mv) : Prop where
  length : l.length = len
  room : len ≤ cap
  small : cap ≤ maxLen
  cells : 0 < len → ∃ b off, a = some ⟨b, off, none⟩ ∧ ∀ i, i < len → w.cell? ⟨b, off + i * 5 + 0, none⟩ = some (.int .i64 (l.getD i Mv.zero).key) ∧ w.cell? ⟨b, off + i * 5 + 1, none⟩ = some (.bool (l.getD i Mv.zero).fin) ∧ w.cell? ⟨b, off + i * 5 + 2, none⟩ = some (.bool (l.getD i Mv.zero).both) ∧ w.cell? ⟨b, off + i * 5 + 3, none⟩ = some (.int .i64 (l.getD i Mv.zero).c) ∧ w.cell? ⟨b, off + i * 5 + 4, none⟩ = some (.int .i64 (l.getD i Mv.zero).k)
theorem MReads.by {S : Nat → Prop} {w w' : World} {a : Option Addr} {len cap : Nat} {l : List Mv} (r : MReads w a len cap l) (K : Kept S w w') (hn : ∀ k, k < w.heap.size → ¬ S k) : MReads w' a len cap l := by
  refine ⟨r.length, r.room, r.small, fun h0 => ?_⟩
  obtain ⟨b, off, e, hc⟩ := r.cells h0
  refine ⟨b, off, e, fun i hi => ?_⟩
  obtain ⟨h0, h1, h2, h3, h4⟩ := hc i hi
  have hb : ¬ S b := hn b (World.block_lt_of_cell? w _ h0)
  exact ⟨K.cell h0 hb, K.cell h1 hb, K.cell h2 hb, K.cell h3 hb, K.cell h4 hb⟩
end Go.Proofs.YtojepeefphbekabGreat
