import Derived.Test.YtojepeefphbekaaGreatUniqJ
import Derived.Test.YtojepeefphbekaaGreatRefFromJ
import Derived.Test.YtojepeefphbekaaGreatAppl
import Derived.Test.YtojepeefphbekaaGreatSameJ
import Derived.Deep.Upon
namespace Go.Proofs.YtojepeefphbekaaGreat
open Go.RowKit 

/-- From the floor on an update changes its own tag alone. -/
theorem App.form {d : Int} {S S' : List (Int × Int)} {M M' : Int × Int → Option Hd} {x y : Int} {n : Nat} {F : Bool × Bool} {h2 : Hd} (p : App d S S' M M' x y n F h2) (h : Inv d S M) (h0 : 0 ≤ d) (hp : isProper x y = true) (hF : ¬ tc (x, y) (floorT S d) < 0) :
    (∀ t, ¬ tc t (floorT S' d) < 0 → M' t = upd M (x, y) h2 t) ∧ (¬ ((M (x, y)).getD Hd.zero).fin = true ∨ F.2 = false → ¬ tc (x, y) (floorT S' d) < 0) := by
  have hpos := proper_pos x y hp
  cases hf : F.2
  · obtain ⟨rfl, rfl⟩ := p.same hf
    exact ⟨fun _ _ => rfl, fun _ => hF⟩
  · obtain ⟨b, e, S1, fx, fy, ad, ff, res⟩ := p.more hf
    have R1 : Rising S1 ∧ (∀ t, t ∈ S1 ↔ t = (x, y) ∨ t ∈ S) ∧ S1.length ≤ S.length + 1 := by
      rcases ad with ⟨z, _⟩ | ⟨_, hm, _, _, rfl⟩ | ⟨_, hm, _, _, rfl⟩
      · rw [hp] at z; cases z
      · exact ⟨h.up, fun t => ⟨.inr, fun z => z.elim (fun q => q ▸ hm) id⟩, by omega⟩
      · refine ⟨put_rising _ _ h.up hm, fun t => ?_, by rw [put_length]; omega⟩
        rw [(put_perm S (x, y)).mem_iff, List.mem_cons]
    obtain ⟨r1, r2, r3⟩ := R1
    have in1 : (x, y) ∈ S1 := (r2 _).2 (.inl rfl)
    rcases res with ⟨hz, eS, eM⟩ | ⟨hz, eS, eM⟩
    · rw [eS, eM]
      refine ⟨fun _ _ => rfl, fun _ => ?_⟩
      rw [ff, zero_of fx fy hz]
      exact tc_asym _ _ hpos
    · have hl : d < S1.length := by
        rcases floor_mem S1 d h0 with ⟨_, z⟩ | ⟨z, _⟩
        · rw [ff] at z
          have z1 : fx = 0 := congrArg Prod.fst z
          have z2 : fy = 0 := congrArg Prod.snd z
          rw [z1, z2] at hz
          cases hz
        · exact z
      have cf := cut_floor S1 r1 d h0 hl
      rw [ff] at cf
      rw [eS, eM, cf.2]
      refine ⟨fun t ht => ?_, fun hfin => ?_⟩
      · unfold throwM
        rw [if_neg ht]
      · have hns : (x, y) ∉ S := by
          intro z
          obtain ⟨k, hk, hk2⟩ := (h.fin _).1 z
          rw [hk] at hfin
          rcases hfin with q | q
          · exact q hk2
          · cases q
        obtain ⟨j, hj, ej⟩ := List.getElem_of_mem in1
        rcases floor_mem S1 d h0 with ⟨z, _⟩ | ⟨_, z2, z3⟩
        · omega
        · rw [← ff, z3]
          have card := h.card
          intro lt
          have jl : j < S1.length - 1 - d.toNat := by
            rcases Nat.lt_or_ge j (S1.length - 1 - d.toNat) with q | q
            · exact q
            · exfalso
              rcases Nat.lt_or_ge (S1.length - 1 - d.toNat) j with q2 | q2
              · have := rising_get S1 r1 _ _ z2 hj q2
                rw [ej] at this
                exact tc_asym _ _ this lt
              · have e3 : j = S1.length - 1 - d.toNat := by omega
                subst e3
                rw [ej, tc_self] at lt
                exact absurd lt (by decide)
          have j0 : j = 0 := by omega
          have sl : (S.length : Int) = d + 1 := by omega
          rcases floor_mem S d h0 with ⟨q, _⟩ | ⟨_, q2, q3⟩
          · omega
          · have fm : floorT S d ∈ S := by rw [q3]; exact List.getElem_mem _
            have fm1 := (r2 _).2 (.inr fm)
            obtain ⟨i, hi, ei⟩ := List.getElem_of_mem fm1
            have i0 : i ≠ 0 := by
              intro z
              subst z
              subst j0
              rw [ei] at ej
              rw [ej] at fm
              exact hns fm
            have := rising_get S1 r1 j i hj hi (by omega)
            rw [ej, ei] at this
            exact hF this
/-- What is held of a key, by what came. -/
structure By (d : Int) (S : List (Int × Int)) (M : Int × Int → Option Hd) (eF eH : Int × Int → Bool) : Prop where
  inn : ∀ t, ¬ tc t (floorT S d) < 0 → (M t).map (fun h => (h.fin, h.has)) = (if (eF t || eH t) = true then some (eF t, eH t) else none)
  pos : ∀ t, (eF t || eH t) = true → tc (0, 0) t < 0
theorem By.nil (d : Int) : By d [] (fun _ => none) (fun _ => false) (fun _ => false) := ⟨fun _ _ => rfl, fun _ h => absurd h (by decide)⟩
/-- One more came. -/
def more (e : Int × Int → Bool) (t0 : Int × Int) (b : Bool) (t : Int × Int) : Bool := e t || (decide (t = t0) && b)
theorem more_at (e : Int × Int → Bool) (t0 : Int × Int) (b : Bool) : more e t0 b t0 = (e t0 || b) := by unfold more; simp
theorem more_ne (e : Int × Int → Bool) {t0 t : Int × Int} (b : Bool) (h : t ≠ t0) : more e t0 b t = e t := by unfold more; simp [h]
theorem By.at {d : Int} {S : List (Int × Int)} {M : Int × Int → Option Hd} {eF eH : Int × Int → Bool} (h : By d S M eF eH) {t : Int × Int} (ht : ¬ tc t (floorT S d) < 0) : ((M t).getD Hd.zero).fin = eF t ∧ ((M t).getD Hd.zero).has = eH t := by
  have := h.inn t ht
  cases hm : M t with
  | none =>
    rw [hm] at this
    split at this
    · cases this
    · rename_i q
      simp at q
      exact ⟨q.1.symm, q.2.symm⟩
  | some k =>
    rw [hm] at this
    split at this
    · have q := Option.some.inj this
      exact ⟨congrArg Prod.fst q, congrArg Prod.snd q⟩
    · cases this
theorem By.no {d : Int} {S : List (Int × Int)} {M : Int × Int → Option Hd} {eF eH : Int × Int → Bool} {u : Upd} (h : By d S M eF eH) (hp : isProper u.x u.y = true) (hl : lackF S M u d = (false, false)) : By d S M (more eF (u.x, u.y) u.final) (more eH (u.x, u.y) u.brings) := by
  refine ⟨fun t ht => ?_, fun t ht => ?_⟩
  · by_cases e : t = (u.x, u.y)
    · rw [e] at ht ⊢
      unfold lackF at hl
      rw [if_neg ht] at hl
      obtain ⟨q1, q2⟩ := h.at ht
      rw [q1, q2] at hl
      have l1 : (u.brings && !eH (u.x, u.y)) = false := congrArg Prod.fst hl
      have l2 : (u.final && !eF (u.x, u.y)) = false := congrArg Prod.snd hl
      have m1 : more eF (u.x, u.y) u.final (u.x, u.y) = eF (u.x, u.y) := by
        rw [more_at]
        revert l2
        cases u.final <;> cases eF (u.x, u.y) <;> simp
      have m2 : more eH (u.x, u.y) u.brings (u.x, u.y) = eH (u.x, u.y) := by
        rw [more_at]
        revert l1
        cases u.brings <;> cases eH (u.x, u.y) <;> simp
      rw [m1, m2]
      exact h.inn _ ht
    · rw [more_ne _ _ e, more_ne _ _ e]
      exact h.inn t ht
  · by_cases e : t = (u.x, u.y)
    · rw [e]
      exact proper_pos _ _ hp
    · rw [more_ne _ _ e, more_ne _ _ e] at ht
      exact h.pos t ht
theorem By.app {d : Int} {S S' : List (Int × Int)} {M M' : Int × Int → Option Hd} {eF eH : Int × Int → Bool} {u : Upd} {h2 : Hd} (h : By d S M eF eH) (i : Inv d S M) (h0 : 0 ≤ d) (hp : isProper u.x u.y = true) (hx : (lackF S M u d).1 = true ∨ (lackF S M u d).2 = true) (p : App d S S' M M' u.x u.y u.n (lackF S M u d) h2) :
    By d S' M' (more eF (u.x, u.y) u.final) (more eH (u.x, u.y) u.brings) ∧ (M' (u.x, u.y)).map (fun h => (h.fin, h.has)) ≠ (M (u.x, u.y)).map (fun h => (h.fin, h.has)) := by
  have hF := lack_floor hx
  obtain ⟨fm, st⟩ := p.form i h0 hp hF
  obtain ⟨_, fl, _⟩ := i.app h0 hp hx p
  obtain ⟨q1, q2⟩ := h.at hF
  have el : lackF S M u d = (u.brings && !eH (u.x, u.y), u.final && !eF (u.x, u.y)) := by
    unfold lackF
    rw [if_neg hF, q1, q2]
  have hfin : h2.fin = (eF (u.x, u.y) || u.final) := by
    rw [p.fin, q1, el]
    cases u.final <;> cases eF (u.x, u.y) <;> rfl
  have hhas : h2.has = (eH (u.x, u.y) || u.brings) := by
    cases hl : (lackF S M u d).1
    · rw [(p.old hl).1, q2]
      rw [el] at hl
      revert hl
      cases u.brings <;> cases eH (u.x, u.y) <;> simp
    · rw [(p.new hl).1]
      rw [el] at hl
      revert hl
      cases u.brings <;> cases eH (u.x, u.y) <;> simp
  have sm : ((eF (u.x, u.y) || u.final) || (eH (u.x, u.y) || u.brings)) = true := by
    rw [el] at hx
    revert hx
    cases u.brings <;> cases eH (u.x, u.y) <;> cases u.final <;> cases eF (u.x, u.y) <;> simp
  have sty : ¬ tc (u.x, u.y) (floorT S' d) < 0 := by
    apply st
    rw [q1, el]
    cases u.final <;> cases eF (u.x, u.y) <;> simp
  have at1 : M' (u.x, u.y) = some h2 := by
    rw [fm _ sty]
    unfold upd
    rw [if_pos rfl]
  refine ⟨⟨fun t ht => ?_, fun t ht => ?_⟩, ?_⟩
  · by_cases e : t = (u.x, u.y)
    · rw [e, at1, more_at, more_at, if_pos sm]
      show some (h2.fin, h2.has) = _
      rw [hfin, hhas]
    · rw [more_ne _ _ e, more_ne _ _ e, fm t ht]
      unfold upd
      rw [if_neg e]
      exact h.inn t (tc_le_trans _ _ _ fl ht)
  · by_cases e : t = (u.x, u.y)
    · rw [e]
      exact proper_pos _ _ hp
    · rw [more_ne _ _ e, more_ne _ _ e] at ht
      exact h.pos t ht
  · intro z
    rw [at1, h.inn _ hF] at z
    have z : some (h2.fin, h2.has) = (if (eF (u.x, u.y) || eH (u.x, u.y)) = true then some (eF (u.x, u.y), eH (u.x, u.y)) else none) := z
    rw [hfin, hhas] at z
    rw [el] at hx
    revert hx z
    cases u.brings <;> cases eH (u.x, u.y) <;> cases u.final <;> cases eF (u.x, u.y) <;> simp
end Go.Proofs.YtojepeefphbekaaGreat

namespace Go.Proofs.YtojepeefphbekaaGreat

/-- A move. -/
structure Mv where
  key : Int
  fin : Bool
  both : Bool
  c : Int
  k : Int
def Mv.zero : Mv := ⟨0, false, false, 0, 0⟩
/-- A slice of moves reads as this list. -/
structure MReads (w : World) (a : Option Addr) (len cap : Nat) (l : List Mv) : Prop where
  length : l.length = len
  room : len ≤ cap
  small : cap ≤ maxLen
  cells : 0 < len → ∃ b off, a = some ⟨b, off, none⟩ ∧ ∀ i, i < len → w.cell? ⟨b, off + i * 5 + 0, none⟩ = some (.int .i64 (l.getD i Mv.zero).key) ∧ w.cell? ⟨b, off + i * 5 + 1, none⟩ = some (.bool (l.getD i Mv.zero).fin) ∧ w.cell? ⟨b, off + i * 5 + 2, none⟩ = some (.bool (l.getD i Mv.zero).both) ∧ w.cell? ⟨b, off + i * 5 + 3, none⟩ = some (.int .i64 (l.getD i Mv.zero).c) ∧ w.cell? ⟨b, off + i * 5 + 4, none⟩ = some (.int .i64 (l.getD i Mv.zero).k)
theorem MReads.by {S : Nat → Prop} {w w' : World} {a : Option Addr} {len cap : Nat} {l : List Mv} (r : MReads w a len cap l) (K : Kept S w w') (hn : ∀ k, k < w.heap.size → ¬ S k) : MReads w' a len cap l := by
  refine ⟨r.length, r.room, r.small, fun h0 => ?_⟩
  obtain ⟨b, off, e, hc⟩ := r.cells h0
  refine ⟨b, off, e, fun i hi => ?_⟩
  obtain ⟨h0, h1, h2, h3, h4⟩ := hc i hi
  have hb : ¬ S b := hn b (World.block_lt_of_cell? w _ h0)
  exact ⟨K.cell h0 hb, K.cell h1 hb, K.cell h2 hb, K.cell h3 hb, K.cell h4 hb⟩
end Go.Proofs.YtojepeefphbekaaGreat

namespace Go.Proofs.YtojepeefphbekaaGreat
open Go.RowKit

/-- A text's bytes. -/
def sb (s : ByteArray) : List Nat := s.data.toList.map (fun b => b.toNat)
theorem sb_length (s : ByteArray) : (sb s).length = s.size := by
  unfold sb
  rw [List.length_map]
  exact Array.length_toList
theorem sb_bytes (s : ByteArray) : ∀ c ∈ sb s, c < 256 := fun c hc => by
  obtain ⟨b, _, rfl⟩ := List.mem_map.1 hc
  exact b.toNat_lt
theorem frozen_mark {w : World} {b k : Nat} {C : Array Value} {e : TypeId} {fr : Nat × Nat} (hb : w.heap[b]? = some (.cells C e fr)) (hk : k < fr.1) : w.frozen? ⟨b, k, none⟩ = false := by
  simp [World.frozen?, hb]
  omega
theorem tape_setCells (b : Nat) : ∀ (vs : List Value) (o : Nat) (w : World), (w.setCells b o vs).tape = w.tape
  | [], _, _ => rfl
  | v :: r, o, w => (tape_setCells b r (o + 1) (w.setCell ⟨b, o, none⟩ v)).trans rfl
/-- append onto a row of bytes that lies whole, whatever mark is behind it. -/
theorem append_lie (w : World) (b n cap : Nat) (l : List Nat) (C : Array Value) (fr : Nat × Nat) (x : Value) (m : Nat) (news : List Nat) (ty : TypeId) (hb : w.heap[b]? = some (.cells C 5 fr)) (hC : C.size = cap) (hfr : cap ≤ fr.1) (rd : Reads w (some ⟨b, 0, none⟩) n cap l) (hn : ∀ c ∈ news, c < 256) (hs : Src Tryz.prog 1 38 x m (cellsOf news) w) (hsm : n + m ≤ 1000000) : ∃ p c w', (Builtin.append_ #[38, 38] ty #[.slice (some ⟨b, 0, none⟩) n cap, x]).run Tryz.prog w = .ok (.slice p (n + m) c) w' ∧ Reads w' p (n + m) c (l ++ news) ∧ Kept (fun k => k = b) w w' := by
  obtain ⟨i, hi, hz, hsize, hby⟩ := info_parts Tryz.info5
  have ll := rd.length
  have ln : news.length = m := by have := hs.newsLen; rw [cellsOf_length] at this; omega
  have hL : (cellsOf l).length = n := by rw [cellsOf_length]; exact ll
  have rb : ∀ c ∈ l ++ news, c < 256 := fun c hc => (List.mem_append.1 hc).elim (rd.bytes c) (hn c)
  have oldc : ∀ j, j < n → w.cell? ⟨b, j, none⟩ = some (.int .u8 ((l.getD j 0 : Nat) : Int)) := fun j hj => by
    obtain ⟨b', off, e, hc⟩ := rd.cells (by omega)
    simp at e
    obtain ⟨rfl, rfl⟩ := e
    have := hc j hj
    rw [Nat.zero_add] at this
    exact this
  by_cases hroom : n + m ≤ cap
  · have hs' : Src Tryz.prog i.size 38 x m (cellsOf news) w := by rw [hsize]; exact hs
    have hc1 : ∀ j, j < (cellsOf news).length → (w.cell? ⟨b, 0 + n * i.size + j, none⟩).isSome = true := fun j hj => by
      rw [hsize, cell_of_row w b _ C 5 fr hb]
      rw [cellsOf_length] at hj
      have : n + j < C.size := by omega
      simp [this]
    have hf1 : ∀ j, j < (cellsOf news).length → w.frozen? ⟨b, 0 + n * i.size + j, none⟩ = false := fun j hj => by
      rw [hsize]
      rw [cellsOf_length] at hj
      exact frozen_mark hb (by omega)
    have hr := run_append_room_src (P := Tryz.prog) w 38 38 ty 5 i Tryz.underlying38 hi b 0 n cap x m (cellsOf news) hs' hroom hc1 hf1
    rw [hsize] at hr hc1
    simp only [Nat.zero_add, Nat.mul_one] at hr hc1
    refine ⟨_, _, _, hr, ⟨by rw [List.length_append]; omega, hroom, rd.small, rb, fun _ => ⟨b, 0, rfl, fun k hk => ?_⟩⟩, ⟨World.os_setCells _ _ _ _, ?_, World.output_setCells _ _ _ _, by simp, fun k hk hne => World.heap_setCells_other _ _ _ _ hk hne⟩⟩
    · show (w.setCells b n (cellsOf news)).cell? ⟨b, 0 + k, none⟩ = _
      rw [Nat.zero_add k]
      by_cases hkn : k < n
      · rw [World.cell?_setCells_out b _ _ _ _ (fun _ _ => .inl (show k < n by omega)), oldc k hkn, List.getD_eq_getElem?_getD, List.getD_eq_getElem?_getD, List.getElem?_append_left (by omega)]
      · have := World.cell?_setCells_in b (cellsOf news) n w hc1 (k - n) (by rw [cellsOf_length]; omega)
        rw [show n + (k - n) = k by omega] at this
        rw [this, List.getD_eq_getElem?_getD, List.getElem?_append_right (by omega), ll, ← List.getD_eq_getElem?_getD]
        have e := cellsOf_get news (k - n) (by omega)
        rw [List.getElem?_eq_getElem (by rw [cellsOf_length]; omega)] at e
        exact e
    · exact tape_setCells b _ _ w
  · have holds : ∀ j u, (cellsOf l)[j]? = some u → w.drew.cell? ((⟨b, 0, none⟩ : Addr).add j) = some u := fun j u hj => by
      have hjl : j < n := by have := (List.getElem?_eq_some_iff.1 hj).1; omega
      rw [Addr.add_none, Nat.zero_add]
      have e := cellsOf_get l j (by omega)
      rw [hj] at e
      rw [e]
      exact oldc j hjl
    have hs' : Src Tryz.prog i.size 38 x m (cellsOf news) w := by rw [hsize]; exact hs
    have hr := run_append_grow_src (P := Tryz.prog) w 38 38 ty 5 i _ Tryz.underlying38 hi hz (some ⟨b, 0, none⟩) n cap (cellsOf l) (run_firstCells_some w.drew i.size n ⟨b, 0, none⟩ n cap (cellsOf l) (by rw [hsize]; simpa using hL) holds) x m (cellsOf news) hs' (by omega) (by omega) (growslice_fits_wide (by omega) (by rw [hby]; omega))
    refine ⟨_, _, _, hr, ⟨by rw [List.length_append]; omega, grownCap_ge w _ _ _, grownCap_le_maxLen w _ _ _ (by unfold maxLen; omega), rb, fun _ => ⟨w.heap.size, 0, rfl, fun k hk => ?_⟩⟩, ((Kept.refl _ w).drew).alloc _⟩
    rw [cell_of_row _ w.heap.size (0 + k) _ 5 _ (heap_alloc_new w.drew _), Nat.zero_add]
    have e := cellsOf_get (l ++ news) k (by rw [List.length_append]; omega)
    rw [cellsOf_append] at e
    have hk2 : k < (cellsOf l ++ cellsOf news).toArray.size := by simp [cellsOf_length]; omega
    rw [Array.getElem?_append_left hk2, List.getElem?_toArray]
    exact e
theorem bytesRow_size (s : ByteArray) (cap : Nat) (h : s.size ≤ cap) : (bytesRow s cap).size = cap := by
  unfold bytesRow
  rw [Array.size_append, Array.size_map, Array.size_replicate]
  show s.size + _ = _
  omega
/-- '[]byte(s)'. -/
theorem convert_bytes (s : ByteArray) (w : World) (hs : s.size ≤ 140737488355328) : ∃ c w', (convert 9 38 (.string s)).run Tryz.prog w = .ok (.slice (some ⟨w.heap.size, 0, none⟩) s.size c) w' ∧ Reads w' (some ⟨w.heap.size, 0, none⟩) s.size c (sb s) ∧ Kept (fun _ => False) w w' ∧ ∃ C fr, w'.heap[w.heap.size]? = some (.cells C 5 fr) ∧ C.size = c ∧ c ≤ fr.1 := by
  have hge := grownCap_ge w s.size 0 5
  refine ⟨_, _, run_bytes_of_string (P := Tryz.prog) w 9 38 5 s Tryz.underlying9 Tryz.underlying38 Tryz.underlying5, ⟨sb_length s, hge, grownCap_le_maxLen w _ _ _ (by unfold maxLen; omega), sb_bytes s, fun _ => ⟨w.heap.size, 0, rfl, fun i hi => ?_⟩⟩, ((Kept.refl _ w).drew).alloc _, _, _, heap_alloc_new w.drew _, bytesRow_size s _ hge, Nat.le_of_eq (bytesRow_size s _ hge).symm⟩
  rw [cell_of_row _ w.heap.size (0 + i) _ 5 _ (heap_alloc_new w.drew _), Nat.zero_add]
  have hi3 : i < (s.data.map (fun b => Value.int .u8 b.toNat)).size := by simpa using hi
  unfold bytesRow
  rw [Array.getElem?_append_left hi3]
  have hi4 : i < s.data.size := hi
  simp [sb, List.getD_eq_getElem?_getD]
  rw [Array.getElem?_eq_getElem hi4]
  exact ⟨_, rfl, rfl⟩
/-- append, where its run is known. -/
theorem wpList_append_run {ops : Array Oper} {rest : List Oper} {o : Oper} {a : Act} {Q : Exit → Act → World → Prop} (w : World) (hgd : o.guard = none) (s x : Operand) (t tx : TypeId)
    (ho : o.op = .call { callee := .builtin .append, args := #[s, x], argTypes := #[t, tx] }) (vs vx v' : Value) (w' : World) (hs : a.eval s = vs) (hx : a.eval x = vx)
    (hr : (Builtin.append_ #[t, tx] o.type #[vs, vx]).run Tryz.prog w = .ok v' w') (h : wpList Tryz.prog ops Q rest (a.put o.dst v') w') : wpList Tryz.prog ops Q (o :: rest) a w := by
  refine wpList_plain hgd fun K hK => ?_
  unfold Oper.wp execOp
  simp only [ho, resolve, invoke, builtin, Sem.run_bind, Sem.run_pure, Result.andThen_ok, List.map_toArray, List.map_cons, List.map_nil, hs, hx, hr]
  exact hK _ _ h
set_option maxRecDepth 100000 in
/-- dataOf. -/
theorem dataOf (key : ByteArray) (x y : Nat) (w : World) (hk : key.size ≤ 64) (hx : x < 256) (hy : y < 256) : Calls Tryz.prog 40 #[.string key, .agg #[.int .i64 (x : Int), .int .i64 (y : Int)]] w fun o w' => ∃ p c, o = .returned (.slice p (key.size + 3) c) ∧ Reads w' p (key.size + 3) c (sb key ++ [x, y, 0]) ∧ Kept (fun _ => False) w w' := by
  obtain ⟨W, hW⟩ : ∃ W, W = w.alloc (.cells #[.int .i64 (x : Int), .int .i64 (y : Int)] 37) := ⟨_, rfl⟩
  have KZ : Kept (fun _ => False) w W := by rw [hW]; exact k0_alloc _ _
  have bW : W.heap[w.heap.size]? = some (.cells #[.int .i64 (x : Int), .int .i64 (y : Int)] 37 (0, 0)) := by rw [hW]; exact heap_alloc_new _ _
  obtain ⟨c, W1, hr, rd, K1, C, fr, hC, hc, hfr⟩ := convert_bytes key W (by omega)
  have b1 := K1.get bW (fun z => z)
  have c0 := cell_blk b1 0 (v := .int .i64 (x : Int)) rfl
  have c1 := cell_blk b1 1 (v := .int .i64 (y : Int)) rfl
  have EW : Hid (W = w.alloc (.cells #[.int .i64 (x : Int), .int .i64 (y : Int)] 37)) := hW
  have wx : IntKind.u8.wrap (x : Int) = (x : Int) := by rw [IntKind.wrap_u8]; omega
  have wy : IntKind.u8.wrap (y : Int) = (y : Int) := by rw [IntKind.wrap_u8]; omega
  obtain ⟨W2, hW2⟩ : ∃ W2, W2 = W1.alloc (.cells #[.int .u8 (x : Int), .int .u8 (y : Int), .int .u8 0] 5) := ⟨_, rfl⟩
  have K2 : Kept (fun _ => False) W1 W2 := by rw [hW2]; exact k0_alloc _ _
  have sr : Src Tryz.prog 1 38 (.slice (some ⟨W1.heap.size, 0, none⟩) 3 3) 3 (cellsOf [x, y, 0]) W2 := by
    have hn : W2.heap[W1.heap.size]? = some (.cells #[.int .u8 (x : Int), .int .u8 (y : Int), .int .u8 0] 5 (0, 0)) := by rw [hW2]; exact heap_alloc_new _ _
    exact Src.ofSlice W2 Tryz.underlying38 ⟨W1.heap.size, 0, none⟩ 3 3 (cellsOf [x, y, 0]) rfl (fun j u hj => by
      rw [Addr.add_none, Nat.zero_add, cell_of_row W2 W1.heap.size j _ 5 (0, 0) hn]
      rw [← hj, ← List.getElem?_toArray]
      rfl) (cellsOf_one _)
  obtain ⟨p3, c3, W3, hr3, rd3, K3⟩ := append_lie W2 W.heap.size key.size c (sb key) C fr (.slice (some ⟨W1.heap.size, 0, none⟩) 3 3) 3 [x, y, 0] 38 (K2.get hC (fun z => z)) hc hfr (rd.kept K2 (fun _ _ z => z)) (fun c hc => by simp at hc; omega) sr (by omega)
  rw [hW2] at hr3
  have RD : Hid (Reads W3 p3 (key.size + 3) c3 (sb key ++ [x, y, 0]) ∧ Kept (fun _ => False) w W3) := by
    refine ⟨rd3, (((KZ.and0 K1).and0 K2)).trans K3 (fun j hj z => ?_)⟩
    have z : j = W.heap.size := z
    have := KZ.size
    omega
  clear hW bW b1 rd3 K3 sr K2 hW2 rd K1 hC hc hfr KZ
  go_enter Tryz.func40, Tryz.ntmps40
  go_upto_region 1 with fail
  rw [← EW.out]
  go_wp2_with (first | (at_builtin; refine wpList_append_run _ rfl (.tmp 6) (.tmp 13) 38 38 rfl _ _ _ _ rfl rfl hr3 ?_) | fail)
  go_ret
  exact ⟨p3, c3, rfl, RD.out.1, RD.out.2⟩
end Go.Proofs.YtojepeefphbekaaGreat
