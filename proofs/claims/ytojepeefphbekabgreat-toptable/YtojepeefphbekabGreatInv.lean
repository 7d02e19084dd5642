import Derived.Test.YtojepeefphbekabGreatFragJ
namespace Go.Proofs.YtojepeefphbekabGreat
open Go.RowKit

/-- What P15.6 says of a key's row. -/
structure Inv (d : Int) (S : List (Int × Int)) (M : Int × Int → Option Hd) : Prop where
  pos : ∀ t h, M t = some h → tc (0, 0) t < 0
  up : Rising S
  fin : ∀ t, t ∈ S ↔ ∃ h, M t = some h ∧ h.fin = true
  card : (S.length : Int) ≤ d + 1
  low : ∀ t h, M t = some h → ¬ tc t (floorT S d) < 0
  some : ∀ t h, M t = some h → h.fin = true ∨ h.has = true
theorem Inv.nil (d : Int) (h : 0 ≤ d) : Inv d [] (fun _ => none) := by
  refine ⟨fun _ _ z => (by cases z), List.Pairwise.nil, fun t => ⟨fun z => (by cases z), fun z => ?_⟩, (by simp; omega), fun _ _ z => (by cases z), fun _ _ z => (by cases z)⟩
  obtain ⟨_, z, _⟩ := z
  cases z
theorem tc_le_trans (x y z : Int × Int) (h1 : ¬ tc y x < 0) (h2 : ¬ tc z y < 0) : ¬ tc z x < 0 := by
  rw [tc_lt] at *
  omega
theorem tc_lt_le (x y z : Int × Int) (h1 : tc x y < 0) (h2 : ¬ tc z y < 0) : tc x z < 0 := by
  rw [tc_lt] at *
  omega
theorem tc_asym (x y : Int × Int) (h : tc x y < 0) : ¬ tc y x < 0 := by
  rw [tc_lt] at *
  omega
theorem tc_total (x y : Int × Int) (h : ¬ tc x y < 0) (hn : x ≠ y) : tc y x < 0 := by
  rcases tc_3 x y with ⟨_, e⟩ | ⟨e, _⟩ | ⟨e, _⟩
  · rw [e] at h; exact absurd (by decide) h
  · exact absurd e hn
  · rw [tc_lt]
    rcases e with e | ⟨e1, e2⟩
    · exact .inl e
    · exact .inr ⟨e1.symm, e2⟩
/-- The floor is the initial tag, or one of the set. -/
theorem floor_mem (S : List (Int × Int)) (d : Int) (h0 : 0 ≤ d) : ((S.length : Int) ≤ d ∧ floorT S d = (0, 0)) ∨ (d < S.length ∧ ∃ (h : S.length - 1 - d.toNat < S.length), floorT S d = S[S.length - 1 - d.toNat]) := by
  unfold floorT
  by_cases h : d < S.length
  · refine .inr ⟨h, by omega, ?_⟩
    rw [if_pos ⟨h0, h⟩, List.getD_eq_getElem?_getD, List.getElem?_eq_getElem (by omega)]
    rfl
  · exact .inl ⟨by omega, if_neg (by omega)⟩
/-- The highest is at or above all. -/
theorem top_all (S : List (Int × Int)) (up : Rising S) (t : Int × Int) (ht : t ∈ S) : ¬ tc (floorT S 0) t < 0 := by
  obtain ⟨i, hi, rfl⟩ := List.getElem_of_mem ht
  rcases floor_mem S 0 (by omega) with ⟨h, _⟩ | ⟨h, h2, e⟩
  · omega
  · rw [e]
    by_cases q : i = S.length - 1 - (0 : Int).toNat
    · have : S[S.length - 1 - (0 : Int).toNat] = S[i] := by congr 1; omega
      rw [this, tc_self]
      decide
    · have hq : i < S.length - 1 - (0 : Int).toNat := by
        have : (0 : Int).toNat = 0 := rfl
        omega
      exact tc_asym _ _ (rising_get S up i _ hi h2 hq)
theorem top_in (S : List (Int × Int)) (h : S ≠ []) : floorT S 0 ∈ S := by
  rcases floor_mem S 0 (by omega) with ⟨q, _⟩ | ⟨_, h2, e⟩
  · have : S.length = 0 := by omega
    exact absurd (List.length_eq_zero_iff.1 this) h
  · rw [e]; exact List.getElem_mem _
theorem drop_mem (S : List (Int × Int)) (up : Rising S) (f t : Int × Int) : t ∈ S.drop (ahead S f) ↔ t ∈ S ∧ ¬ tc t f < 0 := by
  constructor
  · intro h
    obtain ⟨i, hi, rfl⟩ := List.getElem_of_mem h
    rw [List.getElem_drop]
    refine ⟨List.getElem_mem _, fun q => ?_⟩
    have := (ahead_split S f up (ahead S f + i) (by simp at hi; omega)).1 q
    omega
  · rintro ⟨h, hn⟩
    obtain ⟨i, hi, rfl⟩ := List.getElem_of_mem h
    have hq : ahead S f ≤ i := by
      rcases Nat.lt_or_ge i (ahead S f) with z | z
      · exact absurd ((ahead_split S f up i hi).2 z) hn
      · exact z
    rw [List.mem_iff_getElem]
    exact ⟨i - ahead S f, by simp; omega, by rw [List.getElem_drop]; congr 1; omega⟩
/-- One tag more, its floor, and what is left. -/
theorem cut_floor (S : List (Int × Int)) (up : Rising S) (d : Int) (h0 : 0 ≤ d) (hd : d < S.length) : (S.drop (ahead S (floorT S d))).length = d + 1 ∧ floorT (S.drop (ahead S (floorT S d))) d = floorT S d := by
  rcases floor_mem S d h0 with ⟨h, _⟩ | ⟨_, h2, e⟩
  · omega
  · have ea : ahead S (floorT S d) = S.length - 1 - d.toNat := by rw [e]; exact ahead_at S up _ h2
    have el : (S.drop (ahead S (floorT S d))).length = d + 1 := by rw [ea, List.length_drop]; omega
    refine ⟨el, ?_⟩
    rcases floor_mem (S.drop (ahead S (floorT S d))) d h0 with ⟨h, _⟩ | ⟨_, h3, e3⟩
    · omega
    · rw [e3, List.getElem_drop]
      refine Eq.trans ?_ e.symm
      congr 1
      rw [ea, List.length_drop]
      omega
theorem zero_of (x y : Int) (h : isZero x y = true) : (x, y) = ((0, 0) : Int × Int) := by
  unfold isZero at h
  simp at h
  rw [h.1, h.2]
/-- What an update leaves of the invariant. -/
theorem Inv.step {d : Int} {S S' : List (Int × Int)} {M M' : Int × Int → Option Hd} (h : Inv d S M) (h0 : 0 ≤ d) (x y : Int) (hp : tc (0, 0) (x, y) < 0) (F : Bool × Bool) (h2 : Hd)
    (hF : ¬ tc (x, y) (floorT S d) < 0) (hx : F.1 = true ∨ F.2 = true)
    (e1 : h2.fin = (((M (x, y)).getD Hd.zero).fin || F.2)) (e2 : F.1 = false → h2.has = ((M (x, y)).getD Hd.zero).has) (e3 : F.1 = true → h2.has = true)
    (n2 : F.2 = false → S' = S ∧ M' = upd M (x, y) h2)
    (y2 : F.2 = true → ∃ b e S1 fx fy, AddS S x y b e S1 ∧ isProper x y = true ∧ floorT S1 d = (fx, fy) ∧ ((isZero fx fy = true ∧ S' = S1 ∧ M' = upd M (x, y) h2) ∨ (isZero fx fy = false ∧ S' = S1.drop (ahead S1 (fx, fy)) ∧ M' = throwM (upd M (x, y) h2) (fx, fy)))) :
    Inv d S' M' ∧ ¬ tc (floorT S' d) (floorT S d) < 0 ∧ ¬ tc (floorT S' 0) (floorT S 0) < 0 := by
  have up1 : ∀ t k, upd M (x, y) h2 t = Option.some k → (t = (x, y) ∧ k = h2) ∨ (t ≠ (x, y) ∧ M t = Option.some k) := by
    intro t k ht
    unfold upd at ht
    by_cases e : t = (x, y)
    · rw [if_pos e] at ht
      exact .inl ⟨e, (Option.some.inj ht).symm⟩
    · rw [if_neg e] at ht
      exact .inr ⟨e, ht⟩
  have at1 : upd M (x, y) h2 (x, y) = Option.some h2 := by unfold upd; rw [if_pos rfl]
  have at2 : ∀ t, t ≠ (x, y) → upd M (x, y) h2 t = M t := fun t ht => by unfold upd; rw [if_neg ht]
  have same : ¬ tc (floorT S d) (floorT S d) < 0 := by rw [tc_self]; decide
  have same0 : ¬ tc (floorT S 0) (floorT S 0) < 0 := by rw [tc_self]; decide
  cases hf : F.2
  · obtain ⟨rfl, rfl⟩ := n2 hf
    have hh : h2.has = true := by
      rcases hx with z | z
      · exact e3 z
      · rw [hf] at z; cases z
    rw [hf, Bool.or_false] at e1
    refine ⟨⟨fun t k ht => ?_, h.up, fun t => ?_, h.card, fun t k ht => ?_, fun t k ht => ?_⟩, same, same0⟩
    · rcases up1 t k ht with ⟨rfl, _⟩ | ⟨_, z⟩
      · exact hp
      · exact h.pos t k z
    · rw [h.fin t]
      by_cases e : t = (x, y)
      · rw [e, at1]
        constructor
        · rintro ⟨k, hk, hk2⟩
          refine ⟨h2, rfl, ?_⟩
          rw [e1, hk]
          exact hk2
        · rintro ⟨k, hk, hk2⟩
          rw [← Option.some.inj hk, e1] at hk2
          cases hm : M (x, y) with
          | none => rw [hm] at hk2; cases hk2
          | some k' => rw [hm] at hk2; exact ⟨k', rfl, hk2⟩
      · rw [at2 t e]
    · rcases up1 t k ht with ⟨rfl, _⟩ | ⟨_, z⟩
      · exact hF
      · exact h.low t k z
    · rcases up1 t k ht with ⟨rfl, rfl⟩ | ⟨_, z⟩
      · exact .inr hh
      · exact h.some t k z
  · obtain ⟨b, e, S1, fx, fy, ad, pr, ff, res⟩ := y2 hf
    rw [hf, Bool.or_true] at e1
    have R1 : Rising S1 ∧ (∀ t, t ∈ S1 ↔ t = (x, y) ∨ t ∈ S) ∧ S.length ≤ S1.length := by
      rcases ad with ⟨z, _⟩ | ⟨_, hm, _, _, rfl⟩ | ⟨_, hm, _, _, rfl⟩
      · rw [pr] at z; cases z
      · exact ⟨h.up, fun t => ⟨.inr, fun z => z.elim (fun q => q ▸ hm) id⟩, Nat.le_refl _⟩
      · refine ⟨put_rising _ _ h.up hm, fun t => ?_, by rw [put_length]; omega⟩
        rw [(put_perm S (x, y)).mem_iff, List.mem_cons]
    obtain ⟨r1, r2, r3⟩ := R1
    have posS : ∀ t, t ∈ S → tc (0, 0) t < 0 := fun t ht => by
      obtain ⟨k, hk, _⟩ := (h.fin t).1 ht
      exact h.pos t k hk
    have lowS : ∀ t, t ∈ S → ¬ tc t (floorT S d) < 0 := fun t ht => by
      obtain ⟨k, hk, _⟩ := (h.fin t).1 ht
      exact h.low t k hk
    have posS1 : ∀ t, t ∈ S1 → tc (0, 0) t < 0 := fun t ht => by
      rcases (r2 t).1 ht with rfl | z
      · exact hp
      · exact posS t z
    have lowS1 : ∀ t, t ∈ S1 → ¬ tc t (floorT S d) < 0 := fun t ht => by
      rcases (r2 t).1 ht with rfl | z
      · exact hF
      · exact lowS t z
    have fin1 : ∀ t, t ∈ S1 ↔ ∃ k, upd M (x, y) h2 t = Option.some k ∧ k.fin = true := by
      intro t
      rw [r2 t]
      by_cases e : t = (x, y)
      · rw [e, at1]
        exact ⟨fun _ => ⟨h2, rfl, e1⟩, fun _ => .inl rfl⟩
      · rw [at2 t e, h.fin t]
        exact ⟨fun z => z.elim (fun q => absurd q e) id, .inr⟩
    have some1 : ∀ t k, upd M (x, y) h2 t = Option.some k → k.fin = true ∨ k.has = true := by
      intro t k ht
      rcases up1 t k ht with ⟨_, rfl⟩ | ⟨_, z⟩
      · exact .inl e1
      · exact h.some t k z
    have pos1 : ∀ t k, upd M (x, y) h2 t = Option.some k → tc (0, 0) t < 0 := by
      intro t k ht
      rcases up1 t k ht with ⟨rfl, _⟩ | ⟨_, z⟩
      · exact hp
      · exact h.pos t k z
    have topUp : ∀ (T : List (Int × Int)), Rising T → (∀ t, t ∈ S → t ∈ T ∨ ∃ f, f ∈ T ∧ tc t f < 0) → T ≠ [] → (∀ t, t ∈ T → tc (0, 0) t < 0) → ¬ tc (floorT T 0) (floorT S 0) < 0 := by
      intro T uT hT hne pT
      by_cases hs : S = []
      · rw [hs]
        exact tc_asym _ _ (pT _ (top_in T hne))
      · rcases hT _ (top_in S hs) with z | ⟨f, hf, hl⟩
        · exact top_all T uT _ z
        · exact tc_le_trans _ _ _ (tc_asym _ _ hl) (top_all T uT f hf)
    have in1 : (x, y) ∈ S1 := (r2 _).2 (.inl rfl)
    rcases res with ⟨hz, eS, eM⟩ | ⟨hz, eS, eM⟩ <;> rw [eS, eM]
    · have f0 := zero_of fx fy hz
      rw [f0] at ff
      have hl : (S1.length : Int) ≤ d := by
        rcases floor_mem S1 d h0 with ⟨z, _⟩ | ⟨_, z2, z3⟩
        · exact z
        · have := posS1 _ (List.getElem_mem z2)
          rw [← z3, ff, tc_self] at this
          exact absurd this (by decide)
      have fs : floorT S d = (0, 0) := by
        rcases floor_mem S d h0 with ⟨_, z⟩ | ⟨z, _⟩
        · exact z
        · omega
      refine ⟨⟨pos1, r1, fin1, by omega, fun t k ht => ?_, some1⟩, ?_, topUp S1 r1 (fun t ht => .inl ((r2 t).2 (.inr ht))) (fun z => by rw [z] at in1; cases in1) posS1⟩
      · rw [ff]
        exact tc_asym _ _ (pos1 t k ht)
      · rw [ff, fs, tc_self]
        decide
    · have hl : d < S1.length := by
        rcases floor_mem S1 d h0 with ⟨_, z⟩ | ⟨z, _⟩
        · rw [ff] at z
          have z1 : fx = 0 := congrArg Prod.fst z
          have z2 : fy = 0 := congrArg Prod.snd z
          rw [z1, z2] at hz
          cases hz
        · exact z
      have cf := cut_floor S1 r1 d h0 hl
      have fm : (fx, fy) ∈ S1 := by
        rcases floor_mem S1 d h0 with ⟨z, _⟩ | ⟨_, z2, z3⟩
        · omega
        · rw [← ff, z3]; exact List.getElem_mem _
      rw [ff] at cf
      have fd : (fx, fy) ∈ S1.drop (ahead S1 (fx, fy)) := (drop_mem S1 r1 _ _).2 ⟨fm, by rw [tc_self]; decide⟩
      have thr : ∀ t k, throwM (upd M (x, y) h2) (fx, fy) t = Option.some k ↔ ¬ tc t (fx, fy) < 0 ∧ upd M (x, y) h2 t = Option.some k := by
        intro t k
        unfold throwM
        by_cases q : tc t (fx, fy) < 0
        · rw [if_pos q]
          exact ⟨fun z => (by cases z), fun z => absurd q z.1⟩
        · rw [if_neg q]
          exact ⟨fun z => ⟨q, z⟩, fun z => z.2⟩
      refine ⟨⟨fun t k ht => pos1 t k ((thr t k).1 ht).2, drop_rising _ r1 _, fun t => ?_, by rw [cf.1]; omega, fun t k ht => ?_, fun t k ht => some1 t k ((thr t k).1 ht).2⟩, ?_, topUp _ (drop_rising _ r1 _) (fun t ht => ?_) (fun z => by rw [z] at fd; cases fd) (fun t ht => posS1 t (List.mem_of_mem_drop ht))⟩
      · rw [drop_mem S1 r1, fin1 t]
        constructor
        · rintro ⟨⟨k, hk, hk2⟩, hn⟩
          exact ⟨k, (thr t k).2 ⟨hn, hk⟩, hk2⟩
        · rintro ⟨k, hk, hk2⟩
          exact ⟨⟨k, ((thr t k).1 hk).2, hk2⟩, ((thr t k).1 hk).1⟩
      · rw [cf.2]
        exact ((thr t k).1 ht).1
      · rw [cf.2]
        exact lowS1 _ fm
      · by_cases q : tc t (fx, fy) < 0
        · exact .inr ⟨_, fd, q⟩
        · exact .inl ((drop_mem S1 r1 _ _).2 ⟨(r2 t).2 (.inr ht), q⟩)
theorem nodup_le : ∀ (R S : List (Int × Int)), R.Nodup → (∀ t, t ∈ R → t ∈ S) → R.length ≤ S.length
  | [], _, _, _ => Nat.zero_le _
  | a :: R, S, hn, hs => by
    have ha := hs a (by simp)
    have hR := List.nodup_cons.1 hn
    have := nodup_le R (S.erase a) hR.2 (fun t ht => (List.mem_erase_of_ne (fun (e : t = a) => hR.1 (e ▸ ht))).2 (hs t (by simp [ht])))
    rw [List.length_erase_of_mem ha] at this
    have hp := List.length_pos_of_mem ha
    simp
    omega
/-- What an update makes of what is held of a key. -/
structure App (d : Int) (S S' : List (Int × Int)) (M M' : Int × Int → Option Hd) (x y : Int) (n : Nat) (F : Bool × Bool) (h2 : Hd) : Prop where
  fin : h2.fin = (((M (x, y)).getD Hd.zero).fin || F.2)
  old : F.1 = false → h2.has = ((M (x, y)).getD Hd.zero).has ∧ h2.a = ((M (x, y)).getD Hd.zero).a ∧ h2.n = ((M (x, y)).getD Hd.zero).n ∧ h2.c = ((M (x, y)).getD Hd.zero).c
  new : F.1 = true → h2.has = true ∧ h2.n = n
  same : F.2 = false → S' = S ∧ M' = upd M (x, y) h2
  more : F.2 = true → ∃ b e S1 fx fy, AddS S x y b e S1 ∧ floorT S1 d = (fx, fy) ∧ ((isZero fx fy = true ∧ S' = S1 ∧ M' = upd M (x, y) h2) ∨ (isZero fx fy = false ∧ S' = S1.drop (ahead S1 (fx, fy)) ∧ M' = throwM (upd M (x, y) h2) (fx, fy)))
/-- What is held of a tag behind an update was held before, or is the update's own. -/
theorem App.held {d : Int} {S S' : List (Int × Int)} {M M' : Int × Int → Option Hd} {x y : Int} {n : Nat} {F : Bool × Bool} {h2 : Hd} (p : App d S S' M M' x y n F h2) (t : Int × Int) (k : Hd) (hk : M' t = some k) : k = h2 ∨ M t = some k := by
  have h1 : upd M (x, y) h2 t = some k → k = h2 ∨ M t = some k := by
    intro ht
    unfold upd at ht
    by_cases e : t = (x, y)
    · rw [if_pos e] at ht
      exact .inl (Option.some.inj ht).symm
    · rw [if_neg e] at ht
      exact .inr ht
  cases hf : F.2
  · rw [(p.same hf).2] at hk
    exact h1 hk
  · obtain ⟨b, e, S1, fx, fy, _, _, ⟨_, _, eM⟩ | ⟨_, _, eM⟩⟩ := p.more hf
    · rw [eM] at hk
      exact h1 hk
    · rw [eM] at hk
      unfold throwM at hk
      split at hk
      · cases hk
      · exact h1 hk
theorem lack_floor {S : List (Int × Int)} {M : Int × Int → Option Hd} {u : Upd} {d : Int} (h : (lackF S M u d).1 = true ∨ (lackF S M u d).2 = true) : ¬ tc (u.x, u.y) (floorT S d) < 0 := by
  intro z
  unfold lackF at h
  rw [if_pos z] at h
  rcases h with h | h <;> cases h
theorem proper_pos (x y : Int) (h : isProper x y = true) : tc (0, 0) (x, y) < 0 := by
  unfold isProper at h
  simp at h
  rw [tc_lt]
  show (0 : Int) < x ∨ (0 : Int) = x ∧ (0 : Int) < y
  omega
theorem Inv.app {d : Int} {S S' : List (Int × Int)} {M M' : Int × Int → Option Hd} {u : Upd} {h2 : Hd} (h : Inv d S M) (h0 : 0 ≤ d) (hp : isProper u.x u.y = true) (hx : (lackF S M u d).1 = true ∨ (lackF S M u d).2 = true) (p : App d S S' M M' u.x u.y u.n (lackF S M u d) h2) :
    Inv d S' M' ∧ ¬ tc (floorT S' d) (floorT S d) < 0 ∧ ¬ tc (floorT S' 0) (floorT S 0) < 0 :=
  h.step h0 u.x u.y (proper_pos _ _ hp) _ h2 (lack_floor hx) hx p.fin (fun z => (p.old z).1) (fun z => (p.new z).1) p.same (fun z => by
    obtain ⟨b, e, S1, fx, fy, q1, q2, q3⟩ := p.more z
    exact ⟨b, e, S1, fx, fy, q1, hp, q2, q3⟩)
/-- Of a key's entries: how many are finalized. -/
def finN (L : List ((Int × Int) × Bool × Bool × Option Addr × Nat × Nat)) : Nat := (L.filter fun e => e.2.1).length
theorem finN_snoc (L : List ((Int × Int) × Bool × Bool × Option Addr × Nat × Nat)) (e : (Int × Int) × Bool × Bool × Option Addr × Nat × Nat) : finN (L ++ [e]) = finN L + (if e.2.1 = true then 1 else 0) := by
  unfold finN
  rw [List.filter_append, List.length_append]
  cases h : e.2.1 <;> simp [h]
theorem finN_le (L : List ((Int × Int) × Bool × Bool × Option Addr × Nat × Nat)) : finN L ≤ L.length := List.length_filter_le _ _
theorem fins_card {d : Int} {S : List (Int × Int)} {M : Int × Int → Option Hd} {L : List ((Int × Int) × Bool × Bool × Option Addr × Nat × Nat)} (h : Inv d S M) (g : GE M (fun _ => False) L) : (finN L : Int) ≤ d + 1 := by
  have h1 : ((L.filter fun e => e.2.1).map fun e => e.1).length ≤ S.length := by
    refine nodup_le _ _ (g.one.sublist ((List.filter_sublist).map _)) (fun t ht => ?_)
    obtain ⟨e, he, rfl⟩ := List.mem_map.1 ht
    obtain ⟨h1, h2⟩ := List.mem_filter.1 he
    obtain ⟨_, k, hk, hf, _⟩ := g.each e h1
    exact (h.fin _).2 ⟨k, hk, by rw [← hf]; exact h2⟩
  rw [List.length_map] at h1
  have := h.card
  unfold finN
  omega
/-- Entries by rising tags. -/
theorem ents_rise {M : Int × Int → Option Hd} {L : List ((Int × Int) × Bool × Bool × Option Addr × Nat × Nat)} (g : GE M (fun _ => False) L) (p : L.Pairwise fun x y => ¬ tc y.1 x.1 < 0) (i : Nat) (h0 : 0 < i) (h : i < L.length) : tc (L[i - 1]).1 (L[i]).1 < 0 := by
  have h1 := (List.pairwise_iff_getElem.1 p) (i - 1) i (by omega) h (by omega)
  have h2 := (List.pairwise_iff_getElem.1 (show (L.map fun e => e.1).Pairwise (· ≠ ·) from g.one)) (i - 1) i (by simp; omega) (by simp; omega) (by omega)
  simp at h2
  exact tc_total _ _ h1 (fun e => h2 e.symm)
/-- A row of one tag. -/
theorem one_ent {M : Int × Int → Option Hd} {L : List ((Int × Int) × Bool × Bool × Option Addr × Nat × Nat)} {t0 : Int × Int} {k : Hd} (g : GE M (fun _ => False) L) (h1 : M t0 = some k) (h2 : ∀ t, t ≠ t0 → M t = none) : ∃ p c, L = [(t0, k.fin, k.has, p, k.n, c)] := by
  obtain ⟨e, he, h3⟩ := (g.all t0 k h1).resolve_left (fun z => z)
  have ht : ∀ f ∈ L, f.1 = t0 := fun f hf => by
    obtain ⟨_, k', hk, _⟩ := g.each f hf
    by_cases q : f.1 = t0
    · exact q
    · rw [h2 _ q] at hk; cases hk
  cases L with
  | nil => cases he
  | cons a r =>
    cases r with
    | nil =>
      obtain ⟨_, k', hk, e1, e2, e3⟩ := g.each a (by simp)
      have ea := ht a (by simp)
      rw [ea, h1] at hk
      have := Option.some.inj hk
      subst this
      obtain ⟨a1, a2, a3, a4, a5, a6⟩ := a
      dsimp only at ea e1 e2 e3
      exact ⟨a4, a6, by rw [ea, e1, e2, e3]⟩
    | cons b r =>
      have hn := g.one
      rw [List.map_cons, List.map_cons, List.nodup_cons] at hn
      refine absurd ?_ hn.1
      rw [ht a (by simp), ← ht b (by simp)]
      simp
theorem hasN_one (t : Int × Int) (f h : Bool) (p : Option Addr) (n c : Nat) : hasN [(t, f, h, p, n, c)] = if h = true then 1 else 0 := by
  unfold hasN
  cases h <;> simp
/-- The three updates of 'taken'. -/
theorem tk1 {S' : List (Int × Int)} {M' : Int × Int → Option Hd} {n : Nat} {h2 : Hd} (p : App 0 [] S' (fun _ => none) M' 1 1 n (true, false) h2) : S' = [] ∧ M' (1, 1) = some h2 ∧ (∀ t, t ≠ (1, 1) → M' t = none) ∧ h2.has = true ∧ h2.fin = false := by
  obtain ⟨e1, e2⟩ := p.same rfl
  refine ⟨e1, ?_, fun t ht => ?_, (p.new rfl).1, p.fin⟩
  · rw [e2]; unfold upd; rw [if_pos rfl]
  · rw [e2]; unfold upd; rw [if_neg ht]
theorem add_one (x y : Int) (b : Bool) (e : Int) (S1 : List (Int × Int)) (hp : isProper x y = true) (h : AddS [] x y b e S1) : S1 = [(x, y)] := by
  rcases h with ⟨z, _⟩ | ⟨_, z, _⟩ | ⟨_, _, _, _, rfl⟩
  · rw [hp] at z; cases z
  · cases z
  · rfl
theorem tk2 {S' : List (Int × Int)} {M M' : Int × Int → Option Hd} {k : Hd} {n : Nat} {h2 : Hd} (h1 : M (1, 1) = some k) (h3 : ∀ t, t ≠ (1, 1) → M t = none) (hh : k.has = true) (p : App 0 [] S' M M' 1 1 n (false, true) h2) : S' = [(1, 1)] ∧ M' (1, 1) = some h2 ∧ (∀ t, t ≠ (1, 1) → M' t = none) ∧ h2.has = true ∧ h2.fin = true := by
  have o := (p.old rfl).1
  rw [h1] at o
  have f := p.fin
  rw [Bool.or_true] at f
  obtain ⟨b, e, S1, fx, fy, q1, q2, q3⟩ := p.more rfl
  have e1 := add_one 1 1 b e S1 (by decide) q1
  subst e1
  have e2 : floorT [((1 : Int), (1 : Int))] 0 = (1, 1) := by decide
  rw [e2] at q2
  have ex : (1 : Int) = fx := congrArg Prod.fst q2
  have ey : (1 : Int) = fy := congrArg Prod.snd q2
  subst ex
  subst ey
  have at1 : ∀ t, t ≠ (1, 1) → upd M (1, 1) h2 t = none := fun t ht => by unfold upd; rw [if_neg ht]; exact h3 t ht
  have at0 : upd M (1, 1) h2 (1, 1) = some h2 := by unfold upd; rw [if_pos rfl]
  rcases q3 with ⟨z, _⟩ | ⟨_, rfl, rfl⟩
  · cases z
  · refine ⟨by decide, ?_, fun t ht => ?_, o.trans hh, f⟩
    · unfold throwM; rw [if_neg (by decide)]; exact at0
    · unfold throwM; split
      · rfl
      · exact at1 t ht
theorem tk3 {S' : List (Int × Int)} {M M' : Int × Int → Option Hd} {n : Nat} {h2 : Hd} (h3 : ∀ t, t ≠ (1, 1) → M t = none) (p : App 0 [(1, 1)] S' M M' 2 1 n (false, true) h2) : S' = [(2, 1)] ∧ M' (2, 1) = some h2 ∧ (∀ t, t ≠ (2, 1) → M' t = none) ∧ h2.has = false ∧ h2.fin = true ∧ h2.n = 0 := by
  have m2 := h3 (2, 1) (by decide)
  have o := p.old rfl
  rw [m2] at o
  have f := p.fin
  rw [Bool.or_true] at f
  obtain ⟨b, e, S1, fx, fy, q1, q2, q3⟩ := p.more rfl
  have e1 : S1 = [(1, 1), (2, 1)] := by
    rcases q1 with ⟨z, _⟩ | ⟨_, z, _⟩ | ⟨_, _, _, _, rfl⟩
    · exact absurd z (by decide)
    · exact absurd z (by decide)
    · decide
  subst e1
  have e2 : floorT [((1 : Int), (1 : Int)), (2, 1)] 0 = (2, 1) := by decide
  rw [e2] at q2
  have ex : (2 : Int) = fx := congrArg Prod.fst q2
  have ey : (1 : Int) = fy := congrArg Prod.snd q2
  subst ex
  subst ey
  rcases q3 with ⟨z, _⟩ | ⟨_, rfl, rfl⟩
  · cases z
  · refine ⟨by decide, ?_, fun t ht => ?_, o.1, f, o.2.2.1⟩
    · unfold throwM; rw [if_neg (by decide)]; unfold upd; rw [if_pos rfl]
    · unfold throwM
      split
      · rfl
      · rename_i hz
        unfold upd
        rw [if_neg ht]
        by_cases q : t = (1, 1)
        · rw [q] at hz
          exact absurd (by decide) hz
        · exact h3 t q
end Go.Proofs.YtojepeefphbekabGreat
