import Derived.Test.YtojepeefphbekaaGreatExp1
namespace Go.Proofs.YtojepeefphbekaaGreat
open Go.RowKit 

theorem tagN_lt {m n : Nat} (h : m < n) : tc (tagN m) (tagN n) < 0 := by
  rw [tc_lt]
  unfold tagN
  show ((m / 5 + 1 : Nat) : Int) < ((n / 5 + 1 : Nat) : Int) ∨ ((m / 5 + 1 : Nat) : Int) = ((n / 5 + 1 : Nat) : Int) ∧ ((m % 5 + 1 : Nat) : Int) < ((n % 5 + 1 : Nat) : Int)
  omega
theorem tagN_inj {m n : Nat} (h : tagN m = tagN n) : m = n := by
  rcases Nat.lt_trichotomy m n with z | z | z
  · have := tagN_lt z
    rw [h, tc_self] at this
    exact absurd this (by decide)
  · exact z
  · have := tagN_lt z
    rw [h, tc_self] at this
    exact absurd this (by decide)
/-- Every tag of a move is one of the sixty. -/
theorem tag_in (c k : Int) : ∃ n, n < 60 ∧ tag60 c k = tagN n := by
  have a0 := Int.emod_nonneg c (show (12 : Int) ≠ 0 by omega)
  have a1 := Int.emod_lt_of_pos c (show (0 : Int) < 12 by omega)
  have b0 := Int.emod_nonneg k (show (5 : Int) ≠ 0 by omega)
  have b1 := Int.emod_lt_of_pos k (show (0 : Int) < 5 by omega)
  refine ⟨(c % 12).toNat * 5 + (k % 5).toNat, by omega, ?_⟩
  unfold tag60 tagN
  refine Prod.ext ?_ ?_
  · show c % 12 + 1 = _
    omega
  · show k % 5 + 1 = _
    omega
theorem hist_in {l : List Mv} {key : ByteArray} {t : Int × Int} (h : (hF l key t || hH l key t) = true) : ∃ n, n < 60 ∧ t = tagN n := by
  induction l with
  | nil => cases h
  | cons m ms ih =>
    by_cases e : t = m.tag
    · obtain ⟨n, h1, h2⟩ := tag_in m.c m.k
      exact ⟨n, h1, e.trans h2⟩
    · apply ih
      have h1 : hF (m :: ms) key t = hF ms key t := by show ((decide (key3 m.key = key) && decide (t = m.tag) && m.fin) || hF ms key t) = _; simp [e]
      have h2 : hH (m :: ms) key t = hH ms key t := by show ((decide (key3 m.key = key) && decide (t = m.tag) && m.brings) || hH ms key t) = _; simp [e]
      rw [h1, h2] at h
      exact h
theorem desc_mem {l : List Mv} {key : ByteArray} {k : Nat} (hk : k ≤ 60) (v : Ev) : v ∈ desc l key k ↔ ∃ n, 60 - k ≤ n ∧ n < 60 ∧ (hF l key (tagN n) || hH l key (tagN n)) = true ∧ v = evN l key n := by
  induction k with
  | zero =>
    constructor
    · intro h; cases h
    · rintro ⟨n, h1, h2, _⟩; omega
  | succ k ih =>
    unfold desc
    rw [List.mem_append, ih (by omega)]
    constructor
    · rintro (⟨n, h1, h2, h3⟩ | h)
      · exact ⟨n, by omega, h2, h3⟩
      · split at h
        · rename_i q
          rw [List.mem_singleton] at h
          exact ⟨59 - k, by omega, by omega, q, h⟩
        · cases h
    · rintro ⟨n, h1, h2, h3, h4⟩
      by_cases e : n = 59 - k
      · subst e
        right
        rw [if_pos h3, h4]
        exact List.mem_singleton_self _
      · exact .inl ⟨n, by omega, h2, h3, h4⟩
theorem desc_down {l : List Mv} {key : ByteArray} {k : Nat} (hk : k ≤ 60) : (desc l key k).Pairwise fun x y => tc y.1 x.1 < 0 := by
  induction k with
  | zero => exact List.Pairwise.nil
  | succ k ih =>
    unfold desc
    rw [List.pairwise_append]
    refine ⟨ih (by omega), ?_, fun a ha b hb => ?_⟩
    · split
      · exact List.pairwise_singleton _ _
      · exact List.Pairwise.nil
    · split at hb
      · rw [List.mem_singleton] at hb
        subst hb
        obtain ⟨n, h1, h2, _, rfl⟩ := (desc_mem (by omega) a).1 ha
        exact tagN_lt (by omega)
      · cases hb
/-- The finalized ones of the k highest tags. -/
def finL (l : List Mv) (key : ByteArray) : Nat → List (Int × Int)
  | 0 => []
  | k + 1 => finL l key k ++ (if hF l key (tagN (59 - k)) = true then [tagN (59 - k)] else [])
theorem finL_len (l : List Mv) (key : ByteArray) (k : Nat) : (finL l key k).length = fins l key k := by
  induction k with
  | zero => rfl
  | succ k ih =>
    unfold finL fins
    rw [List.length_append, ih]
    split <;> rfl
theorem finL_mem {l : List Mv} {key : ByteArray} {k : Nat} (hk : k ≤ 60) (t : Int × Int) : t ∈ finL l key k ↔ ∃ n, 60 - k ≤ n ∧ n < 60 ∧ hF l key (tagN n) = true ∧ t = tagN n := by
  induction k with
  | zero =>
    constructor
    · intro h; cases h
    · rintro ⟨n, h1, h2, _⟩; omega
  | succ k ih =>
    unfold finL
    rw [List.mem_append, ih (by omega)]
    constructor
    · rintro (⟨n, h1, h2, h3⟩ | h)
      · exact ⟨n, by omega, h2, h3⟩
      · split at h
        · rename_i q
          rw [List.mem_singleton] at h
          exact ⟨59 - k, by omega, by omega, q, h⟩
        · cases h
    · rintro ⟨n, h1, h2, h3, h4⟩
      by_cases e : n = 59 - k
      · subst e
        right
        rw [if_pos h3, h4]
        exact List.mem_singleton_self _
      · exact .inl ⟨n, by omega, h2, h3, h4⟩
theorem finL_nodup {l : List Mv} {key : ByteArray} {k : Nat} (hk : k ≤ 60) : (finL l key k).Nodup := by
  induction k with
  | zero => exact List.Pairwise.nil
  | succ k ih =>
    unfold finL
    rw [List.nodup_append]
    refine ⟨ih (by omega), ?_, fun a ha b hb e => ?_⟩
    · split
      · exact List.pairwise_singleton _ _
      · exact List.Pairwise.nil
    · subst e
      split at hb
      · rw [List.mem_singleton] at hb
        obtain ⟨n, h1, h2, _, h3⟩ := (finL_mem (by omega) a).1 ha
        rw [hb] at h3
        have := tagN_inj h3
        omega
      · cases hb
/-- All that is held lies from there on. -/
theorem floor_stop {w wr : World} {d : Int} {t : TK} {l : List Mv} (h : Dst w wr d t l) (h0 : 0 ≤ d) (key : ByteArray) {k : Nat} (st : Stop l key d k) : k ≤ 60 ∧ ∀ n, n < 60 → (¬ tc (tagN n) (floorT (TS t key) d) < 0 ↔ 60 - k ≤ n) ∧ (∀ n, tc (0, 0) (tagN n) < 0) := by
  have hpos : ∀ n, tc (0, 0) (tagN n) < 0 := by
    intro n
    rw [tc_lt]
    unfold tagN
    show (0 : Int) < _ ∨ (0 : Int) = _ ∧ _
    left
    show (0 : Int) < ((n / 5 + 1 : Nat) : Int)
    omega
  have inv := h.inv key
  have hist := h.hist key
  have nd : (TS t key).Nodup := inv.up.imp (fun {a b} hab e => by rw [e, tc_self] at hab; exact absurd hab (by decide))
  have memS : ∀ g, g ∈ TS t key ↔ ¬ tc g (floorT (TS t key) d) < 0 ∧ hF l key g = true := by
    intro g
    rw [inv.fin g]
    constructor
    · rintro ⟨hd, hm, hf⟩
      have lo := inv.low g hd hm
      refine ⟨lo, ?_⟩
      have := (hist.at lo).1
      rw [hm] at this
      exact this.symm.trans hf
    · rintro ⟨lo, hf⟩
      have := hist.inn g lo
      rw [hf] at this
      cases hm : TMp t key g with
      | none => rw [hm] at this; simp at this
      | some hd =>
        have q := (hist.at lo).1
        rw [hm, hf] at q
        exact ⟨hd, rfl, q⟩
  have fl0 : ((TS t key).length : Int) ≤ d → floorT (TS t key) d = (0, 0) := fun hl => by
    rcases floor_mem (TS t key) d h0 with ⟨_, z⟩ | ⟨z, _⟩
    · exact z
    · omega
  have flS : ¬ ((TS t key).length : Int) ≤ d → ((TS t key).length : Int) = d + 1 ∧ floorT (TS t key) d ∈ TS t key := fun hl => by
    have := inv.card
    refine ⟨by omega, ?_⟩
    rcases floor_mem (TS t key) d h0 with ⟨z, _⟩ | ⟨_, z2, z3⟩
    · omega
    · rw [z3]; exact List.getElem_mem _
  rcases st with ⟨rfl, hs⟩ | ⟨j, rfl, hj, hf, hs⟩
  · refine ⟨Nat.le_refl _, fun n hn => ⟨⟨fun _ => by omega, fun _ => ?_⟩, hpos⟩⟩
    have : ((TS t key).length : Int) ≤ d := by
      have := nodup_le (TS t key) (finL l key 60) nd (fun g hg => by
        obtain ⟨_, hf⟩ := (memS g).1 hg
        obtain ⟨n, h1, h2⟩ := hist_in (l := l) (key := key) (t := g) (by rw [hf]; rfl)
        rw [h2] at hf
        exact (finL_mem (Nat.le_refl _) g).2 ⟨n, by omega, h1, hf, h2⟩)
      rw [finL_len] at this
      omega
    rw [fl0 this]
    exact tc_asym _ _ (hpos n)
  · have key1 : floorT (TS t key) d = tagN (59 - j) := by
      by_cases hl : ((TS t key).length : Int) ≤ d
      · exfalso
        have := nodup_le (finL l key (j + 1)) (TS t key) (finL_nodup (by omega)) (fun g hg => by
          obtain ⟨n, h1, h2, h3, h4⟩ := (finL_mem (by omega) g).1 hg
          rw [memS, fl0 hl, h4]
          exact ⟨tc_asym _ _ (hpos n), h3⟩)
        rw [finL_len] at this
        omega
      · obtain ⟨sl, fm⟩ := flS hl
        obtain ⟨_, ff⟩ := (memS _).1 fm
        obtain ⟨m, m1, m2⟩ := hist_in (l := l) (key := key) (t := floorT (TS t key) d) (by rw [ff]; rfl)
        rw [m2] at ff
        rcases Nat.lt_trichotomy m (59 - j) with z | z | z
        · exfalso
          have := nodup_le (tagN m :: finL l key (j + 1)) (TS t key) (List.nodup_cons.2 ⟨fun q => by
            obtain ⟨n, h1, _, _, h4⟩ := (finL_mem (by omega) _).1 q
            have := tagN_inj h4
            omega, finL_nodup (by omega)⟩) (fun g hg => by
            rcases List.mem_cons.1 hg with rfl | hg
            · rw [← m2]; exact fm
            · obtain ⟨n, h1, h2, h3, h4⟩ := (finL_mem (by omega) g).1 hg
              rw [memS, m2, h4]
              exact ⟨tc_asym _ _ (tagN_lt (by omega)), h3⟩)
          rw [List.length_cons, finL_len] at this
          omega
        · rw [m2, z]
        · exfalso
          have := nodup_le (tagN (59 - j) :: TS t key) (finL l key (j + 1)) (List.nodup_cons.2 ⟨fun q => by
            have := ((memS _).1 q).1
            rw [m2] at this
            exact this (tagN_lt z), nd⟩) (fun g hg => by
            rcases List.mem_cons.1 hg with rfl | hg
            · exact (finL_mem (by omega) _).2 ⟨59 - j, by omega, by omega, hf, rfl⟩
            · obtain ⟨q1, q2⟩ := (memS g).1 hg
              obtain ⟨n, n1, n2⟩ := hist_in (l := l) (key := key) (t := g) (by rw [q2]; rfl)
              refine (finL_mem (by omega) g).2 ⟨n, ?_, n1, by rw [← n2]; exact q2, n2⟩
              rcases Nat.lt_or_ge n m with y | y
              · rw [m2, n2] at q1
                exact absurd (tagN_lt y) q1
              · omega)
          rw [List.length_cons, finL_len] at this
          omega
    refine ⟨by omega, fun n hn => ⟨?_, hpos⟩⟩
    rw [key1]
    constructor
    · intro q
      rcases Nat.lt_or_ge n (59 - j) with z | z
      · exact absurd (tagN_lt z) q
      · omega
    · intro q lt
      rcases Nat.lt_or_ge (59 - j) n with z | z
      · exact tc_asym _ _ (tagN_lt z) lt
      · have : n = 59 - j := by omega
        rw [this, tc_self] at lt
        exact absurd lt (by decide)
/-- What is expected is what is held. -/
theorem expected_ents {w wr : World} {d : Int} {t : TK} {l : List Mv} (h : Dst w wr d t l) (h0 : 0 ≤ d) (key : ByteArray) {k : Nat} (st : Stop l key d k) : EntsOf (TMp t key) (datOf t key) (desc l key k).reverse := by
  obtain ⟨k60, fs⟩ := floor_stop h h0 key st
  refine ⟨?_, fun v => ?_⟩
  · rw [List.pairwise_reverse]
    exact desc_down k60
  · rw [List.mem_reverse, desc_mem k60]
    constructor
    · rintro ⟨n, h1, h2, h3, rfl⟩
      have lo := (fs n h2).1.2 h1
      have q := (h.hist key).inn _ lo
      rw [if_pos h3] at q
      cases hm : TMp t key (tagN n) with
      | none => rw [hm] at q; cases q
      | some hd =>
        rw [hm] at q
        have q : (hd.fin, hd.has) = (hF l key (tagN n), hH l key (tagN n)) := Option.some.inj q
        have q1 : hd.fin = hF l key (tagN n) := congrArg Prod.fst q
        have q2 : hd.has = hH l key (tagN n) := congrArg Prod.snd q
        refine ⟨hd, hm, q1.symm, q2.symm, ?_⟩
        unfold datOf
        show (if hH l key (tagN n) = true then fragD key (tagN n) else []) = _
        have e : (evN l key n).1 = tagN n := rfl
        rw [e, hm, ← q2]
        rfl
    · obtain ⟨g, f, b, x⟩ := v
      rintro ⟨hd, hm, e1, e2, e3⟩
      dsimp only at hm e1 e2 e3
      have lo := (h.inv key).low g hd hm
      have q := (h.hist key).inn g lo
      have q4 := (h.hist key).at lo
      rw [hm] at q q4
      have q4 : hd.fin = hF l key g ∧ hd.has = hH l key g := q4
      have hs : (hF l key g || hH l key g) = true := by
        split at q
        · assumption
        · cases q
      obtain ⟨n, n1, n2⟩ := hist_in hs
      subst n2
      refine ⟨n, (fs n n1).1.1 lo, n1, hs, ?_⟩
      unfold evN
      rw [e1, e2, e3, q4.1, q4.2]
      unfold datOf
      rw [hm]
      show _ = (_, _, _, if hH l key (tagN n) = true then _ else _)
      rw [← q4.2]
      rfl
/-- The finalized tags of a list of entries. -/
def finT (es : List Ev) : List (Int × Int) := (es.filter fun v => v.2.1).map fun v => v.1
theorem finT_snoc (es : List Ev) (v : Ev) : finT (es ++ [v]) = finT es ++ (if v.2.1 = true then [v.1] else []) := by
  unfold finT
  rw [List.filter_append, List.map_append]
  congr 1
  cases h : v.2.1 <;> simp [h]
/-- They are the row's set, from the highest down. -/
theorem finT_set {w wr : World} {d : Int} {t : TK} {l : List Mv} (h : Dst w wr d t l) (key : ByteArray) {es : List Ev} (e : EntsOf (TMp t key) (datOf t key) es.reverse) : finT es = (TS t key).reverse := by
  refine pairwise_one (r := fun x y : Int × Int => tc y x < 0) (fun a b => tc_asym _ _) _ _ ?_ ?_ (fun g => ?_)
  · unfold finT
    rw [List.pairwise_map]
    have := e.up
    rw [List.pairwise_reverse] at this
    exact this.filter _
  · rw [List.pairwise_reverse]
    exact (h.inv key).up
  · rw [List.mem_reverse, (h.inv key).fin g]
    unfold finT
    rw [List.mem_map]
    constructor
    · rintro ⟨v, hv, rfl⟩
      rw [List.mem_filter] at hv
      obtain ⟨hd, q1, q2, _⟩ := (e.mem v).1 (List.mem_reverse.2 hv.1)
      exact ⟨hd, q1, q2.symm.trans hv.2⟩
    · rintro ⟨hd, q1, q2⟩
      refine ⟨(g, hd.fin, hd.has, datOf t key g), ?_, rfl⟩
      rw [List.mem_filter]
      exact ⟨List.mem_reverse.1 ((e.mem _).2 ⟨hd, q1, rfl, rfl, rfl⟩), q2⟩
theorem floor_rev (S : List (Int × Int)) (i : Nat) : (S.reverse).getD i (0, 0) = floorT S (i : Int) := by
  unfold floorT
  rw [List.getD_eq_getElem?_getD]
  by_cases h : i < S.length
  · rw [List.getElem?_reverse h, if_pos ⟨by omega, by omega⟩, List.getD_eq_getElem?_getD]
    congr 2
  · rw [if_neg (by omega), List.getElem?_eq_none (by rw [List.length_reverse]; omega)]
    rfl
end Go.Proofs.YtojepeefphbekaaGreat
