import Derived.Test.YtojepeefphbekaaGreatExp1
namespace Go.Proofs.YtojepeefphbekaaGreat
open Go.RowKit 

theorem tagN_lt {m n : Nat} (h : m < n) : tc (tagN m) (tagN n) < 0 := by
  rw [tc_lt]
  unfold tagN
  show ((m / 5 + 1 : Nat) : Int) < ((n / 5 + 1 : Nat) : Int) ∨ ((m / 5 + 1 : Nat) : Int) = ((n / 5 + 1 : Nat) : Int) ∧ ((m % 5 + 1 : Nat) : Int) < ((n % 5 + 1 : Nat) : Int)
  omega
theorem tagN_inj {m n : Nat} (h : tagN m = tagN n) : m = n := by
  rcases Nat.lt_trichotomy m n with z | z | z
  · have := tagN_lt z
    rw [h, tc_self] at this
    exact absurd this (by decide)
  · exact z
  · have := tagN_lt z
    rw [h, tc_self] at this
    exact absurd this (by decide)
/-- Every tag of a move is one of the sixty. -/
theorem tag_in (c k : Int) : ∃ n, n < 60 ∧ tag60 c k = tagN n := by
  have a0 := Int.emod_nonneg c (show (12 : Int) ≠ 0 by omega)
  have a1 := Int.emod_lt_of_pos c (show (0 : Int) < 12 by omega)
  have b0 := Int.emod_nonneg k (show (5 : Int) ≠ 0 by omega)
  have b1 := Int.emod_lt_of_pos k (show (0 : Int) < 5 by omega)
  refine ⟨(c % 12).toNat * 5 + (k % 5).toNat, by omega, ?_⟩
  unfold tag60 tagN
  refine Prod.ext ?_ ?_
  · show c % 12 + 1 = _
    omega
  · show k % 5 + 1 = _
    omega
theorem hist_in {l : List Mv} {key : ByteArray} {t : Int × Int} (h : (hF l key t || hH l key t) = true) : ∃ n, n < 60 ∧ t = tagN n := by
  induction l with
  | nil => cases h
  | cons m ms ih =>
    by_cases e : t = m.tag
    · obtain ⟨n, h1, h2⟩ := tag_in m.c m.k
      exact ⟨n, h1, e.trans h2⟩
    · apply ih
      have h1 : hF (m :: ms) key t = hF ms key t := by show ((decide (key3 m.key = key) && decide (t = m.tag) && m.fin) || hF ms key t) = _; simp [e]
      have h2 : hH (m :: ms) key t = hH ms key t := by show ((decide (key3 m.key = key) && decide (t = m.tag) && m.brings) || hH ms key t) = _; simp [e]
      rw [h1, h2] at h
      exact h
theorem desc_mem {l : List Mv} {key : ByteArray} {k : Nat} (hk : k ≤ 60) (v : Ev) : v ∈ desc l key k ↔ ∃ n, 60 - k ≤ n ∧ n < 60 ∧ (hF l key (tagN n) || hH l key (tagN n)) = true ∧ v = evN l key n := by
  induction k with
  | zero =>
    constructor
    · intro h; cases h
    · rintro ⟨n, h1, h2, _⟩; omega
  | succ k ih =>
    unfold desc
    rw [List.mem_append, ih (by omega)]
    constructor
    · rintro (⟨n, h1, h2, h3⟩ | h)
      · exact ⟨n, by omega, h2, h3⟩
      · split at h
        · rename_i q
          rw [List.mem_singleton] at h
          exact ⟨59 - k, by omega, by omega, q, h⟩
        · cases h
    · rintro ⟨n, h1, h2, h3, h4⟩
      by_cases e : n = 59 - k
      · subst e
        right
        rw [if_pos h3, h4]
        exact List.mem_singleton_self _
      · exact .inl ⟨n, by omega, h2, h3, h4⟩
theorem desc_down {l : List Mv} {key : ByteArray} {k : Nat} (hk : k ≤ 60) : (desc l key k).Pairwise fun x y => tc y.1 x.1 < 0 := by
  induction k with
  | zero => exact List.Pairwise.nil
  | succ k ih =>
    unfold desc
    rw [List.pairwise_append]
    refine ⟨ih (by omega), ?_, fun a ha b hb => ?_⟩
    · split
      · exact List.pairwise_singleton _ _
      · exact List.Pairwise.nil
    · split at hb
      · rw [List.mem_singleton] at hb
        subst hb
        obtain ⟨n, h1, h2, _, rfl⟩ := (desc_mem (by omega) a).1 ha
        exact tagN_lt (by omega)
      · cases hb
/-- The finalized ones of the k highest tags. -/
def finL (l : List Mv) (key : ByteArray) : Nat → List (Int × Int)
  | 0 => []
  | k + 1 => finL l key k ++ (if hF l key (tagN (59 - k)) = true then [tagN (59 - k)] else [])
theorem finL_len (l : List Mv) (key : ByteArray) (k : Nat) : (finL l key k).length = fins l key k := by
  induction k with
  | zero => rfl
  | succ k ih =>
    unfold finL fins
    rw [List.length_append, ih]
    split <;> rfl
theorem finL_mem {l : List Mv} {key : ByteArray} {k : Nat} (hk : k ≤ 60) (t : Int × Int) : t ∈ finL l key k ↔ ∃ n, 60 - k ≤ n ∧ n < 60 ∧ hF l key (tagN n) = true ∧ t = tagN n := by
  induction k with
  | zero =>
    constructor
    · intro h; cases h
    · rintro ⟨n, h1, h2, _⟩; omega
  | succ k ih =>
    unfold finL
    rw [List.mem_append, ih (by omega)]
    constructor
    · rintro (⟨n, h1, h2, h3⟩ | h)
      · exact ⟨n, by omega, h2, h3⟩
      · split at h
        · rename_i q
          rw [List.mem_singleton] at h
          exact ⟨59 - k, by omega, by omega, q, h⟩
        · cases h
    · rintro ⟨n, h1, h2, h3, h4⟩
      by_cases e : n = 59 - k
      · subst e
        right
        rw [if_pos h3, h4]
        exact List.mem_singleton_self _
      · exact .inl ⟨n, by omega, h2, h3, h4⟩
theorem finL_nodup {l : List Mv} {key : ByteArray} {k : Nat} (hk : k ≤ 60) : (finL l key k).Nodup := by
  induction k with
  | zero => exact List.Pairwise.nil
  | succ k ih =>
    unfold finL
    rw [List.nodup_append]
    refine ⟨ih (by omega), ?_, fun a ha b hb e => ?_⟩
    · split
      · exact List.pairwise_singleton _ _
      · exact List.Pairwise.nil
    · subst e
      split at hb
      · rw [List.mem_singleton] at hb
        obtain ⟨n, h1, h2, _, h3⟩ := (finL_mem (by omega) a).1 ha
        rw [hb] at h3
        have := tagN_inj h3
        omega
      · cases hb
/-- All that is held lies from there on. -/
theorem floor_stop {w wr : World} {d : Int} {t : TK} {l : List Mv} (h : Dst w wr d t l) (h0 : 0 ≤ d) (key : ByteArray) {k : Nat} (st : Stop l key d k) : k ≤ 60 ∧ ∀ n, n < 60 → (¬ tc (tagN n) (floorT (TS t key) d) < 0 ↔ 60 - k ≤ n) ∧ (∀ n, tc (0, 0) (tagN n) < 0) := by
  have hpos : ∀ n, tc (0, 0) (tagN n) < 0 := by
    intro n
    rw [tc_lt]
    unfold tagN
    show (0 : Int) < _ ∨ (0 : Int) = _ ∧ _
    left
    show (0 : Int) < ((n / 5 + 1 : Nat) : Int)
    omega
  have inv := h.inv key
  have hist := h.hist key
  have nd : (TS t key).Nodup := inv.up.imp (fun {a b} hab e => by rw [e, tc_self] at hab; exact absurd hab (by decide))
  have memS : ∀ g, g ∈ TS t key ↔ ¬ tc g (floorT (TS t key) d) < 0 ∧ hF l key g = true := by
    intro g
    rw [inv.fin g]
    constructor
    · rintro ⟨hd, hm, hf⟩
      have lo := inv.low g hd hm
      refine ⟨lo, ?_⟩
      have := (hist.at lo).1
      rw [hm] at this
      exact this.symm.trans hf
    · rintro ⟨lo, hf⟩
      have := hist.inn g lo
      rw [hf] at this
      cases hm : TMp t key g with
      | none => rw [hm] at this; simp at this
      | some hd =>
        have q := (hist.at lo).1
        rw [hm, hf] at q
        exact ⟨hd, rfl, q⟩
  have fl0 : ((TS t key).length : Int) ≤ d → floorT (TS t key) d = (0, 0) := fun hl => by
    rcases floor_mem (TS t key) d h0 with ⟨_, z⟩ | ⟨z, _⟩
    · exact z
    · omega
  have flS : ¬ ((TS t key).length : Int) ≤ d → ((TS t key).length : Int) = d + 1 ∧ floorT (TS t key) d ∈ TS t key := fun hl => by
    have := inv.card
    refine ⟨by omega, ?_⟩
    rcases floor_mem (TS t key) d h0 with ⟨z, _⟩ | ⟨_, z2, z3⟩
    · omega
    · rw [z3]; exact List.getElem_mem _
  rcases st with ⟨rfl, hs⟩ | ⟨j, rfl, hj, hf, hs⟩
  · refine ⟨Nat.le_refl _, fun n hn => ⟨⟨fun _ => by omega, fun _ => ?_⟩, hpos⟩⟩
    have : ((TS t key).length : Int) ≤ d := by
      have := nodup_le (TS t key) (finL l key 60) nd (fun g hg => by
        obtain ⟨_, hf⟩ := (memS g).1 hg
        obtain ⟨n, h1, h2⟩ := hist_in (l := l) (key := key) (t := g) (by rw [hf]; rfl)
        rw [h2] at hf
        exact (finL_mem (Nat.le_refl _) g).2 ⟨n, by omega, h1, hf, h2⟩)
      rw [finL_len] at this
      omega
    rw [fl0 this]
    exact tc_asym _ _ (hpos n)
  · have key1 : floorT (TS t key) d = tagN (59 - j) := by
      by_cases hl : ((TS t key).length : Int) ≤ d
      · exfalso
        have := nodup_le (finL l key (j + 1)) (TS t key) (finL_nodup (by omega)) (fun g hg => by
          obtain ⟨n, h1, h2, h3, h4⟩ := (finL_mem (by omega) g).1 hg
          rw [memS, fl0 hl, h4]
          exact ⟨tc_asym _ _ (hpos n), h3⟩)
        rw [finL_len] at this
        omega
      · obtain ⟨sl, fm⟩ := flS hl
        obtain ⟨_, ff⟩ := (memS _).1 fm
        obtain ⟨m, m1, m2⟩ := hist_in (l := l) (key := key) (t := floorT (TS t key) d) (by rw [ff]; rfl)
        rw [m2] at ff
        rcases Nat.lt_trichotomy m (59 - j) with z | z | z
        · exfalso
          have := nodup_le (tagN m :: finL l key (j + 1)) (TS t key) (List.nodup_cons.2 ⟨fun q => by
            obtain ⟨n, h1, _, _, h4⟩ := (finL_mem (by omega) _).1 q
            have := tagN_inj h4
            omega, finL_nodup (by omega)⟩) (fun g hg => by
            rcases List.mem_cons.1 hg with rfl | hg
            · rw [← m2]; exact fm
            · obtain ⟨n, h1, h2, h3, h4⟩ := (finL_mem (by omega) g).1 hg
              rw [memS, m2, h4]
              exact ⟨tc_asym _ _ (tagN_lt (by omega)), h3⟩)
          rw [List.length_cons, finL_len] at this
          omega
        · rw [m2, z]
        · exfalso
          have := nodup_le (tagN (59 - j) :: TS t key) (finL l key (j + 1)) (List.nodup_cons.2 ⟨fun q => by
            have := ((memS _).1 q).1
            rw [m2] at this
            exact this (tagN_lt z), nd⟩) (fun g hg => by
            rcases List.mem_cons.1 hg with rfl | hg
            · exact (finL_mem (by omega) _).2 ⟨59 - j, by omega, by omega, hf, rfl⟩
            · obtain ⟨q1, q2⟩ := (memS g).1 hg
              obtain ⟨n, n1, n2⟩ := hist_in (l := l) (key := key) (t := g) (by rw [q2]; rfl)
              refine (finL_mem (by omega) g).2 ⟨n, ?_, n1, by rw [← n2]; exact q2, n2⟩
              rcases Nat.lt_or_ge n m with y | y
              · rw [m2, n2] at q1
                exact absurd (tagN_lt y) q1
              · omega)
          rw [List.length_cons, finL_len] at this
          omega
    refine ⟨by omega, fun n hn => ⟨?_, hpos⟩⟩
    rw [key1]
    constructor
    · intro q
      rcases Nat.lt_or_ge n (59 - j) with z | z
      · exact absurd (tagN_lt z) q
      · omega
    · intro q lt
      rcases Nat.lt_or_ge (59 - j) n with z | z
      · exact tc_asym _ _ (tagN_lt z) lt
      · have : n = 59 - j := by omega
        rw [this, tc_self] at lt
        exact absurd lt (by decide)
/-- What is expected is what is held. -/
theorem expected_ents {w wr : World} {d : Int} {t : TK} {l : List Mv} (h : Dst w wr d t l) (h0 : 0 ≤ d) (key : ByteArray) {k : Nat} (st : Stop l key d k) : EntsOf (TMp t key) (datOf t key) (desc l key k).reverse := by
  obtain ⟨k60, fs⟩ := floor_stop h h0 key st
  refine ⟨?_, fun v => ?_⟩
  · rw [List.pairwise_reverse]
    exact desc_down k60
  · rw [List.mem_reverse, desc_mem k60]
    constructor
    · rintro ⟨n, h1, h2, h3, rfl⟩
      have lo := (fs n h2).1.2 h1
      have q := (h.hist key).inn _ lo
      rw [if_pos h3] at q
      cases hm : TMp t key (tagN n) with
      | none => rw [hm] at q; cases q
      | some hd =>
        rw [hm] at q
        have q : (hd.fin, hd.has) = (hF l key (tagN n), hH l key (tagN n)) := Option.some.inj q
        have q1 : hd.fin = hF l key (tagN n) := congrArg Prod.fst q
        have q2 : hd.has = hH l key (tagN n) := congrArg Prod.snd q
        refine ⟨hd, hm, q1.symm, q2.symm, ?_⟩
        unfold datOf
        show (if hH l key (tagN n) = true then fragD key (tagN n) else []) = _
        have e : (evN l key n).1 = tagN n := rfl
        rw [e, hm, ← q2]
        rfl
    · obtain ⟨g, f, b, x⟩ := v
      rintro ⟨hd, hm, e1, e2, e3⟩
      dsimp only at hm e1 e2 e3
      have lo := (h.inv key).low g hd hm
      have q := (h.hist key).inn g lo
      have q4 := (h.hist key).at lo
      rw [hm] at q q4
      have q4 : hd.fin = hF l key g ∧ hd.has = hH l key g := q4
      have hs : (hF l key g || hH l key g) = true := by
        split at q
        · assumption
        · cases q
      obtain ⟨n, n1, n2⟩ := hist_in hs
      subst n2
      refine ⟨n, (fs n n1).1.1 lo, n1, hs, ?_⟩
      unfold evN
      rw [e1, e2, e3, q4.1, q4.2]
      unfold datOf
      rw [hm]
      show _ = (_, _, _, if hH l key (tagN n) = true then _ else _)
      rw [← q4.2]
      rfl
/-- The finalized tags of a list of entries. -/
def finT (es : List Ev) : List (Int × Int) := (es.filter fun v => v.2.1).map fun v => v.1
theorem finT_snoc (es : List Ev) (v : Ev) : finT (es ++ [v]) = finT es ++ (if v.2.1 = true then [v.1] else []) := by
  unfold finT
  rw [List.filter_append, List.map_append]
  congr 1
  cases h : v.2.1 <;> simp [h]
/-- They are the row's set, from the highest down. -/
theorem finT_set {w wr : World} {d : Int} {t : TK} {l : List Mv} (h : Dst w wr d t l) (key : ByteArray) {es : List Ev} (e : EntsOf (TMp t key) (datOf t key) es.reverse) : finT es = (TS t key).reverse := by
  refine pairwise_one (r := fun x y : Int × Int => tc y x < 0) (fun a b => tc_asym _ _) _ _ ?_ ?_ (fun g => ?_)
  · unfold finT
    rw [List.pairwise_map]
    have := e.up
    rw [List.pairwise_reverse] at this
    exact this.filter _
  · rw [List.pairwise_reverse]
    exact (h.inv key).up
  · rw [List.mem_reverse, (h.inv key).fin g]
    unfold finT
    rw [List.mem_map]
    constructor
    · rintro ⟨v, hv, rfl⟩
      rw [List.mem_filter] at hv
      obtain ⟨hd, q1, q2, _⟩ := (e.mem v).1 (List.mem_reverse.2 hv.1)
      exact ⟨hd, q1, q2.symm.trans hv.2⟩
    · rintro ⟨hd, q1, q2⟩
      refine ⟨(g, hd.fin, hd.has, datOf t key g), ?_, rfl⟩
      rw [List.mem_filter]
      exact ⟨List.mem_reverse.1 ((e.mem _).2 ⟨hd, q1, rfl, rfl, rfl⟩), q2⟩
theorem floor_rev (S : List (Int × Int)) (i : Nat) : (S.reverse).getD i (0, 0) = floorT S (i : Int) := by
  unfold floorT
  rw [List.getD_eq_getElem?_getD]
  by_cases h : i < S.length
  · rw [List.getElem?_reverse h, if_pos ⟨by omega, by omega⟩, List.getD_eq_getElem?_getD]
    congr 2
  · rw [if_neg (by omega), List.getElem?_eq_none (by rw [List.length_reverse]; omega)]
    rfl
end Go.Proofs.YtojepeefphbekaaGreat

namespace Go.Proofs.YtojepeefphbekaaGreat
open Go.RowKit 

abbrev Ut : Type := ByteArray × Et
abbrev Uv : Type := ByteArray × Ev
def encU (x : Ut) : List Value := [.int .i64 3, .string x.1, .int .i64 x.2.1.1, .int .i64 x.2.1.2, .bool x.2.2.1, .bool x.2.2.2.1, .slice x.2.2.2.2.1 x.2.2.2.2.2.1 x.2.2.2.2.2.2]
def ucells (l : List Ut) : List Value := l.flatMap encU
theorem ucells_cons (e : Ut) (l : List Ut) : ucells (e :: l) = encU e ++ ucells l := by simp [ucells]
theorem ucells_append (l m : List Ut) : ucells (l ++ m) = ucells l ++ ucells m := by simp [ucells]
theorem ucells_get (l : List Ut) : ∀ i (h : i < l.length) j, j < 7 → (ucells l)[i * 7 + j]? = (encU l[i])[j]? := by
  induction l with
  | nil => intro i h; simp at h
  | cons t r ih =>
    intro i h j hj
    rw [ucells_cons]
    have e2 : (encU t).length = 7 := rfl
    cases i with
    | zero => rw [List.getElem?_append_left (by rw [e2]; omega)]; simp
    | succ i =>
      rw [List.getElem?_append_right (by rw [e2]; omega), e2, show (i + 1) * 7 + j - 7 = i * 7 + j by omega, ih i (by simpa using h) j hj]
      rfl
theorem Tryz.info44c : (Tryz.prog.info? 44).map (fun i => (i.zero, i.size, i.bytes)) = some (some (.agg #[.int .i64 0, .string (ByteArray.mk #[]), .int .i64 0, .int .i64 0, .bool false, .bool false, .slice none 0 0]), 7, 72) := by kernel_rfl
theorem src_upd {w : World} {b : Nat} {e : Ut} (h : w.heap[b]? = some (.cells (encU e).toArray 44 (0, 0))) : Src Tryz.prog 7 41 (.slice (some ⟨b, 0, none⟩) 1 1) 1 (encU e) w :=
  Src.ofSlice w Tryz.underlying41 ⟨b, 0, none⟩ 1 1 (encU e) rfl (fun j u hj => by
    rw [Addr.add_none, Nat.zero_add, cell_of_row w b j _ 44 (0, 0) h]
    simpa using hj) (fun v hv => by simp [encU] at hv; rcases hv with rfl | rfl | rfl | rfl | rfl | rfl | rfl <;> rfl)
structure UvRd (w : World) (e : Ut) (v : Uv) : Prop where
  key : e.1 = v.1
  ent : EvRd w e.2 v.2
/-- A list of updates as it reads. -/
structure UpRd (b0 : Nat) (w : World) (p : Option Addr) (n c : Nat) (us : List Uv) : Prop where
  len : us.length = n
  row : ∃ L : List Ut, w.ownsRow b0 44 7 (.slice p n c) n (ucells L) ∧ Along (UvRd w) L us
theorem UpRd.k0 {b0 : Nat} {w w' : World} {p : Option Addr} {n c : Nat} {us : List Uv} (h : UpRd b0 w p n c us) (K : Kept (fun _ => False) w w') : UpRd b0 w' p n c us := by
  obtain ⟨L, ow, al⟩ := h.row
  exact ⟨h.len, L, K.owns ow (fun _ _ z => z), al.imp (fun a b q => ⟨q.key, q.ent.off K (fun _ _ _ _ z => z)⟩)⟩
theorem up_more {w wi w9 : World} {p p9 : Option Addr} {n c c9 : Nat} {us : List Uv} {L : List Ut} {e : Ut} {v : Uv} {o : Obj} (ow : wi.ownsRow w.heap.size 44 7 (.slice p n c) n (ucells L)) (al : Along (UvRd wi) L us) (ln : us.length = n) (kw : Kept (fun _ => False) w wi) (ev : UvRd wi e v)
    (ho : w9.ownsRow w.heap.size 44 7 (.slice p9 (n + 1) c9) (n + 1) (ucells L ++ encU e)) (hg : (wi.alloc o).grownBy w9 (Value.slice p n c).ownBlock) : UpRd w.heap.size w9 p9 (n + 1) c9 (us ++ [v]) ∧ Kept (fun _ => False) w w9 := by
  have KG : Kept (fun k => blockOf p = some k) wi w9 := ((Kept.refl (fun k => blockOf p = some k) wi).alloc _).grown hg (fun k _ z => by rw [blockOf_own] at z; exact z)
  have ng : ∀ k cs fr, wi.heap[k]? = some (.cells cs 5 fr) → ¬ blockOf p = some k := fun k cs fr hc z => by
    obtain ⟨c2, h2⟩ := own_type ow k z
    rw [h2] at hc
    simp at hc
  refine ⟨⟨by rw [List.length_append, ln]; rfl, L ++ [e], ?_, (al.imp (fun a b q => ⟨q.key, q.ent.off KG ng⟩)).snoc ⟨ev.key, ev.ent.off KG ng⟩⟩, kw.trans KG (fun j hj z => ?_)⟩
  · rw [ucells_append]
    have e0 : ucells [e] = encU e := by simp [ucells]
    rw [e0]
    exact ho
  · have := (own_lt ow j z).1
    omega
/-- All entries as updates. -/
def flat (vs : List Av) : List Uv := vs.flatMap fun v => v.2.map fun e => (v.1, e)
theorem flat_snoc (vs : List Av) (v : Av) : flat (vs ++ [v]) = flat vs ++ v.2.map (fun e => (v.1, e)) := by simp [flat]
theorem nodup_leG {α : Type} [DecidableEq α] : ∀ (R S : List α), R.Nodup → (∀ t, t ∈ R → t ∈ S) → R.length ≤ S.length
  | [], S, _, _ => Nat.zero_le _
  | a :: R, S, hR, hs => by
    rw [List.nodup_cons] at hR
    have ha : a ∈ S := hs a (by simp)
    have := nodup_leG R (S.erase a) hR.2 (fun t ht => (List.mem_erase_of_ne (fun (e : t = a) => hR.1 (e ▸ ht))).2 (hs t (by simp [ht])))
    rw [List.length_erase_of_mem ha] at this
    have hp := List.length_pos_of_mem ha
    simp
    omega
theorem ents_few {w wr : World} {d : Int} {t : TK} {l : List Mv} (h : Dst w wr d t l) {key : ByteArray} {es : List Ev} (e : EntsOf (TMp t key) (datOf t key) es) : es.length ≤ 60 := by
  have := nodup_le (es.map fun v => v.1) ((List.range 60).map tagN) (by
    unfold List.Nodup
    rw [List.pairwise_map]
    exact e.up.imp (fun {a b} hab z => by rw [z, tc_self] at hab; exact absurd hab (by decide))) (fun g hg => by
    obtain ⟨v, hv, rfl⟩ := List.mem_map.1 hg
    obtain ⟨hd, hm, _⟩ := (e.mem v).1 hv
    have lo := (h.inv key).low _ hd hm
    have q := (h.hist key).inn _ lo
    rw [hm] at q
    have hs : (hF l key v.1 || hH l key v.1) = true := by
      split at q
      · assumption
      · cases q
    obtain ⟨n, n1, n2⟩ := hist_in hs
    rw [n2]
    exact List.mem_map.2 ⟨n, List.mem_range.2 n1, rfl⟩)
  simpa using this
theorem key3_in (k : Int) : key3 k ∈ [(⟨#[97]⟩ : ByteArray), ⟨#[97, 98]⟩, ⟨#[98]⟩] := by
  unfold key3
  split
  · simp
  · split <;> simp
theorem keys_few {w wr : World} {d : Int} {t : TK} {l : List Mv} (h : Dst w wr d t l) {vs : List Av} (e : AllOf t (datOf t) vs) : vs.length ≤ 3 := by
  have := nodup_leG (vs.map fun v => v.1) [(⟨#[97]⟩ : ByteArray), ⟨#[97, 98]⟩, ⟨#[98]⟩] e.keys.one (fun k hk => by
    have hr := (e.keys.each k hk).2
    have : t.R k ≠ none := fun z => hr (by unfold TK.rv; rw [z]; rfl)
    obtain ⟨m, _, rfl⟩ := (h.keys k).1 this
    exact key3_in _)
  simpa using this
theorem flat_few {w wr : World} {d : Int} {t : TK} {l : List Mv} (h : Dst w wr d t l) {vs : List Av} (e : AllOf t (datOf t) vs) : (flat vs).length ≤ 180 := by
  have h1 : ∀ us : List Av, (∀ v ∈ us, v.2.length ≤ 60) → (flat us).length ≤ 60 * us.length := by
    intro us hu
    induction us with
    | nil => simp [flat]
    | cons a us ih =>
      have := ih (fun v hv => hu v (List.mem_cons_of_mem _ hv))
      have := hu a List.mem_cons_self
      have e2 : flat (a :: us) = a.2.map (fun x => (a.1, x)) ++ flat us := by simp [flat]
      rw [e2, List.length_append, List.length_map, List.length_cons]
      omega
  have := h1 vs (fun v hv => ents_few h (e.ents v hv))
  have := keys_few h e
  omega
set_option maxRecDepth 100000 in
set_option maxHeartbeats 4000000 in
/-- Updates. -/
theorem dUpdates {w wr0 : World} {d : Int} {t : TK} {ms : List Mv} {tb : Nat} (h : Dst w wr0 d t ms) (et : t.tb = tb) (hl : ms.length ≤ 4398046511104) : Calls Tryz.prog 12 #[.pointer (some ⟨tb, 0, none⟩)] wr0 fun o w' => ∃ p n c, o = .returned (.slice p n c) ∧ ∃ vs, Hid (UpRd 0 w' p n c (flat vs) ∧ AllOf t (datOf t) vs ∧ Kept (fun _ => False) wr0 w') := by
  have H : Hid (Dst w wr0 d t ms ∧ t.tb = tb ∧ ms.length ≤ 4398046511104) := ⟨h, et, hl⟩
  clear h et hl
  go_enter Tryz.func12, Tryz.ntmps12
  go_wp2_with fail
  refine (dAll H.out.1 H.out.2.1 H.out.2.2).mono ?_
  rintro o w1 ⟨p1, n1, c1, vs, rfl, A1⟩
  have F : Hid ((flat vs).length ≤ 180) := flat_few H.out.1 A1.out.2.1
  have sm : n1 ≤ 3 := by have := keys_few H.out.1 A1.out.2.1; have := A1.out.1.len; omega
  have room := A1.out.1.small
  unfold maxLen at room
  have U0 : Hid (UpRd w1.heap.size w1 none 0 0 (flat (vs.take 0)) ∧ Kept (fun _ => False) w1 w1) := ⟨⟨rfl, [], ⟨rfl, .inl ⟨rfl, rfl⟩⟩, Along.nil _⟩, Kept.refl _ _⟩
  go_wp2_with fail
  go_loopw [3, 5, 7, 11] (fun u3 _ _ u11 wr => ∃ (i n c : Nat) (p : Option Addr), u3 = .slice p n c ∧ u11 = .int .i64 (i : Int) ∧ i ≤ n1 ∧ Hid (UpRd w1.heap.size wr p n c (flat (vs.take i)) ∧ Kept (fun _ => False) w1 wr)) (fun _ _ _ u11 _ => n1 - (intOf u11).toNat)
  case atStart => exact ⟨0, 0, 0, none, rfl, rfl, Nat.zero_le _, U0⟩
  case round =>
    obtain ⟨i, n, c, p, rfl, rfl, hi, S⟩ := hrel
    obtain ⟨wo, hwo⟩ : ∃ wo, wo = wr := ⟨_, rfl⟩
    rw [← hwo] at S ⊢
    clear hwo U0
    by_cases hlt : i < n1
    · have i1 : (i : Int) < (n1 : Int) := by omega
      obtain ⟨b1, k1, es, a1, m1, q1, rfl, hv, d0', d1', er⟩ := A1.out.1.at hlt
      have d0 := S.out.2.cell d0' (fun z => z)
      have d1 := S.out.2.cell d1' (fun z => z)
      have HV : Hid (vs[i]? = some (k1, es) ∧ EntRd w1 a1 m1 q1 es ∧ es.length = m1) := ⟨hv, er, er.len⟩
      have es60 : m1 ≤ 60 := by
        have := ents_few H.out.1 (A1.out.2.1.ents _ (List.mem_of_getElem? hv))
        rw [← er.len]
        exact this
      clear hv er d0' d1'
      go_upto_region 5 with fail
      obtain ⟨W, hW⟩ : ∃ W, W = wo.alloc (.cells #[.string k1, .slice a1 m1 q1] 35) := ⟨_, rfl⟩
      obtain ⟨HB, hHB⟩ : ∃ B, B = wo.heap.size := ⟨_, rfl⟩
      have B0 : Hid (W.heap[HB]? = some (.cells #[.string k1, .slice a1 m1 q1] 35 (0, 0)) ∧ Kept (fun _ => False) wo W) := by
        rw [hW, hHB]
        exact ⟨heap_alloc_new _ _, k0_alloc _ _⟩
      rw [← hW, ← hHB]
      clear hW hHB d0 d1
      have g0 := cell_blk B0.out.1 0 (v := .string k1) rfl
      have g1 := cell_blk B0.out.1 1 (v := .slice a1 m1 q1) rfl
      have V0 : Hid (UpRd w1.heap.size W p n c (flat (vs.take i) ++ (es.take 0).map (fun e => (k1, e))) ∧ Kept (fun _ => False) w1 W ∧ W.heap[HB]? = some (.cells #[.string k1, .slice a1 m1 q1] 35 (0, 0))) := by
        refine ⟨?_, S.out.2.and0 B0.out.2, B0.out.1⟩
        have := S.out.1.k0 B0.out.2
        rw [List.take_zero, List.map_nil, List.append_nil]
        exact this
      go_wp2_with fail
      go_loopw [3, 7, 18] (fun u3 _ u18 wr => ∃ (j n c : Nat) (p : Option Addr), u3 = .slice p n c ∧ u18 = .int .i64 (j : Int) ∧ j ≤ m1 ∧ Hid (UpRd w1.heap.size wr p n c (flat (vs.take i) ++ (es.take j).map (fun e => (k1, e))) ∧ Kept (fun _ => False) w1 wr ∧ wr.heap[HB]? = some (.cells #[.string k1, .slice a1 m1 q1] 35 (0, 0)))) (fun _ _ u18 _ => m1 - (intOf u18).toNat)
      case atStart => exact ⟨0, n, c, p, rfl, rfl, Nat.zero_le _, V0⟩
      case round =>
        obtain ⟨j, n2, c2, p2, rfl, rfl, hj, T⟩ := hrel
        clear V0
        by_cases hjl : j < m1
        · have j1 : (j : Int) < (m1 : Int) := by omega
          obtain ⟨b2, x, y, f, g, ea, en, ec, v, rfl, hv2, e0, e1, e2, e3, e4, ev⟩ := (HV.out.2.1.k0 T.out.2.1).ev hjl
          have q0 := cell_blk T.out.2.2 0 (v := .string k1) rfl
          obtain ⟨L, ow0, al0⟩ := T.out.1.row
          have N180 : n2 ≤ 180 := by
            have h1 : (flat (vs.take i) ++ (es.take j).map (fun e => (k1, e))).length ≤ (flat vs).length := by
              have hd : flat vs = flat (vs.take i) ++ (es.map (fun e => (k1, e)) ++ flat (vs.drop (i + 1))) := by
                have hil : i < vs.length := (List.getElem?_eq_some_iff.1 HV.out.1).1
                have e5 : vs[i] = (k1, es) := (List.getElem?_eq_some_iff.1 HV.out.1).2
                conv => lhs; rw [← List.take_append_drop i vs, List.drop_eq_getElem_cons hil, e5]
                simp [flat]
              rw [hd, List.length_append, List.length_append, List.length_append, List.length_map, List.length_map, List.length_take]
              omega
            have := F.out
            rw [T.out.1.len] at h1
            omega
          have AR : Hid (wr.ownsRow w1.heap.size 44 7 (.slice p2 n2 c2) n2 (ucells L) ∧ Along (UvRd wr) L (flat (vs.take i) ++ (es.take j).map (fun e => (k1, e))) ∧ EvRd wr ((x, y), f, g, ea, en, ec) v ∧ es[j]? = some v ∧ Kept (fun _ => False) w1 wr) := ⟨ow0, al0, ev, hv2, T.out.2.1⟩
          have BL : Hid (n2 + 1 ≤ maxLen ∧ ((n2 + 1) + (n2 + 1) / 4 + 192) * 72 ≤ 281474976710656) := by
            unfold maxLen
            exact ⟨by omega, by omega⟩
          clear ow0 al0 ev hv2
          go_upto_region 8 with fail
          obtain ⟨W2, hW2⟩ : ∃ W2, W2 = wr.alloc (.cells #[.int .i64 x, .int .i64 y, .bool f, .bool g, .slice ea en ec] 40) := ⟨_, rfl⟩
          obtain ⟨EB, hEB⟩ : ∃ B, B = wr.heap.size := ⟨_, rfl⟩
          have H2 : Hid (W2.heap[EB]? = some (.cells #[.int .i64 x, .int .i64 y, .bool f, .bool g, .slice ea en ec] 40 (0, 0)) ∧ Kept (fun _ => False) wr W2) := by
            rw [hW2, hEB]
            exact ⟨heap_alloc_new _ _, k0_alloc _ _⟩
          rw [← hW2, ← hEB]
          clear hW2 hEB e0 e1 e2 e3 e4 q0
          have e0 := cell_blk H2.out.1 0 (v := .int .i64 x) rfl
          have e1 := cell_blk H2.out.1 1 (v := .int .i64 y) rfl
          have e2 := cell_blk H2.out.1 2 (v := .bool f) rfl
          have e3 := cell_blk H2.out.1 3 (v := .bool g) rfl
          have e4 := cell_blk H2.out.1 4 (v := .slice ea en ec) rfl
          have q0 := cell_blk (H2.out.2.get T.out.2.2 (fun z => z)) 0 (v := .string k1) rfl
          go_wp2_with
            (first
              | (at_builtin; refine wpList_append_all _ rfl (.tmp 22) (.tmp 27) 41 44 41 _ 7 72 rfl Tryz.underlying41 Tryz.info44c rfl w1.heap.size (.slice p2 n2 c2) n2 (ucells L) rfl ((k0_alloc W2 _).owns (H2.out.2.owns AR.out.1 (fun _ _ z => z)) (fun _ _ z => z)) _ 1 (encU (k1, (x, y), f, g, ea, en, ec)) rfl (src_upd (heap_alloc_new W2 _)) BL.out.1 BL.out.2 (Nat.le_trans (AR.out.2.2.2.2.and0 H2.out.2).size (k0_alloc W2 _).size) ?_; intro p9 c9 w9 ho hg hn)
              | fail)
          have T9 : Hid (UpRd w1.heap.size w9 p9 (n2 + 1) c9 (flat (vs.take i) ++ (es.take (j + 1)).map (fun e => (k1, e))) ∧ Kept (fun _ => False) w1 w9 ∧ w9.heap[HB]? = some (.cells #[.string k1, .slice (some ⟨b2, 0, none⟩) m1 q1] 35 (0, 0))) := by
            have K2 := H2.out.2
            have := up_more (K2.owns AR.out.1 (fun _ _ z => z)) (AR.out.2.1.imp (fun a b q => ⟨q.key, q.ent.off K2 (fun _ _ _ _ z => z)⟩)) T.out.1.len (AR.out.2.2.2.2.and0 K2) (e := (k1, (x, y), f, g, ea, en, ec)) (v := (k1, v)) ⟨rfl, AR.out.2.2.1.off K2 (fun _ _ _ _ z => z)⟩ ho.out hg.out
            have e5 : flat (vs.take i) ++ (es.take (j + 1)).map (fun e => (k1, e)) = flat (vs.take i) ++ (es.take j).map (fun e => (k1, e)) ++ [(k1, v)] := by
              rw [List.take_add_one, AR.out.2.2.2.1, List.map_append, List.append_assoc]
              rfl
            rw [e5]
            refine ⟨this.1, this.2, ?_⟩
            have KG : Kept (fun k => blockOf p2 = some k) W2 w9 := ((Kept.refl (fun k => blockOf p2 = some k) W2).alloc _).grown hg.out (fun k _ z => by rw [blockOf_own] at z; exact z)
            have hb := K2.get T.out.2.2 (fun z => z)
            refine KG.get hb (fun z => ?_)
            obtain ⟨c3, h3⟩ := own_type (K2.owns AR.out.1 (fun _ _ z => z)) HB z
            rw [h3] at hb
            simp at hb
          clear ho hg hn
          go_roundw
          case rel => exact ⟨j + 1, n2 + 1, c9, p9, rfl, by go_num, by omega, T9⟩
          case measure => simp [intOf] <;> omega
        · have j1 : ¬ (j : Int) < (m1 : Int) := by omega
          have G : Hid (UpRd w1.heap.size wr p2 n2 c2 (flat (vs.take (i + 1))) ∧ Kept (fun _ => False) w1 wr) := by
            have := T.out.1
            rw [List.take_of_length_le (l := es) (i := j) (by rw [HV.out.2.2]; omega)] at this
            refine ⟨?_, T.out.2.1⟩
            rw [List.take_add_one, HV.out.1]
            show UpRd _ _ _ _ _ (flat (_ ++ [(k1, es)]))
            rw [flat_snoc]
            exact this
          clear T
          go_wp2_with fail
          go_roundw
          case rel => exact ⟨i + 1, n2, c2, p2, rfl, by go_num, by omega, G⟩
          case measure => simp [intOf] <;> omega
    · have i1 : ¬ (i : Int) < (n1 : Int) := by omega
      have G : Hid (UpRd 0 wo p n c (flat vs) ∧ AllOf t (datOf t) vs ∧ Kept (fun _ => False) wr0 wo) := by
        obtain ⟨L, ow, al⟩ := S.out.1.row
        have ev : vs.take i = vs := List.take_of_length_le (by rw [A1.out.1.len]; omega)
        rw [ev] at al
        have ln := S.out.1.len
        rw [ev] at ln
        exact ⟨⟨ln, L, owns_mono ow (Nat.zero_le _), al⟩, A1.out.2.1, A1.out.2.2.and0 S.out.2⟩
      clear S
      go_wp2_with fail
      go_ret
      exact ⟨p, n, c, rfl, vs, G⟩
end Go.Proofs.YtojepeefphbekaaGreat
