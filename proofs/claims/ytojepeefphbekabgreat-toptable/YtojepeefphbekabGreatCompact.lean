import Derived.Test.YtojepeefphbekabGreatSort
import Derived.Test.YtojepeefphbekabGreatInsert
namespace Go.Proofs.YtojepeefphbekabGreat
open Go.RowKit

/-- The first n of a list, equal neighbours once. -/
def comp (S : List (Int × Int)) : Nat → List (Int × Int)
  | 0 => []
  | n + 1 => comp S n ++ (if n = 0 ∨ S.getD n (0, 0) ≠ S.getD (n - 1) (0, 0) then [S.getD n (0, 0)] else [])
theorem comp_length (S : List (Int × Int)) : ∀ n, (comp S n).length ≤ n
  | 0 => Nat.le_refl _
  | n + 1 => by
    have := comp_length S n
    unfold comp
    rw [List.length_append]
    split <;> simp <;> omega
theorem comp_pos (S : List (Int × Int)) : ∀ n, 0 < n → 0 < (comp S n).length
  | 0, h => absurd h (by omega)
  | n + 1, _ => by
    unfold comp
    rw [List.length_append]
    by_cases h0 : n = 0
    · rw [if_pos (.inl h0)]; simp
    · have := comp_pos S n (by omega)
      omega
theorem comp_take (S : List (Int × Int)) : ∀ n, n ≤ S.length → (∀ j, 0 < j → j < n → S.getD j (0, 0) ≠ S.getD (j - 1) (0, 0)) → comp S n = S.take n
  | 0, _, _ => by simp [comp]
  | n + 1, h, hd => by
    unfold comp
    rw [comp_take S n (by omega) (fun j h1 h2 => hd j h1 (by omega)), List.take_succ_eq_append_getElem (by omega), getD_eq S n (by omega)]
    by_cases h0 : n = 0
    · rw [if_pos (.inl h0)]
    · have := hd n (by omega) (by omega)
      rw [getD_eq S n (by omega)] at this
      rw [if_pos (.inr this)]
theorem comp_mem (S : List (Int × Int)) (t : Int × Int) : ∀ n, n ≤ S.length → (t ∈ comp S n ↔ t ∈ S.take n)
  | 0, _ => by simp [comp]
  | n + 1, h => by
    unfold comp
    rw [List.mem_append, comp_mem S t n (by omega), List.take_succ_eq_append_getElem (by omega), List.mem_append, getD_eq S n (by omega)]
    by_cases hc : n = 0 ∨ S[n] ≠ S.getD (n - 1) (0, 0)
    · rw [if_pos hc]
    · rw [if_neg hc]
      have h0 : n ≠ 0 := fun e => hc (.inl e)
      have he : S[n] = S.getD (n - 1) (0, 0) := Classical.byContradiction fun e => hc (.inr e)
      rw [getD_eq S (n - 1) (by omega)] at he
      constructor
      · rintro (h1 | h1)
        · exact .inl h1
        · exact absurd h1 List.not_mem_nil
      · rintro (h1 | h1)
        · exact .inl h1
        · left
          rw [List.mem_singleton] at h1
          rw [h1, he]
          exact List.mem_take_iff_getElem.2 ⟨n - 1, by omega, rfl⟩
theorem comp_rising (S : List (Int × Int)) (hs : Sorted S) : ∀ n, n ≤ S.length → Rising (comp S n)
  | 0, _ => List.Pairwise.nil
  | n + 1, h => by
    unfold comp
    by_cases hc : n = 0 ∨ S.getD n (0, 0) ≠ S.getD (n - 1) (0, 0)
    · rw [if_pos hc]
      refine List.pairwise_append.2 ⟨comp_rising S hs n (by omega), List.pairwise_singleton _ _, fun a ha b hb => ?_⟩
      rw [List.mem_singleton] at hb
      subst hb
      have ha' := (comp_mem S a n (by omega)).1 ha
      obtain ⟨i, hi, rfl⟩ := List.mem_take_iff_getElem.1 ha'
      have hin : i < n := by omega
      rw [getD_eq S n (by omega)] at hc ⊢
      have g : ∀ i j (hi : i < S.length) (hj : j < S.length), i < j → ¬ tc S[j] S[i] < 0 := fun i j hi hj hij => (List.pairwise_iff_getElem.1 hs) i j hi hj hij
      rcases hc with e | e
      · omega
      · rw [getD_eq S (n - 1) (by omega)] at e
        have g1 := g (n - 1) n (by omega) (by omega) (by omega)
        have lt1 : tc S[n - 1] S[n] < 0 := by
          rcases tc_3 S[n - 1] S[n] with ⟨_, q⟩ | ⟨q, _⟩ | ⟨_, q⟩
          · omega
          · exact absurd q.symm e
          · exact absurd ((tc_flip S[n] S[n - 1]).2 (by omega)) g1
        by_cases hi1 : i = n - 1
        · subst hi1; exact lt1
        · have g2 := g i (n - 1) (by omega) (by omega) (by omega)
          rcases tc_3 S[i] S[n - 1] with ⟨_, q⟩ | ⟨q, _⟩ | ⟨_, q⟩
          · exact tc_trans _ _ _ (by omega) lt1
          · rw [q]; exact lt1
          · exact absurd ((tc_flip S[n - 1] S[i]).2 (by omega)) g2
    · rw [if_neg hc, List.append_nil]
      exact comp_rising S hs n (by omega)
/-- The tag at a place of a block. -/
def AtC (cur : Array Value) (off j : Nat) (t : Int × Int) : Prop := cur[off + j * 2]? = some (.int .i64 t.1) ∧ cur[off + j * 2 + 1]? = some (.int .i64 t.2)
theorem AtC.set {cur : Array Value} {off i j : Nat} {t u : Int × Int} (h : AtC cur off j t) (hne : j ≠ i) : AtC ((cur.setIfInBounds (off + i * 2) (.int .i64 u.1)).setIfInBounds (off + i * 2 + 1) (.int .i64 u.2)) off j t := by
  refine ⟨?_, ?_⟩
  · rw [Array.getElem?_setIfInBounds_ne (by omega), Array.getElem?_setIfInBounds_ne (by omega)]
    exact h.1
  · rw [Array.getElem?_setIfInBounds_ne (by omega), Array.getElem?_setIfInBounds_ne (by omega)]
    exact h.2
theorem AtC.new (cur : Array Value) (off i : Nat) (u : Int × Int) (h : off + i * 2 + 1 < cur.size) : AtC ((cur.setIfInBounds (off + i * 2) (.int .i64 u.1)).setIfInBounds (off + i * 2 + 1) (.int .i64 u.2)) off i u := by
  refine ⟨?_, ?_⟩
  · rw [Array.getElem?_setIfInBounds_ne (by omega), Array.getElem?_setIfInBounds_self_of_lt (by omega)]
  · rw [Array.getElem?_setIfInBounds_self_of_lt (by rw [Array.size_setIfInBounds]; omega)]
/-- The list while Compact runs: n of it are done. -/
structure CompSt (w0 w : World) (g off size len : Nat) (S : List (Int × Int)) (n : Nat) (cur : Array Value) : Prop where
  blk : w.heap[g]? = some (.cells cur 31 (0, 0))
  sz : cur.size = size
  kept : Kept (fun k => k = g) w0 w
  short : (comp S n).length + 1 ≤ n
  done : ∀ j, j < (comp S n).length → AtC cur off j ((comp S n).getD j (0, 0))
  rest : ∀ j, n - 1 ≤ j → j < len → AtC cur off j (S.getD j (0, 0))
theorem CompSt.skip {w0 w : World} {g off size len : Nat} {S : List (Int × Int)} {n : Nat} {cur : Array Value} (h : CompSt w0 w g off size len S n cur) (he : S.getD n (0, 0) = S.getD (n - 1) (0, 0)) (m : Nat) : CompSt w0 (w.drewN m) g off size len S (n + 1) cur := by
  have h0 := h.short
  have e : comp S (n + 1) = comp S n := by
    show comp S n ++ _ = _
    rw [if_neg (fun q => q.elim (fun z => by omega) (fun f => f he)), List.append_nil]
  refine ⟨h.blk, h.sz, h.kept.drewN m, by rw [e]; omega, by rw [e]; exact h.done, fun j hj hl => h.rest j (by omega) hl⟩
theorem CompSt.keep {w0 w : World} {g off size len : Nat} {S : List (Int × Int)} {n : Nat} {cur : Array Value} (h : CompSt w0 w g off size len S n cur) (hn : n < len) (hl : off + len * 2 ≤ size) (he : S.getD n (0, 0) ≠ S.getD (n - 1) (0, 0)) (i : Nat) (hi : i = (comp S n).length) (m : Nat) :
    (comp S (n + 1)).length = i + 1 ∧ CompSt w0 (((w.drewN m).setCell ⟨g, off + i * 2, none⟩ (.int .i64 (S.getD n (0, 0)).1)).setCell ⟨g, off + i * 2 + 1, none⟩ (.int .i64 (S.getD n (0, 0)).2)) g off size len S (n + 1) ((cur.setIfInBounds (off + i * 2) (.int .i64 (S.getD n (0, 0)).1)).setIfInBounds (off + i * 2 + 1) (.int .i64 (S.getD n (0, 0)).2)) := by
  have h0 := h.short
  have hz := h.sz
  have e : comp S (n + 1) = comp S n ++ [S.getD n (0, 0)] := by
    show comp S n ++ _ = _
    rw [if_pos (.inr he)]
  have el : (comp S (n + 1)).length = i + 1 := by rw [e, List.length_append, hi]; rfl
  refine ⟨el, ?_, by rw [Array.size_setIfInBounds, Array.size_setIfInBounds]; exact hz, ((h.kept.drewN m).setCell (fun _ => rfl) _).setCell (fun _ => rfl) _, by omega, fun j hj => ?_, fun j hj hl2 => (h.rest j (by omega) hl2).set (by omega)⟩
  · exact heap_set (heap_set h.blk _ _) _ _
  · rw [e]
    by_cases hji : j = i
    · subst hji
      have : (comp S n ++ [S.getD n (0, 0)]).getD j (0, 0) = S.getD n (0, 0) := by
        rw [hi, List.getD_eq_getElem?_getD, List.getElem?_append_right (Nat.le_refl _)]
        simp
      rw [this]
      exact AtC.new _ _ _ _ (by omega)
    · have hj2 : j < (comp S n).length := by omega
      have : (comp S n ++ [S.getD n (0, 0)]).getD j (0, 0) = (comp S n).getD j (0, 0) := by
        rw [List.getD_eq_getElem?_getD, List.getElem?_append_left hj2, ← List.getD_eq_getElem?_getD]
      rw [this]
      exact (h.done j hj2).set hji
theorem AtC.cells {w : World} {g : Nat} {cur : Array Value} {off j : Nat} {t : Int × Int} (hb : w.heap[g]? = some (.cells cur 31 (0, 0))) (h : AtC cur off j t) : w.cell? ⟨g, off + j * 2, none⟩ = some (.int .i64 t.1) ∧ w.cell? ⟨g, off + j * 2 + 1, none⟩ = some (.int .i64 t.2) :=
  ⟨by rw [cell_of_row w g _ cur 31 (0, 0) hb]; exact h.1, by rw [cell_of_row w g _ cur 31 (0, 0) hb]; exact h.2⟩
theorem row_atc {w : World} {g off len cap : Nat} {S : List (Int × Int)} (r : Row w (some ⟨g, off, none⟩) len cap S) : ∃ cur, w.heap[g]? = some (.cells cur 31 (0, 0)) ∧ off + cap * 2 ≤ cur.size ∧ ∀ j, j < len → AtC cur off j (S.getD j (0, 0)) := by
  rcases r.pos with ⟨e, _⟩ | ⟨g', off', cur, e, h1, h2, h3⟩
  · cases e
  · cases e
    refine ⟨cur, h1, h2, fun j hj => ?_⟩
    have hl := r.length
    obtain ⟨e0, e1⟩ := tcells_get S j (by omega)
    rw [← h3] at e0 e1
    rw [List.getElem?_take_of_lt (by omega), List.getElem?_drop, Array.getElem?_toList] at e0 e1
    exact ⟨e0, by rw [Nat.add_assoc]; exact e1⟩
theorem atc_row {w : World} {g off len cap : Nat} {S : List (Int × Int)} {cur : Array Value} (hb : w.heap[g]? = some (.cells cur 31 (0, 0))) (hz : off + cap * 2 ≤ cur.size) (hl : S.length = len) (hr : len ≤ cap) (hm : cap ≤ maxLen) (hf : Fit S) (h : ∀ j, j < len → AtC cur off j (S.getD j (0, 0))) : Row w (some ⟨g, off, none⟩) len cap S := by
  refine ⟨hl, hr, hm, hf, .inr ⟨g, off, cur, rfl, hb, hz, ?_⟩⟩
  apply List.ext_getElem?
  intro j
  by_cases hj : j < len * 2
  · rw [List.getElem?_take_of_lt hj, List.getElem?_drop, Array.getElem?_toList]
    obtain ⟨v, hv⟩ : ∃ v, (tcells S)[j]? = some v := ⟨_, List.getElem?_eq_getElem (by rw [tcells_length]; omega)⟩
    rw [hv]
    refine tcells_par S (fun j => cur[off + j]?) (fun i hi => ?_) j v hv
    obtain ⟨a, b⟩ := h i (by omega)
    exact ⟨a, by rw [← Nat.add_assoc]; exact b⟩
  · rw [List.getElem?_eq_none (by rw [List.length_take]; omega), List.getElem?_eq_none (by rw [tcells_length]; omega)]
theorem comp_fit {S : List (Int × Int)} (hf : Fit S) : Fit (comp S S.length) := fun t ht => hf t (by
  have := (comp_mem S t S.length (Nat.le_refl _)).1 ht
  rwa [List.take_length] at this)
theorem clear_tags (w : World) (ty : TypeId) (g o n c : Nat) (cur : Array Value) (hb : w.heap[g]? = some (.cells cur 31 (0, 0))) (hn : 0 < n) (hfit : o + n * 2 ≤ cur.size) : ∃ Z : List Value, Z.length = n * 2 ∧ (Builtin.clear_ #[79] ty #[.slice (some ⟨g, o, none⟩) n c]).run Tryz.prog w = .ok (.tuple #[]) (w.setRow g (over cur.toList Z o).toArray) := by
  obtain ⟨i, hi, hz, hsize, _⟩ := info_parts Tryz.info31b
  refine ⟨(Builtin.zeroCells (Value.agg #[.int .i64 0, .int .i64 0]).cells n).toList, ?_, ?_⟩
  · rw [Array.length_toList, size_zeroCells]; rfl
  · have zl : (Builtin.zeroCells (Value.agg #[.int .i64 0, .int .i64 0]).cells n).toList.length = n * 2 := by rw [Array.length_toList, size_zeroCells]; rfl
    have hst := run_storeCells_at Tryz.prog g o 31 (Builtin.zeroCells (Value.agg #[.int .i64 0, .int .i64 0]).cells n).toList 0 cur w hb (by rw [zl]; simpa using hfit) (fun v hv => by
      simp [Builtin.zeroCells] at hv
      obtain ⟨k, _, rfl⟩ := hv
      have hk : k % (Value.agg #[.int .i64 0, .int .i64 0]).cells.size = 0 ∨ k % (Value.agg #[.int .i64 0, .int .i64 0]).cells.size = 1 := Nat.mod_two_eq_zero_or_one k
      rcases hk with q | q <;> rw [q] <;> rfl)
    simp only [Nat.add_zero] at hst
    obtain ⟨m, rfl⟩ : ∃ m, n = m + 1 := ⟨n - 1, by omega⟩
    simp [Builtin.clear_, run_underlying Tryz.underlying79, zeroValue, typeInfo, hi, hz, hst, over]
set_option maxRecDepth 100000 in
set_option maxHeartbeats 2000000 in
/-- slices.Compact of a list of tags. -/
theorem compact (g off len cap : Nat) (S : List (Int × Int)) (w : World) (r : Row w (some ⟨g, off, none⟩) len cap S) (hb : len * 16 ≤ 211106232532992) :
    Calls Tryz.prog 58 #[.slice (some ⟨g, off, none⟩) len cap] w fun o w' => o = .returned (.slice (some ⟨g, off, none⟩) (comp S len).length cap) ∧ Row w' (some ⟨g, off, none⟩) (comp S len).length cap (comp S len) ∧ Kept (fun k => k = g) w w' := by
  have hl := r.length
  have hr := r.room
  have hs := r.small
  have hm := hs
  unfold maxLen at hs
  have HR : Hid (Row w (some ⟨g, off, none⟩) len cap S) := r
  have same : Hid (∀ m, (∀ j, 0 < j → j < len → S.getD j (0, 0) ≠ S.getD (j - 1) (0, 0)) → (comp S len).length = len ∧ Row (w.drewN m) (some ⟨g, off, none⟩) len cap (comp S len) ∧ Kept (fun k => k = g) w (w.drewN m)) := fun m hall => by
    have e : comp S len = S := by
      rw [comp_take S len (by omega) hall, ← hl, List.take_length]
    rw [e]
    exact ⟨hl, HR.out.kept ((Kept.refl (fun _ => False) w).drewN m) (fun _ _ f => f), (Kept.refl _ w).drewN m⟩
  obtain ⟨cur0, hb0, hz0, at0⟩ := row_atc r
  have H0 : Hid (w.heap[g]? = some (.cells cur0 31 (0, 0)) ∧ off + cap * 2 ≤ cur0.size ∧ ∀ j, j < len → AtC cur0 off j (S.getD j (0, 0))) := ⟨hb0, hz0, at0⟩
  have HM : Hid (cap ≤ maxLen) := hm
  clear r hb0 hz0 at0 hm
  by_cases h2 : len < 2
  · go_enter Tryz.func58, Tryz.ntmps58
    go_wp2_with fail
    go_ret
    obtain ⟨e1, e2⟩ := same.out 0 (fun j h1 h3 => by omega)
    exact ⟨by rw [e1]; rfl, by rw [e1]; exact e2⟩
  · go_enter Tryz.func58, Tryz.ntmps58
    go_wp2_with fail
    go_loopg [3] len (fun gg s3 wr => ∃ k q : Nat, 1 ≤ k ∧ k ≤ len ∧ len - k ≤ gg ∧ s3 = .int .i64 (k : Int) ∧ wr = w.drewN q ∧ Hid (∀ j, 0 < j → j < k → S.getD j (0, 0) ≠ S.getD (j - 1) (0, 0)))
    case atStart => exact ⟨1, 0, Nat.le_refl _, by omega, by omega, rfl, rfl, fun j h1 h3 => absurd h1 (by omega)⟩
    case round =>
      obtain ⟨k, q, hk1, hk, hgg, rfl, rfl, A⟩ := hrel
      by_cases hlt : k < len
      · obtain ⟨c0, c1⟩ := (H0.out.2.2 k hlt).cells H0.out.1
        obtain ⟨d0, d1⟩ := (H0.out.2.2 (k - 1) (by omega)).cells H0.out.1
        obtain ⟨⟨x, y⟩, hx⟩ : ∃ t, S.getD k (0, 0) = t := ⟨_, rfl⟩
        obtain ⟨⟨u, v⟩, hu⟩ : ∃ t, S.getD (k - 1) (0, 0) = t := ⟨_, rfl⟩
        rw [hx] at c0 c1
        rw [hu] at d0 d1
        have X : Hid (S.getD k (0, 0) = (x, y) ∧ S.getD (k - 1) (0, 0) = (u, v)) := ⟨hx, hu⟩
        clear hx hu
        have i1 : (k : Int) < (len : Int) := by omega
        by_cases hdup : x = u ∧ y = v
        · obtain ⟨rfl, rfl⟩ := hdup
          go_wp2_with fail
          go_quiet (fail)
          go_wp2_with fail
          have H1 : Hid (CompSt w (w.drewN (q + nq)) g off cur0.size len S (k + 1) cur0 ∧ (comp S (k + 1)).length = k) := by
            have ek : comp S k = S.take k := comp_take S k (by omega) A.out
            have e : comp S (k + 1) = S.take k := by
              show comp S k ++ _ = _
              rw [if_neg (fun f => f.elim (fun z => by omega) (fun f => f (by rw [X.out.1, X.out.2]))), List.append_nil, ek]
            have el : (comp S (k + 1)).length = k := by rw [e, List.length_take]; omega
            refine ⟨⟨H0.out.1, rfl, (Kept.refl _ w).drewN _, by omega, fun j hj => ?_, fun j h1 h3 => H0.out.2.2 j h3⟩, el⟩
            have hjk : j < k := by omega
            rw [e]
            have : (S.take k).getD j (0, 0) = S.getD j (0, 0) := by
              rw [List.getD_eq_getElem?_getD, List.getElem?_take_of_lt hjk, ← List.getD_eq_getElem?_getD]
            rw [this]
            exact H0.out.2.2 j (by omega)
          clear c0 c1 d0 d1 X A
          go_loopg [3, 5] len (fun gg s3 s5 wr => ∃ (i m : Nat) (cur : Array Value), s3 = .int .i64 (i : Int) ∧ s5 = .int .i64 (m : Int) ∧ 1 ≤ m ∧ k + m ≤ len ∧ len - (k + m) ≤ gg ∧ i + 1 ≤ k + m ∧ Hid (CompSt w wr g off cur0.size len S (k + m) cur ∧ (comp S (k + m)).length = i))
          case atStart => exact ⟨k, 1, cur0, rfl, rfl, Nat.le_refl _, by omega, by omega, by omega, H1.out⟩
          case round =>
            clear H1
            obtain ⟨i, m, cur, rfl, rfl, hm1, hkm, hgg2, him, C⟩ := hrel
            by_cases hlt2 : k + m < len
            · obtain ⟨c0, c1⟩ := (C.out.1.rest (k + m) (by omega) hlt2).cells C.out.1.blk
              obtain ⟨d0, d1⟩ := (C.out.1.rest (k + (m - 1)) (by omega) (by omega)).cells C.out.1.blk
              obtain ⟨⟨x1, y1⟩, hx⟩ : ∃ t, S.getD (k + m) (0, 0) = t := ⟨_, rfl⟩
              obtain ⟨⟨u1, v1⟩, hu⟩ : ∃ t, S.getD (k + (m - 1)) (0, 0) = t := ⟨_, rfl⟩
              rw [hx] at c0 c1
              rw [hu] at d0 d1
              rw [show off + (k + m) * 2 = off + k * 2 + m * 2 by omega] at c0 c1
              rw [show off + (k + (m - 1)) * 2 = off + k * 2 + (m - 1) * 2 by omega] at d0 d1
              have X : Hid (S.getD (k + m) (0, 0) = (x1, y1) ∧ S.getD (k + m - 1) (0, 0) = (u1, v1)) := ⟨hx, by rw [show k + m - 1 = k + (m - 1) by omega]; exact hu⟩
              clear hx hu
              have i2 : (m : Int) < ((len - k : Nat) : Int) := by omega
              have hZ := H0.out.2.1
              have hcz := C.out.1.sz
              obtain ⟨o0, ho0⟩ : ∃ o, wr.cell? ⟨g, off + i * 2, none⟩ = some o := ⟨_, by rw [cell_of_row wr g _ cur 31 (0, 0) C.out.1.blk]; exact Array.getElem?_eq_getElem (by omega)⟩
              obtain ⟨o1, ho1⟩ : ∃ o, wr.cell? ⟨g, off + i * 2 + 1, none⟩ = some o := ⟨_, by rw [cell_of_row wr g _ cur 31 (0, 0) C.out.1.blk]; exact Array.getElem?_eq_getElem (by omega)⟩
              have f0 : wr.frozen? ⟨g, off + i * 2, none⟩ = false := by simp [World.frozen?, C.out.1.blk]
              have f1 : wr.frozen? ⟨g, off + i * 2 + 1, none⟩ = false := by simp [World.frozen?, C.out.1.blk]
              have ZZ : Hid (off + len * 2 ≤ cur0.size) := by show off + len * 2 ≤ cur0.size; omega
              clear hZ hcz
              have i3 : (i : Int) < (len : Int) := by omega
              by_cases hdup2 : x1 = u1 ∧ y1 = v1
              · obtain ⟨rfl, rfl⟩ := hdup2
                have C2 : Hid (∀ z, CompSt w (wr.drewN z) g off cur0.size len S (k + (m + 1)) cur ∧ (comp S (k + (m + 1))).length = i) := fun z => by
                  have := C.out.1.skip (by rw [X.out.1, X.out.2]) z
                  refine ⟨this, ?_⟩
                  have e : comp S (k + m + 1) = comp S (k + m) := by
                    show comp S (k + m) ++ _ = _
                    rw [if_neg (fun f => f.elim (fun z => by omega) (fun f => f (by rw [X.out.1, X.out.2]))), List.append_nil]
                  rw [← Nat.add_assoc, e]
                  exact C.out.2
                clear ho0 ho1 f0 f1 i3
                go_wp2_with fail
                go_quiet (fail)
                go_wp2_with fail
                go_roundg (len - (k + (m + 1)))
                case measure => omega
                case rel => exact ⟨i, m + 1, cur, rfl, by go_num, by omega, by omega, Nat.le_refl _, by omega, C2.out _⟩
              · have hne : S.getD (k + m) (0, 0) ≠ S.getD (k + m - 1) (0, 0) := by rw [X.out.1, X.out.2]; intro e; apply hdup2; simpa using e
                have C2 : Hid (∀ z, CompSt w (((wr.drewN z).setCell ⟨g, off + i * 2, none⟩ (.int .i64 x1)).setCell ⟨g, off + i * 2 + 1, none⟩ (.int .i64 y1)) g off cur0.size len S (k + (m + 1)) ((cur.setIfInBounds (off + i * 2) (.int .i64 x1)).setIfInBounds (off + i * 2 + 1) (.int .i64 y1)) ∧ (comp S (k + (m + 1))).length = i + 1) := fun z => by
                  have := C.out.1.keep hlt2 ZZ.out hne i C.out.2.symm z
                  rw [X.out.1] at this
                  exact ⟨this.2, this.1⟩
                clear hne
                by_cases hxu : x1 = u1
                · subst hxu
                  have hyv : ¬ y1 = v1 := fun e => hdup2 ⟨rfl, e⟩
                  clear hdup2
                  go_wp2_with fail
                  go_quiet (fail)
                  go_wp2_with fail
                  go_roundg (len - (k + (m + 1)))
                  case measure => omega
                  case rel => exact ⟨i + 1, m + 1, _, by go_num, by go_num, by omega, by omega, Nat.le_refl _, by omega, C2.out _⟩
                · clear hdup2
                  go_wp2_with fail
                  go_quiet (fail)
                  go_wp2_with fail
                  go_roundg (len - (k + (m + 1)))
                  case measure => omega
                  case rel => exact ⟨i + 1, m + 1, _, by go_num, by go_num, by omega, by omega, Nat.le_refl _, by omega, C2.out _⟩
            · have hend : k + m = len := by omega
              have hZ := H0.out.2.1
              have hcz := C.out.1.sz
              have hcl : ∀ ty, ∃ Z : List Value, Z.length = (len - i) * 2 ∧ (Builtin.clear_ #[79] ty #[.slice (some ⟨g, off + i * 2, none⟩) (len - i) (cap - i)]).run Tryz.prog wr = .ok (.tuple #[]) (wr.setRow g (over cur.toList Z (off + i * 2)).toArray) := fun ty => clear_tags wr ty g (off + i * 2) (len - i) (cap - i) cur C.out.1.blk (by omega) (by omega)
              obtain ⟨Z1, hz1, hc1⟩ := hcl 0
              have fin : Hid (Row (wr.setRow g (over cur.toList Z1 (off + i * 2)).toArray) (some ⟨g, off, none⟩) (comp S len).length cap (comp S len) ∧ Kept (fun k => k = g) w (wr.setRow g (over cur.toList Z1 (off + i * 2)).toArray) ∧ (comp S len).length = i) := by
                have lc : cur.toList.length = cur.size := Array.length_toList
                have hCl := C.out.2
                rw [hend] at hCl
                have hsz : (over cur.toList Z1 (off + i * 2)).toArray.size = cur.size := by
                  rw [List.size_toArray, over_length _ _ _ (by omega)]; exact lc
                refine ⟨atc_row (setRow_heap wr g cur _ 31 _ C.out.1.blk) (by rw [hsz]; omega) rfl (by omega) HM.out (by rw [← hl]; exact comp_fit HR.out.fit) (fun j hj => ?_), ⟨C.out.1.kept.os, C.out.1.kept.tape, C.out.1.kept.output, by simp; exact C.out.1.kept.size, fun z hz hne => (setRow_other wr g z _ hne).trans (C.out.1.kept.block z hz hne)⟩, hCl⟩
                have h0 := C.out.1.done j (by rw [hend]; exact hj)
                rw [hend] at h0
                have ov : ∀ z, z < off + i * 2 → (over cur.toList Z1 (off + i * 2)).toArray[z]? = cur[z]? := fun z hz => by
                  unfold over
                  rw [List.getElem?_toArray, List.append_assoc, List.getElem?_append_left (by rw [List.length_take]; omega), List.getElem?_take_of_lt hz, Array.getElem?_toList]
                exact ⟨by rw [ov _ (by omega)]; exact h0.1, by rw [ov _ (by omega)]; exact h0.2⟩
              clear hcl hZ hcz hz1
              have hi2 : i ≤ len := by omega
              have hi3 : (i : Int) ≤ (cap : Int) := by omega
              have hi4 : ¬ cap = i := by omega
              have hm2 : ¬ (m : Int) < ((len - k : Nat) : Int) := by omega
              go_wp2_with fail
              go_ret
              exact ⟨by rw [fin.out.2.2]; rfl, fin.out.1, fin.out.2.1⟩
        · have hn : S.getD k (0, 0) ≠ S.getD (k - 1) (0, 0) := by rw [X.out.1, X.out.2]; intro e; apply hdup; simpa using e
          have HN : Hid (S.getD k (0, 0) ≠ S.getD (k - 1) (0, 0)) := hn
          clear hn
          have fin : Hid (∀ j, 0 < j → j < k + 1 → S.getD j (0, 0) ≠ S.getD (j - 1) (0, 0)) := fun j h1 h3 => by
            by_cases e : j = k
            · subst e; exact HN.out
            · exact A.out j h1 (by omega)
          by_cases hxu : x = u
          · subst hxu
            have hyv : ¬ y = v := fun e => hdup ⟨rfl, e⟩
            clear hdup
            go_wp2_with fail
            go_quiet (fail)
            go_wp2_with fail
            go_roundg (len - (k + 1))
            case measure => omega
            case rel => exact ⟨k + 1, q + nq, by omega, by omega, Nat.le_refl _, by go_num, rfl, fin.out⟩
          · clear hdup
            go_wp2_with fail
            go_quiet (fail)
            go_wp2_with fail
            go_roundg (len - (k + 1))
            case measure => omega
            case rel => exact ⟨k + 1, q + nq, by omega, by omega, Nat.le_refl _, by go_num, rfl, fin.out⟩
      · obtain rfl : k = len := by omega
        go_wp2_with fail
        go_ret
        obtain ⟨e1, e2⟩ := same.out q A.out
        exact ⟨by rw [e1]; rfl, by rw [e1]; exact e2⟩
set_option maxRecDepth 100000 in
theorem compact_nil (w : World) : Calls Tryz.prog 58 #[.slice none 0 0] w fun o w' => o = .returned (.slice none 0 0) ∧ w' = w := by
  go_enter Tryz.func58, Tryz.ntmps58
  go_wp2_with fail
  go_ret
  exact ⟨rfl, rfl⟩
end Go.Proofs.YtojepeefphbekabGreat
