import Derived.Test.YtojepeefphbekabGreatCuts
import Derived.Shelf.Spec.SlicesInsertGrow
namespace Go.Proofs.YtojepeefphbekabGreat
open Go.RowKit

/-- What stands in a block behind a copy into it. -/
def over (L N : List Value) (o : Nat) : List Value := L.take o ++ N ++ L.drop (o + N.length)
theorem over_length (L N : List Value) (o : Nat) (h : o + N.length ≤ L.length) : (over L N o).length = L.length := by
  unfold over
  simp only [List.length_append, List.length_take, List.length_drop]
  omega
theorem copy_tags (w : World) (ty : TypeId) (b o dLen dCap : Nat) (a : Addr) (sLen sCap : Nat) (N : List Value) (cur : Array Value) (hb : w.heap[b]? = some (.cells cur 31 (0, 0))) (hn : N.length = Nat.min sLen dLen * 2)
    (hsrc : ∀ j v, N[j]? = some v → w.cell? (a.add j) = some v) (hfit : o + N.length ≤ cur.size) (h1 : ∀ v ∈ N, v.oneCell' = true) :
    (Builtin.copy_ #[79, 79] ty #[.slice (some ⟨b, o, none⟩) dLen dCap, .slice (some a) sLen sCap]).run Tryz.prog w = .ok (goInt (Nat.min sLen dLen)) (w.setRow b (over cur.toList N o).toArray) := by
  obtain ⟨i, hi, _, hsize, _⟩ := info_parts Tryz.info31b
  have hl := run_loadCells_list (P := Tryz.prog) w a N hsrc
  rw [hn] at hl
  have hst := run_storeCells_at Tryz.prog b o 31 N 0 cur w hb (by simpa using hfit) h1
  simp only [Nat.add_zero] at hst
  simp [Builtin.copy_, run_underlying Tryz.underlying79, Builtin.lenOf, Builtin.firstCells, sizeOf, typeInfo, hi, hsize, hl, hst, over]
/-- The block of a list with a tag put into it, in place. -/
theorem over_room (L T1 T2 N : List Value) (off k2 : Nat) (hL : (L.drop off).take (k2 + T2.length) = T1 ++ T2) (h1 : T1.length = k2) (hN : N.length = 2) (hl : off + k2 + T2.length + 2 ≤ L.length) :
    ((over (over L T2 (off + (k2 + 2))) N (off + k2)).drop off).take (k2 + 2 + T2.length) = T1 ++ N ++ T2 := by
  have e1 : over L T2 (off + (k2 + 2)) = L.take (off + (k2 + 2)) ++ T2 ++ L.drop (off + (k2 + 2) + T2.length) := rfl
  have hA : (L.take (off + (k2 + 2))).length = off + (k2 + 2) := by rw [List.length_take]; omega
  have e2 : over (over L T2 (off + (k2 + 2))) N (off + k2) = L.take (off + k2) ++ N ++ (T2 ++ L.drop (off + (k2 + 2) + T2.length)) := by
    unfold over
    rw [hN]
    congr 1
    · congr 1
      rw [List.append_assoc, List.take_append_of_le_length (by omega), List.take_take]
      congr 1
      omega
    · rw [show off + k2 + 2 = (L.take (off + (k2 + 2))).length by omega, List.append_assoc, List.drop_left]
  rw [e2, List.append_assoc, List.drop_append_of_le_length (by rw [List.length_take]; omega), List.drop_take, show off + k2 - off = k2 by omega]
  have e3 : (L.drop off).take k2 = T1 := by
    have := congrArg (List.take k2) hL
    rw [List.take_take, Nat.min_eq_left (by omega), List.take_append_of_le_length (by omega), List.take_of_length_le (l := T1) (by omega)] at this
    exact this
  rw [e3, ← List.append_assoc, ← List.append_assoc]
  rw [show k2 + 2 + T2.length = (T1 ++ N ++ T2).length by simp only [List.length_append]; omega]
  exact List.take_left
/-- A new block with a tag put into it. -/
theorem over_new (Z T1 T2 N : List Value) :
    (over (over (T1 ++ Z) N T1.length) T2 (T1.length + N.length)).take (T1.length + N.length + T2.length) = T1 ++ N ++ T2 := by
  have e : (over (T1 ++ Z) N T1.length).take (T1.length + N.length) = T1 ++ N := by
    unfold over
    rw [List.take_left, show T1.length + N.length = (T1 ++ N).length by simp, List.take_left]
  have e2 : over (over (T1 ++ Z) N T1.length) T2 (T1.length + N.length) = T1 ++ N ++ T2 ++ (over (T1 ++ Z) N T1.length).drop (T1.length + N.length + T2.length) := by
    rw [over, e]
  rw [e2, show T1.length + N.length + T2.length = (T1 ++ N ++ T2).length by simp only [List.length_append]]
  exact List.take_left
/-- What Insert leaves: the list with the tag put into it. -/
def InsIs (w w' : World) (q q' : Option Addr) (len c' : Nat) (S : List (Int × Int)) (k : Nat) (x y : Int) : Prop :=
  Row w' q' (len + 1) c' (S.take k ++ (x, y) :: S.drop k) ∧ w.grownBy w' (blockOf q) ∧ (blockOf q' = blockOf q ∨ blockOf q' = some w.heap.size)
theorem fit_put {S : List (Int × Int)} (hS : Fit S) {x y : Int} (ht : Fit [(x, y)]) (k : Nat) : Fit (S.take k ++ (x, y) :: S.drop k) := fun t h => by
  rcases List.mem_append.1 h with m | m
  · exact hS t (List.mem_of_mem_take m)
  · rcases List.mem_cons.1 m with m | m
    · exact ht t (by rw [m]; exact List.mem_cons_self ..)
    · exact hS t (List.mem_of_mem_drop m)
set_option maxRecDepth 100000 in
set_option maxHeartbeats 2000000 in
/-- slices.Insert of one tag: at the end. -/
theorem insert_end (q : Option Addr) (len cap : Nat) (S : List (Int × Int)) (x y : Int) (vb : Nat) (w : World) (r : Row w q len cap S) (T : TagAt w vb x y) (hf : Fit [(x, y)]) (hb : (len + 1) * 16 ≤ 211106232532992) :
    Calls Tryz.prog 61 #[.slice q len cap, .int .i64 (len : Int), .slice (some ⟨vb, 0, none⟩) 1 1] w fun o w' => ∃ q' c', o = .returned (.slice q' (len + 1) c') ∧ InsIs w w' q q' len c' S len x y := by
  have hl := r.length
  have hr := r.room
  have hs := r.small
  unfold maxLen at hs
  obtain ⟨t0, t1, _, _⟩ := T.facts
  obtain ⟨p0, c0, sl, _, _⟩ := row_from r len (Nat.le_refl _)
  have HR : Hid (Row w q len cap S ∧ Fit [(x, y)]) := ⟨r, hf⟩
  clear r T hf
  go_enter Tryz.func61, Tryz.ntmps61
  go_wp2_with (first | (at_builtin; refine wpList_append_row _ rfl (.tmp 23) (.tmp 24) rfl q len cap S rfl HR.out.1 vb (x, y) HR.out.2 rfl t0 t1 hb ?_; intro q5 c5 w5 ho hg hn) | fail)
  go_ret
  refine ⟨q5, c5, rfl, ?_, hg.out, ?_⟩
  · rw [List.take_of_length_le (by omega), List.drop_of_length_le (by omega)]
    exact ho.out
  · rcases hn.out with rfl | rfl
    · exact .inl rfl
    · exact .inr rfl
set_option maxRecDepth 100000 in
set_option maxHeartbeats 800000 in
/-- slices.Insert of one tag: in place. -/
theorem insert_room (g off : Nat) (len cap : Nat) (S : List (Int × Int)) (x y : Int) (k vb : Nat) (w : World) (r : Row w (some ⟨g, off, none⟩) len cap S) (T : TagAt w vb x y) (hf : Fit [(x, y)]) (hk : k < len) (hroom : len + 1 ≤ cap) (hvb : vb ≠ g) :
    Calls Tryz.prog 61 #[.slice (some ⟨g, off, none⟩) len cap, .int .i64 (k : Int), .slice (some ⟨vb, 0, none⟩) 1 1] w fun o w' => ∃ q' c', o = .returned (.slice q' (len + 1) c') ∧ InsIs w w' (some ⟨g, off, none⟩) q' len c' S k x y := by
  have hl := r.length
  have hs := r.small
  unfold maxLen at hs
  obtain ⟨cur, hg, hz, ht⟩ : ∃ cur, w.heap[g]? = some (.cells cur 31 (0, 0)) ∧ off + cap * 2 ≤ cur.size ∧ (cur.toList.drop off).take (len * 2) = tcells S := by
    rcases r.pos with ⟨e, _⟩ | ⟨g', off', cur, e, h1, h2, h3⟩
    · cases e
    · cases e; exact ⟨cur, h1, h2, h3⟩
  have hov : ∀ lb cb, (callFunc 72 #[.slice (some ⟨vb, 0, none⟩) 1 1, .slice (some ⟨g, off + (k + 1) * 2, none⟩) lb cb]).run Tryz.prog w = .ok (.value (.bool false)) w := fun lb cb => by
    rw [run_callFunc_extern Tryz.func72 (by kernel_rfl) (by kernel_rfl) (by kernel_rfl) (e := Extern.SlicesOverlaps.overlaps #[79, 79] #[4]) (by kernel_rfl),
      Lib.run_overlaps_apart w 79 4 31 Tryz.underlying79 2 Tryz.sizeOf31 ⟨vb, 0, none⟩ ⟨g, off + (k + 1) * 2, none⟩ 1 1 lb cb hvb 31 31 2 cur.size (by simp [World.shape?, T.blk]) (by simp [World.shape?, hg]) (by omega) (by simp [World.frozen?, T.blk]) (by simp [World.frozen?, T.blk])]
    rfl
  have hT : tcells S = tcells (S.take k) ++ tcells (S.drop k) := by rw [← tcells_append, List.take_append_drop]
  have lc : cur.toList.length = cur.size := Array.length_toList
  have l2 : (tcells (S.drop k)).length = (len - k) * 2 := by rw [tcells_length, List.length_drop, hl]
  have l1 : (tcells (S.take k)).length = k * 2 := by rw [tcells_length, List.length_take, hl]; omega
  have src1 : ∀ j v, (tcells (S.drop k))[j]? = some v → w.cell? ((⟨g, off + k * 2, none⟩ : Addr).add j) = some v := fun j v hj => by
    rw [Addr.add_none, Nat.add_assoc]
    refine Row.cell hg ht hl _ v ?_
    rw [hT, List.getElem?_append_right (by omega), l1, show k * 2 + j - k * 2 = j by omega]
    exact hj
  obtain ⟨cur1, hcur1⟩ : ∃ cur1, cur1 = (over cur.toList (tcells (S.drop k)) (off + (k + 1) * 2)).toArray := ⟨_, rfl⟩
  have hcp1 : ∀ ty dL dc sL sc, dL = len - k → sL = len + 1 - k → (Builtin.copy_ #[79, 79] ty #[.slice (some ⟨g, off + (k + 1) * 2, none⟩) dL dc, .slice (some ⟨g, off + k * 2, none⟩) sL sc]).run Tryz.prog w.drew = .ok (goInt (Nat.min sL dL)) (w.drew.setRow g cur1) := fun ty dL dc sL sc e1 e2 => by
    rw [hcur1]
    refine copy_tags w.drew ty g (off + (k + 1) * 2) dL dc ⟨g, off + k * 2, none⟩ sL sc (tcells (S.drop k)) cur hg ?_ src1 ?_ (tcells_one _)
    · rw [l2, e1, e2]
      simp only [Nat.min_def]
      split <;> omega
    · omega
  have z1 : cur1.size = cur.size := by
    rw [hcur1, List.size_toArray, over_length _ _ _ (by omega)]; exact lc
  have lc1 : cur1.toList.length = cur1.size := Array.length_toList
  have hg1 : (w.drew.setRow g cur1).heap[g]? = some (.cells cur1 31 (0, 0)) := setRow_heap w.drew g cur _ 31 _ hg
  have T1 : TagAt (w.drew.setRow g cur1) vb x y := ⟨(setRow_other w.drew g vb _ hvb).trans T.blk⟩
  have hcp2 : ∀ ty dL dc, dL = len + 1 - k → (Builtin.copy_ #[79, 79] ty #[.slice (some ⟨g, off + k * 2, none⟩) dL dc, .slice (some ⟨vb, 0, none⟩) 1 1]).run Tryz.prog (w.drew.setRow g cur1) = .ok (goInt (Nat.min 1 dL)) ((w.drew.setRow g cur1).setRow g (over cur1.toList (tcells [(x, y)]) (off + k * 2)).toArray) := fun ty dL dc e1 => by
    have ln : (tcells [(x, y)]).length = 2 := rfl
    refine copy_tags _ ty g (off + k * 2) dL dc ⟨vb, 0, none⟩ 1 1 (tcells [(x, y)]) cur1 hg1 ?_ (fun j v hj => ?_) ?_ (tcells_one _)
    · rw [ln, e1]
      simp only [Nat.min_def]
      split <;> omega
    · rw [Addr.add_none]
      have e9 : tcells [(x, y)] = [.int .i64 x, .int .i64 y] := rfl
      rw [e9] at hj
      match j, hj with
      | 0, hj => simp at hj; subst hj; exact T1.facts.1
      | 1, hj => simp at hj; subst hj; exact T1.facts.2.1
      | j + 2, hj => simp at hj
    · omega
  have fin : Hid (InsIs w ((w.drew.setRow g cur1).setRow g (over cur1.toList (tcells [(x, y)]) (off + k * 2)).toArray) (some ⟨g, off, none⟩) (some ⟨g, off, none⟩) len cap S k x y) := by
    have ln : (tcells [(x, y)]).length = 2 := rfl
    refine ⟨⟨by simp only [List.length_append, List.length_cons, List.length_take, List.length_drop]; omega, hroom, r.small, fit_put r.fit hf k, .inr ⟨g, off, _, rfl, setRow_heap _ g cur1 _ 31 _ hg1, ?_, ?_⟩⟩, ⟨rfl, rfl, rfl, by simp, fun j _ hj => ?_⟩, .inl rfl⟩
    · rw [List.size_toArray, over_length _ _ _ (by omega)]; omega
    · rw [show S.take k ++ (x, y) :: S.drop k = S.take k ++ [(x, y)] ++ S.drop k by simp, tcells_append, tcells_append]
      have := over_room cur.toList (tcells (S.take k)) (tcells (S.drop k)) (tcells [(x, y)]) off (k * 2) (by rw [← hT, ← ht]; congr 1; omega) l1 ln (by omega)
      rw [← this, hcur1]
      simp only [show (k + 1) * 2 = k * 2 + 2 by omega]
      congr 1
      omega
    · have hj' : j ≠ g := fun e => hj (by rw [e]; rfl)
      exact (setRow_other _ g j _ hj').trans (setRow_other w.drew g j _ hj')
  obtain ⟨cur2, hcur2⟩ : ∃ cur2, cur2 = (over cur1.toList (tcells [(x, y)]) (off + k * 2)).toArray := ⟨_, rfl⟩
  rw [← hcur2] at hcp2 fin
  have OV : Hid (∀ lb cb, (callFunc 72 #[.slice (some ⟨vb, 0, none⟩) 1 1, .slice (some ⟨g, off + (k + 1) * 2, none⟩) lb cb]).run Tryz.prog w = .ok (.value (.bool false)) w) := hov
  have CP1 : Hid (∀ ty dL dc sL sc, dL = len - k → sL = len + 1 - k → (Builtin.copy_ #[79, 79] ty #[.slice (some ⟨g, off + (k + 1) * 2, none⟩) dL dc, .slice (some ⟨g, off + k * 2, none⟩) sL sc]).run Tryz.prog w.drew = .ok (goInt (Nat.min sL dL)) (w.drew.setRow g cur1)) := hcp1
  have CP2 : Hid (∀ ty dL dc, dL = len + 1 - k → (Builtin.copy_ #[79, 79] ty #[.slice (some ⟨g, off + k * 2, none⟩) dL dc, .slice (some ⟨vb, 0, none⟩) 1 1]).run Tryz.prog (w.drew.setRow g cur1) = .ok (goInt (Nat.min 1 dL)) ((w.drew.setRow g cur1).setRow g cur2)) := hcp2
  have hw1 : IntKind.i64.wrap ((k : Int) + 1) = (k : Int) + 1 := by rw [IntKind.wrap_i64]; omega
  have hin : k ≤ len := by omega
  have hb1 : (0 : Int) ≤ (k : Int) + 1 := by omega
  have hb3 : (k : Int) ≤ (len : Int) + 1 := by omega
  have hb5 : (0 : Int) ≤ (len : Int) + 1 := by omega
  have htn : ((k : Int) + 1).toNat = k + 1 := by omega
  have hb2 : ¬ (cap = k + 1) := by omega
  have hb4 : ¬ (cap = k) := by omega
  have hz2 : ¬ ((k : Int) = (len : Int)) := by omega
  clear hov hcp1 hcp2 T1 hg1 z1 lc lc1 hcur1 hcur2 src1 l1 l2 hT hg hz ht r T hf
  go_enter Tryz.func61, Tryz.ntmps61
  go_wp2_with (simp only [OV.out])
  go_region_law (first | (refine step_copy_runI (by rfl) (.tmp 73) (.tmp 76) 79 79 (by rfl) (.slice (some ⟨g, off + (k + 1) * 2, none⟩) (len - k) (cap - (k + 1))) (.slice (some ⟨g, off + k * 2, none⟩) (len + 1 - k) (cap - k)) (by simp [Act.eval, Act.put]) (by simp [Act.eval, Act.put]) (CP1.out 3 (len - k) (cap - (k + 1)) (len + 1 - k) (cap - k) rfl rfl) ?_) | fail)
  have c2 := CP2.out 3 (len + 1 - k) (cap - k) rfl
  go_wp2_with fail
  go_ret
  exact ⟨_, _, rfl, fin.out⟩
set_option maxRecDepth 100000 in
set_option maxHeartbeats 800000 in
/-- slices.Insert of one tag: a new block. -/
theorem insert_grow (g off : Nat) (len cap : Nat) (S : List (Int × Int)) (x y : Int) (k vb : Nat) (w : World) (r : Row w (some ⟨g, off, none⟩) len cap S) (T : TagAt w vb x y) (hf : Fit [(x, y)]) (hk : k < len) (hroom : cap < len + 1) (hb : (len + 1) * 16 ≤ 211106232532992) :
    Calls Tryz.prog 61 #[.slice (some ⟨g, off, none⟩) len cap, .int .i64 (k : Int), .slice (some ⟨vb, 0, none⟩) 1 1] w fun o w' => ∃ q' c', o = .returned (.slice q' (len + 1) c') ∧ InsIs w w' (some ⟨g, off, none⟩) q' len c' S k x y := by
  have hl := r.length
  have hs := r.small
  have hlc := r.room
  unfold maxLen at hs
  obtain ⟨cur, hg, hz, ht⟩ : ∃ cur, w.heap[g]? = some (.cells cur 31 (0, 0)) ∧ off + cap * 2 ≤ cur.size ∧ (cur.toList.drop off).take (len * 2) = tcells S := by
    rcases r.pos with ⟨e, _⟩ | ⟨g', off', cur, e, h1, h2, h3⟩
    · cases e
    · cases e; exact ⟨cur, h1, h2, h3⟩
  obtain ⟨i, hi, hzz, hsize, hby⟩ := info_parts Tryz.info31b
  have lg : g < w.heap.size := block_lt hg
  have lv : vb < w.heap.size := T.lt
  have hT : tcells S = tcells (S.take k) ++ tcells (S.drop k) := by rw [← tcells_append, List.take_append_drop]
  have l2 : (tcells (S.drop k)).length = (len - k) * 2 := by rw [tcells_length, List.length_drop, hl]
  have l1 : (tcells (S.take k)).length = k * 2 := by rw [tcells_length, List.length_take, hl]; omega
  have ln : (tcells [(x, y)]).length = 2 := rfl
  have hold : (Builtin.firstCells i.size k (.slice (some ⟨g, off, none⟩) k cap)).run Tryz.prog w.drew = .ok (tcells (S.take k)).toArray w.drew := by
    rw [hsize]
    refine run_firstCells_some w.drew 2 k ⟨g, off, none⟩ k cap (tcells (S.take k)) l1 (fun j v hj => ?_)
    rw [Addr.add_none]
    refine Row.cell hg ht hl _ v ?_
    rw [hT, List.getElem?_append_left (by have := (List.getElem?_eq_some_iff.1 hj).1; omega)]
    exact hj
  obtain ⟨G, hG⟩ : ∃ G, G = grownCap w (len + 1) cap 31 := ⟨_, rfl⟩
  have hGn : len + 1 ≤ G := by rw [hG]; exact grownCap_ge w _ _ _
  have hGm : G ≤ maxLen := by rw [hG]; exact grownCap_le_maxLen w (len + 1) cap 31 (by unfold maxLen; omega)
  have hG63 : G ≤ 9223372036854775807 := by unfold maxLen at hGm; omega
  obtain ⟨Z, hZ, hZl⟩ : ∃ Z : List Value, (∀ ty, (Builtin.append_ #[79, 3] ty #[.slice (some ⟨g, off, none⟩) k cap, .int .i64 ((len : Int) + 1 - (k : Int))]).run Tryz.prog w = .ok (.slice (some ⟨w.heap.size, 0, none⟩) (len + 1) G) (w.drew.alloc (.cells (tcells (S.take k) ++ Z).toArray 31))) ∧ k * 2 + Z.length = G * 2 := by
    have hkk : (len : Int) + 1 - (k : Int) = ((len + 1 - k : Nat) : Int) := by omega
    refine ⟨(Builtin.zeroCells (Value.agg #[.int .i64 0, .int .i64 0]).cells (len + 1 - k) ++ Builtin.zeroCells (Value.agg #[.int .i64 0, .int .i64 0]).cells (G - (len + 1))).toList, fun ty => ?_, ?_⟩
    · have h := Lib.run_append_grow_zeros w 79 3 ty 31 i _ .i64 .i64 Tryz.underlying79 Tryz.underlying3 hi hzz (some ⟨g, off, none⟩) k cap (tcells (S.take k)) hold (len + 1 - k) (by omega) (by omega) (by omega) (by omega) (by rw [hby]; omega) (by rw [hby, show k + (len + 1 - k) = len + 1 by omega]; exact growslice_fits_wide (by omega) (wide16 hb))
      rw [show k + (len + 1 - k) = len + 1 by omega, ← hG] at h
      rw [hkk, h]
      congr 3
      apply Array.ext'
      simp
    · have z2 : (Value.agg #[.int .i64 0, .int .i64 0]).cells.size = 2 := rfl
      rw [Array.length_toList, Array.size_append, size_zeroCells, size_zeroCells, z2]
      omega
  clear hold
  obtain ⟨N, hN⟩ : ∃ N, N = w.heap.size := ⟨_, rfl⟩
  obtain ⟨W1, hW1⟩ : ∃ W1, W1 = w.drew.alloc (.cells (tcells (S.take k) ++ Z).toArray 31) := ⟨_, rfl⟩
  have hgN : W1.heap[N]? = some (.cells (tcells (S.take k) ++ Z).toArray 31 (0, 0)) := by rw [hN, hW1]; exact heap_alloc_new w.drew _
  have old : ∀ j, j < N → W1.heap[j]? = w.heap[j]? := fun j hj => by rw [hW1]; exact _root_.Go.heap_alloc_old w.drew _ (by rw [hN] at hj; exact hj)
  have sizeR : (tcells (S.take k) ++ Z).length = G * 2 := by rw [List.length_append]; omega
  have szR : (tcells (S.take k) ++ Z).toArray.size = G * 2 := by rw [List.size_toArray]; exact sizeR
  obtain ⟨R1, hR1⟩ : ∃ R1, R1 = (over (tcells (S.take k) ++ Z) (tcells [(x, y)]) (k * 2)).toArray := ⟨_, rfl⟩
  have szR1 : R1.size = G * 2 := by rw [hR1, List.size_toArray, over_length _ _ _ (by omega)]; exact sizeR
  have T1 : TagAt W1 vb x y := ⟨(old vb (by omega)).trans T.blk⟩
  have c1 : (Builtin.copy_ #[79, 79] 3 #[.slice (some ⟨N, k * 2, none⟩) (len + 1 - k) (G - k), .slice (some ⟨vb, 0, none⟩) 1 1]).run Tryz.prog W1 = .ok (goInt (Nat.min 1 (len + 1 - k))) (W1.setRow N R1) := by
    rw [hR1]
    refine copy_tags W1 3 N (k * 2) (len + 1 - k) (G - k) ⟨vb, 0, none⟩ 1 1 (tcells [(x, y)]) _ hgN ?_ (fun j v hj => ?_) ?_ (tcells_one _)
    · rw [ln]
      simp only [Nat.min_def]
      split <;> omega
    · rw [Addr.add_none]
      have e9 : tcells [(x, y)] = [.int .i64 x, .int .i64 y] := rfl
      rw [e9] at hj
      match j, hj with
      | 0, hj => simp at hj; subst hj; exact T1.facts.1
      | 1, hj => simp at hj; subst hj; exact T1.facts.2.1
      | j + 2, hj => simp at hj
    · show k * 2 + _ ≤ (tcells (S.take k) ++ Z).toArray.size
      rw [szR]
      omega
  have hgN2 : (W1.setRow N R1).drew.heap[N]? = some (.cells R1 31 (0, 0)) := setRow_heap W1 N _ _ 31 _ hgN
  have hgg : (W1.setRow N R1).drew.heap[g]? = some (.cells cur 31 (0, 0)) := (setRow_other W1 N g _ (by omega)).trans ((old g (by omega)).trans hg)
  have CP2 : Hid (∀ dL dc, dL = len - k → (Builtin.copy_ #[79, 79] 3 #[.slice (some ⟨N, (k + 1) * 2, none⟩) dL dc, .slice (some ⟨g, off + k * 2, none⟩) (len - k) (cap - k)]).run Tryz.prog (W1.setRow N R1).drew = .ok (goInt (Nat.min (len - k) dL)) ((W1.setRow N R1).drew.setRow N (over R1.toList (tcells (S.drop k)) ((k + 1) * 2)).toArray)) := fun dL dc e1 => by
    refine copy_tags (W1.setRow N R1).drew 3 N ((k + 1) * 2) dL dc ⟨g, off + k * 2, none⟩ (len - k) (cap - k) (tcells (S.drop k)) R1 hgN2 ?_ (fun j v hj => ?_) (by omega) (tcells_one _)
    · rw [l2, e1]
      simp only [Nat.min_def]
      split <;> omega
    · rw [Addr.add_none, Nat.add_assoc]
      refine Row.cell hgg ht hl _ v ?_
      rw [hT, List.getElem?_append_right (by omega), l1, show k * 2 + j - k * 2 = j by omega]
      exact hj
  have fin : Hid (InsIs w ((W1.setRow N R1).drew.setRow N (over R1.toList (tcells (S.drop k)) ((k + 1) * 2)).toArray) (some ⟨g, off, none⟩) (some ⟨N, 0, none⟩) len G S k x y) := by
    have lR : R1.toList.length = R1.size := Array.length_toList
    refine ⟨⟨by simp only [List.length_append, List.length_cons, List.length_take, List.length_drop]; omega, hGn, hGm, fit_put r.fit hf k, .inr ⟨N, 0, _, rfl, setRow_heap _ N R1 _ 31 _ hgN2, ?_, ?_⟩⟩, ⟨?_, ?_, ?_, ?_, fun j hj _ => ?_⟩, .inr (by rw [hN]; rfl)⟩
    · rw [List.size_toArray, over_length _ _ _ (by omega)]; omega
    · rw [show S.take k ++ (x, y) :: S.drop k = S.take k ++ [(x, y)] ++ S.drop k by simp, tcells_append, tcells_append]
      have := over_new Z (tcells (S.take k)) (tcells (S.drop k)) (tcells [(x, y)])
      rw [← this, hR1, l1, ln, List.drop_zero]
      simp only [show (k + 1) * 2 = k * 2 + 2 by omega]
      congr 1
      omega
    · rw [hW1]; rfl
    · rw [hW1]; rfl
    · rw [hW1]; rfl
    · show w.heap.size ≤ _
      rw [hW1]
      simp
    · have hj' : j ≠ N := by omega
      exact (setRow_other _ N j _ hj').trans ((setRow_other W1 N j _ hj').trans (old j (by omega)))
  obtain ⟨R2, hR2⟩ : ∃ R2, R2 = (over R1.toList (tcells (S.drop k)) ((k + 1) * 2)).toArray := ⟨_, rfl⟩
  rw [← hR2] at CP2 fin
  rw [← hW1, ← hN] at hZ
  have CZ : Hid (∀ ty, (Builtin.append_ #[79, 3] ty #[.slice (some ⟨g, off, none⟩) k cap, .int .i64 ((len : Int) + 1 - (k : Int))]).run Tryz.prog w = .ok (.slice (some ⟨N, 0, none⟩) (len + 1) G) W1) := hZ
  have hw1 : IntKind.i64.wrap ((k : Int) + 1) = (k : Int) + 1 := by rw [IntKind.wrap_i64]; omega
  have hin : k ≤ len := by omega
  have hb1 : (0 : Int) ≤ (k : Int) + 1 := by omega
  have hb3 : (k : Int) ≤ (len : Int) + 1 := by omega
  have hb5 : (0 : Int) ≤ (len : Int) + 1 := by omega
  have htn : ((k : Int) + 1).toNat = k + 1 := by omega
  have hb2 : ¬ (G = k + 1) := by omega
  have hb4 : ¬ (cap = k) := by omega
  have hb6 : ¬ (G = k) := by omega
  have hz2 : ¬ ((k : Int) = (len : Int)) := by omega
  have hz3 : (cap : Int) < (len : Int) + 1 := by omega
  clear hZ T1 hgN hgN2 hgg szR szR1 sizeR hR1 hR2 old l1 l2 ln hT hg hz ht r T hf hi hzz hsize hby hG hGm hZl hW1 hN lg lv
  go_enter Tryz.func61, Tryz.ntmps61
  go_wp2_with (first | (at_builtin; refine Lib.wpList_append_run _ rfl (.tmp 34) (.tmp 39) 79 3 rfl (.slice (some ⟨g, off, none⟩) k cap) (.int .i64 ((len : Int) + 1 - (k : Int))) rfl rfl _ _ (CZ.out _) ?_) | fail)
  go_region_law (first | (refine step_copy_runI (by rfl) (.tmp 50) (.tmp 53) 79 79 (by rfl) (.slice (some ⟨N, (k + 1) * 2, none⟩) (len - k) (G - (k + 1))) (.slice (some ⟨g, off + k * 2, none⟩) (len - k) (cap - k)) (by simp [Act.eval, Act.put]) (by simp [Act.eval, Act.put]) (CP2.out (len - k) (G - (k + 1)) rfl) ?_) | fail)
  go_wp2_with fail
  go_ret
  exact ⟨_, _, rfl, fin.out⟩
/-- slices.Insert of one tag. -/
theorem insert (q : Option Addr) (len cap : Nat) (S : List (Int × Int)) (x y : Int) (k vb : Nat) (w : World) (r : Row w q len cap S) (T : TagAt w vb x y) (hf : Fit [(x, y)]) (hk : k ≤ len) (hvb : blockOf q ≠ some vb) (hb : (len + 1) * 16 ≤ 211106232532992) :
    Calls Tryz.prog 61 #[.slice q len cap, .int .i64 (k : Int), .slice (some ⟨vb, 0, none⟩) 1 1] w fun o w' => ∃ q' c', o = .returned (.slice q' (len + 1) c') ∧ InsIs w w' q q' len c' S k x y := by
  by_cases he : k = len
  · subst he
    exact insert_end q k cap S x y vb w r T hf hb
  · rcases r.pos with ⟨_, hc⟩ | ⟨g, off, cur, rfl, _⟩
    · have := r.room; omega
    · by_cases hroom : len + 1 ≤ cap
      · exact insert_room g off len cap S x y k vb w r T hf (by omega) hroom (fun e => hvb (by rw [e]; rfl))
      · exact insert_grow g off len cap S x y k vb w r T hf (by omega) (by omega) hb
end Go.Proofs.YtojepeefphbekabGreat
