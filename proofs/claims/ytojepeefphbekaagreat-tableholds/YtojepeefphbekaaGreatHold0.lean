import Derived.Test.YtojepeefphbekaaGreatExp2
namespace Go.Proofs.YtojepeefphbekaaGreat
open Go.RowKit 

structure HS (w5 wr : World) (TP FP : Nat) (tv fv : Int × Int) : Prop where
  top : wr.heap[TP]? = some (.cells #[.int .i64 tv.1, .int .i64 tv.2] 37 (0, 0))
  flo : wr.heap[FP]? = some (.cells #[.int .i64 fv.1, .int .i64 fv.2] 37 (0, 0))
  kept : Kept (fun _ => False) w5 wr
  lo : w5.heap.size ≤ TP ∧ w5.heap.size ≤ FP ∧ TP ≠ FP
theorem HS.k0 {w5 wr w' : World} {TP FP : Nat} {tv fv : Int × Int} (h : HS w5 wr TP FP tv fv) (K : Kept (fun _ => False) wr w') : HS w5 w' TP FP tv fv := ⟨K.get h.top (fun z => z), K.get h.flo (fun z => z), h.kept.and0 K, h.lo⟩
theorem HS.setT {w5 wr : World} {TP FP : Nat} {tv fv : Int × Int} (h : HS w5 wr TP FP tv fv) (x y : Int) : HS w5 ((wr.setCell ⟨TP, 0, none⟩ (.int .i64 x)).setCell ⟨TP, 1, none⟩ (.int .i64 y)) TP FP (x, y) fv := by
  have K : Kept (fun k => k = TP) wr ((wr.setCell ⟨TP, 0, none⟩ (.int .i64 x)).setCell ⟨TP, 1, none⟩ (.int .i64 y)) := ((Kept.refl (fun k => k = TP) wr).setCell (p := ⟨TP, 0, none⟩) (fun _ => rfl) _).setCell (p := ⟨TP, 1, none⟩) (fun _ => rfl) _
  refine ⟨set2 h.top _ _, K.get h.flo h.lo.2.2.symm, h.kept.trans K (fun j hj z => ?_), h.lo⟩
  have z : j = TP := z
  have := h.lo
  omega
theorem HS.setF {w5 wr : World} {TP FP : Nat} {tv fv : Int × Int} (h : HS w5 wr TP FP tv fv) (x y : Int) : HS w5 ((wr.setCell ⟨FP, 0, none⟩ (.int .i64 x)).setCell ⟨FP, 1, none⟩ (.int .i64 y)) TP FP tv (x, y) := by
  have K : Kept (fun k => k = FP) wr ((wr.setCell ⟨FP, 0, none⟩ (.int .i64 x)).setCell ⟨FP, 1, none⟩ (.int .i64 y)) := ((Kept.refl (fun k => k = FP) wr).setCell (p := ⟨FP, 0, none⟩) (fun _ => rfl) _).setCell (p := ⟨FP, 1, none⟩) (fun _ => rfl) _
  refine ⟨K.get h.top h.lo.2.2, set2 h.flo _ _, h.kept.trans K (fun j hj z => ?_), h.lo⟩
  have z : j = FP := z
  have := h.lo
  omega
theorem getD_snoc (F : List (Int × Int)) (g : Int × Int) (D : Nat) : (F ++ [g]).getD D (0, 0) = if F.length = D then g else F.getD D (0, 0) := by
  rw [List.getD_eq_getElem?_getD, List.getD_eq_getElem?_getD]
  by_cases h : F.length = D
  · rw [if_pos h, List.getElem?_append_right (by omega), ← h, Nat.sub_self]
    rfl
  · rw [if_neg h]
    by_cases h2 : D < F.length
    · rw [List.getElem?_append_left h2]
    · rw [List.getElem?_eq_none (by rw [List.length_append]; show F.length + 1 ≤ D; omega), List.getElem?_eq_none (by omega)]
/-- What was seen of a list of entries. -/
structure Seen (es : List Ev) (i D q : Nat) (tv fv : Int × Int) : Prop where
  q : q = (finT (es.take i)).length
  tv : tv = (finT (es.take i)).getD 0 (0, 0)
  fv : fv = (finT (es.take i)).getD D (0, 0)
theorem Seen.zero (es : List Ev) (D : Nat) : Seen es 0 D 0 (0, 0) (0, 0) := ⟨rfl, rfl, rfl⟩
theorem Seen.skip {es : List Ev} {i D q : Nat} {tv fv : Int × Int} {v : Ev} (h : Seen es i D q tv fv) (hv : es[i]? = some v) (hf : v.2.1 = false) : Seen es (i + 1) D q tv fv := by
  have e : finT (es.take (i + 1)) = finT (es.take i) := by
    rw [List.take_add_one, hv]
    show finT (_ ++ [v]) = _
    rw [finT_snoc, hf]
    exact List.append_nil _
  exact ⟨by rw [e]; exact h.q, by rw [e]; exact h.tv, by rw [e]; exact h.fv⟩
theorem Seen.take {es : List Ev} {i D q : Nat} {tv fv : Int × Int} {v : Ev} (h : Seen es i D q tv fv) (hv : es[i]? = some v) (hf : v.2.1 = true) : Seen es (i + 1) D (q + 1) (if q = 0 then v.1 else tv) (if q = D then v.1 else fv) := by
  have e : finT (es.take (i + 1)) = finT (es.take i) ++ [v.1] := by
    rw [List.take_add_one, hv]
    show finT (_ ++ [v]) = _
    rw [finT_snoc, hf]
    rfl
  refine ⟨by rw [e, List.length_append, h.q]; rfl, ?_, ?_⟩
  · rw [e, getD_snoc, h.q, h.tv]
  · rw [e, getD_snoc, h.q, h.fv]
theorem Seen.le {es : List Ev} {i D q : Nat} {tv fv : Int × Int} (h : Seen es i D q tv fv) : q ≤ i := by
  rw [h.q]
  unfold finT
  rw [List.length_map]
  refine Nat.le_trans (List.length_filter_le _ _) ?_
  rw [List.length_take]
  omega
/-- Entries, in the law. -/
theorem dEntries {w wr : World} {d : Int} {t : TK} {ms : List Mv} {tb : Nat} {key : ByteArray} (h : Dst w wr d t ms) (et : t.tb = tb) (hl : ms.length ≤ 4398046511104) (hk : key.size ≤ maxLen) : Calls Tryz.prog 14 #[.pointer (some ⟨tb, 0, none⟩), .string key] wr fun o w' => ∃ p n c es, o = .returned (.slice p n c) ∧ Hid (EntRd w' p n c es ∧ EntsOf (TMp t key) (datOf t key) es ∧ Kept (fun _ => False) wr w') := by
  rw [← et]
  refine (tEntries ms.length t key (datOf t key) wr h.tab hk (fun r hr => h.datAll key r hr) hl).mono ?_
  rintro o w2 ⟨pe, ce, L, rfl, ge, srt, ow, k2, eo⟩
  exact ⟨pe, L.length, ce, L.map (evOf (datOf t key)), rfl, entRd_of ow eo, entsOf ge srt, k2⟩
end Go.Proofs.YtojepeefphbekaaGreat
