import Derived.Test.YtonfefhegghapaaDoorTSsJ
import Derived.Test.YtonfefhegghapaaDoorTBk
namespace Go.Proofs.YtonfefhegghapaaDoor
open Go.RowKit 

theorem byteC_one (l : List UInt8) : ∀ u ∈ Lib.byteCells l, u.oneCell' = true := fun u hu => by
  unfold Lib.byteCells at hu
  obtain ⟨_, _, rfl⟩ := List.mem_map.1 hu
  rfl
theorem intC_one (l : List Int) : ∀ u ∈ intC l, u.oneCell' = true := fun u hu => by
  unfold intC at hu
  obtain ⟨_, _, rfl⟩ := List.mem_map.1 hu
  rfl
/-- What bytes yield to an append. -/
theorem BRd.src {w : World} {p : Option Addr} {n c : Nat} {l : List UInt8} (r : BRd w p n c l) : Src Tryd.prog 1 35 (.slice p n c) n (Lib.byteCells l) w := by
  have el : (Lib.byteCells l).length = n * 1 := by unfold Lib.byteCells; rw [List.length_map, r.len]; omega
  have some_case : ∀ ad : Addr, (∀ j u, (Lib.byteCells l)[j]? = some u → w.cell? (ad.add j) = some u) → Src Tryd.prog 1 35 (.slice (some ad) n c) n (Lib.byteCells l) w := fun ad hn =>
    Src.ofSlice w Tryd.underlying35 ad n c (Lib.byteCells l) el hn (byteC_one l)
  by_cases hm : 0 < n
  · obtain ⟨b, off, e, hc⟩ := r.cells hm
    subst e
    refine some_case _ fun j u hj => ?_
    unfold Lib.byteCells at hj
    rw [List.getElem?_map] at hj
    obtain ⟨y, hy, rfl⟩ := Option.map_eq_some_iff.1 hj
    rw [Addr.add_none]
    exact hc j y hy
  · have h0 : n = 0 := by omega
    subst h0
    have hl : l = [] := List.eq_nil_of_length_eq_zero r.len
    subst hl
    cases p with
    | some ad => exact some_case ad (fun j u hj => by simp [Lib.byteCells] at hj)
    | none => exact Src.ofNil w Tryd.underlying35 c
/-- What numbers yield to an append. -/
theorem IRd.src {w : World} {p : Option Addr} {n c : Nat} {l : List Int} (r : IRd w p n c l) : Src Tryd.prog 1 36 (.slice p n c) n (intC l) w := by
  have el : (intC l).length = n * 1 := by unfold intC; rw [List.length_map, r.len]; omega
  have some_case : ∀ ad : Addr, (∀ j u, (intC l)[j]? = some u → w.cell? (ad.add j) = some u) → Src Tryd.prog 1 36 (.slice (some ad) n c) n (intC l) w := fun ad hn =>
    Src.ofSlice w Tryd.underlying36 ad n c (intC l) el hn (intC_one l)
  by_cases hm : 0 < n
  · obtain ⟨b, off, e, hc⟩ := r.cells hm
    subst e
    refine some_case _ fun j u hj => ?_
    unfold intC at hj
    rw [List.getElem?_map] at hj
    obtain ⟨y, hy, rfl⟩ := Option.map_eq_some_iff.1 hj
    rw [Addr.add_none]
    exact hc j y hy
  · have h0 : n = 0 := by omega
    subst h0
    have hl : l = [] := List.eq_nil_of_length_eq_zero r.len
    subst hl
    cases p with
    | some ad => exact some_case ad (fun j u hj => by simp [intC] at hj)
    | none => exact Src.ofNil w Tryd.underlying36 c
set_option maxRecDepth 100000 in
set_option maxHeartbeats 1000000 in
/-- own. -/
theorem hOwn {w : World} {p : Option Addr} {n c : Nat} {l : List UInt8} (R : BRd w p n c l) (hn : n ≤ 134217728) : Calls Tryd.prog 49 #[.slice p n c] w fun o w' => ∃ q d, o = .returned (.slice q n d) ∧ w'.ownsRow w.heap.size 5 1 (.slice q n d) n (Lib.byteCells l) ∧ Kept (fun _ => False) w w' := by
  have SR : Hid (Src Tryd.prog 1 35 (.slice p n c) n (Lib.byteCells l) w) := R.src
  have LN : Hid (0 + n ≤ maxLen ∧ ((0 + n) + (0 + n) / 4 + 192) * 1 ≤ 281474976710656) := by unfold maxLen; exact ⟨by omega, by omega⟩
  clear R
  go_enter Tryd.func49, Tryd.ntmps49
  go_wp2_with
    (first
      | (at_builtin; refine wpList_append_all _ rfl (.const (.slice none 0 0)) (.tmp 3) 35 5 35 _ 1 1 rfl Tryd.underlying35 Tryd.info5 rfl w.heap.size (.slice none 0 0) 0 [] rfl (own_none w _ _ _) _ n (Lib.byteCells l) rfl SR.out LN.out.1 LN.out.2 (Nat.le_refl _) ?_; intro p9 c9 w9 ho hg hn9)
      | fail)
  go_ret
  have ho2 := ho.out
  rw [Nat.zero_add, List.nil_append] at ho2
  exact ⟨p9, c9, by first | rfl | simp, ho2, (Kept.refl _ _).grown hg.out (fun j _ z => by simp [Value.ownBlock] at z)⟩
/-- Where ownStep is. -/
structure OW (w W : World) (cs : Array Value) : Prop where
  b1 : W.heap[w.heap.size]? = some (.cells cs 38 (0, 0))
  b2 : W.heap[w.heap.size + 1]? = some (.cells #[.int .i64 0, .int .i64 0, .int .i64 0, .string ⟨#[]⟩, .slice none 0 0, .slice none 0 0] 38 (0, 0))
  kept : Kept (fun _ => False) w W
theorem OW.k0 {w W W' : World} {cs : Array Value} (h : OW w W cs) (K : Kept (fun _ => False) W W') : OW w W' cs := ⟨K.get h.b1 (fun z => z), K.get h.b2 (fun z => z), h.kept.trans K (fun _ _ z => z)⟩
theorem OW.set {w W : World} {cs : Array Value} (h : OW w W cs) (i : Nat) (v : Value) : OW w (W.setCell ⟨w.heap.size, i, none⟩ v) (cs.setIfInBounds i v) ∧ Kept (fun j => j = w.heap.size) W (W.setCell ⟨w.heap.size, i, none⟩ v) := by
  have K : Kept (fun j => j = w.heap.size) W (W.setCell ⟨w.heap.size, i, none⟩ v) := (Kept.refl (fun j => j = w.heap.size) W).setCell (p := ⟨w.heap.size, i, none⟩) (fun _ => rfl) v
  refine ⟨⟨?_, K.get h.b2 (by show ¬ w.heap.size + 1 = w.heap.size; omega), h.kept.trans K (fun j hj z => by omega)⟩, K⟩
  exact set_heap h.b1 i v
set_option maxRecDepth 100000 in
set_option maxHeartbeats 4000000 in
/-- ownStep. -/
theorem hOwnStep {w : World} {x : Sm} {s : St} (R : SRd w x s) : Calls Tryd.prog 25 #[.agg x.cs] w (RetM fun y w' => SO w.heap.size w' y s ∧ Kept (fun _ => False) w w') := by
  obtain ⟨kind, a, b, key, va, vn, vc, la, ln, lc⟩ := x
  have HR : Hid (SRd w ⟨kind, a, b, key, va, vn, vc, la, ln, lc⟩ s) := R
  have hv : vn ≤ 134217728 := by have h1 := R.sm; have h2 : s.val.length = vn := R.v.len; omega
  have hl : ln ≤ 134217728 := by have h1 := R.sm; have h2 : s.l.length = ln := R.l.len; omega
  clear R
  show Calls Tryd.prog 25 #[.agg #[.int .i64 kind, .int .i64 a, .int .i64 b, .string key, .slice va vn vc, .slice la ln lc]] w _
  obtain ⟨W0, hW0⟩ : ∃ W0, (w.alloc (.cells #[.int .i64 kind, .int .i64 a, .int .i64 b, .string key, .slice va vn vc, .slice la ln lc] 38)).alloc (.cells #[.int .i64 0, .int .i64 0, .int .i64 0, .string ⟨#[]⟩, .slice none 0 0, .slice none 0 0] 38) = W0 := ⟨_, rfl⟩
  have S0 : Hid (W0.heap[w.heap.size]? = some (.cells #[.int .i64 kind, .int .i64 a, .int .i64 b, .string key, .slice va vn vc, .slice la ln lc] 38 (0, 0)) ∧ W0.heap[w.heap.size + 1]? = some (.cells #[.int .i64 0, .int .i64 0, .int .i64 0, .string ⟨#[]⟩, .slice none 0 0, .slice none 0 0] 38 (0, 0)) ∧ Kept (fun _ => False) w W0) := by
    rw [← hW0]
    refine ⟨alloc_old _ (alloc_new _ _), ?_, ((Kept.refl _ _).alloc _).alloc _⟩
    have := alloc_new (w.alloc (.cells #[.int .i64 kind, .int .i64 a, .int .i64 b, .string key, .slice va vn vc, .slice la ln lc] 38)) (.cells #[.int .i64 0, .int .i64 0, .int .i64 0, .string ⟨#[]⟩, .slice none 0 0, .slice none 0 0] 38)
    simpa using this
  have C1 : Hid (Calls Tryd.prog 49 #[.slice va vn vc] W0 fun o w' => ∃ q d, o = .returned (.slice q vn d) ∧ w'.ownsRow W0.heap.size 5 1 (.slice q vn d) vn (Lib.byteCells s.val) ∧ Kept (fun _ => False) W0 w') := hOwn ((HR.out.kept S0.out.2.2).v) hv
  have HW0 : Hid ((w.alloc (.cells #[.int .i64 kind, .int .i64 a, .int .i64 b, .string key, .slice va vn vc, .slice la ln lc] 38)).alloc (.cells #[.int .i64 0, .int .i64 0, .int .i64 0, .string ⟨#[]⟩, .slice none 0 0, .slice none 0 0] 38) = W0) := hW0
  clear hW0
  go_enter Tryd.func25, Tryd.ntmps25
  go_upto_region 1 with fail
  rw [HW0.out]
  clear HW0
  have b4 := cell_blk S0.out.1 4 (v := .slice va vn vc) rfl
  go_wp2_with fail
  refine C1.out.mono ?_
  rintro o w1 ⟨q, d, rfl, ow, K1⟩
  have S1 : Hid (OW w w1 #[.int .i64 kind, .int .i64 a, .int .i64 b, .string key, .slice va vn vc, .slice la ln lc] ∧ w1.ownsRow w.heap.size 5 1 (.slice q vn d) vn (Lib.byteCells s.val)) := ⟨(⟨S0.out.1, S0.out.2.1, S0.out.2.2⟩ : OW w W0 _).k0 K1, owns_mono ow S0.out.2.2.size⟩
  clear K1 ow C1 S0 b4
  obtain ⟨W2, hW2⟩ : ∃ W2, w1.setCell ⟨w.heap.size, 4, none⟩ (.slice q vn d) = W2 := ⟨_, rfl⟩
  have S2 : Hid (OW w W2 #[.int .i64 kind, .int .i64 a, .int .i64 b, .string key, .slice q vn d, .slice la ln lc] ∧ W2.ownsRow w.heap.size 5 1 (.slice q vn d) vn (Lib.byteCells s.val)) := by
    rw [← hW2]
    have z := S1.out.1.set 4 (.slice q vn d)
    exact ⟨z.1, own_off S1.out.2 S1.out.1.b1 (by decide) z.2⟩
  have HW2 : Hid (w1.setCell ⟨w.heap.size, 4, none⟩ (.slice q vn d) = W2) := hW2
  have b4 := cell_blk S1.out.1.b1 4 (v := .slice va vn vc) rfl
  have s4 := soft_blk S1.out.1.b1 4
  clear hW2
  go_upto_region 2 with fail
  rw [HW2.out]
  clear HW2 b4 s4 S1
  have b5 := cell_blk S2.out.1.b1 5 (v := .slice la ln lc) rfl
  have SR : Hid (Src Tryd.prog 1 36 (.slice la ln lc) ln (intC s.l) W2) := (HR.out.kept S2.out.1.kept).l.src
  have LN : Hid (0 + ln ≤ maxLen ∧ ((0 + ln) + (0 + ln) / 4 + 192) * 8 ≤ 281474976710656) := by unfold maxLen; exact ⟨by omega, by omega⟩
  go_upto_region 3 with
    (first
      | (at_builtin; refine wpList_append_all _ rfl (.const (.slice none 0 0)) (.tmp 8) 36 3 36 _ 1 8 rfl Tryd.underlying36 Tryd.info3 rfl w.heap.size (.slice none 0 0) 0 [] rfl (own_none W2 _ _ _) _ ln (intC s.l) rfl SR.out LN.out.1 LN.out.2 S2.out.1.kept.size ?_; intro p9 c9 w9 ho hg hn9; have O9 : Hid (OW w w9 #[.int .i64 kind, .int .i64 a, .int .i64 b, .string key, .slice q vn d, .slice la ln lc] ∧ w9.ownsRow w.heap.size 5 1 (.slice q vn d) vn (Lib.byteCells s.val)) := ⟨S2.out.1.k0 ((Kept.refl _ _).grown hg.out (fun j _ z => by simp [Value.ownBlock] at z)), ((Kept.refl (fun _ => False) _).grown hg.out (fun j _ z => by simp [Value.ownBlock] at z)).owns S2.out.2 (fun _ _ z => z)⟩; have c5 := cell_blk O9.out.1.b1 5 (v := .slice la ln lc) rfl; have s5 := soft_blk O9.out.1.b1 5)
      | fail)
  obtain ⟨W4, hW4⟩ : ∃ W4, w9.setCell ⟨w.heap.size, 5, none⟩ (.slice p9 ln c9) = W4 := ⟨_, rfl⟩
  have S4 : Hid (OW w W4 #[.int .i64 kind, .int .i64 a, .int .i64 b, .string key, .slice q vn d, .slice p9 ln c9] ∧ W4.ownsRow w.heap.size 5 1 (.slice q vn d) vn (Lib.byteCells s.val) ∧ W4.ownsRow w.heap.size 3 1 (.slice p9 ln c9) ln (intC s.l)) := by
    rw [← hW4]
    have z := O9.out.1.set 5 (.slice p9 ln c9)
    have ho2 := ho.out
    rw [Nat.zero_add, List.nil_append] at ho2
    exact ⟨z.1, own_off O9.out.2 O9.out.1.b1 (by decide) z.2, own_off ho2 O9.out.1.b1 (by decide) z.2⟩
  rw [hW4]
  clear hW4 ho hg hn9 O9 c5 s5 b5 SR LN S2
  have c0 := cell_blk S4.out.1.b1 0 (v := .int .i64 kind) rfl
  have c1 := cell_blk S4.out.1.b1 1 (v := .int .i64 a) rfl
  have c2 := cell_blk S4.out.1.b1 2 (v := .int .i64 b) rfl
  have c3 := cell_blk S4.out.1.b1 3 (v := .string key) rfl
  have c4 := cell_blk S4.out.1.b1 4 (v := .slice q vn d) rfl
  have c5 := cell_blk S4.out.1.b1 5 (v := .slice p9 ln c9) rfl
  have a0 := cell_blk S4.out.1.b2 0 (v := .int .i64 0) rfl
  have a1 := cell_blk S4.out.1.b2 1 (v := .int .i64 0) rfl
  have a2 := cell_blk S4.out.1.b2 2 (v := .int .i64 0) rfl
  have a3 := cell_blk S4.out.1.b2 3 (v := .string ⟨#[]⟩) rfl
  have a4 := cell_blk S4.out.1.b2 4 (v := .slice none 0 0) rfl
  have a5 := cell_blk S4.out.1.b2 5 (v := .slice none 0 0) rfl
  have s0 := soft_blk S4.out.1.b2 0
  have s1 := soft_blk S4.out.1.b2 1
  have s2 := soft_blk S4.out.1.b2 2
  have s3 := soft_blk S4.out.1.b2 3
  have s4 := soft_blk S4.out.1.b2 4
  have s5 := soft_blk S4.out.1.b2 5
  have FN := set6 S4.out.1.b2 (.int .i64 kind) (.int .i64 a) (.int .i64 b) (.string key) (.slice q vn d) (.slice p9 ln c9)
  obtain ⟨W9, hW9⟩ : ∃ W9, (((((W4.setCell ⟨w.heap.size + 1, 0, none⟩ (.int .i64 kind)).setCell ⟨w.heap.size + 1, 1, none⟩ (.int .i64 a)).setCell ⟨w.heap.size + 1, 2, none⟩ (.int .i64 b)).setCell ⟨w.heap.size + 1, 3, none⟩ (.string key)).setCell ⟨w.heap.size + 1, 4, none⟩ (.slice q vn d)).setCell ⟨w.heap.size + 1, 5, none⟩ (.slice p9 ln c9) = W9 := ⟨_, rfl⟩
  rw [hW9] at FN
  have AN : Hid (W9.heap[w.heap.size + 1]? = some (.cells #[.int .i64 kind, .int .i64 a, .int .i64 b, .string key, .slice q vn d, .slice p9 ln c9] 38 (0, 0)) ∧ SO w.heap.size W9 ⟨kind, a, b, key, q, vn, d, p9, ln, c9⟩ s ∧ Kept (fun _ => False) w W9) := by
    have r := HR.out
    refine ⟨FN.1, ⟨r.kind, r.a, r.b, r.key, r.v.len.symm, own_off S4.out.2.1 S4.out.1.b2 (by decide) FN.2, r.l.len.symm, own_off S4.out.2.2 S4.out.1.b2 (by decide) FN.2⟩, S4.out.1.kept.trans FN.2 (fun j hj z => by omega)⟩
  have HW9 : Hid ((((((W4.setCell ⟨w.heap.size + 1, 0, none⟩ (.int .i64 kind)).setCell ⟨w.heap.size + 1, 1, none⟩ (.int .i64 a)).setCell ⟨w.heap.size + 1, 2, none⟩ (.int .i64 b)).setCell ⟨w.heap.size + 1, 3, none⟩ (.string key)).setCell ⟨w.heap.size + 1, 4, none⟩ (.slice q vn d)).setCell ⟨w.heap.size + 1, 5, none⟩ (.slice p9 ln c9) = W9) := hW9
  clear hW9 FN S4 HR
  go_wp2_with fail
  rw [HW9.out]
  refine bodyPost_ret (results_cell_row (P := Tryd.prog) rfl _ _ (w.heap.size + 1) 38 _ (0, 0) _ rfl AN.out.1 Tryd.underlying38 rfl (by kernel_rfl)) rfl ?_
  exact ⟨⟨kind, a, b, key, q, vn, d, p9, ln, c9⟩, rfl, AN.out.2⟩
end Go.Proofs.YtonfefhegghapaaDoor
