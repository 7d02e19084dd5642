import Derived.Test.YtonfefhegghapaaDoorSApp
namespace Go.Proofs.YtonfefhegghapaaDoor
open Go.RowKit 

def cfgL (n k d c : Int) : List UInt8 := [99, 111, 110, 102, 105, 103] ++ numL [n, k, d, c]
set_option maxRecDepth 100000 in
theorem hApp (w : World) (tab : Lib.TabIs Tryd.prog w "internal/strconv.uint64pow10" .u64 Lib.pow10Tab) (n k d c : Int) (hk : KI n ∧ KI k ∧ KI d ∧ KI c) : Calls Tryd.prog 30 #[.slice none 0 0, .agg #[.int .i64 n, .int .i64 k, .int .i64 d], .int .i64 c] w (RetT fun p' k' c' w' => TX w w' p' k' c' (cfgL n k d c)) := by
  have H : Hid (Lib.TabIs Tryd.prog w "internal/strconv.uint64pow10" .u64 Lib.pow10Tab ∧ KI n ∧ KI k ∧ KI d ∧ KI c) := ⟨tab, hk⟩
  clear tab hk
  have T1 : Hid (TX w (w.alloc (.cells #[.int .i64 n, .int .i64 k, .int .i64 d] 23)) none 0 0 []) := (TX.nil w).k0 ((Kept.refl _ _).alloc _)
  have B1 : Hid ((w.alloc (.cells #[.int .i64 n, .int .i64 k, .int .i64 d] 23)).heap[w.heap.size]? = some (.cells #[.int .i64 n, .int .i64 k, .int .i64 d] 23 (0, 0))) := alloc_new _ _
  have SR : Hid (Src Tryd.prog 1 9 (.string ⟨#[99, 111, 110, 102, 105, 103]⟩) 6 (Lib.byteCells [99, 111, 110, 102, 105, 103]) (w.alloc (.cells #[.int .i64 n, .int .i64 k, .int .i64 d] 23))) := Src.ofString _ Tryd.underlying9 _
  go_enter Tryd.func30, Tryd.ntmps30
  go_upto_region 2 with
    (first
      | (at_builtin; refine wpList_append_all _ rfl (.tmp 7) (.const (.string ⟨#[99, 111, 110, 102, 105, 103]⟩)) 35 5 9 _ 1 1 rfl Tryd.underlying35 Tryd.info5 rfl w.heap.size (.slice none 0 0) 0 (Lib.byteCells []) rfl T1.out.row _ 6 (Lib.byteCells [99, 111, 110, 102, 105, 103]) rfl SR.out (by unfold maxLen; omega) (by omega) T1.out.kept.size ?_; intro p9 c9 w9 ho hg hn9)
      | fail)
  have T9 : Hid (TX w w9 p9 6 c9 [99, 111, 110, 102, 105, 103] ∧ w9.heap[w.heap.size]? = some (.cells #[.int .i64 n, .int .i64 k, .int .i64 d] 23 (0, 0))) := ⟨T1.out.more (x := [99, 111, 110, 102, 105, 103]) rfl ho.out hg.out, grown_keep T1.out.row hg.out (by decide) B1.out⟩
  clear ho hg hn9 T1 B1 SR
  have c0 := cell_blk T9.out.2 0 (v := .int .i64 n) rfl
  have c1 := cell_blk T9.out.2 1 (v := .int .i64 k) rfl
  have c2 := cell_blk T9.out.2 2 (v := .int .i64 d) rfl
  have CN : Hid (Calls Tryd.prog 54 #[.slice p9 6 c9, .slice (some ⟨w9.heap.size, 0, none⟩) 4 4] (w9.alloc (.cells #[.int .i64 n, .int .i64 k, .int .i64 d, .int .i64 c] 3)) (RetT fun p' k' c' w' => TX w w' p' k' c' (cfgL n k d c))) := hNums (zs := [n, k, d, c]) (T9.out.1.k0 ((Kept.refl _ _).alloc _)) H.out.1 (alloc_new _ _) (by simp) (fun z hz => by
    simp at hz
    rcases hz with rfl | rfl | rfl | rfl
    · exact H.out.2.1
    · exact H.out.2.2.1
    · exact H.out.2.2.2.1
    · exact H.out.2.2.2.2) (by simp)
  clear T9
  go_wp2_with fail
  refine CN.out.mono ?_
  rintro o w10 ⟨p', k', c', rfl, T'⟩
  have T : Hid (TX w w10 p' k' c' (cfgL n k d c)) := T'
  clear T' CN
  go_wp2_with fail
  go_ret
  exact ⟨p', k', c', by first | rfl | simp, T.out⟩
end Go.Proofs.YtonfefhegghapaaDoor
