import Derived.Test.YtojfnehdanhgiaaSend
namespace Go.Proofs.Ytojfnehdanhgiaa
open Go.RowKit

set_option maxRecDepth 100000 in
set_option maxHeartbeats 1000000 in
theorem double (base C : Nat) (q : Option Addr) (len cap : Nat) (R : List Ent) (w : World) (h : IsNet 67 base w C q len cap R) (hbase : base ≤ w.heap.size) (hb : len + 1 ≤ Big) (i : Nat) (hi : i < len) (num pat : Int) :
    Calls Try.prog 50 #[.pointer (some ⟨C, 0, none⟩), .int .i64 (i : Int), .agg #[.int .i64 num, .int .u32 pat]] w fun x w' => ∃ p c e, x = .returned (.int .i64 0) ∧ (∃ hl : i < R.length, e.p = R[i].p) ∧ IsNet 67 base w' C p (len + 1) c (R ++ [e]) ∧ Moved w w' C q p := by
  have H : Hid (IsNet 67 base w C q len cap R ∧ base ≤ w.heap.size ∧ len + 1 ≤ Big) := ⟨h, hbase, hb⟩
  have hm := big_max hb
  obtain ⟨hr1, hr2⟩ := own_room h.list.own
  unfold maxLen at hm hr2
  have lC := h.lt
  have D2 : Hid (Kept (fun _ => False) w (w.alloc (.cells #[.int .i64 num, .int .u32 pat] 65)).drew) := (alloc_kept0 w _).drew
  have H2 := h.kept0 D2.out
  have cC : (w.alloc (.cells #[.int .i64 num, .int .u32 pat] 65)).cell? ⟨C, 0, none⟩ = some (.slice q len cap) := (h.kept0 (alloc_kept0 w _)).cell
  obtain ⟨g, rfl, hlR, d0, d1, d2, d3, d4, d5⟩ := (h.kept0 (alloc_kept0 w (.cells #[.int .i64 num, .int .u32 pat] 65))).list.cells i hi
  obtain ⟨⟨⟨fk, fi, tk, ti, l, lost⟩, a, dl, dc⟩, he⟩ : ∃ e, R[i] = e := ⟨_, rfl⟩
  rw [he] at d0 d1 d2 d3 d4 d5
  have GE : Hid (Good base (w.alloc (.cells #[.int .i64 num, .int .u32 pat] 65)).drew ⟨⟨fk, fi, tk, ti, l, lost⟩, a, dl, dc⟩ ∧ R[i] = ⟨⟨fk, fi, tk, ti, l, lost⟩, a, dl, dc⟩) := ⟨H2.list.good _ (by rw [← he]; exact List.getElem_mem _), he⟩
  have i1 : (i : Int) < (len : Int) := by omega
  simp only [] at d0 d1 d2 d3 d4 d5
  clear h hb hbase H2 he
  go_enter Try.func50, Try.ntmps50
  go_upto_region 1 with fail
  go_region_law
    (first
      | (refine step_call _ (by rfl) 29 [.tmp 18] _ (by rfl) [.agg #[.int .i64 fk, .int .i64 fi, .int .i64 tk, .int .i64 ti, .slice a dl dc, .bool lost]] (by rfl) (enter29 _ _) ((second fk fi tk ti a dl dc lost l _ GE.out.1.reads (Nat.le_trans GE.out.1.short (by omega))).mono ?_); rintro x w3 ⟨p3, c3, rfl, o3, K3⟩; refine ⟨_, rfl, ?_⟩; have k3 := K3.cell cC (fun q => q); have lt3 : C < w3.heap.size := World.block_lt_of_cell? w3 _ k3
         have Z3 : Hid (Kept (fun _ => False) w (w3.alloc (.cells #[.int .i64 fk, .int .i64 fi, .int .i64 tk, .int .i64 ti, .slice p3 dl c3, .bool lost] 39)) ∧ (w3.alloc (.cells #[.int .i64 fk, .int .i64 fi, .int .i64 tk, .int .i64 ti, .slice p3 dl c3, .bool lost] 39)).heap[w3.heap.size]? = some (.cells #[.int .i64 fk, .int .i64 fi, .int .i64 tk, .int .i64 ti, .slice p3 dl c3, .bool lost] 39 (0, 0)) ∧ Good w.heap.size (w3.alloc (.cells #[.int .i64 fk, .int .i64 fi, .int .i64 tk, .int .i64 ti, .slice p3 dl c3, .bool lost] 39)) ⟨⟨fk, fi, tk, ti, l, lost⟩, p3, dl, c3⟩) := ⟨(D2.out.trans K3 (fun _ _ q => q)).alloc _, alloc_new _ _, Good.kept0 ⟨owns_mono o3 D2.out.size, GE.out.1.bytes, GE.out.1.short⟩ (alloc_kept0 _ _)⟩
         clear o3 K3)
      | (refine step_append_all _ (by rfl) (.tmp 11) (.tmp 20) 27 39 27 _ 6 64 (by rfl) Try.underlying27 Try.info39 rfl base (.slice (some ⟨g, 0, none⟩) len cap) len (rcells R) (by rfl) (H.out.1.kept0 Z3.out.1).list.own _ 1 (Ent.cells ⟨⟨fk, fi, tk, ti, l, lost⟩, p3, dl, c3⟩) (by rfl) (src_one Z3.out.2.1) (big_max H.out.2.2) (big_wide H.out.2.2) (Nat.le_trans H.out.2.1 Z3.out.1.size) ?_; intro p4 c4 w4 ho hg hn
         obtain ⟨b4, n4, m4⟩ := H.out.1.more Z3.out.1 Z3.out.2.2 H.out.2.1 ho.out hg.out hn.out
         have F4 : Hid (IsNet 67 base (w4.setCell ⟨C, 0, none⟩ (.slice p4 (len + 1) c4)) C p4 (len + 1) c4 (R ++ [⟨⟨fk, fi, tk, ti, l, lost⟩, p3, dl, c3⟩]) ∧ Moved w (w4.setCell ⟨C, 0, none⟩ (.slice p4 (len + 1) c4)) C (some ⟨g, 0, none⟩) p4) := ⟨n4, m4⟩
         have k4 := cell_blk b4 0 (v := .slice (some ⟨g, 0, none⟩) len cap) rfl
         have k5 := soft_blk b4 0
         clear b4 n4 m4 ho hg hn)
      | fail)
  all_goals (go_wp2_with fail; go_ret)
  all_goals exact ⟨p4, c4, _, rfl, ⟨hlR, by rw [GE.out.2]⟩, F4.out⟩
end Go.Proofs.Ytojfnehdanhgiaa
