import Derived.Test.YtbangbobfeflcaaGreatDoorHTg
import Derived.Laws.ResultCell
namespace Go.Proofs.YtbangbobfeflcaaGreatDoor
open Go.RowKit 

theorem hInt {a : ByteArray} {v : Int} (hs : a.size ≤ 9223372036854775806) (h : Lib.parseIntB 64 a.data.toList = .ok v) : IntAt a v := fun V => by
  refine (Tryz.strconv_ParseInt_10_at64_ok a hs v h V).mono ?_
  rintro o w1 ⟨rfl, hw⟩
  refine ⟨rfl, ?_⟩
  rcases hw with rfl | ⟨t, rfl⟩
  · exact Kept.refl _ _
  · exact kept_below (Lib.bytesWorld_below _ _ _)
theorem int1 : IntAt ⟨#[49]⟩ 1 := hInt (by decide) (by kernel_rfl)
theorem int2 : IntAt ⟨#[50]⟩ 2 := hInt (by decide) (by kernel_rfl)
theorem atoi1 (V : World) : Calls Tryz.prog 86 #[.string ⟨#[49]⟩] V fun o w' => o = .returned (.tuple #[.int .i64 1, .nilIface]) ∧ Kept (fun _ => False) V w' := by
  refine (Tryz.strconv_Atoi_ok ⟨#[49]⟩ (by decide) 1 (by kernel_rfl) V).mono ?_
  rintro o w1 ⟨rfl, hw⟩
  refine ⟨rfl, ?_⟩
  rcases hw with rfl | ⟨t, rfl⟩
  · exact Kept.refl _ _
  · exact kept_below (Lib.bytesWorld_below _ _ _)
theorem cut11 : CutAt ⟨#[49, 46, 49]⟩ ⟨#[46]⟩ ⟨#[49]⟩ ⟨#[49]⟩ true := ⟨by decide, by kernel_rfl⟩
theorem results_tag_tmp {fn : Func} {p u : Tmp} (h : fn.results = #[.cell p 37, .tmp u]) (tmps : Array Value) (w : World) (b : Nat) (x y : Int) (hp : tmps.getD p undef = .pointer (some ⟨b, 0, none⟩)) (T : w.heap[b]? = some (.cells #[.int .i64 x, .int .i64 y] 37 (0, 0))) :
    (results fn tmps).run Tryz.prog w = .ok (.tuple #[.agg #[.int .i64 x, .int .i64 y], tmps.getD u undef]) w := by
  rw [results_cell_tmp h, hp]
  simp [asAddr, run_loadVar_row w b 37 37 _ (0, 0) _ T Tryz.underlying37 rfl (by kernel_rfl)]
theorem Tab.kept {w w' : World} (h : Tab w) (K : Kept (fun _ => False) w w') : Tab w' := h.by (below_kept K)
set_option maxRecDepth 100000 in
theorem hTagParse (w : World) (V : Tab w) (gm : ∃ x, w.cell? ⟨1, 0, none⟩ = some (.int .i64 x)) : Calls Tryz.prog 56 #[.string ⟨#[49, 46, 49]⟩] w fun o w' => o = .returned (.tuple #[.agg #[.int .i64 1, .int .i64 1], .int .i64 0]) ∧ Kept (fun _ => False) w w' := by
  have K0 : Hid (Kept (fun _ => False) w (w.alloc (Obj.cells #[.int .i64 0, .int .i64 0] 37))) := (Kept.refl _ _).alloc _
  have T0 : Hid ((w.alloc (Obj.cells #[.int .i64 0, .int .i64 0] 37)).heap[w.heap.size]? = some (.cells #[.int .i64 0, .int .i64 0] 37 (0, 0))) := alloc_new _ _
  obtain ⟨x, hx⟩ := gm
  have C1 : Hid (Calls Tryz.prog 29 #[.string ⟨#[49, 46, 49]⟩, .string ⟨#[46]⟩] (w.alloc (Obj.cells #[.int .i64 0, .int .i64 0] 37)) fun o w' => o = .returned (.tuple #[.string ⟨#[49]⟩, .string ⟨#[49]⟩, .bool true]) ∧ ∃ n, w' = (w.alloc (Obj.cells #[.int .i64 0, .int .i64 0] 37)).drewN n) := hCut cut11 (K0.out.cell hx (fun z => z))
  have HV : Hid (Tab w) := V
  clear hx V
  go_enter Tryz.func56, Tryz.ntmps56
  go_wp2_with fail
  refine C1.out.mono ?_
  rintro o w1 ⟨rfl, n, hw1⟩
  have K1 : Hid (Kept (fun _ => False) w w1) := by rw [hw1]; exact K0.out.drewN n
  have T1 : Hid (w1.heap[w.heap.size]? = some (.cells #[.int .i64 0, .int .i64 0] 37 (0, 0))) := by rw [hw1]; exact T0.out
  clear hw1 C1 K0 T0
  have C2 : Hid (IntAt ⟨#[49]⟩ 1) := int1
  go_wp2_with fail
  refine (C2.out w1).mono ?_
  rintro o w2 ⟨rfl, J2⟩
  have K2 : Hid (Kept (fun _ => False) w w2) := K1.out.trans J2 (fun _ _ z => z)
  have T2 : Hid (w2.heap[w.heap.size]? = some (.cells #[.int .i64 0, .int .i64 0] 37 (0, 0))) := J2.get T1.out (fun z => z)
  clear C2 J2 K1 T1
  go_wp2_with fail
  refine (atoi1 w2).mono ?_
  rintro o w3 ⟨rfl, J3⟩
  have K3 : Hid (Kept (fun _ => False) w w3) := K2.out.trans J3 (fun _ _ z => z)
  have T3 : Hid (w3.heap[w.heap.size]? = some (.cells #[.int .i64 0, .int .i64 0] 37 (0, 0))) := J3.get T2.out (fun z => z)
  clear J3 K2 T2
  go_wp2_with fail
  have KA : Hid (Kept (fun _ => False) w3 (w3.alloc (Obj.cells #[.int .i64 1, .int .i64 1] 37))) := (Kept.refl _ _).alloc _
  refine (hTagText _ (HV.out.kept (K3.out.trans KA.out (fun _ _ z => z)))).mono ?_
  rintro o w4 ⟨rfl, B4⟩
  have J4 : Kept (fun _ => False) (w3.alloc (Obj.cells #[.int .i64 1, .int .i64 1] 37)) w4 := kept_below B4
  have K4 : Hid (Kept (fun _ => False) w w4) := (K3.out.trans KA.out (fun _ _ z => z)).trans J4 (fun _ _ z => z)
  have T4 : Hid (w4.heap[w.heap.size]? = some (.cells #[.int .i64 0, .int .i64 0] 37 (0, 0))) := J4.get (KA.out.get T3.out (fun z => z)) (fun z => z)
  have U4 : Hid (w4.heap[w3.heap.size]? = some (.cells #[.int .i64 1, .int .i64 1] 37 (0, 0))) := J4.get (alloc_new _ _) (fun z => z)
  clear B4 J4 KA K3 T3
  have c0 := cell_blk U4.out 0 (v := .int .i64 1) rfl
  have c1 := cell_blk U4.out 1 (v := .int .i64 1) rfl
  have d0 := cell_blk T4.out 0 (v := .int .i64 0) rfl
  have d1 := cell_blk T4.out 1 (v := .int .i64 0) rfl
  have s0 := soft_blk T4.out 0
  have s1 := soft_blk T4.out 1
  go_wp2_with fail
  have G : ((w4.setCell ⟨w.heap.size, 0, none⟩ (.int .i64 1)).setCell ⟨w.heap.size, 1, none⟩ (.int .i64 1)).heap[w.heap.size]? = some (.cells #[.int .i64 1, .int .i64 1] 37 (0, 0)) := by
    have a := set_heap T4.out 0 (.int .i64 1)
    have b := set_heap a 1 (.int .i64 1)
    exact b
  refine bodyPost_ret (results_tag_tmp rfl _ _ w.heap.size 1 1 rfl G) rfl ⟨rfl, ?_⟩
  exact (K4.out.setCell (p := ⟨w.heap.size, 0, none⟩) (fun z => absurd z (Nat.lt_irrefl _)) _).setCell (p := ⟨w.heap.size, 1, none⟩) (fun z => absurd z (Nat.lt_irrefl _)) _
end Go.Proofs.YtbangbobfeflcaaGreatDoor
