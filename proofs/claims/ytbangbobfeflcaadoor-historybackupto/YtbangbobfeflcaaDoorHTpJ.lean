import Derived.Test.YtbangbobfeflcaaDoorHKiJ
import Derived.Deep.RegionHeld3
import Derived.Deep.DeepCutAuto
import Derived.Laws.Concat
import Derived.BigQuiet
import Derived.Laws.ResultCell
namespace Go.Proofs.YtbangbobfeflcaaDoor
open Go.RowKit 

/-- ParseInt, at a text: what it tells. -/
def IntAt (a : ByteArray) (v : Int) : Prop := ∀ V : World, Calls Tryd.prog 54 #[.string a, .int .i64 10, .int .i64 64] V fun o w' => o = .returned (.tuple #[.int .i64 v, .nilIface]) ∧ Kept (fun _ => False) V w'
theorem hNumber {w : World} {g : Nat} {s a b : ByteArray} {f : Bool} {v : Int} (h : Rdr w g s) (h1 : CutAt s ⟨#[32]⟩ a b f) (h2 : IntAt a v) : Calls Tryd.prog 40 #[.pointer (some ⟨g, 0, none⟩)] w fun o w' => o = .returned (.int .i64 v) ∧ Rdr w' g b ∧ Kept (fun j => j = g) w w' := by
  have CW : Hid (Calls Tryd.prog 39 #[.pointer (some ⟨g, 0, none⟩)] w fun o w' => o = .returned (.string a) ∧ Rdr w' g b ∧ Kept (fun j => j = g) w w') := hWordR h h1
  have CI : Hid (IntAt a v) := h2
  clear h h1 h2
  go_enter Tryd.func40, Tryd.ntmps40
  go_wp2_with fail
  refine CW.out.mono ?_
  rintro o w1 ⟨rfl, R1', K1'⟩
  have R1 : Hid (Rdr w1 g b ∧ Kept (fun j => j = g) w w1) := ⟨R1', K1'⟩
  clear R1' K1' CW
  go_wp2_with fail
  refine (CI.out w1).mono ?_
  rintro o w2 ⟨rfl, K2⟩
  have F : Hid (Rdr w2 g b ∧ Kept (fun j => j = g) w w2) := by
    have K : Kept (fun j => j = g) w1 w2 := K2.mono (fun _ _ z => z.elim)
    exact ⟨R1.out.1.next K (K2.get R1.out.1.at_ (fun z => z)), R1.out.2.trans K (fun _ _ z => z)⟩
  clear K2 R1 CI
  go_wp2_with fail
  go_ret
  exact ⟨by first | rfl | simp, F.out⟩
end Go.Proofs.YtbangbobfeflcaaDoor

namespace Go.Proofs.YtbangbobfeflcaaDoor
open Go.RowKit 

/-- The library's table. -/
def Tab (w : World) : Prop := Lib.TabIs Tryd.prog w "internal/strconv.uint64pow10" .u64 Lib.pow10Tab
theorem var_by {P : Program} {w w' : World} (B : Below w.heap.size w w') {n : String} {cs : Array Value} (h : w.var? P n = some cs) : w'.var? P n = some cs := by
  unfold World.var? at h ⊢
  cases e : P.globalNamed n with
  | none => rw [e] at h; cases h
  | some g =>
    rw [e] at h
    simp only [Option.bind_some] at h ⊢
    cases q : w.heap[g]? with
    | none => rw [q] at h; cases h
    | some o =>
      have lt : g < w.heap.size := (Array.getElem?_eq_some_iff.1 q).1
      rw [B.block g lt]
      exact h
theorem Tab.by {w w' : World} (h : Tab w) (B : Below w.heap.size w w') : Tab w' := var_by B h
theorem grow_below (w : World) (k : Nat) (os : Array Obj) : Below w.heap.size w (Sort.grow (w.drewN k) os) :=
  ⟨rfl, rfl, rfl, by simp [Sort.grow], fun j hj => Sort.heap_grow_old (w.drewN k) os hj⟩
set_option maxRecDepth 100000 in
theorem hTagText (w : World) (V : Tab w) : Calls Tryd.prog 35 #[.agg #[.int .i64 1, .int .i64 1]] w fun x w' => x = .returned (.string ⟨#[49, 46, 49]⟩) ∧ Below w.heap.size w w' := by
  have B0 : Below w.heap.size w (w.alloc (Obj.cells #[.int .i64 1, .int .i64 1] 43)) := (Below.refl w.heap.size w).alloc (Nat.le_refl _) _
  have T0 : (w.alloc (Obj.cells #[.int .i64 1, .int .i64 1] 43)).heap[w.heap.size]? = some (.cells #[.int .i64 1, .int .i64 1] 43 (0, 0)) := alloc_new _ _
  have S0 : Hid (_ ∧ _ ∧ _) := And.intro B0 (And.intro T0 (V.by B0))
  clear B0 T0 V
  have CV : Hid (∀ U, Calls Tryd.prog 46 #[.agg #[.int .i64 1, .int .i64 1]] U fun x w' => x = .returned (.bool true) ∧ Kept (fun _ => False) U w') := fun U => hValid 1 1 U
  go_enter Tryd.func35, Tryd.ntmps35
  go_wp2_with fail
  refine (CV.out _).mono ?_
  rintro x w1 ⟨rfl, K1⟩
  have B1 := below_kept K1
  have S1 : Hid (Below w.heap.size w w1 ∧ w1.heap[w.heap.size]? = some (.cells #[.int .i64 1, .int .i64 1] 43 (0, 0)) ∧ Tab w1) := ⟨S0.out.1.trans (B1.mono S0.out.1.size), K1.get S0.out.2.1 (fun z => z), S0.out.2.2.by B1⟩
  clear B1 S0 K1 CV
  have c0 := cell_blk S1.out.2.1 0 (v := .int .i64 1) rfl
  have c1 := cell_blk S1.out.2.1 1 (v := .int .i64 1) rfl
  have lt := block_lt S1.out.2.1
  have add1 : ∀ w, (Op.stringOp .add ⟨#[49]⟩ ⟨#[46]⟩).run Tryd.prog w = .ok (.string ⟨#[49, 46]⟩) w := fun w => by kernel_rfl
  have add2 : ∀ w, (Op.stringOp .add ⟨#[49, 46]⟩ ⟨#[49]⟩).run Tryd.prog w = .ok (.string ⟨#[49, 46, 49]⟩) w := fun w => by kernel_rfl
  have cF : Hid (∀ w, Tab w → Calls Tryd.prog 31 #[.int .i64 1, .int .i64 10] w fun x w' => x = .returned (.string ⟨#[49]⟩) ∧ Below w.heap.size w w') := fun w V => by
    refine (Tryd.strconv_FormatInt_10 1 (by omega) (by omega) w V).mono ?_
    rintro x w2 ⟨rfl, k, os, rfl⟩
    exact ⟨by kernel_rfl, grow_below w k os⟩
  have cI : Hid (∀ w, Tab w → Calls Tryd.prog 30 #[.int .i64 1] w fun x w' => x = .returned (.string ⟨#[49]⟩) ∧ Below w.heap.size w w') := fun w V => by
    refine (Tryd.strconv_Itoa 1 (by omega) (by omega) w V).mono ?_
    rintro x w2 ⟨rfl, k, os, rfl⟩
    exact ⟨by kernel_rfl, grow_below w k os⟩
  have B1 : Below w1.heap.size w1 w1.drew := (Below.refl _ _).drew
  have V1 : Hid (Tab w1.drew) := S1.out.2.2.by B1
  have KP : Hid (∀ w2, Below w1.drew.heap.size w1.drew w2 → w2.cell? ⟨w.heap.size, 0, none⟩ = some (.int .i64 1) ∧ w2.cell? ⟨w.heap.size, 1, none⟩ = some (.int .i64 1) ∧ Tab w2 ∧ Below w.heap.size w w2) :=
    fun w2 B2 => ⟨(B2.cell lt).trans c0, (B2.cell lt).trans c1, V1.out.by B2, S1.out.1.drew.trans (B2.mono S1.out.1.size)⟩
  clear B1
  go_upto_region 3 with fail
  go_region_held3 (fun w' => w'.cell? ⟨w.heap.size, 0, none⟩ = some (.int .i64 1) ∧ w'.cell? ⟨w.heap.size, 1, none⟩ = some (.int .i64 1)) (go_keep)
    (first | (go_at_call 31; refine (cF.out _ V1.out).mono ?_; rintro x w2 ⟨rfl, B2⟩; obtain ⟨q0, q1, V2, B3⟩ := KP.out w2 B2; have S2 : Hid (_ ∧ _) := And.intro V2 B3; clear V2 B3 B2) | (go_at_call 30; refine (cI.out _ S2.out.1).mono ?_; rintro x w3 ⟨rfl, B3⟩; have B4 : Hid (Below w.heap.size w w3) := S2.out.2.trans (B3.mono S2.out.2.size); have q2 : w3.cell? ⟨w.heap.size, 0, none⟩ = some (.int .i64 1) := (B3.cell (World.block_lt_of_cell? w2 _ q0)).trans q0; have q3 : w3.cell? ⟨w.heap.size, 1, none⟩ = some (.int .i64 1) := (B3.cell (World.block_lt_of_cell? w2 _ q1)).trans q1; clear B3) | fail)
  go_wp2_with fail
  go_ret
  exact ⟨by first | rfl | simp, B4.out⟩
end Go.Proofs.YtbangbobfeflcaaDoor

namespace Go.Proofs.YtbangbobfeflcaaDoor
open Go.RowKit 

theorem hInt {a : ByteArray} {v : Int} (hs : a.size ≤ 9223372036854775806) (h : Lib.parseIntB 64 a.data.toList = .ok v) : IntAt a v := fun V => by
  refine (Tryd.strconv_ParseInt_10_at64_ok a hs v h V).mono ?_
  rintro o w1 ⟨rfl, hw⟩
  refine ⟨rfl, ?_⟩
  rcases hw with rfl | ⟨t, rfl⟩
  · exact Kept.refl _ _
  · exact kept_below (Lib.bytesWorld_below _ _ _)
theorem int1 : IntAt ⟨#[49]⟩ 1 := hInt (by decide) (by kernel_rfl)
theorem int2 : IntAt ⟨#[50]⟩ 2 := hInt (by decide) (by kernel_rfl)
theorem atoi1 (V : World) : Calls Tryd.prog 56 #[.string ⟨#[49]⟩] V fun o w' => o = .returned (.tuple #[.int .i64 1, .nilIface]) ∧ Kept (fun _ => False) V w' := by
  refine (Tryd.strconv_Atoi_ok ⟨#[49]⟩ (by decide) 1 (by kernel_rfl) V).mono ?_
  rintro o w1 ⟨rfl, hw⟩
  refine ⟨rfl, ?_⟩
  rcases hw with rfl | ⟨t, rfl⟩
  · exact Kept.refl _ _
  · exact kept_below (Lib.bytesWorld_below _ _ _)
theorem cut11 : CutAt ⟨#[49, 46, 49]⟩ ⟨#[46]⟩ ⟨#[49]⟩ ⟨#[49]⟩ true := ⟨by decide, by kernel_rfl⟩
theorem results_tag_tmp {fn : Func} {p u : Tmp} (h : fn.results = #[.cell p 43, .tmp u]) (tmps : Array Value) (w : World) (b : Nat) (x y : Int) (hp : tmps.getD p undef = .pointer (some ⟨b, 0, none⟩)) (T : w.heap[b]? = some (.cells #[.int .i64 x, .int .i64 y] 43 (0, 0))) :
    (results fn tmps).run Tryd.prog w = .ok (.tuple #[.agg #[.int .i64 x, .int .i64 y], tmps.getD u undef]) w := by
  rw [results_cell_tmp h, hp]
  simp [asAddr, run_loadVar_row w b 43 43 _ (0, 0) _ T Tryd.underlying43 rfl (by kernel_rfl)]
theorem Tab.kept {w w' : World} (h : Tab w) (K : Kept (fun _ => False) w w') : Tab w' := h.by (below_kept K)
set_option maxRecDepth 100000 in
theorem hTagParse (w : World) (V : Tab w) (gm : ∃ x, w.cell? ⟨1, 0, none⟩ = some (.int .i64 x)) : Calls Tryd.prog 43 #[.string ⟨#[49, 46, 49]⟩] w fun o w' => o = .returned (.tuple #[.agg #[.int .i64 1, .int .i64 1], .int .i64 0]) ∧ Kept (fun _ => False) w w' := by
  have K0 : Hid (Kept (fun _ => False) w (w.alloc (Obj.cells #[.int .i64 0, .int .i64 0] 43))) := (Kept.refl _ _).alloc _
  have T0 : Hid ((w.alloc (Obj.cells #[.int .i64 0, .int .i64 0] 43)).heap[w.heap.size]? = some (.cells #[.int .i64 0, .int .i64 0] 43 (0, 0))) := alloc_new _ _
  obtain ⟨x, hx⟩ := gm
  have C1 : Hid (Calls Tryd.prog 18 #[.string ⟨#[49, 46, 49]⟩, .string ⟨#[46]⟩] (w.alloc (Obj.cells #[.int .i64 0, .int .i64 0] 43)) fun o w' => o = .returned (.tuple #[.string ⟨#[49]⟩, .string ⟨#[49]⟩, .bool true]) ∧ ∃ n, w' = (w.alloc (Obj.cells #[.int .i64 0, .int .i64 0] 43)).drewN n) := hCut cut11 (K0.out.cell hx (fun z => z))
  have HV : Hid (Tab w) := V
  clear hx V
  go_enter Tryd.func43, Tryd.ntmps43
  go_wp2_with fail
  refine C1.out.mono ?_
  rintro o w1 ⟨rfl, n, hw1⟩
  have K1 : Hid (Kept (fun _ => False) w w1) := by rw [hw1]; exact K0.out.drewN n
  have T1 : Hid (w1.heap[w.heap.size]? = some (.cells #[.int .i64 0, .int .i64 0] 43 (0, 0))) := by rw [hw1]; exact T0.out
  clear hw1 C1 K0 T0
  have C2 : Hid (IntAt ⟨#[49]⟩ 1) := int1
  go_wp2_with fail
  refine (C2.out w1).mono ?_
  rintro o w2 ⟨rfl, J2⟩
  have K2 : Hid (Kept (fun _ => False) w w2) := K1.out.trans J2 (fun _ _ z => z)
  have T2 : Hid (w2.heap[w.heap.size]? = some (.cells #[.int .i64 0, .int .i64 0] 43 (0, 0))) := J2.get T1.out (fun z => z)
  clear C2 J2 K1 T1
  go_wp2_with fail
  refine (atoi1 w2).mono ?_
  rintro o w3 ⟨rfl, J3⟩
  have K3 : Hid (Kept (fun _ => False) w w3) := K2.out.trans J3 (fun _ _ z => z)
  have T3 : Hid (w3.heap[w.heap.size]? = some (.cells #[.int .i64 0, .int .i64 0] 43 (0, 0))) := J3.get T2.out (fun z => z)
  clear J3 K2 T2
  go_wp2_with fail
  have KA : Hid (Kept (fun _ => False) w3 (w3.alloc (Obj.cells #[.int .i64 1, .int .i64 1] 43))) := (Kept.refl _ _).alloc _
  refine (hTagText _ (HV.out.kept (K3.out.trans KA.out (fun _ _ z => z)))).mono ?_
  rintro o w4 ⟨rfl, B4⟩
  have J4 : Kept (fun _ => False) (w3.alloc (Obj.cells #[.int .i64 1, .int .i64 1] 43)) w4 := kept_below B4
  have K4 : Hid (Kept (fun _ => False) w w4) := (K3.out.trans KA.out (fun _ _ z => z)).trans J4 (fun _ _ z => z)
  have T4 : Hid (w4.heap[w.heap.size]? = some (.cells #[.int .i64 0, .int .i64 0] 43 (0, 0))) := J4.get (KA.out.get T3.out (fun z => z)) (fun z => z)
  have U4 : Hid (w4.heap[w3.heap.size]? = some (.cells #[.int .i64 1, .int .i64 1] 43 (0, 0))) := J4.get (alloc_new _ _) (fun z => z)
  clear B4 J4 KA K3 T3
  have c0 := cell_blk U4.out 0 (v := .int .i64 1) rfl
  have c1 := cell_blk U4.out 1 (v := .int .i64 1) rfl
  have d0 := cell_blk T4.out 0 (v := .int .i64 0) rfl
  have d1 := cell_blk T4.out 1 (v := .int .i64 0) rfl
  have s0 := soft_blk T4.out 0
  have s1 := soft_blk T4.out 1
  go_wp2_with fail
  have G : ((w4.setCell ⟨w.heap.size, 0, none⟩ (.int .i64 1)).setCell ⟨w.heap.size, 1, none⟩ (.int .i64 1)).heap[w.heap.size]? = some (.cells #[.int .i64 1, .int .i64 1] 43 (0, 0)) := by
    have a := set_heap T4.out 0 (.int .i64 1)
    have b := set_heap a 1 (.int .i64 1)
    exact b
  refine bodyPost_ret (results_tag_tmp rfl _ _ w.heap.size 1 1 rfl G) rfl ⟨rfl, ?_⟩
  exact (K4.out.setCell (p := ⟨w.heap.size, 0, none⟩) (fun z => absurd z (Nat.lt_irrefl _)) _).setCell (p := ⟨w.heap.size, 1, none⟩) (fun z => absurd z (Nat.lt_irrefl _)) _
end Go.Proofs.YtbangbobfeflcaaDoor
