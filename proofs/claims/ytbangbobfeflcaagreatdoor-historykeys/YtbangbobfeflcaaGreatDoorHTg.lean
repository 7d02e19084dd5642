import Derived.Test.YtbangbobfeflcaaGreatDoorHNu
import Derived.Deep.RegionHeld3
import Derived.Deep.DeepCutAuto
import Derived.Laws.Concat
import Derived.BigQuiet
namespace Go.Proofs.YtbangbobfeflcaaGreatDoor
open Go.RowKit 

/-- The library's table. -/
def Tab (w : World) : Prop := Lib.TabIs Tryz.prog w "internal/strconv.uint64pow10" .u64 Lib.pow10Tab
theorem var_by {P : Program} {w w' : World} (B : Below w.heap.size w w') {n : String} {cs : Array Value} (h : w.var? P n = some cs) : w'.var? P n = some cs := by
  unfold World.var? at h ⊢
  cases e : P.globalNamed n with
  | none => rw [e] at h; cases h
  | some g =>
    rw [e] at h
    simp only [Option.bind_some] at h ⊢
    cases q : w.heap[g]? with
    | none => rw [q] at h; cases h
    | some o =>
      have lt : g < w.heap.size := (Array.getElem?_eq_some_iff.1 q).1
      rw [B.block g lt]
      exact h
theorem Tab.by {w w' : World} (h : Tab w) (B : Below w.heap.size w w') : Tab w' := var_by B h
theorem grow_below (w : World) (k : Nat) (os : Array Obj) : Below w.heap.size w (Sort.grow (w.drewN k) os) :=
  ⟨rfl, rfl, rfl, by simp [Sort.grow], fun j hj => Sort.heap_grow_old (w.drewN k) os hj⟩
set_option maxRecDepth 100000 in
theorem hTagText (w : World) (V : Tab w) : Calls Tryz.prog 64 #[.agg #[.int .i64 1, .int .i64 1]] w fun x w' => x = .returned (.string ⟨#[49, 46, 49]⟩) ∧ Below w.heap.size w w' := by
  have B0 : Below w.heap.size w (w.alloc (Obj.cells #[.int .i64 1, .int .i64 1] 37)) := (Below.refl w.heap.size w).alloc (Nat.le_refl _) _
  have T0 : (w.alloc (Obj.cells #[.int .i64 1, .int .i64 1] 37)).heap[w.heap.size]? = some (.cells #[.int .i64 1, .int .i64 1] 37 (0, 0)) := alloc_new _ _
  have S0 : Hid (_ ∧ _ ∧ _) := And.intro B0 (And.intro T0 (V.by B0))
  clear B0 T0 V
  have CV : Hid (∀ U, Calls Tryz.prog 88 #[.agg #[.int .i64 1, .int .i64 1]] U fun x w' => x = .returned (.bool true) ∧ Kept (fun _ => False) U w') := fun U => hValid 1 1 U
  go_enter Tryz.func64, Tryz.ntmps64
  go_wp2_with fail
  refine (CV.out _).mono ?_
  rintro x w1 ⟨rfl, K1⟩
  have B1 := below_kept K1
  have S1 : Hid (Below w.heap.size w w1 ∧ w1.heap[w.heap.size]? = some (.cells #[.int .i64 1, .int .i64 1] 37 (0, 0)) ∧ Tab w1) := ⟨S0.out.1.trans (B1.mono S0.out.1.size), K1.get S0.out.2.1 (fun z => z), S0.out.2.2.by B1⟩
  clear B1 S0 K1 CV
  have c0 := cell_blk S1.out.2.1 0 (v := .int .i64 1) rfl
  have c1 := cell_blk S1.out.2.1 1 (v := .int .i64 1) rfl
  have lt := block_lt S1.out.2.1
  have add1 : ∀ w, (Op.stringOp .add ⟨#[49]⟩ ⟨#[46]⟩).run Tryz.prog w = .ok (.string ⟨#[49, 46]⟩) w := fun w => by kernel_rfl
  have add2 : ∀ w, (Op.stringOp .add ⟨#[49, 46]⟩ ⟨#[49]⟩).run Tryz.prog w = .ok (.string ⟨#[49, 46, 49]⟩) w := fun w => by kernel_rfl
  have cF : Hid (∀ w, Tab w → Calls Tryz.prog 61 #[.int .i64 1, .int .i64 10] w fun x w' => x = .returned (.string ⟨#[49]⟩) ∧ Below w.heap.size w w') := fun w V => by
    refine (Tryz.strconv_FormatInt_10 1 (by omega) (by omega) w V).mono ?_
    rintro x w2 ⟨rfl, k, os, rfl⟩
    exact ⟨by kernel_rfl, grow_below w k os⟩
  have cI : Hid (∀ w, Tab w → Calls Tryz.prog 60 #[.int .i64 1] w fun x w' => x = .returned (.string ⟨#[49]⟩) ∧ Below w.heap.size w w') := fun w V => by
    refine (Tryz.strconv_Itoa 1 (by omega) (by omega) w V).mono ?_
    rintro x w2 ⟨rfl, k, os, rfl⟩
    exact ⟨by kernel_rfl, grow_below w k os⟩
  have B1 : Below w1.heap.size w1 w1.drew := (Below.refl _ _).drew
  have V1 : Hid (Tab w1.drew) := S1.out.2.2.by B1
  have KP : Hid (∀ w2, Below w1.drew.heap.size w1.drew w2 → w2.cell? ⟨w.heap.size, 0, none⟩ = some (.int .i64 1) ∧ w2.cell? ⟨w.heap.size, 1, none⟩ = some (.int .i64 1) ∧ Tab w2 ∧ Below w.heap.size w w2) :=
    fun w2 B2 => ⟨(B2.cell lt).trans c0, (B2.cell lt).trans c1, V1.out.by B2, S1.out.1.drew.trans (B2.mono S1.out.1.size)⟩
  clear B1
  go_upto_region 3 with fail
  go_region_held3 (fun w' => w'.cell? ⟨w.heap.size, 0, none⟩ = some (.int .i64 1) ∧ w'.cell? ⟨w.heap.size, 1, none⟩ = some (.int .i64 1)) (go_keep)
    (first | (go_at_call 61; refine (cF.out _ V1.out).mono ?_; rintro x w2 ⟨rfl, B2⟩; obtain ⟨q0, q1, V2, B3⟩ := KP.out w2 B2; have S2 : Hid (_ ∧ _) := And.intro V2 B3; clear V2 B3 B2) | (go_at_call 60; refine (cI.out _ S2.out.1).mono ?_; rintro x w3 ⟨rfl, B3⟩; have B4 : Hid (Below w.heap.size w w3) := S2.out.2.trans (B3.mono S2.out.2.size); have q2 : w3.cell? ⟨w.heap.size, 0, none⟩ = some (.int .i64 1) := (B3.cell (World.block_lt_of_cell? w2 _ q0)).trans q0; have q3 : w3.cell? ⟨w.heap.size, 1, none⟩ = some (.int .i64 1) := (B3.cell (World.block_lt_of_cell? w2 _ q1)).trans q1; clear B3) | fail)
  go_wp2_with fail
  go_ret
  exact ⟨by first | rfl | simp, B4.out⟩
end Go.Proofs.YtbangbobfeflcaaGreatDoor
