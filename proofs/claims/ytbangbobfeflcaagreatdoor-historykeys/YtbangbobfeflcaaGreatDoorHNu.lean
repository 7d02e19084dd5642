import Derived.Test.YtbangbobfeflcaaGreatDoorHKi
namespace Go.Proofs.YtbangbobfeflcaaGreatDoor
open Go.RowKit 

/-- ParseInt, at a text: what it tells. -/
def IntAt (a : ByteArray) (v : Int) : Prop := ∀ V : World, Calls Tryz.prog 83 #[.string a, .int .i64 10, .int .i64 64] V fun o w' => o = .returned (.tuple #[.int .i64 v, .nilIface]) ∧ Kept (fun _ => False) V w'
theorem hNumber {w : World} {g : Nat} {s a b : ByteArray} {f : Bool} {v : Int} (h : Rdr w g s) (h1 : CutAt s ⟨#[32]⟩ a b f) (h2 : IntAt a v) : Calls Tryz.prog 52 #[.pointer (some ⟨g, 0, none⟩)] w fun o w' => o = .returned (.int .i64 v) ∧ Rdr w' g b ∧ Kept (fun j => j = g) w w' := by
  have CW : Hid (Calls Tryz.prog 51 #[.pointer (some ⟨g, 0, none⟩)] w fun o w' => o = .returned (.string a) ∧ Rdr w' g b ∧ Kept (fun j => j = g) w w') := hWordR h h1
  have CI : Hid (IntAt a v) := h2
  clear h h1 h2
  go_enter Tryz.func52, Tryz.ntmps52
  go_wp2_with fail
  refine CW.out.mono ?_
  rintro o w1 ⟨rfl, R1', K1'⟩
  have R1 : Hid (Rdr w1 g b ∧ Kept (fun j => j = g) w w1) := ⟨R1', K1'⟩
  clear R1' K1' CW
  go_wp2_with fail
  refine (CI.out w1).mono ?_
  rintro o w2 ⟨rfl, K2⟩
  have F : Hid (Rdr w2 g b ∧ Kept (fun j => j = g) w w2) := by
    have K : Kept (fun j => j = g) w1 w2 := K2.mono (fun _ _ z => z.elim)
    exact ⟨R1.out.1.next K (K2.get R1.out.1.at_ (fun z => z)), R1.out.2.trans K (fun _ _ z => z)⟩
  clear K2 R1 CI
  go_wp2_with fail
  go_ret
  exact ⟨by first | rfl | simp, F.out⟩
end Go.Proofs.YtbangbobfeflcaaGreatDoor
