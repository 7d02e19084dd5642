import Derived.Test.YtbangbobfeflcaaGreatDoorHQt
import Derived.Test.YtbangbobfeflcaaGreatDoorShelf
namespace Go.Proofs.YtbangbobfeflcaaGreatDoor
open Go.RowKit 

/-- Cut, at a text and a mark: what it tells. -/
def CutAt (s m a b : ByteArray) (f : Bool) : Prop := s.size < 4294967281 ∧ Lib.cut s.data.toList m.data.toList = (a.data.toList, b.data.toList, f)
theorem hCut {s m a b : ByteArray} {f : Bool} (hc : CutAt s m a b f) {x : Int} {w : World} (gm : w.cell? ⟨1, 0, none⟩ = some (.int .i64 x)) : Calls Tryz.prog 29 #[.string s, .string m] w fun o w' => o = .returned (.tuple #[.string a, .string b, .bool f]) ∧ ∃ n, w' = w.drewN n := by
  have := Tryz.strings_Cut s m x w hc.1 gm
  rw [hc.2] at this
  exact this
theorem hWord {w : World} {g : Nat} {s a b : ByteArray} {f : Bool} {x : Int} (gm : w.cell? ⟨1, 0, none⟩ = some (.int .i64 x)) (hg : w.heap[g]? = some (.cells #[.string s] 91 (0, 0))) (hc : CutAt s ⟨#[32]⟩ a b f) : Calls Tryz.prog 51 #[.pointer (some ⟨g, 0, none⟩)] w fun o w' => o = .returned (.string a) ∧ w'.heap[g]? = some (.cells #[.string b] 91 (0, 0)) ∧ Kept (fun j => j = g) w w' := by
  have C : Hid (Calls Tryz.prog 29 #[.string s, .string ⟨#[32]⟩] w fun o w' => o = .returned (.tuple #[.string a, .string b, .bool f]) ∧ ∃ n, w' = w.drewN n) := hCut hc gm
  have c0 := cell_blk hg 0 (v := .string s) rfl
  have s0 := soft_blk hg 0
  have HG : Hid (w.heap[g]? = some (.cells #[.string s] 91 (0, 0))) := hg
  clear hc hg gm
  go_enter Tryz.func51, Tryz.ntmps51
  go_wp2_with fail
  refine C.out.mono ?_
  rintro o w2 ⟨rfl, n, hw2⟩
  have K2 : Hid (Kept (fun j => j = g) w w2) := by rw [hw2]; exact (Kept.refl _ _).drewN n
  have G2 : Hid (w2.heap[g]? = some (.cells #[.string s] 91 (0, 0))) := by rw [hw2]; exact HG.out
  have F : Hid ((w2.setCell ⟨g, 0, none⟩ (.string b)).heap[g]? = some (.cells #[.string b] 91 (0, 0)) ∧ Kept (fun j => j = g) w (w2.setCell ⟨g, 0, none⟩ (.string b))) := ⟨by rw [set_heap G2.out 0]; rfl, K2.out.setCell (p := ⟨g, 0, none⟩) (fun _ => rfl) (.string b)⟩
  have d0 := cell_blk G2.out 0 (v := .string s) rfl
  have t0 := soft_blk G2.out 0
  clear C c0 s0 HG hw2 K2 G2
  go_wp2_with fail
  go_ret
  exact ⟨by first | rfl | simp, F.out⟩
end Go.Proofs.YtbangbobfeflcaaGreatDoor
