import Derived.Test.YtbangbobfeflcaaGreatDoorHUq
namespace Go.Proofs.YtbangbobfeflcaaGreatDoor
open Go.RowKit 

/-- What is left of a line, at g; the library's variable. -/
structure Rdr (w : World) (g : Nat) (s : ByteArray) : Prop where
  at_ : w.heap[g]? = some (.cells #[.string s] 91 (0, 0))
  ne : g ≠ 1
  lib : ∃ x, w.cell? ⟨1, 0, none⟩ = some (.int .i64 x)
theorem Rdr.next {w w' : World} {g : Nat} {s t : ByteArray} (h : Rdr w g s) (hk : Kept (fun j => j = g) w w') (ha : w'.heap[g]? = some (.cells #[.string t] 91 (0, 0))) : Rdr w' g t := by
  obtain ⟨x, hx⟩ := h.lib
  exact ⟨ha, h.ne, x, hk.cell hx (fun z => h.ne z.symm)⟩
theorem hWordR {w : World} {g : Nat} {s a b : ByteArray} {f : Bool} (h : Rdr w g s) (hc : CutAt s ⟨#[32]⟩ a b f) : Calls Tryz.prog 51 #[.pointer (some ⟨g, 0, none⟩)] w fun o w' => o = .returned (.string a) ∧ Rdr w' g b ∧ Kept (fun j => j = g) w w' := by
  obtain ⟨x, hx⟩ := h.lib
  refine (hWord hx h.at_ hc).mono ?_
  rintro o w' ⟨e, h1, h2⟩
  exact ⟨e, h.next h2 h1, h2⟩
theorem hBytes {w : World} {g C : Nat} {s a1 b1 t b2 a3 b3 : ByteArray} {f1 f2 f3 : Bool} (h : Rdr w g s) (h1 : CutAt s ⟨#[34]⟩ a1 b1 f1) (h2 : CutAt b1 ⟨#[34]⟩ t b2 f2) (h3 : CutAt b2 ⟨#[32]⟩ a3 b3 f3) (hu : ∀ V, Calls Tryz.prog 84 #[.string t] V fun o w' => ∃ p c, o = .returned (.slice p 1 c) ∧ QS V [C] p 1 c w') : Calls Tryz.prog 53 #[.pointer (some ⟨g, 0, none⟩)] w fun o w' => ∃ p c, o = .returned (.slice p 1 c) ∧ w'.ownsRow w.heap.size 5 1 (.slice p 1 c) 1 (cellsOf [C]) ∧ Rdr w' g b3 ∧ Kept (fun j => j = g) w w' := by
  obtain ⟨x, hx⟩ := h.lib
  have C1 : Hid (Calls Tryz.prog 29 #[.string s, .string ⟨#[34]⟩] w fun o w' => o = .returned (.tuple #[.string a1, .string b1, .bool f1]) ∧ ∃ n, w' = w.drewN n) := hCut h1 hx
  have HU : Hid (∀ V, Calls Tryz.prog 84 #[.string t] V fun o w' => ∃ p c, o = .returned (.slice p 1 c) ∧ QS V [C] p 1 c w') := hu
  have H : Hid (Rdr w g s ∧ CutAt b1 ⟨#[34]⟩ t b2 f2 ∧ CutAt b2 ⟨#[32]⟩ a3 b3 f3) := ⟨h, h2, h3⟩
  have c0 := cell_blk h.at_ 0 (v := .string s) rfl
  have s0 := soft_blk h.at_ 0
  clear h h1 h2 h3 hx hu
  go_enter Tryz.func53, Tryz.ntmps53
  go_wp2_with fail
  refine C1.out.mono ?_
  rintro o w1 ⟨rfl, n1, hw1⟩
  have K1 : Hid (Kept (fun j => j = g) w w1) := by rw [hw1]; exact (Kept.refl _ _).drewN n1
  have R1 : Hid (Rdr w1 g s) := H.out.1.next K1.out (by rw [hw1]; exact H.out.1.at_)
  clear hw1 C1 c0 s0
  obtain ⟨x, hx⟩ := R1.out.lib
  have C2 : Hid (Calls Tryz.prog 29 #[.string b1, .string ⟨#[34]⟩] w1 fun o w' => o = .returned (.tuple #[.string t, .string b2, .bool f2]) ∧ ∃ n, w' = w1.drewN n) := hCut H.out.2.1 hx
  clear hx
  go_wp2_with fail
  refine C2.out.mono ?_
  rintro o w2 ⟨rfl, n2, hw2⟩
  have K2 : Hid (Kept (fun j => j = g) w1 w2) := by rw [hw2]; exact (Kept.refl _ _).drewN n2
  have R2 : Hid (Rdr w2 g s) := R1.out.next K2.out (by rw [hw2]; exact R1.out.at_)
  clear hw2 C2
  have d0 := cell_blk R2.out.at_ 0 (v := .string s) rfl
  have t0 := soft_blk R2.out.at_ 0
  obtain ⟨W, hW⟩ : ∃ W, W = w2.setCell ⟨g, 0, none⟩ (.string b2) := ⟨_, rfl⟩
  have K3 : Hid (Kept (fun j => j = g) w W) := by
    rw [hW]
    exact (K1.out.trans K2.out (fun _ _ z => z)).setCell (p := ⟨g, 0, none⟩) (fun _ => rfl) (.string b2)
  have R3 : Hid (Rdr W g b2) := by
    refine H.out.1.next K3.out ?_
    rw [hW, set_heap R2.out.at_ 0]
    rfl
  have CW : Hid (Calls Tryz.prog 51 #[.pointer (some ⟨g, 0, none⟩)] W fun o w' => o = .returned (.string a3) ∧ Rdr w' g b3 ∧ Kept (fun j => j = g) W w') := hWordR R3.out H.out.2.2
  rw [hW] at CW
  have EW : Hid (W = w2.setCell ⟨g, 0, none⟩ (.string b2)) := hW
  clear hW
  go_wp2_with fail
  refine CW.out.mono ?_
  rintro o w4 ⟨rfl, R4', K4'⟩
  have R4 : Hid (Rdr w4 g b3) := R4'
  have K4 : Hid (Kept (fun j => j = g) w w4) := by
    rw [← EW.out] at K4'
    exact K3.out.trans K4' (fun _ _ z => z)
  clear R4' K4' CW EW d0 t0
  go_wp2_with fail
  refine (HU.out w4).mono ?_
  rintro o w5 ⟨p, c, rfl, Q5⟩
  have F : Hid (w5.ownsRow w.heap.size 5 1 (.slice p 1 c) 1 (cellsOf [C]) ∧ Rdr w5 g b3 ∧ Kept (fun j => j = g) w w5) := by
    have K5 : Kept (fun j => j = g) w4 w5 := Q5.kept.mono (fun _ _ z => z.elim)
    exact ⟨owns_mono Q5.row K4.out.size, R4.out.next K5 (Q5.kept.get R4.out.at_ (fun z => z)), K4.out.trans K5 (fun _ _ z => z)⟩
  clear Q5
  go_wp2_with fail
  go_ret
  exact ⟨p, c, by first | rfl | simp, F.out⟩
end Go.Proofs.YtbangbobfeflcaaGreatDoor
