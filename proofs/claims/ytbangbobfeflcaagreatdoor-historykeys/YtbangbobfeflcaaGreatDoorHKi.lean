import Derived.Test.YtbangbobfeflcaaGreatDoorHBy
namespace Go.Proofs.YtbangbobfeflcaaGreatDoor
open Go.RowKit 

/-- The words of the kinds, where they lie. -/
structure KWs (w : World) : Prop where
  c0 : w.cell? ⟨0, 0, none⟩ = some (.string ⟨#[]⟩)
  c1 : w.cell? ⟨0, 1, none⟩ = some (.string ⟨#[105, 110, 118, 111, 107, 101]⟩)
  c2 : w.cell? ⟨0, 2, none⟩ = some (.string ⟨#[114, 101, 116, 117, 114, 110]⟩)
  c3 : w.cell? ⟨0, 3, none⟩ = some (.string ⟨#[99, 97, 110, 99, 101, 108]⟩)
theorem KWs.kept {S : Nat → Prop} {w w' : World} (h : KWs w) (k : Kept S w w') (hn : ¬ S 0) : KWs w' := ⟨k.cell h.c0 hn, k.cell h.c1 hn, k.cell h.c2 hn, k.cell h.c3 hn⟩
theorem kix0 (w : World) : (Instr.index 100 (.agg #[.string ⟨#[]⟩, .string ⟨#[105, 110, 118, 111, 107, 101]⟩, .string ⟨#[114, 101, 116, 117, 114, 110]⟩, .string ⟨#[99, 97, 110, 99, 101, 108]⟩]) (.int .i64 0)).run Tryz.prog w = .ok (.string ⟨#[]⟩) w := by kernel_rfl
theorem kix1 (w : World) : (Instr.index 100 (.agg #[.string ⟨#[]⟩, .string ⟨#[105, 110, 118, 111, 107, 101]⟩, .string ⟨#[114, 101, 116, 117, 114, 110]⟩, .string ⟨#[99, 97, 110, 99, 101, 108]⟩]) (.int .i64 1)).run Tryz.prog w = .ok (.string ⟨#[105, 110, 118, 111, 107, 101]⟩) w := by kernel_rfl
theorem kix2 (w : World) : (Instr.index 100 (.agg #[.string ⟨#[]⟩, .string ⟨#[105, 110, 118, 111, 107, 101]⟩, .string ⟨#[114, 101, 116, 117, 114, 110]⟩, .string ⟨#[99, 97, 110, 99, 101, 108]⟩]) (.int .i64 2)).run Tryz.prog w = .ok (.string ⟨#[114, 101, 116, 117, 114, 110]⟩) w := by kernel_rfl
theorem kix3 (w : World) : (Instr.index 100 (.agg #[.string ⟨#[]⟩, .string ⟨#[105, 110, 118, 111, 107, 101]⟩, .string ⟨#[114, 101, 116, 117, 114, 110]⟩, .string ⟨#[99, 97, 110, 99, 101, 108]⟩]) (.int .i64 3)).run Tryz.prog w = .ok (.string ⟨#[99, 97, 110, 99, 101, 108]⟩) w := by kernel_rfl
set_option maxRecDepth 100000 in
theorem hKind1 (w : World) (h : KWs w) : Calls Tryz.prog 50 #[.string ⟨#[105, 110, 118, 111, 107, 101]⟩] w fun o w' => o = .returned (.int .i64 1) ∧ w' = w := by
  obtain ⟨c0, c1, c2, c3⟩ := h
  go_enter Tryz.func50, Tryz.ntmps50
  go_wp2_with fail
  clear c0 c1 c2 c3
  go_loopw [3, 4, 6] (fun _ _ u6 wr => ∃ i : Nat, u6 = .int .i64 (i : Int) ∧ i ≤ 1 ∧ wr = w) (fun _ _ u6 _ => 4 - (intOf u6).toNat)
  case atStart => exact ⟨0, rfl, by omega, rfl⟩
  case round =>
    obtain ⟨i, rfl, hi, rfl⟩ := hrel
    have hc : i = 0 ∨ i = 1 := by omega
    rcases hc with rfl | rfl
    · clear hi
      have ix := kix0 wr
      go_wp2_with fail
      go_roundw
      case rel => exact ⟨1, by go_num, by omega, by trivial⟩
      case measure => simp [intOf]
    · clear hi
      have ix := kix1 wr
      go_wp2_with fail
      go_ret
      exact ⟨by first | rfl | simp, rfl⟩
set_option maxRecDepth 100000 in
theorem hKind2 (w : World) (h : KWs w) : Calls Tryz.prog 50 #[.string ⟨#[114, 101, 116, 117, 114, 110]⟩] w fun o w' => o = .returned (.int .i64 2) ∧ w' = w := by
  obtain ⟨c0, c1, c2, c3⟩ := h
  go_enter Tryz.func50, Tryz.ntmps50
  go_wp2_with fail
  clear c0 c1 c2 c3
  go_loopw [3, 4, 6] (fun _ _ u6 wr => ∃ i : Nat, u6 = .int .i64 (i : Int) ∧ i ≤ 2 ∧ wr = w) (fun _ _ u6 _ => 4 - (intOf u6).toNat)
  case atStart => exact ⟨0, rfl, by omega, rfl⟩
  case round =>
    obtain ⟨i, rfl, hi, rfl⟩ := hrel
    have hc : i = 0 ∨ i = 1 ∨ i = 2 := by omega
    rcases hc with rfl | rfl | rfl
    · clear hi
      have ix := kix0 wr
      go_wp2_with fail
      go_roundw
      case rel => exact ⟨1, by go_num, by omega, by trivial⟩
      case measure => simp [intOf]
    · clear hi
      have ix := kix1 wr
      go_wp2_with fail
      go_roundw
      case rel => exact ⟨2, by go_num, by omega, by trivial⟩
      case measure => simp [intOf]
    · clear hi
      have ix := kix2 wr
      go_wp2_with fail
      go_ret
      exact ⟨by first | rfl | simp, rfl⟩
set_option maxRecDepth 100000 in
theorem hKind3 (w : World) (h : KWs w) : Calls Tryz.prog 50 #[.string ⟨#[99, 97, 110, 99, 101, 108]⟩] w fun o w' => o = .returned (.int .i64 3) ∧ w' = w := by
  obtain ⟨c0, c1, c2, c3⟩ := h
  go_enter Tryz.func50, Tryz.ntmps50
  go_wp2_with fail
  clear c0 c1 c2 c3
  go_loopw [3, 4, 6] (fun _ _ u6 wr => ∃ i : Nat, u6 = .int .i64 (i : Int) ∧ i ≤ 3 ∧ wr = w) (fun _ _ u6 _ => 4 - (intOf u6).toNat)
  case atStart => exact ⟨0, rfl, by omega, rfl⟩
  case round =>
    obtain ⟨i, rfl, hi, rfl⟩ := hrel
    have hc : i = 0 ∨ i = 1 ∨ i = 2 ∨ i = 3 := by omega
    rcases hc with rfl | rfl | rfl | rfl
    · clear hi
      have ix := kix0 wr
      go_wp2_with fail
      go_roundw
      case rel => exact ⟨1, by go_num, by omega, by trivial⟩
      case measure => simp [intOf]
    · clear hi
      have ix := kix1 wr
      go_wp2_with fail
      go_roundw
      case rel => exact ⟨2, by go_num, by omega, by trivial⟩
      case measure => simp [intOf]
    · clear hi
      have ix := kix2 wr
      go_wp2_with fail
      go_roundw
      case rel => exact ⟨3, by go_num, by omega, by trivial⟩
      case measure => simp [intOf]
    · clear hi
      have ix := kix3 wr
      go_wp2_with fail
      go_ret
      exact ⟨by first | rfl | simp, rfl⟩
end Go.Proofs.YtbangbobfeflcaaGreatDoor
