import Derived.Test.YtbangbobfeflcaaGreatDoorHWd
namespace Go.Proofs.YtbangbobfeflcaaGreatDoor
open Go.RowKit 

def strLen : Value → Nat
  | .string s => s.size
  | _ => 0
set_option maxRecDepth 100000 in
theorem hUnquotedK (w : World) : Calls Tryz.prog 84 #[.string ⟨#[107]⟩] w fun o w' => ∃ p c, o = .returned (.slice p 1 c) ∧ QS w [107] p 1 c w' := by
  have mk : (Instr.makeSlice 34 (.int .i64 0) (.int .i64 1)).run Tryz.prog w = .ok (.slice (some ⟨w.heap.size, 0, none⟩) 0 1) (w.alloc (.cells #[.int .u8 0] 5)) := by kernel_rfl
  have S : Hid (QS w [] (some ⟨w.heap.size, 0, none⟩) 0 1 (w.alloc (.cells #[.int .u8 0] 5))) := by
    have K : Kept (fun _ => False) w (w.alloc (.cells #[.int .u8 0] 5)) := (Kept.refl _ _).alloc _
    exact ⟨⟨rfl, .inr ⟨w.heap.size, 1, #[.int .u8 0], rfl, Nat.le_refl _, alloc_new _ _, by omega, by unfold maxLen; omega, rfl, rfl⟩⟩, K⟩
  obtain ⟨W, hW⟩ : ∃ W, W = w.alloc (.cells #[.int .u8 0] 5) := ⟨_, rfl⟩
  rw [← hW] at mk S
  clear hW
  go_enter Tryz.func84, Tryz.ntmps84
  go_upto_region 2 with fail
  clear mk
  go_loopw [0, 3, 4, 5, 6, 7] (fun u0 u3 _ _ _ _ wr => (∃ (p : Option Addr) (c : Nat), u0 = .string ⟨#[107]⟩ ∧ u3 = .slice p 0 c ∧ Hid (QS w [] p 0 c wr)) ∨ (∃ (p : Option Addr) (c : Nat), u0 = .string ⟨#[]⟩ ∧ u3 = .slice p 1 c ∧ Hid (QS w [107] p 1 c wr))) (fun u0 _ _ _ _ _ _ => strLen u0)
  case atStart => exact .inl ⟨_, _, rfl, rfl, S⟩
  case round =>
    rcases hrel with ⟨p, c, rfl, rfl, S1⟩ | ⟨p, c, rfl, rfl, S1⟩
    · clear S
      have S2 : Hid (QS w [] p 0 c (wr.alloc (.cells #[.int .u8 107] 5))) := S1.out.on ((Kept.refl _ _).alloc _)
      have RV : Hid (Reads (wr.alloc (.cells #[.int .u8 107] 5)) (some ⟨wr.heap.size, 0, none⟩) 1 1 [107]) := by
        have o : (wr.alloc (.cells #[.int .u8 107] 5)).ownsRow wr.heap.size 5 1 (.slice (some ⟨wr.heap.size, 0, none⟩) 1 1) 1 (cellsOf [107]) := ⟨rfl, .inr ⟨wr.heap.size, 1, #[.int .u8 107], rfl, Nat.le_refl _, alloc_new _ _, by omega, by unfold maxLen; omega, rfl, rfl⟩⟩
        exact reads_own o (by decide)
      go_upto_region 8 with
        (first
          | (at_builtin; refine wpList_append_bytes _ rfl (.tmp 31) (.tmp 33) rfl w.heap.size (.slice p 0 c) 0 [] rfl S2.out.row _ 1 [107] rfl RV.out.src (by omega) S2.out.kept.size ?_; intro p9 c9 w9 ho hg hn9)
          | fail)
      have NX : Hid (QS w [107] p9 1 c9 w9) := ⟨ho.out, QS.grow S2.out hg.out⟩
      clear ho hg hn9 S2 RV S1
      go_wp2_with fail
      go_roundw
      case rel => exact .inr ⟨p9, c9, rfl, rfl, NX⟩
      case measure => decide
    · clear S
      go_wp2_with fail
      go_ret
      exact ⟨p, c, by first | rfl | simp, S1.out⟩
set_option maxRecDepth 100000 in
theorem hUnquotedX (w : World) : Calls Tryz.prog 84 #[.string ⟨#[120]⟩] w fun o w' => ∃ p c, o = .returned (.slice p 1 c) ∧ QS w [120] p 1 c w' := by
  have mk : (Instr.makeSlice 34 (.int .i64 0) (.int .i64 1)).run Tryz.prog w = .ok (.slice (some ⟨w.heap.size, 0, none⟩) 0 1) (w.alloc (.cells #[.int .u8 0] 5)) := by kernel_rfl
  have S : Hid (QS w [] (some ⟨w.heap.size, 0, none⟩) 0 1 (w.alloc (.cells #[.int .u8 0] 5))) := by
    have K : Kept (fun _ => False) w (w.alloc (.cells #[.int .u8 0] 5)) := (Kept.refl _ _).alloc _
    exact ⟨⟨rfl, .inr ⟨w.heap.size, 1, #[.int .u8 0], rfl, Nat.le_refl _, alloc_new _ _, by omega, by unfold maxLen; omega, rfl, rfl⟩⟩, K⟩
  obtain ⟨W, hW⟩ : ∃ W, W = w.alloc (.cells #[.int .u8 0] 5) := ⟨_, rfl⟩
  rw [← hW] at mk S
  clear hW
  go_enter Tryz.func84, Tryz.ntmps84
  go_upto_region 2 with fail
  clear mk
  go_loopw [0, 3, 4, 5, 6, 7] (fun u0 u3 _ _ _ _ wr => (∃ (p : Option Addr) (c : Nat), u0 = .string ⟨#[120]⟩ ∧ u3 = .slice p 0 c ∧ Hid (QS w [] p 0 c wr)) ∨ (∃ (p : Option Addr) (c : Nat), u0 = .string ⟨#[]⟩ ∧ u3 = .slice p 1 c ∧ Hid (QS w [120] p 1 c wr))) (fun u0 _ _ _ _ _ _ => strLen u0)
  case atStart => exact .inl ⟨_, _, rfl, rfl, S⟩
  case round =>
    rcases hrel with ⟨p, c, rfl, rfl, S1⟩ | ⟨p, c, rfl, rfl, S1⟩
    · clear S
      have S2 : Hid (QS w [] p 0 c (wr.alloc (.cells #[.int .u8 120] 5))) := S1.out.on ((Kept.refl _ _).alloc _)
      have RV : Hid (Reads (wr.alloc (.cells #[.int .u8 120] 5)) (some ⟨wr.heap.size, 0, none⟩) 1 1 [120]) := by
        have o : (wr.alloc (.cells #[.int .u8 120] 5)).ownsRow wr.heap.size 5 1 (.slice (some ⟨wr.heap.size, 0, none⟩) 1 1) 1 (cellsOf [120]) := ⟨rfl, .inr ⟨wr.heap.size, 1, #[.int .u8 120], rfl, Nat.le_refl _, alloc_new _ _, by omega, by unfold maxLen; omega, rfl, rfl⟩⟩
        exact reads_own o (by decide)
      go_upto_region 8 with
        (first
          | (at_builtin; refine wpList_append_bytes _ rfl (.tmp 31) (.tmp 33) rfl w.heap.size (.slice p 0 c) 0 [] rfl S2.out.row _ 1 [120] rfl RV.out.src (by omega) S2.out.kept.size ?_; intro p9 c9 w9 ho hg hn9)
          | fail)
      have NX : Hid (QS w [120] p9 1 c9 w9) := ⟨ho.out, QS.grow S2.out hg.out⟩
      clear ho hg hn9 S2 RV S1
      go_wp2_with fail
      go_roundw
      case rel => exact .inr ⟨p9, c9, rfl, rfl, NX⟩
      case measure => decide
    · clear S
      go_wp2_with fail
      go_ret
      exact ⟨p, c, by first | rfl | simp, S1.out⟩
end Go.Proofs.YtbangbobfeflcaaGreatDoor
