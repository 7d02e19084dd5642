import Derived.Test.YtbangbobfeflcaaDoorHQtJ
import Derived.Test.YtbangbobfeflcaaDoorShelf
namespace Go.Proofs.YtbangbobfeflcaaDoor
open Go.RowKit 

/-- Cut, at a text and a mark: what it tells. -/
def CutAt (s m a b : ByteArray) (f : Bool) : Prop := s.size < 4294967281 ∧ Lib.cut s.data.toList m.data.toList = (a.data.toList, b.data.toList, f)
theorem hCut {s m a b : ByteArray} {f : Bool} (hc : CutAt s m a b f) {x : Int} {w : World} (gm : w.cell? ⟨1, 0, none⟩ = some (.int .i64 x)) : Calls Tryd.prog 18 #[.string s, .string m] w fun o w' => o = .returned (.tuple #[.string a, .string b, .bool f]) ∧ ∃ n, w' = w.drewN n := by
  have := Tryd.strings_Cut s m x w hc.1 gm
  rw [hc.2] at this
  exact this
theorem hWord {w : World} {g : Nat} {s a b : ByteArray} {f : Bool} {x : Int} (gm : w.cell? ⟨1, 0, none⟩ = some (.int .i64 x)) (hg : w.heap[g]? = some (.cells #[.string s] 91 (0, 0))) (hc : CutAt s ⟨#[32]⟩ a b f) : Calls Tryd.prog 39 #[.pointer (some ⟨g, 0, none⟩)] w fun o w' => o = .returned (.string a) ∧ w'.heap[g]? = some (.cells #[.string b] 91 (0, 0)) ∧ Kept (fun j => j = g) w w' := by
  have C : Hid (Calls Tryd.prog 18 #[.string s, .string ⟨#[32]⟩] w fun o w' => o = .returned (.tuple #[.string a, .string b, .bool f]) ∧ ∃ n, w' = w.drewN n) := hCut hc gm
  have c0 := cell_blk hg 0 (v := .string s) rfl
  have s0 := soft_blk hg 0
  have HG : Hid (w.heap[g]? = some (.cells #[.string s] 91 (0, 0))) := hg
  clear hc hg gm
  go_enter Tryd.func39, Tryd.ntmps39
  go_wp2_with fail
  refine C.out.mono ?_
  rintro o w2 ⟨rfl, n, hw2⟩
  have K2 : Hid (Kept (fun j => j = g) w w2) := by rw [hw2]; exact (Kept.refl _ _).drewN n
  have G2 : Hid (w2.heap[g]? = some (.cells #[.string s] 91 (0, 0))) := by rw [hw2]; exact HG.out
  have F : Hid ((w2.setCell ⟨g, 0, none⟩ (.string b)).heap[g]? = some (.cells #[.string b] 91 (0, 0)) ∧ Kept (fun j => j = g) w (w2.setCell ⟨g, 0, none⟩ (.string b))) := ⟨by rw [set_heap G2.out 0]; rfl, K2.out.setCell (p := ⟨g, 0, none⟩) (fun _ => rfl) (.string b)⟩
  have d0 := cell_blk G2.out 0 (v := .string s) rfl
  have t0 := soft_blk G2.out 0
  clear C c0 s0 HG hw2 K2 G2
  go_wp2_with fail
  go_ret
  exact ⟨by first | rfl | simp, F.out⟩
end Go.Proofs.YtbangbobfeflcaaDoor

namespace Go.Proofs.YtbangbobfeflcaaDoor
open Go.RowKit 

def strLen : Value → Nat
  | .string s => s.size
  | _ => 0
set_option maxRecDepth 100000 in
theorem hUnquotedK (w : World) : Calls Tryd.prog 55 #[.string ⟨#[107]⟩] w fun o w' => ∃ p c, o = .returned (.slice p 1 c) ∧ QS w [107] p 1 c w' := by
  have mk : (Instr.makeSlice 41 (.int .i64 0) (.int .i64 1)).run Tryd.prog w = .ok (.slice (some ⟨w.heap.size, 0, none⟩) 0 1) (w.alloc (.cells #[.int .u8 0] 5)) := by kernel_rfl
  have S : Hid (QS w [] (some ⟨w.heap.size, 0, none⟩) 0 1 (w.alloc (.cells #[.int .u8 0] 5))) := by
    have K : Kept (fun _ => False) w (w.alloc (.cells #[.int .u8 0] 5)) := (Kept.refl _ _).alloc _
    exact ⟨⟨rfl, .inr ⟨w.heap.size, 1, #[.int .u8 0], rfl, Nat.le_refl _, alloc_new _ _, by omega, by unfold maxLen; omega, rfl, rfl⟩⟩, K⟩
  obtain ⟨W, hW⟩ : ∃ W, W = w.alloc (.cells #[.int .u8 0] 5) := ⟨_, rfl⟩
  rw [← hW] at mk S
  clear hW
  go_enter Tryd.func55, Tryd.ntmps55
  go_upto_region 2 with fail
  clear mk
  go_loopw [0, 3, 4, 5, 6, 7] (fun u0 u3 _ _ _ _ wr => (∃ (p : Option Addr) (c : Nat), u0 = .string ⟨#[107]⟩ ∧ u3 = .slice p 0 c ∧ Hid (QS w [] p 0 c wr)) ∨ (∃ (p : Option Addr) (c : Nat), u0 = .string ⟨#[]⟩ ∧ u3 = .slice p 1 c ∧ Hid (QS w [107] p 1 c wr))) (fun u0 _ _ _ _ _ _ => strLen u0)
  case atStart => exact .inl ⟨_, _, rfl, rfl, S⟩
  case round =>
    rcases hrel with ⟨p, c, rfl, rfl, S1⟩ | ⟨p, c, rfl, rfl, S1⟩
    · clear S
      have S2 : Hid (QS w [] p 0 c (wr.alloc (.cells #[.int .u8 107] 5))) := S1.out.on ((Kept.refl _ _).alloc _)
      have RV : Hid (Reads (wr.alloc (.cells #[.int .u8 107] 5)) (some ⟨wr.heap.size, 0, none⟩) 1 1 [107]) := by
        have o : (wr.alloc (.cells #[.int .u8 107] 5)).ownsRow wr.heap.size 5 1 (.slice (some ⟨wr.heap.size, 0, none⟩) 1 1) 1 (cellsOf [107]) := ⟨rfl, .inr ⟨wr.heap.size, 1, #[.int .u8 107], rfl, Nat.le_refl _, alloc_new _ _, by omega, by unfold maxLen; omega, rfl, rfl⟩⟩
        exact reads_own o (by decide)
      go_upto_region 8 with
        (first
          | (at_builtin; refine wpList_append_bytes _ rfl (.tmp 31) (.tmp 33) rfl w.heap.size (.slice p 0 c) 0 [] rfl S2.out.row _ 1 [107] rfl RV.out.src (by omega) S2.out.kept.size ?_; intro p9 c9 w9 ho hg hn9)
          | fail)
      have NX : Hid (QS w [107] p9 1 c9 w9) := ⟨ho.out, QS.grow S2.out hg.out⟩
      clear ho hg hn9 S2 RV S1
      go_wp2_with fail
      go_roundw
      case rel => exact .inr ⟨p9, c9, rfl, rfl, NX⟩
      case measure => decide
    · clear S
      go_wp2_with fail
      go_ret
      exact ⟨p, c, by first | rfl | simp, S1.out⟩
set_option maxRecDepth 100000 in
theorem hUnquotedX (w : World) : Calls Tryd.prog 55 #[.string ⟨#[120]⟩] w fun o w' => ∃ p c, o = .returned (.slice p 1 c) ∧ QS w [120] p 1 c w' := by
  have mk : (Instr.makeSlice 41 (.int .i64 0) (.int .i64 1)).run Tryd.prog w = .ok (.slice (some ⟨w.heap.size, 0, none⟩) 0 1) (w.alloc (.cells #[.int .u8 0] 5)) := by kernel_rfl
  have S : Hid (QS w [] (some ⟨w.heap.size, 0, none⟩) 0 1 (w.alloc (.cells #[.int .u8 0] 5))) := by
    have K : Kept (fun _ => False) w (w.alloc (.cells #[.int .u8 0] 5)) := (Kept.refl _ _).alloc _
    exact ⟨⟨rfl, .inr ⟨w.heap.size, 1, #[.int .u8 0], rfl, Nat.le_refl _, alloc_new _ _, by omega, by unfold maxLen; omega, rfl, rfl⟩⟩, K⟩
  obtain ⟨W, hW⟩ : ∃ W, W = w.alloc (.cells #[.int .u8 0] 5) := ⟨_, rfl⟩
  rw [← hW] at mk S
  clear hW
  go_enter Tryd.func55, Tryd.ntmps55
  go_upto_region 2 with fail
  clear mk
  go_loopw [0, 3, 4, 5, 6, 7] (fun u0 u3 _ _ _ _ wr => (∃ (p : Option Addr) (c : Nat), u0 = .string ⟨#[120]⟩ ∧ u3 = .slice p 0 c ∧ Hid (QS w [] p 0 c wr)) ∨ (∃ (p : Option Addr) (c : Nat), u0 = .string ⟨#[]⟩ ∧ u3 = .slice p 1 c ∧ Hid (QS w [120] p 1 c wr))) (fun u0 _ _ _ _ _ _ => strLen u0)
  case atStart => exact .inl ⟨_, _, rfl, rfl, S⟩
  case round =>
    rcases hrel with ⟨p, c, rfl, rfl, S1⟩ | ⟨p, c, rfl, rfl, S1⟩
    · clear S
      have S2 : Hid (QS w [] p 0 c (wr.alloc (.cells #[.int .u8 120] 5))) := S1.out.on ((Kept.refl _ _).alloc _)
      have RV : Hid (Reads (wr.alloc (.cells #[.int .u8 120] 5)) (some ⟨wr.heap.size, 0, none⟩) 1 1 [120]) := by
        have o : (wr.alloc (.cells #[.int .u8 120] 5)).ownsRow wr.heap.size 5 1 (.slice (some ⟨wr.heap.size, 0, none⟩) 1 1) 1 (cellsOf [120]) := ⟨rfl, .inr ⟨wr.heap.size, 1, #[.int .u8 120], rfl, Nat.le_refl _, alloc_new _ _, by omega, by unfold maxLen; omega, rfl, rfl⟩⟩
        exact reads_own o (by decide)
      go_upto_region 8 with
        (first
          | (at_builtin; refine wpList_append_bytes _ rfl (.tmp 31) (.tmp 33) rfl w.heap.size (.slice p 0 c) 0 [] rfl S2.out.row _ 1 [120] rfl RV.out.src (by omega) S2.out.kept.size ?_; intro p9 c9 w9 ho hg hn9)
          | fail)
      have NX : Hid (QS w [120] p9 1 c9 w9) := ⟨ho.out, QS.grow S2.out hg.out⟩
      clear ho hg hn9 S2 RV S1
      go_wp2_with fail
      go_roundw
      case rel => exact .inr ⟨p9, c9, rfl, rfl, NX⟩
      case measure => decide
    · clear S
      go_wp2_with fail
      go_ret
      exact ⟨p, c, by first | rfl | simp, S1.out⟩
end Go.Proofs.YtbangbobfeflcaaDoor

namespace Go.Proofs.YtbangbobfeflcaaDoor
open Go.RowKit 

/-- What is left of a line, at g; the library's variable. -/
structure Rdr (w : World) (g : Nat) (s : ByteArray) : Prop where
  at_ : w.heap[g]? = some (.cells #[.string s] 91 (0, 0))
  ne : g ≠ 1
  lib : ∃ x, w.cell? ⟨1, 0, none⟩ = some (.int .i64 x)
theorem Rdr.next {w w' : World} {g : Nat} {s t : ByteArray} (h : Rdr w g s) (hk : Kept (fun j => j = g) w w') (ha : w'.heap[g]? = some (.cells #[.string t] 91 (0, 0))) : Rdr w' g t := by
  obtain ⟨x, hx⟩ := h.lib
  exact ⟨ha, h.ne, x, hk.cell hx (fun z => h.ne z.symm)⟩
theorem hWordR {w : World} {g : Nat} {s a b : ByteArray} {f : Bool} (h : Rdr w g s) (hc : CutAt s ⟨#[32]⟩ a b f) : Calls Tryd.prog 39 #[.pointer (some ⟨g, 0, none⟩)] w fun o w' => o = .returned (.string a) ∧ Rdr w' g b ∧ Kept (fun j => j = g) w w' := by
  obtain ⟨x, hx⟩ := h.lib
  refine (hWord hx h.at_ hc).mono ?_
  rintro o w' ⟨e, h1, h2⟩
  exact ⟨e, h.next h2 h1, h2⟩
theorem hBytes {w : World} {g C : Nat} {s a1 b1 t b2 a3 b3 : ByteArray} {f1 f2 f3 : Bool} (h : Rdr w g s) (h1 : CutAt s ⟨#[34]⟩ a1 b1 f1) (h2 : CutAt b1 ⟨#[34]⟩ t b2 f2) (h3 : CutAt b2 ⟨#[32]⟩ a3 b3 f3) (hu : ∀ V, Calls Tryd.prog 55 #[.string t] V fun o w' => ∃ p c, o = .returned (.slice p 1 c) ∧ QS V [C] p 1 c w') : Calls Tryd.prog 41 #[.pointer (some ⟨g, 0, none⟩)] w fun o w' => ∃ p c, o = .returned (.slice p 1 c) ∧ w'.ownsRow w.heap.size 5 1 (.slice p 1 c) 1 (cellsOf [C]) ∧ Rdr w' g b3 ∧ Kept (fun j => j = g) w w' := by
  obtain ⟨x, hx⟩ := h.lib
  have C1 : Hid (Calls Tryd.prog 18 #[.string s, .string ⟨#[34]⟩] w fun o w' => o = .returned (.tuple #[.string a1, .string b1, .bool f1]) ∧ ∃ n, w' = w.drewN n) := hCut h1 hx
  have HU : Hid (∀ V, Calls Tryd.prog 55 #[.string t] V fun o w' => ∃ p c, o = .returned (.slice p 1 c) ∧ QS V [C] p 1 c w') := hu
  have H : Hid (Rdr w g s ∧ CutAt b1 ⟨#[34]⟩ t b2 f2 ∧ CutAt b2 ⟨#[32]⟩ a3 b3 f3) := ⟨h, h2, h3⟩
  have c0 := cell_blk h.at_ 0 (v := .string s) rfl
  have s0 := soft_blk h.at_ 0
  clear h h1 h2 h3 hx hu
  go_enter Tryd.func41, Tryd.ntmps41
  go_wp2_with fail
  refine C1.out.mono ?_
  rintro o w1 ⟨rfl, n1, hw1⟩
  have K1 : Hid (Kept (fun j => j = g) w w1) := by rw [hw1]; exact (Kept.refl _ _).drewN n1
  have R1 : Hid (Rdr w1 g s) := H.out.1.next K1.out (by rw [hw1]; exact H.out.1.at_)
  clear hw1 C1 c0 s0
  obtain ⟨x, hx⟩ := R1.out.lib
  have C2 : Hid (Calls Tryd.prog 18 #[.string b1, .string ⟨#[34]⟩] w1 fun o w' => o = .returned (.tuple #[.string t, .string b2, .bool f2]) ∧ ∃ n, w' = w1.drewN n) := hCut H.out.2.1 hx
  clear hx
  go_wp2_with fail
  refine C2.out.mono ?_
  rintro o w2 ⟨rfl, n2, hw2⟩
  have K2 : Hid (Kept (fun j => j = g) w1 w2) := by rw [hw2]; exact (Kept.refl _ _).drewN n2
  have R2 : Hid (Rdr w2 g s) := R1.out.next K2.out (by rw [hw2]; exact R1.out.at_)
  clear hw2 C2
  have d0 := cell_blk R2.out.at_ 0 (v := .string s) rfl
  have t0 := soft_blk R2.out.at_ 0
  obtain ⟨W, hW⟩ : ∃ W, W = w2.setCell ⟨g, 0, none⟩ (.string b2) := ⟨_, rfl⟩
  have K3 : Hid (Kept (fun j => j = g) w W) := by
    rw [hW]
    exact (K1.out.trans K2.out (fun _ _ z => z)).setCell (p := ⟨g, 0, none⟩) (fun _ => rfl) (.string b2)
  have R3 : Hid (Rdr W g b2) := by
    refine H.out.1.next K3.out ?_
    rw [hW, set_heap R2.out.at_ 0]
    rfl
  have CW : Hid (Calls Tryd.prog 39 #[.pointer (some ⟨g, 0, none⟩)] W fun o w' => o = .returned (.string a3) ∧ Rdr w' g b3 ∧ Kept (fun j => j = g) W w') := hWordR R3.out H.out.2.2
  rw [hW] at CW
  have EW : Hid (W = w2.setCell ⟨g, 0, none⟩ (.string b2)) := hW
  clear hW
  go_wp2_with fail
  refine CW.out.mono ?_
  rintro o w4 ⟨rfl, R4', K4'⟩
  have R4 : Hid (Rdr w4 g b3) := R4'
  have K4 : Hid (Kept (fun j => j = g) w w4) := by
    rw [← EW.out] at K4'
    exact K3.out.trans K4' (fun _ _ z => z)
  clear R4' K4' CW EW d0 t0
  go_wp2_with fail
  refine (HU.out w4).mono ?_
  rintro o w5 ⟨p, c, rfl, Q5⟩
  have F : Hid (w5.ownsRow w.heap.size 5 1 (.slice p 1 c) 1 (cellsOf [C]) ∧ Rdr w5 g b3 ∧ Kept (fun j => j = g) w w5) := by
    have K5 : Kept (fun j => j = g) w4 w5 := Q5.kept.mono (fun _ _ z => z.elim)
    exact ⟨owns_mono Q5.row K4.out.size, R4.out.next K5 (Q5.kept.get R4.out.at_ (fun z => z)), K4.out.trans K5 (fun _ _ z => z)⟩
  clear Q5
  go_wp2_with fail
  go_ret
  exact ⟨p, c, by first | rfl | simp, F.out⟩
end Go.Proofs.YtbangbobfeflcaaDoor

namespace Go.Proofs.YtbangbobfeflcaaDoor
open Go.RowKit 

/-- The words of the kinds, where they lie. -/
structure KWs (w : World) : Prop where
  c0 : w.cell? ⟨0, 0, none⟩ = some (.string ⟨#[]⟩)
  c1 : w.cell? ⟨0, 1, none⟩ = some (.string ⟨#[105, 110, 118, 111, 107, 101]⟩)
  c2 : w.cell? ⟨0, 2, none⟩ = some (.string ⟨#[114, 101, 116, 117, 114, 110]⟩)
  c3 : w.cell? ⟨0, 3, none⟩ = some (.string ⟨#[99, 97, 110, 99, 101, 108]⟩)
theorem KWs.kept {S : Nat → Prop} {w w' : World} (h : KWs w) (k : Kept S w w') (hn : ¬ S 0) : KWs w' := ⟨k.cell h.c0 hn, k.cell h.c1 hn, k.cell h.c2 hn, k.cell h.c3 hn⟩
theorem kix0 (w : World) : (Instr.index 80 (.agg #[.string ⟨#[]⟩, .string ⟨#[105, 110, 118, 111, 107, 101]⟩, .string ⟨#[114, 101, 116, 117, 114, 110]⟩, .string ⟨#[99, 97, 110, 99, 101, 108]⟩]) (.int .i64 0)).run Tryd.prog w = .ok (.string ⟨#[]⟩) w := by kernel_rfl
theorem kix1 (w : World) : (Instr.index 80 (.agg #[.string ⟨#[]⟩, .string ⟨#[105, 110, 118, 111, 107, 101]⟩, .string ⟨#[114, 101, 116, 117, 114, 110]⟩, .string ⟨#[99, 97, 110, 99, 101, 108]⟩]) (.int .i64 1)).run Tryd.prog w = .ok (.string ⟨#[105, 110, 118, 111, 107, 101]⟩) w := by kernel_rfl
theorem kix2 (w : World) : (Instr.index 80 (.agg #[.string ⟨#[]⟩, .string ⟨#[105, 110, 118, 111, 107, 101]⟩, .string ⟨#[114, 101, 116, 117, 114, 110]⟩, .string ⟨#[99, 97, 110, 99, 101, 108]⟩]) (.int .i64 2)).run Tryd.prog w = .ok (.string ⟨#[114, 101, 116, 117, 114, 110]⟩) w := by kernel_rfl
theorem kix3 (w : World) : (Instr.index 80 (.agg #[.string ⟨#[]⟩, .string ⟨#[105, 110, 118, 111, 107, 101]⟩, .string ⟨#[114, 101, 116, 117, 114, 110]⟩, .string ⟨#[99, 97, 110, 99, 101, 108]⟩]) (.int .i64 3)).run Tryd.prog w = .ok (.string ⟨#[99, 97, 110, 99, 101, 108]⟩) w := by kernel_rfl
set_option maxRecDepth 100000 in
theorem hKind1 (w : World) (h : KWs w) : Calls Tryd.prog 38 #[.string ⟨#[105, 110, 118, 111, 107, 101]⟩] w fun o w' => o = .returned (.int .i64 1) ∧ w' = w := by
  obtain ⟨c0, c1, c2, c3⟩ := h
  go_enter Tryd.func38, Tryd.ntmps38
  go_wp2_with fail
  clear c0 c1 c2 c3
  go_loopw [3, 4, 6] (fun _ _ u6 wr => ∃ i : Nat, u6 = .int .i64 (i : Int) ∧ i ≤ 1 ∧ wr = w) (fun _ _ u6 _ => 4 - (intOf u6).toNat)
  case atStart => exact ⟨0, rfl, by omega, rfl⟩
  case round =>
    obtain ⟨i, rfl, hi, rfl⟩ := hrel
    have hc : i = 0 ∨ i = 1 := by omega
    rcases hc with rfl | rfl
    · clear hi
      have ix := kix0 wr
      go_wp2_with fail
      go_roundw
      case rel => exact ⟨1, by go_num, by omega, by trivial⟩
      case measure => simp [intOf]
    · clear hi
      have ix := kix1 wr
      go_wp2_with fail
      go_ret
      exact ⟨by first | rfl | simp, rfl⟩
set_option maxRecDepth 100000 in
theorem hKind2 (w : World) (h : KWs w) : Calls Tryd.prog 38 #[.string ⟨#[114, 101, 116, 117, 114, 110]⟩] w fun o w' => o = .returned (.int .i64 2) ∧ w' = w := by
  obtain ⟨c0, c1, c2, c3⟩ := h
  go_enter Tryd.func38, Tryd.ntmps38
  go_wp2_with fail
  clear c0 c1 c2 c3
  go_loopw [3, 4, 6] (fun _ _ u6 wr => ∃ i : Nat, u6 = .int .i64 (i : Int) ∧ i ≤ 2 ∧ wr = w) (fun _ _ u6 _ => 4 - (intOf u6).toNat)
  case atStart => exact ⟨0, rfl, by omega, rfl⟩
  case round =>
    obtain ⟨i, rfl, hi, rfl⟩ := hrel
    have hc : i = 0 ∨ i = 1 ∨ i = 2 := by omega
    rcases hc with rfl | rfl | rfl
    · clear hi
      have ix := kix0 wr
      go_wp2_with fail
      go_roundw
      case rel => exact ⟨1, by go_num, by omega, by trivial⟩
      case measure => simp [intOf]
    · clear hi
      have ix := kix1 wr
      go_wp2_with fail
      go_roundw
      case rel => exact ⟨2, by go_num, by omega, by trivial⟩
      case measure => simp [intOf]
    · clear hi
      have ix := kix2 wr
      go_wp2_with fail
      go_ret
      exact ⟨by first | rfl | simp, rfl⟩
set_option maxRecDepth 100000 in
theorem hKind3 (w : World) (h : KWs w) : Calls Tryd.prog 38 #[.string ⟨#[99, 97, 110, 99, 101, 108]⟩] w fun o w' => o = .returned (.int .i64 3) ∧ w' = w := by
  obtain ⟨c0, c1, c2, c3⟩ := h
  go_enter Tryd.func38, Tryd.ntmps38
  go_wp2_with fail
  clear c0 c1 c2 c3
  go_loopw [3, 4, 6] (fun _ _ u6 wr => ∃ i : Nat, u6 = .int .i64 (i : Int) ∧ i ≤ 3 ∧ wr = w) (fun _ _ u6 _ => 4 - (intOf u6).toNat)
  case atStart => exact ⟨0, rfl, by omega, rfl⟩
  case round =>
    obtain ⟨i, rfl, hi, rfl⟩ := hrel
    have hc : i = 0 ∨ i = 1 ∨ i = 2 ∨ i = 3 := by omega
    rcases hc with rfl | rfl | rfl | rfl
    · clear hi
      have ix := kix0 wr
      go_wp2_with fail
      go_roundw
      case rel => exact ⟨1, by go_num, by omega, by trivial⟩
      case measure => simp [intOf]
    · clear hi
      have ix := kix1 wr
      go_wp2_with fail
      go_roundw
      case rel => exact ⟨2, by go_num, by omega, by trivial⟩
      case measure => simp [intOf]
    · clear hi
      have ix := kix2 wr
      go_wp2_with fail
      go_roundw
      case rel => exact ⟨3, by go_num, by omega, by trivial⟩
      case measure => simp [intOf]
    · clear hi
      have ix := kix3 wr
      go_wp2_with fail
      go_ret
      exact ⟨by first | rfl | simp, rfl⟩
end Go.Proofs.YtbangbobfeflcaaDoor
