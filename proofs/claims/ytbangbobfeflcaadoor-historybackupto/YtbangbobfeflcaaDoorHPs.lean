import Derived.Test.YtbangbobfeflcaaDoorHMe
namespace Go.Proofs.YtbangbobfeflcaaDoor
open Go.RowKit 

def rst0 : ByteArray := ⟨#[105, 110, 118, 111, 107, 101, 32, 49, 32, 49, 32, 112, 117, 116, 32, 34, 107, 34, 32, 34, 120, 34, 10, 105, 110, 118, 111, 107, 101, 32, 50, 32, 49, 32, 103, 101, 116, 32, 34, 107, 34, 10, 99, 97, 110, 99, 101, 108, 32, 49, 32, 49, 32, 112, 117, 116, 32, 34, 107, 34, 32, 49, 46, 49, 10, 114, 101, 116, 117, 114, 110, 32, 50, 32, 49, 32, 103, 101, 116, 32, 34, 107, 34, 32, 111, 107, 32, 49, 46, 49, 32, 34, 120, 34, 10]⟩
def rst1 : ByteArray := ⟨#[105, 110, 118, 111, 107, 101, 32, 50, 32, 49, 32, 103, 101, 116, 32, 34, 107, 34, 10, 99, 97, 110, 99, 101, 108, 32, 49, 32, 49, 32, 112, 117, 116, 32, 34, 107, 34, 32, 49, 46, 49, 10, 114, 101, 116, 117, 114, 110, 32, 50, 32, 49, 32, 103, 101, 116, 32, 34, 107, 34, 32, 111, 107, 32, 49, 46, 49, 32, 34, 120, 34, 10]⟩
def rst2 : ByteArray := ⟨#[99, 97, 110, 99, 101, 108, 32, 49, 32, 49, 32, 112, 117, 116, 32, 34, 107, 34, 32, 49, 46, 49, 10, 114, 101, 116, 117, 114, 110, 32, 50, 32, 49, 32, 103, 101, 116, 32, 34, 107, 34, 32, 111, 107, 32, 49, 46, 49, 32, 34, 120, 34, 10]⟩
def rst3 : ByteArray := ⟨#[114, 101, 116, 117, 114, 110, 32, 50, 32, 49, 32, 103, 101, 116, 32, 34, 107, 34, 32, 111, 107, 32, 49, 46, 49, 32, 34, 120, 34, 10]⟩
def rst4 : ByteArray := ⟨#[]⟩
def rst : Nat → ByteArray
  | 0 => rst0
  | 1 => rst1
  | 2 => rst2
  | 3 => rst3
  | _ => rst4
def RetPs (w : World) (o : Ending) (w' : World) : Prop := ∃ (p : Option Addr) (c : Nat) (p1 p4 : Option Addr) (c1 c4 : Nat), o = .returned (.tuple #[.slice p 4 c, .int .i64 0, .int .i64 0]) ∧ PS w w' p 4 c (evs p1 p4 c1 c4)
theorem cut0 : CutAt rst0 ⟨#[10]⟩ ⟨#[105, 110, 118, 111, 107, 101, 32, 49, 32, 49, 32, 112, 117, 116, 32, 34, 107, 34, 32, 34, 120, 34]⟩ rst1 true := ⟨by decide, by kernel_rfl⟩
theorem cut1 : CutAt rst1 ⟨#[10]⟩ ⟨#[105, 110, 118, 111, 107, 101, 32, 50, 32, 49, 32, 103, 101, 116, 32, 34, 107, 34]⟩ rst2 true := ⟨by decide, by kernel_rfl⟩
theorem cut2 : CutAt rst2 ⟨#[10]⟩ ⟨#[99, 97, 110, 99, 101, 108, 32, 49, 32, 49, 32, 112, 117, 116, 32, 34, 107, 34, 32, 49, 46, 49]⟩ rst3 true := ⟨by decide, by kernel_rfl⟩
theorem cut3 : CutAt rst3 ⟨#[10]⟩ ⟨#[114, 101, 116, 117, 114, 110, 32, 50, 32, 49, 32, 103, 101, 116, 32, 34, 107, 34, 32, 111, 107, 32, 49, 46, 49, 32, 34, 120, 34]⟩ rst4 true := ⟨by decide, by kernel_rfl⟩
theorem flt0 (p : Option Addr) (c : Nat) (V : World) : Calls Tryd.prog 14 #[.agg #[.int .i64 1, .int .i64 1, .int .i64 1, .bool true, .string ⟨#[107]⟩, .slice p 1 c, .int .i64 0, .int .i64 0, .int .i64 0]] V fun o w' => o = .returned (.int .i64 0) ∧ Kept (fun _ => False) V w' := by
  have q := hFault ⟨1, 1, 1, true, ⟨#[107]⟩, p, 1, c, 0, 0, 0, [120]⟩ (show (1 : Nat) ≤ 9223372036854775807 by omega) V
  rw [show faultE ⟨1, 1, 1, true, ⟨#[107]⟩, p, 1, c, 0, 0, 0, [120]⟩ = 0 from by kernel_rfl] at q
  exact q
theorem flt1 (V : World) : Calls Tryd.prog 14 #[.agg #[.int .i64 1, .int .i64 2, .int .i64 1, .bool false, .string ⟨#[107]⟩, .slice none 0 0, .int .i64 0, .int .i64 0, .int .i64 0]] V fun o w' => o = .returned (.int .i64 0) ∧ Kept (fun _ => False) V w' := by
  have q := hFault ⟨1, 2, 1, false, ⟨#[107]⟩, none, 0, 0, 0, 0, 0, []⟩ (show (0 : Nat) ≤ 9223372036854775807 by omega) V
  rw [show faultE ⟨1, 2, 1, false, ⟨#[107]⟩, none, 0, 0, 0, 0, 0, []⟩ = 0 from by kernel_rfl] at q
  exact q
theorem flt2 (V : World) : Calls Tryd.prog 14 #[.agg #[.int .i64 3, .int .i64 1, .int .i64 1, .bool true, .string ⟨#[107]⟩, .slice none 0 0, .int .i64 0, .int .i64 1, .int .i64 1]] V fun o w' => o = .returned (.int .i64 0) ∧ Kept (fun _ => False) V w' := by
  have q := hFault ⟨3, 1, 1, true, ⟨#[107]⟩, none, 0, 0, 0, 1, 1, []⟩ (show (0 : Nat) ≤ 9223372036854775807 by omega) V
  rw [show faultE ⟨3, 1, 1, true, ⟨#[107]⟩, none, 0, 0, 0, 1, 1, []⟩ = 0 from by kernel_rfl] at q
  exact q
theorem flt3 (p : Option Addr) (c : Nat) (V : World) : Calls Tryd.prog 14 #[.agg #[.int .i64 2, .int .i64 2, .int .i64 1, .bool false, .string ⟨#[107]⟩, .slice p 1 c, .int .i64 0, .int .i64 1, .int .i64 1]] V fun o w' => o = .returned (.int .i64 0) ∧ Kept (fun _ => False) V w' := by
  have q := hFault ⟨2, 2, 1, false, ⟨#[107]⟩, p, 1, c, 0, 1, 1, [120]⟩ (show (1 : Nat) ≤ 9223372036854775807 by omega) V
  rw [show faultE ⟨2, 2, 1, false, ⟨#[107]⟩, p, 1, c, 0, 1, 1, [120]⟩ = 0 from by kernel_rfl] at q
  exact q
/-- What of the package's variables is wanted. -/
structure Glob (w : World) : Prop where
  tab : Tab w
  kw : KWs w
  ne : w.heap.size ≠ 0
  gm : ∃ x, w.cell? ⟨1, 0, none⟩ = some (.int .i64 x)
theorem Glob.kept {w w' : World} (h : Glob w) (K : Kept (fun _ => False) w w') : Glob w' := ⟨h.tab.kept K, h.kw.kept K (fun z => z), fun z => h.ne (by have := K.size; omega), by obtain ⟨x, hx⟩ := h.gm; exact ⟨x, K.cell hx (fun z => z)⟩⟩
set_option maxRecDepth 100000 in
set_option maxHeartbeats 4000000 in
theorem hParse (w : World) (G : Glob w) : Calls Tryd.prog 7 #[.string rst0] w (RetPs w) := by
  have GL : Hid (Glob w) := G
  have S0 : Hid (PS w w none 0 0 [] ∧ ∃ p1 p4 c1 c4, ([] : List Ev) = (evs p1 p4 c1 c4).take 0) := ⟨⟨EaR.nil _ _, fun e h => (by cases h), Kept.refl _ _⟩, none, none, 0, 0, rfl⟩
  have e0 : rst 0 = rst0 := rfl
  clear G
  go_enter Tryd.func7, Tryd.ntmps7
  go_wp2_with fail
  go_loopw [0, 5, 6, 7, 8, 9] (fun u0 u5 _ _ _ _ wr => ∃ (j : Nat) (p : Option Addr) (c : Nat) (L : List Ev), u0 = .string (rst j) ∧ u5 = .slice p j c ∧ j ≤ 4 ∧ Hid (PS w wr p j c L ∧ ∃ p1 p4 c1 c4, L = (evs p1 p4 c1 c4).take j)) (fun _ u5 _ _ _ _ _ => 4 - lenOf u5)
  case atStart => exact ⟨0, none, 0, [], rfl, rfl, by omega, S0⟩
  case round =>
    obtain ⟨j, p0, c0, L, rfl, rfl, hj, S⟩ := hrel
    clear S0 e0
    obtain ⟨wo, hwo⟩ : ∃ wo, wo = wr := ⟨_, rfl⟩
    rw [← hwo] at S ⊢
    clear hwo
    have GO : Hid (Glob wo) := GL.out.kept S.out.1.kept
    obtain rfl | rfl | rfl | rfl | rfl : j = 0 ∨ j = 1 ∨ j = 2 ∨ j = 3 ∨ j = 4 := by omega
    · have n0 : (rst 0).toList.isEmpty = false := by kernel_rfl
      have CC : Hid (Calls Tryd.prog 18 #[.string (rst 0), .string ⟨#[10]⟩] wo fun o w' => o = .returned (.tuple #[.string ⟨#[105, 110, 118, 111, 107, 101, 32, 49, 32, 49, 32, 112, 117, 116, 32, 34, 107, 34, 32, 34, 120, 34]⟩, .string (rst 1), .bool true]) ∧ ∃ n, w' = wo.drewN n) := by obtain ⟨x, hx⟩ := GO.out.gm; exact hCut cut0 hx
      go_wp2_with fail
      refine CC.out.mono ?_
      rintro o w2 ⟨rfl, n2, hw2⟩
      have K2 : Hid (Kept (fun _ => False) wo w2) := by rw [hw2]; exact (Kept.refl _ _).drewN n2
      clear hw2 CC
      have G2 : Hid (Glob w2) := GO.out.kept K2.out
      have CG : Hid (Calls Tryd.prog 19 #[.string ⟨#[105, 110, 118, 111, 107, 101, 32, 49, 32, 49, 32, 112, 117, 116, 32, 34, 107, 34, 32, 34, 120, 34]⟩] w2 fun o w' => ∃ p c, o = .returned (.agg #[.int .i64 1, .int .i64 1, .int .i64 1, .bool true, .string ⟨#[107]⟩, .slice p 1 c, .int .i64 0, .int .i64 0, .int .i64 0]) ∧ w'.ownsRow w2.heap.size 5 1 (.slice p 1 c) 1 (cellsOf [120]) ∧ Kept (fun _ => False) w2 w') := hGuess1 w2 G2.out.tab G2.out.kw G2.out.ne G2.out.gm
      go_wp2_with fail
      refine CG.out.mono ?_
      rintro o w3 ⟨p, c, rfl, ro3, K3⟩
      have S3 : Hid (PS w w3 p0 0 c0 L) := S.out.1.k0 (K2.out.trans K3 (fun _ _ z => z))
      have R3 : Hid (w3.ownsRow w.heap.size 5 1 (.slice p 1 c) 1 (cellsOf [120])) := owns_mono ro3 (Nat.le_trans S.out.1.kept.size K2.out.size)
      clear ro3
      have G3 : Hid (Glob w3) := G2.out.kept K3
      obtain ⟨W, hW⟩ : ∃ W, W = w3.alloc (.cells #[.int .i64 1, .int .i64 1, .int .i64 1, .bool true, .string ⟨#[107]⟩, .slice p 1 c, .int .i64 0, .int .i64 0, .int .i64 0] 45) := ⟨_, rfl⟩
      obtain ⟨B, hB⟩ : ∃ B, B = w3.heap.size := ⟨_, rfl⟩
      have J : Hid (W.heap[B]? = some (.cells #[.int .i64 1, .int .i64 1, .int .i64 1, .bool true, .string ⟨#[107]⟩, .slice p 1 c, .int .i64 0, .int .i64 0, .int .i64 0] 45 (0, 0)) ∧ Kept (fun _ => False) w3 W) := ⟨by rw [hW, hB]; exact alloc_new _ _, by rw [hW]; exact (Kept.refl _ _).alloc _⟩
      have EW : Hid (W = w3.alloc (.cells #[.int .i64 1, .int .i64 1, .int .i64 1, .bool true, .string ⟨#[107]⟩, .slice p 1 c, .int .i64 0, .int .i64 0, .int .i64 0] 45) ∧ B = w3.heap.size) := ⟨hW, hB⟩
      clear hW hB CG K3
      go_upto_region 5 with fail
      rw [← EW.out.1, ← EW.out.2]
      clear EW
      have a0 := cell_blk J.out.1 0 (v := .int .i64 1) rfl
      have a1 := cell_blk J.out.1 1 (v := .int .i64 1) rfl
      have a2 := cell_blk J.out.1 2 (v := .int .i64 1) rfl
      have a3 := cell_blk J.out.1 3 (v := .bool true) rfl
      have a4 := cell_blk J.out.1 4 (v := .string ⟨#[107]⟩) rfl
      have a5 := cell_blk J.out.1 5 (v := .slice p 1 c) rfl
      have a6 := cell_blk J.out.1 6 (v := .int .i64 0) rfl
      have a7 := cell_blk J.out.1 7 (v := .int .i64 0) rfl
      have a8 := cell_blk J.out.1 8 (v := .int .i64 0) rfl
      have CF : Hid (∀ V, Calls Tryd.prog 14 #[.agg #[.int .i64 1, .int .i64 1, .int .i64 1, .bool true, .string ⟨#[107]⟩, .slice p 1 c, .int .i64 0, .int .i64 0, .int .i64 0]] V fun o w' => o = .returned (.int .i64 0) ∧ Kept (fun _ => False) V w') := fun V => flt0 p c V
      go_wp2_with fail
      refine (CF.out _).mono ?_
      rintro o w4 ⟨rfl, K4⟩
      have J4 : Hid (w4.heap[B]? = some (.cells #[.int .i64 1, .int .i64 1, .int .i64 1, .bool true, .string ⟨#[107]⟩, .slice p 1 c, .int .i64 0, .int .i64 0, .int .i64 0] 45 (0, 0)) ∧ Kept (fun _ => False) w3 w4) := ⟨K4.get J.out.1 (fun z => z), J.out.2.trans K4 (fun _ _ z => z)⟩
      clear K4 CF J a0 a1 a2 a3 a4 a5 a6 a7 a8
      have d0 := cell_blk J4.out.1 0 (v := .int .i64 1) rfl
      have d1 := cell_blk J4.out.1 1 (v := .int .i64 1) rfl
      have d2 := cell_blk J4.out.1 2 (v := .int .i64 1) rfl
      have d3 := cell_blk J4.out.1 3 (v := .bool true) rfl
      have d4 := cell_blk J4.out.1 4 (v := .string ⟨#[107]⟩) rfl
      have d5 := cell_blk J4.out.1 5 (v := .slice p 1 c) rfl
      have d6 := cell_blk J4.out.1 6 (v := .int .i64 0) rfl
      have d7 := cell_blk J4.out.1 7 (v := .int .i64 0) rfl
      have d8 := cell_blk J4.out.1 8 (v := .int .i64 0) rfl
      have CL : Hid (Calls Tryd.prog 16 #[.agg #[.int .i64 1, .int .i64 1, .int .i64 1, .bool true, .string ⟨#[107]⟩, .slice p 1 c, .int .i64 0, .int .i64 0, .int .i64 0]] w4 fun o w' => o = .returned (.string ⟨#[105, 110, 118, 111, 107, 101, 32, 49, 32, 49, 32, 112, 117, 116, 32, 34, 107, 34, 32, 34, 120, 34]⟩) ∧ Kept (fun _ => False) w4 w') := hLine1 w4 (G3.out.kept J4.out.2).tab (G3.out.kept J4.out.2).kw p c (reads_own (J4.out.2.owns R3.out (fun _ _ z => z)) (by decide))
      go_wp2_with fail
      refine CL.out.mono ?_
      rintro o w5 ⟨rfl, K5⟩
      have J5 : Hid (w5.heap[B]? = some (.cells #[.int .i64 1, .int .i64 1, .int .i64 1, .bool true, .string ⟨#[107]⟩, .slice p 1 c, .int .i64 0, .int .i64 0, .int .i64 0] 45 (0, 0)) ∧ Kept (fun _ => False) w3 w5) := ⟨K5.get J4.out.1 (fun z => z), J4.out.2.trans K5 (fun _ _ z => z)⟩
      clear K5 CL J4 d0 d1 d2 d3 d4 d5 d6 d7 d8
      have f0 := cell_blk J5.out.1 0 (v := .int .i64 1) rfl
      have f1 := cell_blk J5.out.1 1 (v := .int .i64 1) rfl
      have f2 := cell_blk J5.out.1 2 (v := .int .i64 1) rfl
      have f3 := cell_blk J5.out.1 3 (v := .bool true) rfl
      have f4 := cell_blk J5.out.1 4 (v := .string ⟨#[107]⟩) rfl
      have f5 := cell_blk J5.out.1 5 (v := .slice p 1 c) rfl
      have f6 := cell_blk J5.out.1 6 (v := .int .i64 0) rfl
      have f7 := cell_blk J5.out.1 7 (v := .int .i64 0) rfl
      have f8 := cell_blk J5.out.1 8 (v := .int .i64 0) rfl
      have KA : Hid (Kept (fun _ => False) w5 (w5.alloc (.cells #[.int .i64 1, .int .i64 1, .int .i64 1, .bool true, .string ⟨#[107]⟩, .slice p 1 c, .int .i64 0, .int .i64 0, .int .i64 0] 45))) := (Kept.refl _ _).alloc _
      have S5 : Hid (PS w (w5.alloc (.cells #[.int .i64 1, .int .i64 1, .int .i64 1, .bool true, .string ⟨#[107]⟩, .slice p 1 c, .int .i64 0, .int .i64 0, .int .i64 0] 45)) p0 0 c0 L) := S3.out.k0 (J5.out.2.trans KA.out (fun _ _ z => z))
      have R5 : Hid ((w5.alloc (.cells #[.int .i64 1, .int .i64 1, .int .i64 1, .bool true, .string ⟨#[107]⟩, .slice p 1 c, .int .i64 0, .int .i64 0, .int .i64 0] 45)).ownsRow w.heap.size 5 1 (.slice p 1 c) 1 (cellsOf [120])) := (J5.out.2.trans KA.out (fun _ _ z => z)).owns R3.out (fun _ _ z => z)
      have SR : Hid (Src Tryd.prog 9 22 (.slice (some ⟨w5.heap.size, 0, none⟩) 1 1) 1 (ecs [⟨1, 1, 1, true, ⟨#[107]⟩, p, 1, c, 0, 0, 0, [120]⟩]) (w5.alloc (.cells #[.int .i64 1, .int .i64 1, .int .i64 1, .bool true, .string ⟨#[107]⟩, .slice p 1 c, .int .i64 0, .int .i64 0, .int .i64 0] 45))) := src_ev (alloc_new _ _)
      go_upto_region 8 with
        (first
          | (at_builtin; refine wpList_append_all _ rfl (.tmp 36) (.tmp 38) 22 45 22 _ 9 96 rfl Tryd.underlying22 Tryd.info45c rfl w.heap.size (.slice p0 0 c0) 0 (ecs L) rfl S5.out.row.row _ 1 (ecs [⟨1, 1, 1, true, ⟨#[107]⟩, p, 1, c, 0, 0, 0, [120]⟩]) rfl SR.out (by unfold maxLen; omega) (by omega) S5.out.kept.size ?_; intro p9 c9 w9 ho hg hn9)
          | fail)
      have N9 : Hid (PS w w9 p9 1 c9 (L ++ [⟨1, 1, 1, true, ⟨#[107]⟩, p, 1, c, 0, 0, 0, [120]⟩])) := S5.out.more (x := ⟨1, 1, 1, true, ⟨#[107]⟩, p, 1, c, 0, 0, 0, [120]⟩) R5.out ho.out hg.out
      have NX : Hid (PS w w9 p9 1 c9 (L ++ [⟨1, 1, 1, true, ⟨#[107]⟩, p, 1, c, 0, 0, 0, [120]⟩]) ∧ ∃ p1 p4 c1 c4, L ++ [⟨1, 1, 1, true, ⟨#[107]⟩, p, 1, c, 0, 0, 0, [120]⟩] = (evs p1 p4 c1 c4).take 1) := ⟨N9.out, by obtain ⟨p1, p4, c1, c4, q⟩ := S.out.2; exact ⟨p, p4, c, c4, by rw [q]; rfl⟩⟩
      clear ho hg hn9 N9 S5 R5 SR KA J5 f0 f1 f2 f3 f4 f5 f6 f7 f8
      go_wp2_with fail
      go_roundw
      case rel => exact ⟨1, p9, c9, _, rfl, rfl, by omega, NX⟩
      case measure => simp [lenOf]
    · have n0 : (rst 1).toList.isEmpty = false := by kernel_rfl
      have CC : Hid (Calls Tryd.prog 18 #[.string (rst 1), .string ⟨#[10]⟩] wo fun o w' => o = .returned (.tuple #[.string ⟨#[105, 110, 118, 111, 107, 101, 32, 50, 32, 49, 32, 103, 101, 116, 32, 34, 107, 34]⟩, .string (rst 2), .bool true]) ∧ ∃ n, w' = wo.drewN n) := by obtain ⟨x, hx⟩ := GO.out.gm; exact hCut cut1 hx
      go_wp2_with fail
      refine CC.out.mono ?_
      rintro o w2 ⟨rfl, n2, hw2⟩
      have K2 : Hid (Kept (fun _ => False) wo w2) := by rw [hw2]; exact (Kept.refl _ _).drewN n2
      clear hw2 CC
      have G2 : Hid (Glob w2) := GO.out.kept K2.out
      have CG : Hid (Calls Tryd.prog 19 #[.string ⟨#[105, 110, 118, 111, 107, 101, 32, 50, 32, 49, 32, 103, 101, 116, 32, 34, 107, 34]⟩] w2 fun o w' => o = .returned (.agg #[.int .i64 1, .int .i64 2, .int .i64 1, .bool false, .string ⟨#[107]⟩, .slice none 0 0, .int .i64 0, .int .i64 0, .int .i64 0]) ∧ Kept (fun _ => False) w2 w') := hGuess2 w2 G2.out.tab G2.out.kw G2.out.ne G2.out.gm
      go_wp2_with fail
      refine CG.out.mono ?_
      rintro o w3 ⟨rfl, K3⟩
      have S3 : Hid (PS w w3 p0 1 c0 L) := S.out.1.k0 (K2.out.trans K3 (fun _ _ z => z))
      have R3 : Hid (w3.ownsRow w.heap.size 5 1 (.slice none 0 0) 0 (cellsOf [])) := ⟨rfl, .inl ⟨rfl, rfl⟩⟩
      have G3 : Hid (Glob w3) := G2.out.kept K3
      obtain ⟨W, hW⟩ : ∃ W, W = w3.alloc (.cells #[.int .i64 1, .int .i64 2, .int .i64 1, .bool false, .string ⟨#[107]⟩, .slice none 0 0, .int .i64 0, .int .i64 0, .int .i64 0] 45) := ⟨_, rfl⟩
      obtain ⟨B, hB⟩ : ∃ B, B = w3.heap.size := ⟨_, rfl⟩
      have J : Hid (W.heap[B]? = some (.cells #[.int .i64 1, .int .i64 2, .int .i64 1, .bool false, .string ⟨#[107]⟩, .slice none 0 0, .int .i64 0, .int .i64 0, .int .i64 0] 45 (0, 0)) ∧ Kept (fun _ => False) w3 W) := ⟨by rw [hW, hB]; exact alloc_new _ _, by rw [hW]; exact (Kept.refl _ _).alloc _⟩
      have EW : Hid (W = w3.alloc (.cells #[.int .i64 1, .int .i64 2, .int .i64 1, .bool false, .string ⟨#[107]⟩, .slice none 0 0, .int .i64 0, .int .i64 0, .int .i64 0] 45) ∧ B = w3.heap.size) := ⟨hW, hB⟩
      clear hW hB CG K3
      go_upto_region 5 with fail
      rw [← EW.out.1, ← EW.out.2]
      clear EW
      have a0 := cell_blk J.out.1 0 (v := .int .i64 1) rfl
      have a1 := cell_blk J.out.1 1 (v := .int .i64 2) rfl
      have a2 := cell_blk J.out.1 2 (v := .int .i64 1) rfl
      have a3 := cell_blk J.out.1 3 (v := .bool false) rfl
      have a4 := cell_blk J.out.1 4 (v := .string ⟨#[107]⟩) rfl
      have a5 := cell_blk J.out.1 5 (v := .slice none 0 0) rfl
      have a6 := cell_blk J.out.1 6 (v := .int .i64 0) rfl
      have a7 := cell_blk J.out.1 7 (v := .int .i64 0) rfl
      have a8 := cell_blk J.out.1 8 (v := .int .i64 0) rfl
      have CF : Hid (∀ V, Calls Tryd.prog 14 #[.agg #[.int .i64 1, .int .i64 2, .int .i64 1, .bool false, .string ⟨#[107]⟩, .slice none 0 0, .int .i64 0, .int .i64 0, .int .i64 0]] V fun o w' => o = .returned (.int .i64 0) ∧ Kept (fun _ => False) V w') := fun V => flt1  V
      go_wp2_with fail
      refine (CF.out _).mono ?_
      rintro o w4 ⟨rfl, K4⟩
      have J4 : Hid (w4.heap[B]? = some (.cells #[.int .i64 1, .int .i64 2, .int .i64 1, .bool false, .string ⟨#[107]⟩, .slice none 0 0, .int .i64 0, .int .i64 0, .int .i64 0] 45 (0, 0)) ∧ Kept (fun _ => False) w3 w4) := ⟨K4.get J.out.1 (fun z => z), J.out.2.trans K4 (fun _ _ z => z)⟩
      clear K4 CF J a0 a1 a2 a3 a4 a5 a6 a7 a8
      have d0 := cell_blk J4.out.1 0 (v := .int .i64 1) rfl
      have d1 := cell_blk J4.out.1 1 (v := .int .i64 2) rfl
      have d2 := cell_blk J4.out.1 2 (v := .int .i64 1) rfl
      have d3 := cell_blk J4.out.1 3 (v := .bool false) rfl
      have d4 := cell_blk J4.out.1 4 (v := .string ⟨#[107]⟩) rfl
      have d5 := cell_blk J4.out.1 5 (v := .slice none 0 0) rfl
      have d6 := cell_blk J4.out.1 6 (v := .int .i64 0) rfl
      have d7 := cell_blk J4.out.1 7 (v := .int .i64 0) rfl
      have d8 := cell_blk J4.out.1 8 (v := .int .i64 0) rfl
      have CL : Hid (Calls Tryd.prog 16 #[.agg #[.int .i64 1, .int .i64 2, .int .i64 1, .bool false, .string ⟨#[107]⟩, .slice none 0 0, .int .i64 0, .int .i64 0, .int .i64 0]] w4 fun o w' => o = .returned (.string ⟨#[105, 110, 118, 111, 107, 101, 32, 50, 32, 49, 32, 103, 101, 116, 32, 34, 107, 34]⟩) ∧ Kept (fun _ => False) w4 w') := hLine2 w4 (G3.out.kept J4.out.2).tab (G3.out.kept J4.out.2).kw
      go_wp2_with fail
      refine CL.out.mono ?_
      rintro o w5 ⟨rfl, K5⟩
      have J5 : Hid (w5.heap[B]? = some (.cells #[.int .i64 1, .int .i64 2, .int .i64 1, .bool false, .string ⟨#[107]⟩, .slice none 0 0, .int .i64 0, .int .i64 0, .int .i64 0] 45 (0, 0)) ∧ Kept (fun _ => False) w3 w5) := ⟨K5.get J4.out.1 (fun z => z), J4.out.2.trans K5 (fun _ _ z => z)⟩
      clear K5 CL J4 d0 d1 d2 d3 d4 d5 d6 d7 d8
      have f0 := cell_blk J5.out.1 0 (v := .int .i64 1) rfl
      have f1 := cell_blk J5.out.1 1 (v := .int .i64 2) rfl
      have f2 := cell_blk J5.out.1 2 (v := .int .i64 1) rfl
      have f3 := cell_blk J5.out.1 3 (v := .bool false) rfl
      have f4 := cell_blk J5.out.1 4 (v := .string ⟨#[107]⟩) rfl
      have f5 := cell_blk J5.out.1 5 (v := .slice none 0 0) rfl
      have f6 := cell_blk J5.out.1 6 (v := .int .i64 0) rfl
      have f7 := cell_blk J5.out.1 7 (v := .int .i64 0) rfl
      have f8 := cell_blk J5.out.1 8 (v := .int .i64 0) rfl
      have KA : Hid (Kept (fun _ => False) w5 (w5.alloc (.cells #[.int .i64 1, .int .i64 2, .int .i64 1, .bool false, .string ⟨#[107]⟩, .slice none 0 0, .int .i64 0, .int .i64 0, .int .i64 0] 45))) := (Kept.refl _ _).alloc _
      have S5 : Hid (PS w (w5.alloc (.cells #[.int .i64 1, .int .i64 2, .int .i64 1, .bool false, .string ⟨#[107]⟩, .slice none 0 0, .int .i64 0, .int .i64 0, .int .i64 0] 45)) p0 1 c0 L) := S3.out.k0 (J5.out.2.trans KA.out (fun _ _ z => z))
      have R5 : Hid ((w5.alloc (.cells #[.int .i64 1, .int .i64 2, .int .i64 1, .bool false, .string ⟨#[107]⟩, .slice none 0 0, .int .i64 0, .int .i64 0, .int .i64 0] 45)).ownsRow w.heap.size 5 1 (.slice none 0 0) 0 (cellsOf [])) := (J5.out.2.trans KA.out (fun _ _ z => z)).owns R3.out (fun _ _ z => z)
      have SR : Hid (Src Tryd.prog 9 22 (.slice (some ⟨w5.heap.size, 0, none⟩) 1 1) 1 (ecs [⟨1, 2, 1, false, ⟨#[107]⟩, none, 0, 0, 0, 0, 0, []⟩]) (w5.alloc (.cells #[.int .i64 1, .int .i64 2, .int .i64 1, .bool false, .string ⟨#[107]⟩, .slice none 0 0, .int .i64 0, .int .i64 0, .int .i64 0] 45))) := src_ev (alloc_new _ _)
      go_upto_region 8 with
        (first
          | (at_builtin; refine wpList_append_all _ rfl (.tmp 36) (.tmp 38) 22 45 22 _ 9 96 rfl Tryd.underlying22 Tryd.info45c rfl w.heap.size (.slice p0 1 c0) 1 (ecs L) rfl S5.out.row.row _ 1 (ecs [⟨1, 2, 1, false, ⟨#[107]⟩, none, 0, 0, 0, 0, 0, []⟩]) rfl SR.out (by unfold maxLen; omega) (by omega) S5.out.kept.size ?_; intro p9 c9 w9 ho hg hn9)
          | fail)
      have N9 : Hid (PS w w9 p9 2 c9 (L ++ [⟨1, 2, 1, false, ⟨#[107]⟩, none, 0, 0, 0, 0, 0, []⟩])) := S5.out.more (x := ⟨1, 2, 1, false, ⟨#[107]⟩, none, 0, 0, 0, 0, 0, []⟩) R5.out ho.out hg.out
      have NX : Hid (PS w w9 p9 2 c9 (L ++ [⟨1, 2, 1, false, ⟨#[107]⟩, none, 0, 0, 0, 0, 0, []⟩]) ∧ ∃ p1 p4 c1 c4, L ++ [⟨1, 2, 1, false, ⟨#[107]⟩, none, 0, 0, 0, 0, 0, []⟩] = (evs p1 p4 c1 c4).take 2) := ⟨N9.out, by obtain ⟨p1, p4, c1, c4, q⟩ := S.out.2; exact ⟨p1, p4, c1, c4, by rw [q]; rfl⟩⟩
      clear ho hg hn9 N9 S5 R5 SR KA J5 f0 f1 f2 f3 f4 f5 f6 f7 f8
      go_wp2_with fail
      go_roundw
      case rel => exact ⟨2, p9, c9, _, rfl, rfl, by omega, NX⟩
      case measure => simp [lenOf]
    · have n0 : (rst 2).toList.isEmpty = false := by kernel_rfl
      have CC : Hid (Calls Tryd.prog 18 #[.string (rst 2), .string ⟨#[10]⟩] wo fun o w' => o = .returned (.tuple #[.string ⟨#[99, 97, 110, 99, 101, 108, 32, 49, 32, 49, 32, 112, 117, 116, 32, 34, 107, 34, 32, 49, 46, 49]⟩, .string (rst 3), .bool true]) ∧ ∃ n, w' = wo.drewN n) := by obtain ⟨x, hx⟩ := GO.out.gm; exact hCut cut2 hx
      go_wp2_with fail
      refine CC.out.mono ?_
      rintro o w2 ⟨rfl, n2, hw2⟩
      have K2 : Hid (Kept (fun _ => False) wo w2) := by rw [hw2]; exact (Kept.refl _ _).drewN n2
      clear hw2 CC
      have G2 : Hid (Glob w2) := GO.out.kept K2.out
      have CG : Hid (Calls Tryd.prog 19 #[.string ⟨#[99, 97, 110, 99, 101, 108, 32, 49, 32, 49, 32, 112, 117, 116, 32, 34, 107, 34, 32, 49, 46, 49]⟩] w2 fun o w' => o = .returned (.agg #[.int .i64 3, .int .i64 1, .int .i64 1, .bool true, .string ⟨#[107]⟩, .slice none 0 0, .int .i64 0, .int .i64 1, .int .i64 1]) ∧ Kept (fun _ => False) w2 w') := hGuess3 w2 G2.out.tab G2.out.kw G2.out.ne G2.out.gm
      go_wp2_with fail
      refine CG.out.mono ?_
      rintro o w3 ⟨rfl, K3⟩
      have S3 : Hid (PS w w3 p0 2 c0 L) := S.out.1.k0 (K2.out.trans K3 (fun _ _ z => z))
      have R3 : Hid (w3.ownsRow w.heap.size 5 1 (.slice none 0 0) 0 (cellsOf [])) := ⟨rfl, .inl ⟨rfl, rfl⟩⟩
      have G3 : Hid (Glob w3) := G2.out.kept K3
      obtain ⟨W, hW⟩ : ∃ W, W = w3.alloc (.cells #[.int .i64 3, .int .i64 1, .int .i64 1, .bool true, .string ⟨#[107]⟩, .slice none 0 0, .int .i64 0, .int .i64 1, .int .i64 1] 45) := ⟨_, rfl⟩
      obtain ⟨B, hB⟩ : ∃ B, B = w3.heap.size := ⟨_, rfl⟩
      have J : Hid (W.heap[B]? = some (.cells #[.int .i64 3, .int .i64 1, .int .i64 1, .bool true, .string ⟨#[107]⟩, .slice none 0 0, .int .i64 0, .int .i64 1, .int .i64 1] 45 (0, 0)) ∧ Kept (fun _ => False) w3 W) := ⟨by rw [hW, hB]; exact alloc_new _ _, by rw [hW]; exact (Kept.refl _ _).alloc _⟩
      have EW : Hid (W = w3.alloc (.cells #[.int .i64 3, .int .i64 1, .int .i64 1, .bool true, .string ⟨#[107]⟩, .slice none 0 0, .int .i64 0, .int .i64 1, .int .i64 1] 45) ∧ B = w3.heap.size) := ⟨hW, hB⟩
      clear hW hB CG K3
      go_upto_region 5 with fail
      rw [← EW.out.1, ← EW.out.2]
      clear EW
      have a0 := cell_blk J.out.1 0 (v := .int .i64 3) rfl
      have a1 := cell_blk J.out.1 1 (v := .int .i64 1) rfl
      have a2 := cell_blk J.out.1 2 (v := .int .i64 1) rfl
      have a3 := cell_blk J.out.1 3 (v := .bool true) rfl
      have a4 := cell_blk J.out.1 4 (v := .string ⟨#[107]⟩) rfl
      have a5 := cell_blk J.out.1 5 (v := .slice none 0 0) rfl
      have a6 := cell_blk J.out.1 6 (v := .int .i64 0) rfl
      have a7 := cell_blk J.out.1 7 (v := .int .i64 1) rfl
      have a8 := cell_blk J.out.1 8 (v := .int .i64 1) rfl
      have CF : Hid (∀ V, Calls Tryd.prog 14 #[.agg #[.int .i64 3, .int .i64 1, .int .i64 1, .bool true, .string ⟨#[107]⟩, .slice none 0 0, .int .i64 0, .int .i64 1, .int .i64 1]] V fun o w' => o = .returned (.int .i64 0) ∧ Kept (fun _ => False) V w') := fun V => flt2  V
      go_wp2_with fail
      refine (CF.out _).mono ?_
      rintro o w4 ⟨rfl, K4⟩
      have J4 : Hid (w4.heap[B]? = some (.cells #[.int .i64 3, .int .i64 1, .int .i64 1, .bool true, .string ⟨#[107]⟩, .slice none 0 0, .int .i64 0, .int .i64 1, .int .i64 1] 45 (0, 0)) ∧ Kept (fun _ => False) w3 w4) := ⟨K4.get J.out.1 (fun z => z), J.out.2.trans K4 (fun _ _ z => z)⟩
      clear K4 CF J a0 a1 a2 a3 a4 a5 a6 a7 a8
      have d0 := cell_blk J4.out.1 0 (v := .int .i64 3) rfl
      have d1 := cell_blk J4.out.1 1 (v := .int .i64 1) rfl
      have d2 := cell_blk J4.out.1 2 (v := .int .i64 1) rfl
      have d3 := cell_blk J4.out.1 3 (v := .bool true) rfl
      have d4 := cell_blk J4.out.1 4 (v := .string ⟨#[107]⟩) rfl
      have d5 := cell_blk J4.out.1 5 (v := .slice none 0 0) rfl
      have d6 := cell_blk J4.out.1 6 (v := .int .i64 0) rfl
      have d7 := cell_blk J4.out.1 7 (v := .int .i64 1) rfl
      have d8 := cell_blk J4.out.1 8 (v := .int .i64 1) rfl
      have CL : Hid (Calls Tryd.prog 16 #[.agg #[.int .i64 3, .int .i64 1, .int .i64 1, .bool true, .string ⟨#[107]⟩, .slice none 0 0, .int .i64 0, .int .i64 1, .int .i64 1]] w4 fun o w' => o = .returned (.string ⟨#[99, 97, 110, 99, 101, 108, 32, 49, 32, 49, 32, 112, 117, 116, 32, 34, 107, 34, 32, 49, 46, 49]⟩) ∧ Kept (fun _ => False) w4 w') := hLine3 w4 (G3.out.kept J4.out.2).tab (G3.out.kept J4.out.2).kw
      go_wp2_with fail
      refine CL.out.mono ?_
      rintro o w5 ⟨rfl, K5⟩
      have J5 : Hid (w5.heap[B]? = some (.cells #[.int .i64 3, .int .i64 1, .int .i64 1, .bool true, .string ⟨#[107]⟩, .slice none 0 0, .int .i64 0, .int .i64 1, .int .i64 1] 45 (0, 0)) ∧ Kept (fun _ => False) w3 w5) := ⟨K5.get J4.out.1 (fun z => z), J4.out.2.trans K5 (fun _ _ z => z)⟩
      clear K5 CL J4 d0 d1 d2 d3 d4 d5 d6 d7 d8
      have f0 := cell_blk J5.out.1 0 (v := .int .i64 3) rfl
      have f1 := cell_blk J5.out.1 1 (v := .int .i64 1) rfl
      have f2 := cell_blk J5.out.1 2 (v := .int .i64 1) rfl
      have f3 := cell_blk J5.out.1 3 (v := .bool true) rfl
      have f4 := cell_blk J5.out.1 4 (v := .string ⟨#[107]⟩) rfl
      have f5 := cell_blk J5.out.1 5 (v := .slice none 0 0) rfl
      have f6 := cell_blk J5.out.1 6 (v := .int .i64 0) rfl
      have f7 := cell_blk J5.out.1 7 (v := .int .i64 1) rfl
      have f8 := cell_blk J5.out.1 8 (v := .int .i64 1) rfl
      have KA : Hid (Kept (fun _ => False) w5 (w5.alloc (.cells #[.int .i64 3, .int .i64 1, .int .i64 1, .bool true, .string ⟨#[107]⟩, .slice none 0 0, .int .i64 0, .int .i64 1, .int .i64 1] 45))) := (Kept.refl _ _).alloc _
      have S5 : Hid (PS w (w5.alloc (.cells #[.int .i64 3, .int .i64 1, .int .i64 1, .bool true, .string ⟨#[107]⟩, .slice none 0 0, .int .i64 0, .int .i64 1, .int .i64 1] 45)) p0 2 c0 L) := S3.out.k0 (J5.out.2.trans KA.out (fun _ _ z => z))
      have R5 : Hid ((w5.alloc (.cells #[.int .i64 3, .int .i64 1, .int .i64 1, .bool true, .string ⟨#[107]⟩, .slice none 0 0, .int .i64 0, .int .i64 1, .int .i64 1] 45)).ownsRow w.heap.size 5 1 (.slice none 0 0) 0 (cellsOf [])) := (J5.out.2.trans KA.out (fun _ _ z => z)).owns R3.out (fun _ _ z => z)
      have SR : Hid (Src Tryd.prog 9 22 (.slice (some ⟨w5.heap.size, 0, none⟩) 1 1) 1 (ecs [⟨3, 1, 1, true, ⟨#[107]⟩, none, 0, 0, 0, 1, 1, []⟩]) (w5.alloc (.cells #[.int .i64 3, .int .i64 1, .int .i64 1, .bool true, .string ⟨#[107]⟩, .slice none 0 0, .int .i64 0, .int .i64 1, .int .i64 1] 45))) := src_ev (alloc_new _ _)
      go_upto_region 8 with
        (first
          | (at_builtin; refine wpList_append_all _ rfl (.tmp 36) (.tmp 38) 22 45 22 _ 9 96 rfl Tryd.underlying22 Tryd.info45c rfl w.heap.size (.slice p0 2 c0) 2 (ecs L) rfl S5.out.row.row _ 1 (ecs [⟨3, 1, 1, true, ⟨#[107]⟩, none, 0, 0, 0, 1, 1, []⟩]) rfl SR.out (by unfold maxLen; omega) (by omega) S5.out.kept.size ?_; intro p9 c9 w9 ho hg hn9)
          | fail)
      have N9 : Hid (PS w w9 p9 3 c9 (L ++ [⟨3, 1, 1, true, ⟨#[107]⟩, none, 0, 0, 0, 1, 1, []⟩])) := S5.out.more (x := ⟨3, 1, 1, true, ⟨#[107]⟩, none, 0, 0, 0, 1, 1, []⟩) R5.out ho.out hg.out
      have NX : Hid (PS w w9 p9 3 c9 (L ++ [⟨3, 1, 1, true, ⟨#[107]⟩, none, 0, 0, 0, 1, 1, []⟩]) ∧ ∃ p1 p4 c1 c4, L ++ [⟨3, 1, 1, true, ⟨#[107]⟩, none, 0, 0, 0, 1, 1, []⟩] = (evs p1 p4 c1 c4).take 3) := ⟨N9.out, by obtain ⟨p1, p4, c1, c4, q⟩ := S.out.2; exact ⟨p1, p4, c1, c4, by rw [q]; rfl⟩⟩
      clear ho hg hn9 N9 S5 R5 SR KA J5 f0 f1 f2 f3 f4 f5 f6 f7 f8
      go_wp2_with fail
      go_roundw
      case rel => exact ⟨3, p9, c9, _, rfl, rfl, by omega, NX⟩
      case measure => simp [lenOf]
    · have n0 : (rst 3).toList.isEmpty = false := by kernel_rfl
      have CC : Hid (Calls Tryd.prog 18 #[.string (rst 3), .string ⟨#[10]⟩] wo fun o w' => o = .returned (.tuple #[.string ⟨#[114, 101, 116, 117, 114, 110, 32, 50, 32, 49, 32, 103, 101, 116, 32, 34, 107, 34, 32, 111, 107, 32, 49, 46, 49, 32, 34, 120, 34]⟩, .string (rst 4), .bool true]) ∧ ∃ n, w' = wo.drewN n) := by obtain ⟨x, hx⟩ := GO.out.gm; exact hCut cut3 hx
      go_wp2_with fail
      refine CC.out.mono ?_
      rintro o w2 ⟨rfl, n2, hw2⟩
      have K2 : Hid (Kept (fun _ => False) wo w2) := by rw [hw2]; exact (Kept.refl _ _).drewN n2
      clear hw2 CC
      have G2 : Hid (Glob w2) := GO.out.kept K2.out
      have CG : Hid (Calls Tryd.prog 19 #[.string ⟨#[114, 101, 116, 117, 114, 110, 32, 50, 32, 49, 32, 103, 101, 116, 32, 34, 107, 34, 32, 111, 107, 32, 49, 46, 49, 32, 34, 120, 34]⟩] w2 fun o w' => ∃ p c, o = .returned (.agg #[.int .i64 2, .int .i64 2, .int .i64 1, .bool false, .string ⟨#[107]⟩, .slice p 1 c, .int .i64 0, .int .i64 1, .int .i64 1]) ∧ w'.ownsRow w2.heap.size 5 1 (.slice p 1 c) 1 (cellsOf [120]) ∧ Kept (fun _ => False) w2 w') := hGuess4 w2 G2.out.tab G2.out.kw G2.out.ne G2.out.gm
      go_wp2_with fail
      refine CG.out.mono ?_
      rintro o w3 ⟨p, c, rfl, ro3, K3⟩
      have S3 : Hid (PS w w3 p0 3 c0 L) := S.out.1.k0 (K2.out.trans K3 (fun _ _ z => z))
      have R3 : Hid (w3.ownsRow w.heap.size 5 1 (.slice p 1 c) 1 (cellsOf [120])) := owns_mono ro3 (Nat.le_trans S.out.1.kept.size K2.out.size)
      clear ro3
      have G3 : Hid (Glob w3) := G2.out.kept K3
      obtain ⟨W, hW⟩ : ∃ W, W = w3.alloc (.cells #[.int .i64 2, .int .i64 2, .int .i64 1, .bool false, .string ⟨#[107]⟩, .slice p 1 c, .int .i64 0, .int .i64 1, .int .i64 1] 45) := ⟨_, rfl⟩
      obtain ⟨B, hB⟩ : ∃ B, B = w3.heap.size := ⟨_, rfl⟩
      have J : Hid (W.heap[B]? = some (.cells #[.int .i64 2, .int .i64 2, .int .i64 1, .bool false, .string ⟨#[107]⟩, .slice p 1 c, .int .i64 0, .int .i64 1, .int .i64 1] 45 (0, 0)) ∧ Kept (fun _ => False) w3 W) := ⟨by rw [hW, hB]; exact alloc_new _ _, by rw [hW]; exact (Kept.refl _ _).alloc _⟩
      have EW : Hid (W = w3.alloc (.cells #[.int .i64 2, .int .i64 2, .int .i64 1, .bool false, .string ⟨#[107]⟩, .slice p 1 c, .int .i64 0, .int .i64 1, .int .i64 1] 45) ∧ B = w3.heap.size) := ⟨hW, hB⟩
      clear hW hB CG K3
      go_upto_region 5 with fail
      rw [← EW.out.1, ← EW.out.2]
      clear EW
      have a0 := cell_blk J.out.1 0 (v := .int .i64 2) rfl
      have a1 := cell_blk J.out.1 1 (v := .int .i64 2) rfl
      have a2 := cell_blk J.out.1 2 (v := .int .i64 1) rfl
      have a3 := cell_blk J.out.1 3 (v := .bool false) rfl
      have a4 := cell_blk J.out.1 4 (v := .string ⟨#[107]⟩) rfl
      have a5 := cell_blk J.out.1 5 (v := .slice p 1 c) rfl
      have a6 := cell_blk J.out.1 6 (v := .int .i64 0) rfl
      have a7 := cell_blk J.out.1 7 (v := .int .i64 1) rfl
      have a8 := cell_blk J.out.1 8 (v := .int .i64 1) rfl
      have CF : Hid (∀ V, Calls Tryd.prog 14 #[.agg #[.int .i64 2, .int .i64 2, .int .i64 1, .bool false, .string ⟨#[107]⟩, .slice p 1 c, .int .i64 0, .int .i64 1, .int .i64 1]] V fun o w' => o = .returned (.int .i64 0) ∧ Kept (fun _ => False) V w') := fun V => flt3 p c V
      go_wp2_with fail
      refine (CF.out _).mono ?_
      rintro o w4 ⟨rfl, K4⟩
      have J4 : Hid (w4.heap[B]? = some (.cells #[.int .i64 2, .int .i64 2, .int .i64 1, .bool false, .string ⟨#[107]⟩, .slice p 1 c, .int .i64 0, .int .i64 1, .int .i64 1] 45 (0, 0)) ∧ Kept (fun _ => False) w3 w4) := ⟨K4.get J.out.1 (fun z => z), J.out.2.trans K4 (fun _ _ z => z)⟩
      clear K4 CF J a0 a1 a2 a3 a4 a5 a6 a7 a8
      have d0 := cell_blk J4.out.1 0 (v := .int .i64 2) rfl
      have d1 := cell_blk J4.out.1 1 (v := .int .i64 2) rfl
      have d2 := cell_blk J4.out.1 2 (v := .int .i64 1) rfl
      have d3 := cell_blk J4.out.1 3 (v := .bool false) rfl
      have d4 := cell_blk J4.out.1 4 (v := .string ⟨#[107]⟩) rfl
      have d5 := cell_blk J4.out.1 5 (v := .slice p 1 c) rfl
      have d6 := cell_blk J4.out.1 6 (v := .int .i64 0) rfl
      have d7 := cell_blk J4.out.1 7 (v := .int .i64 1) rfl
      have d8 := cell_blk J4.out.1 8 (v := .int .i64 1) rfl
      have CL : Hid (Calls Tryd.prog 16 #[.agg #[.int .i64 2, .int .i64 2, .int .i64 1, .bool false, .string ⟨#[107]⟩, .slice p 1 c, .int .i64 0, .int .i64 1, .int .i64 1]] w4 fun o w' => o = .returned (.string ⟨#[114, 101, 116, 117, 114, 110, 32, 50, 32, 49, 32, 103, 101, 116, 32, 34, 107, 34, 32, 111, 107, 32, 49, 46, 49, 32, 34, 120, 34]⟩) ∧ Kept (fun _ => False) w4 w') := hLine4 w4 (G3.out.kept J4.out.2).tab (G3.out.kept J4.out.2).kw p c (reads_own (J4.out.2.owns R3.out (fun _ _ z => z)) (by decide))
      go_wp2_with fail
      refine CL.out.mono ?_
      rintro o w5 ⟨rfl, K5⟩
      have J5 : Hid (w5.heap[B]? = some (.cells #[.int .i64 2, .int .i64 2, .int .i64 1, .bool false, .string ⟨#[107]⟩, .slice p 1 c, .int .i64 0, .int .i64 1, .int .i64 1] 45 (0, 0)) ∧ Kept (fun _ => False) w3 w5) := ⟨K5.get J4.out.1 (fun z => z), J4.out.2.trans K5 (fun _ _ z => z)⟩
      clear K5 CL J4 d0 d1 d2 d3 d4 d5 d6 d7 d8
      have f0 := cell_blk J5.out.1 0 (v := .int .i64 2) rfl
      have f1 := cell_blk J5.out.1 1 (v := .int .i64 2) rfl
      have f2 := cell_blk J5.out.1 2 (v := .int .i64 1) rfl
      have f3 := cell_blk J5.out.1 3 (v := .bool false) rfl
      have f4 := cell_blk J5.out.1 4 (v := .string ⟨#[107]⟩) rfl
      have f5 := cell_blk J5.out.1 5 (v := .slice p 1 c) rfl
      have f6 := cell_blk J5.out.1 6 (v := .int .i64 0) rfl
      have f7 := cell_blk J5.out.1 7 (v := .int .i64 1) rfl
      have f8 := cell_blk J5.out.1 8 (v := .int .i64 1) rfl
      have KA : Hid (Kept (fun _ => False) w5 (w5.alloc (.cells #[.int .i64 2, .int .i64 2, .int .i64 1, .bool false, .string ⟨#[107]⟩, .slice p 1 c, .int .i64 0, .int .i64 1, .int .i64 1] 45))) := (Kept.refl _ _).alloc _
      have S5 : Hid (PS w (w5.alloc (.cells #[.int .i64 2, .int .i64 2, .int .i64 1, .bool false, .string ⟨#[107]⟩, .slice p 1 c, .int .i64 0, .int .i64 1, .int .i64 1] 45)) p0 3 c0 L) := S3.out.k0 (J5.out.2.trans KA.out (fun _ _ z => z))
      have R5 : Hid ((w5.alloc (.cells #[.int .i64 2, .int .i64 2, .int .i64 1, .bool false, .string ⟨#[107]⟩, .slice p 1 c, .int .i64 0, .int .i64 1, .int .i64 1] 45)).ownsRow w.heap.size 5 1 (.slice p 1 c) 1 (cellsOf [120])) := (J5.out.2.trans KA.out (fun _ _ z => z)).owns R3.out (fun _ _ z => z)
      have SR : Hid (Src Tryd.prog 9 22 (.slice (some ⟨w5.heap.size, 0, none⟩) 1 1) 1 (ecs [⟨2, 2, 1, false, ⟨#[107]⟩, p, 1, c, 0, 1, 1, [120]⟩]) (w5.alloc (.cells #[.int .i64 2, .int .i64 2, .int .i64 1, .bool false, .string ⟨#[107]⟩, .slice p 1 c, .int .i64 0, .int .i64 1, .int .i64 1] 45))) := src_ev (alloc_new _ _)
      go_upto_region 8 with
        (first
          | (at_builtin; refine wpList_append_all _ rfl (.tmp 36) (.tmp 38) 22 45 22 _ 9 96 rfl Tryd.underlying22 Tryd.info45c rfl w.heap.size (.slice p0 3 c0) 3 (ecs L) rfl S5.out.row.row _ 1 (ecs [⟨2, 2, 1, false, ⟨#[107]⟩, p, 1, c, 0, 1, 1, [120]⟩]) rfl SR.out (by unfold maxLen; omega) (by omega) S5.out.kept.size ?_; intro p9 c9 w9 ho hg hn9)
          | fail)
      have N9 : Hid (PS w w9 p9 4 c9 (L ++ [⟨2, 2, 1, false, ⟨#[107]⟩, p, 1, c, 0, 1, 1, [120]⟩])) := S5.out.more (x := ⟨2, 2, 1, false, ⟨#[107]⟩, p, 1, c, 0, 1, 1, [120]⟩) R5.out ho.out hg.out
      have NX : Hid (PS w w9 p9 4 c9 (L ++ [⟨2, 2, 1, false, ⟨#[107]⟩, p, 1, c, 0, 1, 1, [120]⟩]) ∧ ∃ p1 p4 c1 c4, L ++ [⟨2, 2, 1, false, ⟨#[107]⟩, p, 1, c, 0, 1, 1, [120]⟩] = (evs p1 p4 c1 c4).take 4) := ⟨N9.out, by obtain ⟨p1, p4, c1, c4, q⟩ := S.out.2; exact ⟨p1, p, c1, c, by rw [q]; rfl⟩⟩
      clear ho hg hn9 N9 S5 R5 SR KA J5 f0 f1 f2 f3 f4 f5 f6 f7 f8
      go_wp2_with fail
      go_roundw
      case rel => exact ⟨4, p9, c9, _, rfl, rfl, by omega, NX⟩
      case measure => simp [lenOf]
    · have n0 : (rst 4).toList.isEmpty = true := by kernel_rfl
      go_wp2_with fail
      go_ret3
      obtain ⟨p1, p4, c1, c4, q⟩ := S.out.2
      exact ⟨p0, c0, p1, p4, c1, c4, by first | rfl | simp, by have z := S.out.1; rw [q] at z; exact z⟩
end Go.Proofs.YtbangbobfeflcaaDoor
