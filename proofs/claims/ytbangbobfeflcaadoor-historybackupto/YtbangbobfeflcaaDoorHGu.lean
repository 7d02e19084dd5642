import Derived.Test.YtbangbobfeflcaaDoorHTpJ
namespace Go.Proofs.YtbangbobfeflcaaDoor
open Go.RowKit 

def zEv : Array Value := #[.int .i64 0, .int .i64 0, .int .i64 0, .bool false, .string ⟨#[]⟩, .slice none 0 0, .int .i64 0, .int .i64 0, .int .i64 0]
/-- Where guess is: what is left of the line, and the event so far. -/
structure Gu (w W : World) (s : ByteArray) (cs : Array Value) : Prop where
  rd : Rdr W (w.heap.size + 1) s
  ev : W.heap[w.heap.size + 2]? = some (.cells cs 45 (0, 0))
  rs : W.heap[w.heap.size]? = some (.cells zEv 45 (0, 0))
  kept : Kept (fun _ => False) w W
theorem Gu.call {w W W' : World} {s t : ByteArray} {cs : Array Value} (h : Gu w W s cs) (K : Kept (fun j => j = w.heap.size + 1) W W') (R : Rdr W' (w.heap.size + 1) t) : Gu w W' t cs :=
  ⟨R, K.get h.ev (by omega), K.get h.rs (by omega), h.kept.trans K (fun j hj z => by have z : j = w.heap.size + 1 := z; omega)⟩
theorem Gu.keep {w W W' : World} {s : ByteArray} {cs : Array Value} (h : Gu w W s cs) (K : Kept (fun _ => False) W W') : Gu w W' s cs :=
  ⟨h.rd.next (K.mono (fun _ _ z => z.elim)) (K.get h.rd.at_ (fun z => z)), K.get h.ev (fun z => z), K.get h.rs (fun z => z), h.kept.trans K (fun _ _ z => z)⟩
theorem Gu.set {w W : World} {s : ByteArray} {cs : Array Value} (h : Gu w W s cs) (i : Nat) (v : Value) : Gu w (W.setCell ⟨w.heap.size + 2, i, none⟩ v) s (cs.setIfInBounds i v) := by
  have K : Kept (fun j => j = w.heap.size + 2) W (W.setCell ⟨w.heap.size + 2, i, none⟩ v) := (Kept.refl (fun j => j = w.heap.size + 2) W).setCell (p := ⟨w.heap.size + 2, i, none⟩) (fun _ => rfl) v
  obtain ⟨x, hx⟩ := h.rd.lib
  have : 1 ≠ w.heap.size + 2 := by omega
  exact ⟨⟨K.get h.rd.at_ (by omega), h.rd.ne, x, K.cell hx this⟩, set_heap h.ev i v, K.get h.rs (by omega), h.kept.trans K (fun j hj z => by have z : j = w.heap.size + 2 := z; omega)⟩
theorem Gu.start (w : World) (s : ByteArray) (hw : ∃ x, w.cell? ⟨1, 0, none⟩ = some (.int .i64 x)) (h0 : w.heap.size ≠ 0) : Gu w (((w.alloc (.cells zEv 45)).alloc (.cells #[.string s] 91)).alloc (.cells zEv 45)) s zEv := by
  have K : Kept (fun _ => False) w (((w.alloc (.cells zEv 45)).alloc (.cells #[.string s] 91)).alloc (.cells zEv 45)) := (((Kept.refl _ _).alloc _).alloc _).alloc _
  obtain ⟨x, hx⟩ := hw
  have e1 : (w.alloc (.cells zEv 45)).heap.size = w.heap.size + 1 := alloc_size _ _
  have e2 : ((w.alloc (.cells zEv 45)).alloc (.cells #[.string s] 91)).heap.size = w.heap.size + 2 := by rw [alloc_size, e1]
  refine ⟨⟨?_, by omega, x, K.cell hx (fun z => z)⟩, ?_, ?_, K⟩
  · refine get_alloc ?_
    rw [← e1]
    exact alloc_new _ _
  · rw [← e2]
    exact alloc_new _ _
  · exact get_alloc (get_alloc (alloc_new _ _))
theorem set_all {W : World} {b : Nat} (h : W.heap[b]? = some (.cells zEv 45 (0, 0))) (v0 v1 v2 v3 v4 v5 v6 v7 v8 : Value) : (((((((((W.setCell ⟨b, 0, none⟩ v0).setCell ⟨b, 1, none⟩ v1).setCell ⟨b, 2, none⟩ v2).setCell ⟨b, 3, none⟩ v3).setCell ⟨b, 4, none⟩ v4).setCell ⟨b, 5, none⟩ v5).setCell ⟨b, 6, none⟩ v6).setCell ⟨b, 7, none⟩ v7).setCell ⟨b, 8, none⟩ v8).heap[b]? = some (.cells #[v0, v1, v2, v3, v4, v5, v6, v7, v8] 45 (0, 0)) ∧ Kept (fun j => j = b) W (((((((((W.setCell ⟨b, 0, none⟩ v0).setCell ⟨b, 1, none⟩ v1).setCell ⟨b, 2, none⟩ v2).setCell ⟨b, 3, none⟩ v3).setCell ⟨b, 4, none⟩ v4).setCell ⟨b, 5, none⟩ v5).setCell ⟨b, 6, none⟩ v6).setCell ⟨b, 7, none⟩ v7).setCell ⟨b, 8, none⟩ v8) := by
  have s0 := set_heap h 0 v0
  have s1 := set_heap s0 1 v1
  have s2 := set_heap s1 2 v2
  have s3 := set_heap s2 3 v3
  have s4 := set_heap s3 4 v4
  have s5 := set_heap s4 5 v5
  have s6 := set_heap s5 6 v6
  have s7 := set_heap s6 7 v7
  have s8 := set_heap s7 8 v8
  refine ⟨s8.trans (by simp [zEv]), ?_⟩
  have k0 := (Kept.refl (fun j => j = b) W).setCell (p := ⟨b, 0, none⟩) (fun _ => rfl) v0
  have k1 := k0.setCell (p := ⟨b, 1, none⟩) (fun _ => rfl) v1
  have k2 := k1.setCell (p := ⟨b, 2, none⟩) (fun _ => rfl) v2
  have k3 := k2.setCell (p := ⟨b, 3, none⟩) (fun _ => rfl) v3
  have k4 := k3.setCell (p := ⟨b, 4, none⟩) (fun _ => rfl) v4
  have k5 := k4.setCell (p := ⟨b, 5, none⟩) (fun _ => rfl) v5
  have k6 := k5.setCell (p := ⟨b, 6, none⟩) (fun _ => rfl) v6
  have k7 := k6.setCell (p := ⟨b, 7, none⟩) (fun _ => rfl) v7
  have k8 := k7.setCell (p := ⟨b, 8, none⟩) (fun _ => rfl) v8
  exact k8
set_option maxRecDepth 100000 in
theorem hGuess1 (w : World) (V : Tab w) (kw : KWs w) (h0 : w.heap.size ≠ 0) (gm : ∃ x, w.cell? ⟨1, 0, none⟩ = some (.int .i64 x)) : Calls Tryd.prog 19 #[.string ⟨#[105, 110, 118, 111, 107, 101, 32, 49, 32, 49, 32, 112, 117, 116, 32, 34, 107, 34, 32, 34, 120, 34]⟩] w fun o w' => ∃ p c, o = .returned (.agg #[.int .i64 1, .int .i64 1, .int .i64 1, .bool true, .string ⟨#[107]⟩, .slice p 1 c, .int .i64 0, .int .i64 0, .int .i64 0]) ∧ w'.ownsRow w.heap.size 5 1 (.slice p 1 c) 1 (cellsOf [120]) ∧ Kept (fun _ => False) w w' := by
  have G0 : Hid (Gu w _ ⟨#[105, 110, 118, 111, 107, 101, 32, 49, 32, 49, 32, 112, 117, 116, 32, 34, 107, 34, 32, 34, 120, 34]⟩ #[.int .i64 0, .int .i64 0, .int .i64 0, .bool false, .string ⟨#[]⟩, .slice none 0 0, .int .i64 0, .int .i64 0, .int .i64 0]) := Gu.start w ⟨#[105, 110, 118, 111, 107, 101, 32, 49, 32, 49, 32, 112, 117, 116, 32, 34, 107, 34, 32, 34, 120, 34]⟩ gm h0
  have HV : Hid (Tab w ∧ KWs w) := ⟨V, kw⟩
  clear V kw h0 gm
  go_enter Tryd.func19, Tryd.ntmps19
  go_wp2_with fail
  refine (hWordR G0.out.rd (⟨by decide, by kernel_rfl⟩ : CutAt ⟨#[105, 110, 118, 111, 107, 101, 32, 49, 32, 49, 32, 112, 117, 116, 32, 34, 107, 34, 32, 34, 120, 34]⟩ ⟨#[32]⟩ ⟨#[105, 110, 118, 111, 107, 101]⟩ ⟨#[49, 32, 49, 32, 112, 117, 116, 32, 34, 107, 34, 32, 34, 120, 34]⟩ true)).mono ?_
  rintro o w1 ⟨rfl, R, K⟩
  have G1 : Hid (Gu w w1 ⟨#[49, 32, 49, 32, 112, 117, 116, 32, 34, 107, 34, 32, 34, 120, 34]⟩ #[.int .i64 0, .int .i64 0, .int .i64 0, .bool false, .string ⟨#[]⟩, .slice none 0 0, .int .i64 0, .int .i64 0, .int .i64 0]) := G0.out.call K R
  clear G0
  clear R K
  go_wp2_with fail
  refine (hKind1 w1 (HV.out.2.kept G1.out.kept (fun z => z))).mono ?_
  rintro o w2 ⟨rfl, hw⟩
  subst hw
  have d0 := cell_blk G1.out.ev 0 (v := .int .i64 0) rfl
  have t0 := soft_blk G1.out.ev 0
  go_wp2_with fail
  clear d0 t0
  have G2 : Hid (Gu w (w2.setCell ⟨w.heap.size + 2, 0, none⟩ (.int .i64 1)) ⟨#[49, 32, 49, 32, 112, 117, 116, 32, 34, 107, 34, 32, 34, 120, 34]⟩ #[.int .i64 1, .int .i64 0, .int .i64 0, .bool false, .string ⟨#[]⟩, .slice none 0 0, .int .i64 0, .int .i64 0, .int .i64 0]) := G1.out.set 0 (.int .i64 1)
  clear G1
  refine (hNumber G2.out.rd (⟨by decide, by kernel_rfl⟩ : CutAt ⟨#[49, 32, 49, 32, 112, 117, 116, 32, 34, 107, 34, 32, 34, 120, 34]⟩ ⟨#[32]⟩ ⟨#[49]⟩ ⟨#[49, 32, 112, 117, 116, 32, 34, 107, 34, 32, 34, 120, 34]⟩ true) int1).mono ?_
  rintro o w3 ⟨rfl, R, K⟩
  have G3 : Hid (Gu w w3 ⟨#[49, 32, 112, 117, 116, 32, 34, 107, 34, 32, 34, 120, 34]⟩ #[.int .i64 1, .int .i64 0, .int .i64 0, .bool false, .string ⟨#[]⟩, .slice none 0 0, .int .i64 0, .int .i64 0, .int .i64 0]) := G2.out.call K R
  clear G2
  clear R K
  have d1 := cell_blk G3.out.ev 1 (v := .int .i64 0) rfl
  have t1 := soft_blk G3.out.ev 1
  go_wp2_with fail
  clear d1 t1
  have G4 : Hid (Gu w (w3.setCell ⟨w.heap.size + 2, 1, none⟩ (.int .i64 1)) ⟨#[49, 32, 112, 117, 116, 32, 34, 107, 34, 32, 34, 120, 34]⟩ #[.int .i64 1, .int .i64 1, .int .i64 0, .bool false, .string ⟨#[]⟩, .slice none 0 0, .int .i64 0, .int .i64 0, .int .i64 0]) := G3.out.set 1 (.int .i64 1)
  clear G3
  refine (hNumber G4.out.rd (⟨by decide, by kernel_rfl⟩ : CutAt ⟨#[49, 32, 112, 117, 116, 32, 34, 107, 34, 32, 34, 120, 34]⟩ ⟨#[32]⟩ ⟨#[49]⟩ ⟨#[112, 117, 116, 32, 34, 107, 34, 32, 34, 120, 34]⟩ true) int1).mono ?_
  rintro o w4 ⟨rfl, R, K⟩
  have G5 : Hid (Gu w w4 ⟨#[112, 117, 116, 32, 34, 107, 34, 32, 34, 120, 34]⟩ #[.int .i64 1, .int .i64 1, .int .i64 0, .bool false, .string ⟨#[]⟩, .slice none 0 0, .int .i64 0, .int .i64 0, .int .i64 0]) := G4.out.call K R
  clear G4
  clear R K
  have d2 := cell_blk G5.out.ev 2 (v := .int .i64 0) rfl
  have t2 := soft_blk G5.out.ev 2
  go_wp2_with fail
  clear d2 t2
  have G6 : Hid (Gu w (w4.setCell ⟨w.heap.size + 2, 2, none⟩ (.int .i64 1)) ⟨#[112, 117, 116, 32, 34, 107, 34, 32, 34, 120, 34]⟩ #[.int .i64 1, .int .i64 1, .int .i64 1, .bool false, .string ⟨#[]⟩, .slice none 0 0, .int .i64 0, .int .i64 0, .int .i64 0]) := G5.out.set 2 (.int .i64 1)
  clear G5
  refine (hWordR G6.out.rd (⟨by decide, by kernel_rfl⟩ : CutAt ⟨#[112, 117, 116, 32, 34, 107, 34, 32, 34, 120, 34]⟩ ⟨#[32]⟩ ⟨#[112, 117, 116]⟩ ⟨#[34, 107, 34, 32, 34, 120, 34]⟩ true)).mono ?_
  rintro o w5 ⟨rfl, R, K⟩
  have G7 : Hid (Gu w w5 ⟨#[34, 107, 34, 32, 34, 120, 34]⟩ #[.int .i64 1, .int .i64 1, .int .i64 1, .bool false, .string ⟨#[]⟩, .slice none 0 0, .int .i64 0, .int .i64 0, .int .i64 0]) := G6.out.call K R
  clear G6
  clear R K
  have d3 := cell_blk G7.out.ev 3 (v := .bool false) rfl
  have t3 := soft_blk G7.out.ev 3
  go_wp2_with fail
  clear d3 t3
  have G8 : Hid (Gu w (w5.setCell ⟨w.heap.size + 2, 3, none⟩ (.bool true)) ⟨#[34, 107, 34, 32, 34, 120, 34]⟩ #[.int .i64 1, .int .i64 1, .int .i64 1, .bool true, .string ⟨#[]⟩, .slice none 0 0, .int .i64 0, .int .i64 0, .int .i64 0]) := G7.out.set 3 (.bool true)
  clear G7
  refine (hBytes (C := 107) G8.out.rd (⟨by decide, by kernel_rfl⟩ : CutAt ⟨#[34, 107, 34, 32, 34, 120, 34]⟩ ⟨#[34]⟩ ⟨#[]⟩ ⟨#[107, 34, 32, 34, 120, 34]⟩ true) (⟨by decide, by kernel_rfl⟩ : CutAt ⟨#[107, 34, 32, 34, 120, 34]⟩ ⟨#[34]⟩ ⟨#[107]⟩ ⟨#[32, 34, 120, 34]⟩ true) (⟨by decide, by kernel_rfl⟩ : CutAt ⟨#[32, 34, 120, 34]⟩ ⟨#[32]⟩ ⟨#[]⟩ ⟨#[34, 120, 34]⟩ true) hUnquotedK).mono ?_
  rintro o w6 ⟨p6, c6, rfl, O, R, K⟩
  have G9 : Hid (Gu w w6 ⟨#[34, 120, 34]⟩ #[.int .i64 1, .int .i64 1, .int .i64 1, .bool true, .string ⟨#[]⟩, .slice none 0 0, .int .i64 0, .int .i64 0, .int .i64 0]) := G8.out.call K R
  clear G8
  have cv : (convert 41 9 (.slice p6 1 c6)).run Tryd.prog w6 = .ok (.string ⟨#[107]⟩) w6 := (reads_own (l := [107]) O (by decide)).string
  clear O R K
  have d4 := cell_blk G9.out.ev 4 (v := .string ⟨#[]⟩) rfl
  have t4 := soft_blk G9.out.ev 4
  have GN : Hid (Gu w (w6.setCell ⟨w.heap.size + 2, 4, none⟩ (.string ⟨#[107]⟩)) ⟨#[34, 120, 34]⟩ #[.int .i64 1, .int .i64 1, .int .i64 1, .bool true, .string ⟨#[107]⟩, .slice none 0 0, .int .i64 0, .int .i64 0, .int .i64 0]) := G9.out.set 4 (.string ⟨#[107]⟩)
  have e0 := cell_blk GN.out.ev 0 (v := .int .i64 1) rfl
  have e1 := cell_blk GN.out.ev 1 (v := .int .i64 1) rfl
  have e2 := cell_blk GN.out.ev 2 (v := .int .i64 1) rfl
  have e3 := cell_blk GN.out.ev 3 (v := .bool true) rfl
  have e4 := cell_blk GN.out.ev 4 (v := .string ⟨#[107]⟩) rfl
  have e5 := cell_blk GN.out.ev 5 (v := .slice none 0 0) rfl
  have e6 := cell_blk GN.out.ev 6 (v := .int .i64 0) rfl
  have e7 := cell_blk GN.out.ev 7 (v := .int .i64 0) rfl
  have e8 := cell_blk GN.out.ev 8 (v := .int .i64 0) rfl
  go_wp2_with fail
  clear d4 t4
  clear G9 e0 e1 e2 e3 e4 e5 e6 e7 e8
  have G10 : Hid (Gu w (w6.setCell ⟨w.heap.size + 2, 4, none⟩ (.string ⟨#[107]⟩)) ⟨#[34, 120, 34]⟩ #[.int .i64 1, .int .i64 1, .int .i64 1, .bool true, .string ⟨#[107]⟩, .slice none 0 0, .int .i64 0, .int .i64 0, .int .i64 0]) := GN.out
  clear GN
  clear cv
  have CF : Hid (∀ V, Calls Tryd.prog 34 #[.agg #[.int .i64 1, .int .i64 1, .int .i64 1, .bool true, .string ⟨#[107]⟩, .slice none 0 0, .int .i64 0, .int .i64 0, .int .i64 0]] V fun o w' => o = .returned (.int .i64 1) ∧ Kept (fun _ => False) V w') := fun V => hForm ⟨1, 1, 1, true, ⟨#[107]⟩, none, 0, 0, 0, 0, 0, []⟩ V
  refine (CF.out _).mono ?_
  rintro o w7 ⟨rfl, K⟩
  have G11 : Hid (Gu w w7 ⟨#[34, 120, 34]⟩ #[.int .i64 1, .int .i64 1, .int .i64 1, .bool true, .string ⟨#[107]⟩, .slice none 0 0, .int .i64 0, .int .i64 0, .int .i64 0]) := G10.out.keep K
  clear G10
  clear K CF
  go_wp2_with fail
  have BL := block_lt G11.out.ev
  refine (hBytes (C := 120) G11.out.rd (⟨by decide, by kernel_rfl⟩ : CutAt ⟨#[34, 120, 34]⟩ ⟨#[34]⟩ ⟨#[]⟩ ⟨#[120, 34]⟩ true) (⟨by decide, by kernel_rfl⟩ : CutAt ⟨#[120, 34]⟩ ⟨#[34]⟩ ⟨#[120]⟩ ⟨#[]⟩ true) (⟨by decide, by kernel_rfl⟩ : CutAt ⟨#[]⟩ ⟨#[32]⟩ ⟨#[]⟩ ⟨#[]⟩ false) hUnquotedX).mono ?_
  rintro o w8 ⟨p8, c8, rfl, O, R, K⟩
  have G12 : Hid (Gu w w8 ⟨#[]⟩ #[.int .i64 1, .int .i64 1, .int .i64 1, .bool true, .string ⟨#[107]⟩, .slice none 0 0, .int .i64 0, .int .i64 0, .int .i64 0]) := G11.out.call K R
  clear G11
  have OW : Hid (w8.ownsRow (w.heap.size + 3) 5 1 (.slice p8 1 c8) 1 (cellsOf [120])) := owns_mono O (by first | omega | (simp only [alloc_size] at BL ⊢; omega) | (simp at BL ⊢; omega))
  clear O R K BL
  have d5 := cell_blk G12.out.ev 5 (v := .slice none 0 0) rfl
  have t5 := soft_blk G12.out.ev 5
  have GN : Hid (Gu w (w8.setCell ⟨w.heap.size + 2, 5, none⟩ (.slice p8 1 c8)) ⟨#[]⟩ #[.int .i64 1, .int .i64 1, .int .i64 1, .bool true, .string ⟨#[107]⟩, .slice p8 1 c8, .int .i64 0, .int .i64 0, .int .i64 0]) := (G12.out.set 5 (.slice p8 1 c8))
  have e0 := cell_blk GN.out.ev 0 (v := .int .i64 1) rfl
  have e1 := cell_blk GN.out.ev 1 (v := .int .i64 1) rfl
  have e2 := cell_blk GN.out.ev 2 (v := .int .i64 1) rfl
  have e3 := cell_blk GN.out.ev 3 (v := .bool true) rfl
  have e4 := cell_blk GN.out.ev 4 (v := .string ⟨#[107]⟩) rfl
  have e5 := cell_blk GN.out.ev 5 (v := .slice p8 1 c8) rfl
  have e6 := cell_blk GN.out.ev 6 (v := .int .i64 0) rfl
  have e7 := cell_blk GN.out.ev 7 (v := .int .i64 0) rfl
  have e8 := cell_blk GN.out.ev 8 (v := .int .i64 0) rfl
  have r0 := cell_blk GN.out.rs 0 (v := .int .i64 0) rfl
  have q0 := soft_blk GN.out.rs 0
  have r1 := cell_blk GN.out.rs 1 (v := .int .i64 0) rfl
  have q1 := soft_blk GN.out.rs 1
  have r2 := cell_blk GN.out.rs 2 (v := .int .i64 0) rfl
  have q2 := soft_blk GN.out.rs 2
  have r3 := cell_blk GN.out.rs 3 (v := .bool false) rfl
  have q3 := soft_blk GN.out.rs 3
  have r4 := cell_blk GN.out.rs 4 (v := .string ⟨#[]⟩) rfl
  have q4 := soft_blk GN.out.rs 4
  have r5 := cell_blk GN.out.rs 5 (v := .slice none 0 0) rfl
  have q5 := soft_blk GN.out.rs 5
  have r6 := cell_blk GN.out.rs 6 (v := .int .i64 0) rfl
  have q6 := soft_blk GN.out.rs 6
  have r7 := cell_blk GN.out.rs 7 (v := .int .i64 0) rfl
  have q7 := soft_blk GN.out.rs 7
  have r8 := cell_blk GN.out.rs 8 (v := .int .i64 0) rfl
  have q8 := soft_blk GN.out.rs 8
  go_wp2_with fail
  have SA := set_all GN.out.rs (.int .i64 1) (.int .i64 1) (.int .i64 1) (.bool true) (.string ⟨#[107]⟩) (.slice p8 1 c8) (.int .i64 0) (.int .i64 0) (.int .i64 0)
  have KF := GN.out.kept.trans SA.2 (fun j hj z => by have z : j = w.heap.size := z; omega)
  have OA := ((Kept.refl (fun j => j = w.heap.size + 2) w8).setCell (p := ⟨w.heap.size + 2, 5, none⟩) (fun _ => rfl) (.slice p8 1 c8)).owns OW.out (fun k hk z => by have q := OW.out.lt k hk; have z : k = w.heap.size + 2 := z; omega)
  have OB := SA.2.owns OA (fun k hk z => by have q := OA.lt k hk; have z : k = w.heap.size := z; omega)
  have OC := owns_mono OB (show w.heap.size ≤ w.heap.size + 3 by omega)
  refine bodyPost_ret (results_cell_row rfl _ _ w.heap.size 45 #[.int .i64 1, .int .i64 1, .int .i64 1, .bool true, .string ⟨#[107]⟩, .slice p8 1 c8, .int .i64 0, .int .i64 0, .int .i64 0] (0, 0) _ rfl SA.1 Tryd.underlying45 rfl (by kernel_rfl)) rfl ?_
  exact ⟨p8, c8, rfl, OC, KF⟩
set_option maxRecDepth 100000 in
theorem hGuess2 (w : World) (V : Tab w) (kw : KWs w) (h0 : w.heap.size ≠ 0) (gm : ∃ x, w.cell? ⟨1, 0, none⟩ = some (.int .i64 x)) : Calls Tryd.prog 19 #[.string ⟨#[105, 110, 118, 111, 107, 101, 32, 50, 32, 49, 32, 103, 101, 116, 32, 34, 107, 34]⟩] w fun o w' => o = .returned (.agg #[.int .i64 1, .int .i64 2, .int .i64 1, .bool false, .string ⟨#[107]⟩, .slice none 0 0, .int .i64 0, .int .i64 0, .int .i64 0]) ∧ Kept (fun _ => False) w w' := by
  have G0 : Hid (Gu w _ ⟨#[105, 110, 118, 111, 107, 101, 32, 50, 32, 49, 32, 103, 101, 116, 32, 34, 107, 34]⟩ #[.int .i64 0, .int .i64 0, .int .i64 0, .bool false, .string ⟨#[]⟩, .slice none 0 0, .int .i64 0, .int .i64 0, .int .i64 0]) := Gu.start w ⟨#[105, 110, 118, 111, 107, 101, 32, 50, 32, 49, 32, 103, 101, 116, 32, 34, 107, 34]⟩ gm h0
  have HV : Hid (Tab w ∧ KWs w) := ⟨V, kw⟩
  clear V kw h0 gm
  go_enter Tryd.func19, Tryd.ntmps19
  go_wp2_with fail
  refine (hWordR G0.out.rd (⟨by decide, by kernel_rfl⟩ : CutAt ⟨#[105, 110, 118, 111, 107, 101, 32, 50, 32, 49, 32, 103, 101, 116, 32, 34, 107, 34]⟩ ⟨#[32]⟩ ⟨#[105, 110, 118, 111, 107, 101]⟩ ⟨#[50, 32, 49, 32, 103, 101, 116, 32, 34, 107, 34]⟩ true)).mono ?_
  rintro o w1 ⟨rfl, R, K⟩
  have G1 : Hid (Gu w w1 ⟨#[50, 32, 49, 32, 103, 101, 116, 32, 34, 107, 34]⟩ #[.int .i64 0, .int .i64 0, .int .i64 0, .bool false, .string ⟨#[]⟩, .slice none 0 0, .int .i64 0, .int .i64 0, .int .i64 0]) := G0.out.call K R
  clear G0
  clear R K
  go_wp2_with fail
  refine (hKind1 w1 (HV.out.2.kept G1.out.kept (fun z => z))).mono ?_
  rintro o w2 ⟨rfl, hw⟩
  subst hw
  have d0 := cell_blk G1.out.ev 0 (v := .int .i64 0) rfl
  have t0 := soft_blk G1.out.ev 0
  go_wp2_with fail
  clear d0 t0
  have G2 : Hid (Gu w (w2.setCell ⟨w.heap.size + 2, 0, none⟩ (.int .i64 1)) ⟨#[50, 32, 49, 32, 103, 101, 116, 32, 34, 107, 34]⟩ #[.int .i64 1, .int .i64 0, .int .i64 0, .bool false, .string ⟨#[]⟩, .slice none 0 0, .int .i64 0, .int .i64 0, .int .i64 0]) := G1.out.set 0 (.int .i64 1)
  clear G1
  refine (hNumber G2.out.rd (⟨by decide, by kernel_rfl⟩ : CutAt ⟨#[50, 32, 49, 32, 103, 101, 116, 32, 34, 107, 34]⟩ ⟨#[32]⟩ ⟨#[50]⟩ ⟨#[49, 32, 103, 101, 116, 32, 34, 107, 34]⟩ true) int2).mono ?_
  rintro o w3 ⟨rfl, R, K⟩
  have G3 : Hid (Gu w w3 ⟨#[49, 32, 103, 101, 116, 32, 34, 107, 34]⟩ #[.int .i64 1, .int .i64 0, .int .i64 0, .bool false, .string ⟨#[]⟩, .slice none 0 0, .int .i64 0, .int .i64 0, .int .i64 0]) := G2.out.call K R
  clear G2
  clear R K
  have d1 := cell_blk G3.out.ev 1 (v := .int .i64 0) rfl
  have t1 := soft_blk G3.out.ev 1
  go_wp2_with fail
  clear d1 t1
  have G4 : Hid (Gu w (w3.setCell ⟨w.heap.size + 2, 1, none⟩ (.int .i64 2)) ⟨#[49, 32, 103, 101, 116, 32, 34, 107, 34]⟩ #[.int .i64 1, .int .i64 2, .int .i64 0, .bool false, .string ⟨#[]⟩, .slice none 0 0, .int .i64 0, .int .i64 0, .int .i64 0]) := G3.out.set 1 (.int .i64 2)
  clear G3
  refine (hNumber G4.out.rd (⟨by decide, by kernel_rfl⟩ : CutAt ⟨#[49, 32, 103, 101, 116, 32, 34, 107, 34]⟩ ⟨#[32]⟩ ⟨#[49]⟩ ⟨#[103, 101, 116, 32, 34, 107, 34]⟩ true) int1).mono ?_
  rintro o w4 ⟨rfl, R, K⟩
  have G5 : Hid (Gu w w4 ⟨#[103, 101, 116, 32, 34, 107, 34]⟩ #[.int .i64 1, .int .i64 2, .int .i64 0, .bool false, .string ⟨#[]⟩, .slice none 0 0, .int .i64 0, .int .i64 0, .int .i64 0]) := G4.out.call K R
  clear G4
  clear R K
  have d2 := cell_blk G5.out.ev 2 (v := .int .i64 0) rfl
  have t2 := soft_blk G5.out.ev 2
  go_wp2_with fail
  clear d2 t2
  have G6 : Hid (Gu w (w4.setCell ⟨w.heap.size + 2, 2, none⟩ (.int .i64 1)) ⟨#[103, 101, 116, 32, 34, 107, 34]⟩ #[.int .i64 1, .int .i64 2, .int .i64 1, .bool false, .string ⟨#[]⟩, .slice none 0 0, .int .i64 0, .int .i64 0, .int .i64 0]) := G5.out.set 2 (.int .i64 1)
  clear G5
  refine (hWordR G6.out.rd (⟨by decide, by kernel_rfl⟩ : CutAt ⟨#[103, 101, 116, 32, 34, 107, 34]⟩ ⟨#[32]⟩ ⟨#[103, 101, 116]⟩ ⟨#[34, 107, 34]⟩ true)).mono ?_
  rintro o w5 ⟨rfl, R, K⟩
  have G7 : Hid (Gu w w5 ⟨#[34, 107, 34]⟩ #[.int .i64 1, .int .i64 2, .int .i64 1, .bool false, .string ⟨#[]⟩, .slice none 0 0, .int .i64 0, .int .i64 0, .int .i64 0]) := G6.out.call K R
  clear G6
  clear R K
  have d3 := cell_blk G7.out.ev 3 (v := .bool false) rfl
  have t3 := soft_blk G7.out.ev 3
  go_wp2_with fail
  clear d3 t3
  have G8 : Hid (Gu w (w5.setCell ⟨w.heap.size + 2, 3, none⟩ (.bool false)) ⟨#[34, 107, 34]⟩ #[.int .i64 1, .int .i64 2, .int .i64 1, .bool false, .string ⟨#[]⟩, .slice none 0 0, .int .i64 0, .int .i64 0, .int .i64 0]) := G7.out.set 3 (.bool false)
  clear G7
  refine (hBytes (C := 107) G8.out.rd (⟨by decide, by kernel_rfl⟩ : CutAt ⟨#[34, 107, 34]⟩ ⟨#[34]⟩ ⟨#[]⟩ ⟨#[107, 34]⟩ true) (⟨by decide, by kernel_rfl⟩ : CutAt ⟨#[107, 34]⟩ ⟨#[34]⟩ ⟨#[107]⟩ ⟨#[]⟩ true) (⟨by decide, by kernel_rfl⟩ : CutAt ⟨#[]⟩ ⟨#[32]⟩ ⟨#[]⟩ ⟨#[]⟩ false) hUnquotedK).mono ?_
  rintro o w6 ⟨p6, c6, rfl, O, R, K⟩
  have G9 : Hid (Gu w w6 ⟨#[]⟩ #[.int .i64 1, .int .i64 2, .int .i64 1, .bool false, .string ⟨#[]⟩, .slice none 0 0, .int .i64 0, .int .i64 0, .int .i64 0]) := G8.out.call K R
  clear G8
  have cv : (convert 41 9 (.slice p6 1 c6)).run Tryd.prog w6 = .ok (.string ⟨#[107]⟩) w6 := (reads_own (l := [107]) O (by decide)).string
  clear O R K
  have d4 := cell_blk G9.out.ev 4 (v := .string ⟨#[]⟩) rfl
  have t4 := soft_blk G9.out.ev 4
  have GN : Hid (Gu w (w6.setCell ⟨w.heap.size + 2, 4, none⟩ (.string ⟨#[107]⟩)) ⟨#[]⟩ #[.int .i64 1, .int .i64 2, .int .i64 1, .bool false, .string ⟨#[107]⟩, .slice none 0 0, .int .i64 0, .int .i64 0, .int .i64 0]) := G9.out.set 4 (.string ⟨#[107]⟩)
  have e0 := cell_blk GN.out.ev 0 (v := .int .i64 1) rfl
  have e1 := cell_blk GN.out.ev 1 (v := .int .i64 2) rfl
  have e2 := cell_blk GN.out.ev 2 (v := .int .i64 1) rfl
  have e3 := cell_blk GN.out.ev 3 (v := .bool false) rfl
  have e4 := cell_blk GN.out.ev 4 (v := .string ⟨#[107]⟩) rfl
  have e5 := cell_blk GN.out.ev 5 (v := .slice none 0 0) rfl
  have e6 := cell_blk GN.out.ev 6 (v := .int .i64 0) rfl
  have e7 := cell_blk GN.out.ev 7 (v := .int .i64 0) rfl
  have e8 := cell_blk GN.out.ev 8 (v := .int .i64 0) rfl
  go_wp2_with fail
  clear d4 t4
  clear G9 e0 e1 e2 e3 e4 e5 e6 e7 e8
  have G10 : Hid (Gu w (w6.setCell ⟨w.heap.size + 2, 4, none⟩ (.string ⟨#[107]⟩)) ⟨#[]⟩ #[.int .i64 1, .int .i64 2, .int .i64 1, .bool false, .string ⟨#[107]⟩, .slice none 0 0, .int .i64 0, .int .i64 0, .int .i64 0]) := GN.out
  clear GN
  clear cv
  have CF : Hid (∀ V, Calls Tryd.prog 34 #[.agg #[.int .i64 1, .int .i64 2, .int .i64 1, .bool false, .string ⟨#[107]⟩, .slice none 0 0, .int .i64 0, .int .i64 0, .int .i64 0]] V fun o w' => o = .returned (.int .i64 0) ∧ Kept (fun _ => False) V w') := fun V => hForm ⟨1, 2, 1, false, ⟨#[107]⟩, none, 0, 0, 0, 0, 0, []⟩ V
  refine (CF.out _).mono ?_
  rintro o w7 ⟨rfl, K⟩
  have G11 : Hid (Gu w w7 ⟨#[]⟩ #[.int .i64 1, .int .i64 2, .int .i64 1, .bool false, .string ⟨#[107]⟩, .slice none 0 0, .int .i64 0, .int .i64 0, .int .i64 0]) := G10.out.keep K
  clear G10
  clear K CF
  have e0 := cell_blk G11.out.ev 0 (v := .int .i64 1) rfl
  have e1 := cell_blk G11.out.ev 1 (v := .int .i64 2) rfl
  have e2 := cell_blk G11.out.ev 2 (v := .int .i64 1) rfl
  have e3 := cell_blk G11.out.ev 3 (v := .bool false) rfl
  have e4 := cell_blk G11.out.ev 4 (v := .string ⟨#[107]⟩) rfl
  have e5 := cell_blk G11.out.ev 5 (v := .slice none 0 0) rfl
  have e6 := cell_blk G11.out.ev 6 (v := .int .i64 0) rfl
  have e7 := cell_blk G11.out.ev 7 (v := .int .i64 0) rfl
  have e8 := cell_blk G11.out.ev 8 (v := .int .i64 0) rfl
  have r0 := cell_blk G11.out.rs 0 (v := .int .i64 0) rfl
  have q0 := soft_blk G11.out.rs 0
  have r1 := cell_blk G11.out.rs 1 (v := .int .i64 0) rfl
  have q1 := soft_blk G11.out.rs 1
  have r2 := cell_blk G11.out.rs 2 (v := .int .i64 0) rfl
  have q2 := soft_blk G11.out.rs 2
  have r3 := cell_blk G11.out.rs 3 (v := .bool false) rfl
  have q3 := soft_blk G11.out.rs 3
  have r4 := cell_blk G11.out.rs 4 (v := .string ⟨#[]⟩) rfl
  have q4 := soft_blk G11.out.rs 4
  have r5 := cell_blk G11.out.rs 5 (v := .slice none 0 0) rfl
  have q5 := soft_blk G11.out.rs 5
  have r6 := cell_blk G11.out.rs 6 (v := .int .i64 0) rfl
  have q6 := soft_blk G11.out.rs 6
  have r7 := cell_blk G11.out.rs 7 (v := .int .i64 0) rfl
  have q7 := soft_blk G11.out.rs 7
  have r8 := cell_blk G11.out.rs 8 (v := .int .i64 0) rfl
  have q8 := soft_blk G11.out.rs 8
  go_wp2_with fail
  have SA := set_all G11.out.rs (.int .i64 1) (.int .i64 2) (.int .i64 1) (.bool false) (.string ⟨#[107]⟩) (.slice none 0 0) (.int .i64 0) (.int .i64 0) (.int .i64 0)
  have KF := G11.out.kept.trans SA.2 (fun j hj z => by have z : j = w.heap.size := z; omega)
  refine bodyPost_ret (results_cell_row rfl _ _ w.heap.size 45 #[.int .i64 1, .int .i64 2, .int .i64 1, .bool false, .string ⟨#[107]⟩, .slice none 0 0, .int .i64 0, .int .i64 0, .int .i64 0] (0, 0) _ rfl SA.1 Tryd.underlying45 rfl (by kernel_rfl)) rfl ?_
  exact ⟨rfl, KF⟩
set_option maxRecDepth 100000 in
theorem hGuess3 (w : World) (V : Tab w) (kw : KWs w) (h0 : w.heap.size ≠ 0) (gm : ∃ x, w.cell? ⟨1, 0, none⟩ = some (.int .i64 x)) : Calls Tryd.prog 19 #[.string ⟨#[99, 97, 110, 99, 101, 108, 32, 49, 32, 49, 32, 112, 117, 116, 32, 34, 107, 34, 32, 49, 46, 49]⟩] w fun o w' => o = .returned (.agg #[.int .i64 3, .int .i64 1, .int .i64 1, .bool true, .string ⟨#[107]⟩, .slice none 0 0, .int .i64 0, .int .i64 1, .int .i64 1]) ∧ Kept (fun _ => False) w w' := by
  have G0 : Hid (Gu w _ ⟨#[99, 97, 110, 99, 101, 108, 32, 49, 32, 49, 32, 112, 117, 116, 32, 34, 107, 34, 32, 49, 46, 49]⟩ #[.int .i64 0, .int .i64 0, .int .i64 0, .bool false, .string ⟨#[]⟩, .slice none 0 0, .int .i64 0, .int .i64 0, .int .i64 0]) := Gu.start w ⟨#[99, 97, 110, 99, 101, 108, 32, 49, 32, 49, 32, 112, 117, 116, 32, 34, 107, 34, 32, 49, 46, 49]⟩ gm h0
  have HV : Hid (Tab w ∧ KWs w) := ⟨V, kw⟩
  clear V kw h0 gm
  go_enter Tryd.func19, Tryd.ntmps19
  go_wp2_with fail
  refine (hWordR G0.out.rd (⟨by decide, by kernel_rfl⟩ : CutAt ⟨#[99, 97, 110, 99, 101, 108, 32, 49, 32, 49, 32, 112, 117, 116, 32, 34, 107, 34, 32, 49, 46, 49]⟩ ⟨#[32]⟩ ⟨#[99, 97, 110, 99, 101, 108]⟩ ⟨#[49, 32, 49, 32, 112, 117, 116, 32, 34, 107, 34, 32, 49, 46, 49]⟩ true)).mono ?_
  rintro o w1 ⟨rfl, R, K⟩
  have G1 : Hid (Gu w w1 ⟨#[49, 32, 49, 32, 112, 117, 116, 32, 34, 107, 34, 32, 49, 46, 49]⟩ #[.int .i64 0, .int .i64 0, .int .i64 0, .bool false, .string ⟨#[]⟩, .slice none 0 0, .int .i64 0, .int .i64 0, .int .i64 0]) := G0.out.call K R
  clear G0
  clear R K
  go_wp2_with fail
  refine (hKind3 w1 (HV.out.2.kept G1.out.kept (fun z => z))).mono ?_
  rintro o w2 ⟨rfl, hw⟩
  subst hw
  have d0 := cell_blk G1.out.ev 0 (v := .int .i64 0) rfl
  have t0 := soft_blk G1.out.ev 0
  go_wp2_with fail
  clear d0 t0
  have G2 : Hid (Gu w (w2.setCell ⟨w.heap.size + 2, 0, none⟩ (.int .i64 3)) ⟨#[49, 32, 49, 32, 112, 117, 116, 32, 34, 107, 34, 32, 49, 46, 49]⟩ #[.int .i64 3, .int .i64 0, .int .i64 0, .bool false, .string ⟨#[]⟩, .slice none 0 0, .int .i64 0, .int .i64 0, .int .i64 0]) := G1.out.set 0 (.int .i64 3)
  clear G1
  refine (hNumber G2.out.rd (⟨by decide, by kernel_rfl⟩ : CutAt ⟨#[49, 32, 49, 32, 112, 117, 116, 32, 34, 107, 34, 32, 49, 46, 49]⟩ ⟨#[32]⟩ ⟨#[49]⟩ ⟨#[49, 32, 112, 117, 116, 32, 34, 107, 34, 32, 49, 46, 49]⟩ true) int1).mono ?_
  rintro o w3 ⟨rfl, R, K⟩
  have G3 : Hid (Gu w w3 ⟨#[49, 32, 112, 117, 116, 32, 34, 107, 34, 32, 49, 46, 49]⟩ #[.int .i64 3, .int .i64 0, .int .i64 0, .bool false, .string ⟨#[]⟩, .slice none 0 0, .int .i64 0, .int .i64 0, .int .i64 0]) := G2.out.call K R
  clear G2
  clear R K
  have d1 := cell_blk G3.out.ev 1 (v := .int .i64 0) rfl
  have t1 := soft_blk G3.out.ev 1
  go_wp2_with fail
  clear d1 t1
  have G4 : Hid (Gu w (w3.setCell ⟨w.heap.size + 2, 1, none⟩ (.int .i64 1)) ⟨#[49, 32, 112, 117, 116, 32, 34, 107, 34, 32, 49, 46, 49]⟩ #[.int .i64 3, .int .i64 1, .int .i64 0, .bool false, .string ⟨#[]⟩, .slice none 0 0, .int .i64 0, .int .i64 0, .int .i64 0]) := G3.out.set 1 (.int .i64 1)
  clear G3
  refine (hNumber G4.out.rd (⟨by decide, by kernel_rfl⟩ : CutAt ⟨#[49, 32, 112, 117, 116, 32, 34, 107, 34, 32, 49, 46, 49]⟩ ⟨#[32]⟩ ⟨#[49]⟩ ⟨#[112, 117, 116, 32, 34, 107, 34, 32, 49, 46, 49]⟩ true) int1).mono ?_
  rintro o w4 ⟨rfl, R, K⟩
  have G5 : Hid (Gu w w4 ⟨#[112, 117, 116, 32, 34, 107, 34, 32, 49, 46, 49]⟩ #[.int .i64 3, .int .i64 1, .int .i64 0, .bool false, .string ⟨#[]⟩, .slice none 0 0, .int .i64 0, .int .i64 0, .int .i64 0]) := G4.out.call K R
  clear G4
  clear R K
  have d2 := cell_blk G5.out.ev 2 (v := .int .i64 0) rfl
  have t2 := soft_blk G5.out.ev 2
  go_wp2_with fail
  clear d2 t2
  have G6 : Hid (Gu w (w4.setCell ⟨w.heap.size + 2, 2, none⟩ (.int .i64 1)) ⟨#[112, 117, 116, 32, 34, 107, 34, 32, 49, 46, 49]⟩ #[.int .i64 3, .int .i64 1, .int .i64 1, .bool false, .string ⟨#[]⟩, .slice none 0 0, .int .i64 0, .int .i64 0, .int .i64 0]) := G5.out.set 2 (.int .i64 1)
  clear G5
  refine (hWordR G6.out.rd (⟨by decide, by kernel_rfl⟩ : CutAt ⟨#[112, 117, 116, 32, 34, 107, 34, 32, 49, 46, 49]⟩ ⟨#[32]⟩ ⟨#[112, 117, 116]⟩ ⟨#[34, 107, 34, 32, 49, 46, 49]⟩ true)).mono ?_
  rintro o w5 ⟨rfl, R, K⟩
  have G7 : Hid (Gu w w5 ⟨#[34, 107, 34, 32, 49, 46, 49]⟩ #[.int .i64 3, .int .i64 1, .int .i64 1, .bool false, .string ⟨#[]⟩, .slice none 0 0, .int .i64 0, .int .i64 0, .int .i64 0]) := G6.out.call K R
  clear G6
  clear R K
  have d3 := cell_blk G7.out.ev 3 (v := .bool false) rfl
  have t3 := soft_blk G7.out.ev 3
  go_wp2_with fail
  clear d3 t3
  have G8 : Hid (Gu w (w5.setCell ⟨w.heap.size + 2, 3, none⟩ (.bool true)) ⟨#[34, 107, 34, 32, 49, 46, 49]⟩ #[.int .i64 3, .int .i64 1, .int .i64 1, .bool true, .string ⟨#[]⟩, .slice none 0 0, .int .i64 0, .int .i64 0, .int .i64 0]) := G7.out.set 3 (.bool true)
  clear G7
  refine (hBytes (C := 107) G8.out.rd (⟨by decide, by kernel_rfl⟩ : CutAt ⟨#[34, 107, 34, 32, 49, 46, 49]⟩ ⟨#[34]⟩ ⟨#[]⟩ ⟨#[107, 34, 32, 49, 46, 49]⟩ true) (⟨by decide, by kernel_rfl⟩ : CutAt ⟨#[107, 34, 32, 49, 46, 49]⟩ ⟨#[34]⟩ ⟨#[107]⟩ ⟨#[32, 49, 46, 49]⟩ true) (⟨by decide, by kernel_rfl⟩ : CutAt ⟨#[32, 49, 46, 49]⟩ ⟨#[32]⟩ ⟨#[]⟩ ⟨#[49, 46, 49]⟩ true) hUnquotedK).mono ?_
  rintro o w6 ⟨p6, c6, rfl, O, R, K⟩
  have G9 : Hid (Gu w w6 ⟨#[49, 46, 49]⟩ #[.int .i64 3, .int .i64 1, .int .i64 1, .bool true, .string ⟨#[]⟩, .slice none 0 0, .int .i64 0, .int .i64 0, .int .i64 0]) := G8.out.call K R
  clear G8
  have cv : (convert 41 9 (.slice p6 1 c6)).run Tryd.prog w6 = .ok (.string ⟨#[107]⟩) w6 := (reads_own (l := [107]) O (by decide)).string
  clear O R K
  have d4 := cell_blk G9.out.ev 4 (v := .string ⟨#[]⟩) rfl
  have t4 := soft_blk G9.out.ev 4
  have GN : Hid (Gu w (w6.setCell ⟨w.heap.size + 2, 4, none⟩ (.string ⟨#[107]⟩)) ⟨#[49, 46, 49]⟩ #[.int .i64 3, .int .i64 1, .int .i64 1, .bool true, .string ⟨#[107]⟩, .slice none 0 0, .int .i64 0, .int .i64 0, .int .i64 0]) := G9.out.set 4 (.string ⟨#[107]⟩)
  have e0 := cell_blk GN.out.ev 0 (v := .int .i64 3) rfl
  have e1 := cell_blk GN.out.ev 1 (v := .int .i64 1) rfl
  have e2 := cell_blk GN.out.ev 2 (v := .int .i64 1) rfl
  have e3 := cell_blk GN.out.ev 3 (v := .bool true) rfl
  have e4 := cell_blk GN.out.ev 4 (v := .string ⟨#[107]⟩) rfl
  have e5 := cell_blk GN.out.ev 5 (v := .slice none 0 0) rfl
  have e6 := cell_blk GN.out.ev 6 (v := .int .i64 0) rfl
  have e7 := cell_blk GN.out.ev 7 (v := .int .i64 0) rfl
  have e8 := cell_blk GN.out.ev 8 (v := .int .i64 0) rfl
  go_wp2_with fail
  clear d4 t4
  clear G9 e0 e1 e2 e3 e4 e5 e6 e7 e8
  have G10 : Hid (Gu w (w6.setCell ⟨w.heap.size + 2, 4, none⟩ (.string ⟨#[107]⟩)) ⟨#[49, 46, 49]⟩ #[.int .i64 3, .int .i64 1, .int .i64 1, .bool true, .string ⟨#[107]⟩, .slice none 0 0, .int .i64 0, .int .i64 0, .int .i64 0]) := GN.out
  clear GN
  clear cv
  have CF : Hid (∀ V, Calls Tryd.prog 34 #[.agg #[.int .i64 3, .int .i64 1, .int .i64 1, .bool true, .string ⟨#[107]⟩, .slice none 0 0, .int .i64 0, .int .i64 0, .int .i64 0]] V fun o w' => o = .returned (.int .i64 2) ∧ Kept (fun _ => False) V w') := fun V => hForm ⟨3, 1, 1, true, ⟨#[107]⟩, none, 0, 0, 0, 0, 0, []⟩ V
  refine (CF.out _).mono ?_
  rintro o w7 ⟨rfl, K⟩
  have G11 : Hid (Gu w w7 ⟨#[49, 46, 49]⟩ #[.int .i64 3, .int .i64 1, .int .i64 1, .bool true, .string ⟨#[107]⟩, .slice none 0 0, .int .i64 0, .int .i64 0, .int .i64 0]) := G10.out.keep K
  clear G10
  clear K CF
  go_wp2_with fail
  refine (hWordR G11.out.rd (⟨by decide, by kernel_rfl⟩ : CutAt ⟨#[49, 46, 49]⟩ ⟨#[32]⟩ ⟨#[49, 46, 49]⟩ ⟨#[]⟩ false)).mono ?_
  rintro o w8 ⟨rfl, R, K⟩
  have G12 : Hid (Gu w w8 ⟨#[]⟩ #[.int .i64 3, .int .i64 1, .int .i64 1, .bool true, .string ⟨#[107]⟩, .slice none 0 0, .int .i64 0, .int .i64 0, .int .i64 0]) := G11.out.call K R
  clear G11
  clear R K
  have CT : Hid (Calls Tryd.prog 43 #[.string ⟨#[49, 46, 49]⟩] w8 fun o w' => o = .returned (.tuple #[.agg #[.int .i64 1, .int .i64 1], .int .i64 0]) ∧ Kept (fun _ => False) w8 w') := hTagParse w8 (HV.out.1.kept G12.out.kept) G12.out.rd.lib
  go_wp2_with fail
  refine CT.out.mono ?_
  rintro o w9 ⟨rfl, K⟩
  have G13 : Hid (Gu w w9 ⟨#[]⟩ #[.int .i64 3, .int .i64 1, .int .i64 1, .bool true, .string ⟨#[107]⟩, .slice none 0 0, .int .i64 0, .int .i64 0, .int .i64 0]) := G12.out.keep K
  clear G12
  clear K CT
  have d7 := cell_blk G13.out.ev 7 (v := .int .i64 0) rfl
  have t7 := soft_blk G13.out.ev 7
  have d8 := cell_blk G13.out.ev 8 (v := .int .i64 0) rfl
  have t8 := soft_blk G13.out.ev 8
  have GN : Hid (Gu w ((w9.setCell ⟨w.heap.size + 2, 7, none⟩ (.int .i64 1)).setCell ⟨w.heap.size + 2, 8, none⟩ (.int .i64 1)) ⟨#[]⟩ #[.int .i64 3, .int .i64 1, .int .i64 1, .bool true, .string ⟨#[107]⟩, .slice none 0 0, .int .i64 0, .int .i64 1, .int .i64 1]) := ((G13.out.set 7 (.int .i64 1)).set 8 (.int .i64 1))
  have e0 := cell_blk GN.out.ev 0 (v := .int .i64 3) rfl
  have e1 := cell_blk GN.out.ev 1 (v := .int .i64 1) rfl
  have e2 := cell_blk GN.out.ev 2 (v := .int .i64 1) rfl
  have e3 := cell_blk GN.out.ev 3 (v := .bool true) rfl
  have e4 := cell_blk GN.out.ev 4 (v := .string ⟨#[107]⟩) rfl
  have e5 := cell_blk GN.out.ev 5 (v := .slice none 0 0) rfl
  have e6 := cell_blk GN.out.ev 6 (v := .int .i64 0) rfl
  have e7 := cell_blk GN.out.ev 7 (v := .int .i64 1) rfl
  have e8 := cell_blk GN.out.ev 8 (v := .int .i64 1) rfl
  have r0 := cell_blk GN.out.rs 0 (v := .int .i64 0) rfl
  have q0 := soft_blk GN.out.rs 0
  have r1 := cell_blk GN.out.rs 1 (v := .int .i64 0) rfl
  have q1 := soft_blk GN.out.rs 1
  have r2 := cell_blk GN.out.rs 2 (v := .int .i64 0) rfl
  have q2 := soft_blk GN.out.rs 2
  have r3 := cell_blk GN.out.rs 3 (v := .bool false) rfl
  have q3 := soft_blk GN.out.rs 3
  have r4 := cell_blk GN.out.rs 4 (v := .string ⟨#[]⟩) rfl
  have q4 := soft_blk GN.out.rs 4
  have r5 := cell_blk GN.out.rs 5 (v := .slice none 0 0) rfl
  have q5 := soft_blk GN.out.rs 5
  have r6 := cell_blk GN.out.rs 6 (v := .int .i64 0) rfl
  have q6 := soft_blk GN.out.rs 6
  have r7 := cell_blk GN.out.rs 7 (v := .int .i64 0) rfl
  have q7 := soft_blk GN.out.rs 7
  have r8 := cell_blk GN.out.rs 8 (v := .int .i64 0) rfl
  have q8 := soft_blk GN.out.rs 8
  go_wp2_with fail
  have SA := set_all GN.out.rs (.int .i64 3) (.int .i64 1) (.int .i64 1) (.bool true) (.string ⟨#[107]⟩) (.slice none 0 0) (.int .i64 0) (.int .i64 1) (.int .i64 1)
  have KF := GN.out.kept.trans SA.2 (fun j hj z => by have z : j = w.heap.size := z; omega)
  refine bodyPost_ret (results_cell_row rfl _ _ w.heap.size 45 #[.int .i64 3, .int .i64 1, .int .i64 1, .bool true, .string ⟨#[107]⟩, .slice none 0 0, .int .i64 0, .int .i64 1, .int .i64 1] (0, 0) _ rfl SA.1 Tryd.underlying45 rfl (by kernel_rfl)) rfl ?_
  exact ⟨rfl, KF⟩
set_option maxRecDepth 100000 in
theorem hGuess4 (w : World) (V : Tab w) (kw : KWs w) (h0 : w.heap.size ≠ 0) (gm : ∃ x, w.cell? ⟨1, 0, none⟩ = some (.int .i64 x)) : Calls Tryd.prog 19 #[.string ⟨#[114, 101, 116, 117, 114, 110, 32, 50, 32, 49, 32, 103, 101, 116, 32, 34, 107, 34, 32, 111, 107, 32, 49, 46, 49, 32, 34, 120, 34]⟩] w fun o w' => ∃ p c, o = .returned (.agg #[.int .i64 2, .int .i64 2, .int .i64 1, .bool false, .string ⟨#[107]⟩, .slice p 1 c, .int .i64 0, .int .i64 1, .int .i64 1]) ∧ w'.ownsRow w.heap.size 5 1 (.slice p 1 c) 1 (cellsOf [120]) ∧ Kept (fun _ => False) w w' := by
  have G0 : Hid (Gu w _ ⟨#[114, 101, 116, 117, 114, 110, 32, 50, 32, 49, 32, 103, 101, 116, 32, 34, 107, 34, 32, 111, 107, 32, 49, 46, 49, 32, 34, 120, 34]⟩ #[.int .i64 0, .int .i64 0, .int .i64 0, .bool false, .string ⟨#[]⟩, .slice none 0 0, .int .i64 0, .int .i64 0, .int .i64 0]) := Gu.start w ⟨#[114, 101, 116, 117, 114, 110, 32, 50, 32, 49, 32, 103, 101, 116, 32, 34, 107, 34, 32, 111, 107, 32, 49, 46, 49, 32, 34, 120, 34]⟩ gm h0
  have HV : Hid (Tab w ∧ KWs w) := ⟨V, kw⟩
  clear V kw h0 gm
  go_enter Tryd.func19, Tryd.ntmps19
  go_wp2_with fail
  refine (hWordR G0.out.rd (⟨by decide, by kernel_rfl⟩ : CutAt ⟨#[114, 101, 116, 117, 114, 110, 32, 50, 32, 49, 32, 103, 101, 116, 32, 34, 107, 34, 32, 111, 107, 32, 49, 46, 49, 32, 34, 120, 34]⟩ ⟨#[32]⟩ ⟨#[114, 101, 116, 117, 114, 110]⟩ ⟨#[50, 32, 49, 32, 103, 101, 116, 32, 34, 107, 34, 32, 111, 107, 32, 49, 46, 49, 32, 34, 120, 34]⟩ true)).mono ?_
  rintro o w1 ⟨rfl, R, K⟩
  have G1 : Hid (Gu w w1 ⟨#[50, 32, 49, 32, 103, 101, 116, 32, 34, 107, 34, 32, 111, 107, 32, 49, 46, 49, 32, 34, 120, 34]⟩ #[.int .i64 0, .int .i64 0, .int .i64 0, .bool false, .string ⟨#[]⟩, .slice none 0 0, .int .i64 0, .int .i64 0, .int .i64 0]) := G0.out.call K R
  clear G0
  clear R K
  go_wp2_with fail
  refine (hKind2 w1 (HV.out.2.kept G1.out.kept (fun z => z))).mono ?_
  rintro o w2 ⟨rfl, hw⟩
  subst hw
  have d0 := cell_blk G1.out.ev 0 (v := .int .i64 0) rfl
  have t0 := soft_blk G1.out.ev 0
  go_wp2_with fail
  clear d0 t0
  have G2 : Hid (Gu w (w2.setCell ⟨w.heap.size + 2, 0, none⟩ (.int .i64 2)) ⟨#[50, 32, 49, 32, 103, 101, 116, 32, 34, 107, 34, 32, 111, 107, 32, 49, 46, 49, 32, 34, 120, 34]⟩ #[.int .i64 2, .int .i64 0, .int .i64 0, .bool false, .string ⟨#[]⟩, .slice none 0 0, .int .i64 0, .int .i64 0, .int .i64 0]) := G1.out.set 0 (.int .i64 2)
  clear G1
  refine (hNumber G2.out.rd (⟨by decide, by kernel_rfl⟩ : CutAt ⟨#[50, 32, 49, 32, 103, 101, 116, 32, 34, 107, 34, 32, 111, 107, 32, 49, 46, 49, 32, 34, 120, 34]⟩ ⟨#[32]⟩ ⟨#[50]⟩ ⟨#[49, 32, 103, 101, 116, 32, 34, 107, 34, 32, 111, 107, 32, 49, 46, 49, 32, 34, 120, 34]⟩ true) int2).mono ?_
  rintro o w3 ⟨rfl, R, K⟩
  have G3 : Hid (Gu w w3 ⟨#[49, 32, 103, 101, 116, 32, 34, 107, 34, 32, 111, 107, 32, 49, 46, 49, 32, 34, 120, 34]⟩ #[.int .i64 2, .int .i64 0, .int .i64 0, .bool false, .string ⟨#[]⟩, .slice none 0 0, .int .i64 0, .int .i64 0, .int .i64 0]) := G2.out.call K R
  clear G2
  clear R K
  have d1 := cell_blk G3.out.ev 1 (v := .int .i64 0) rfl
  have t1 := soft_blk G3.out.ev 1
  go_wp2_with fail
  clear d1 t1
  have G4 : Hid (Gu w (w3.setCell ⟨w.heap.size + 2, 1, none⟩ (.int .i64 2)) ⟨#[49, 32, 103, 101, 116, 32, 34, 107, 34, 32, 111, 107, 32, 49, 46, 49, 32, 34, 120, 34]⟩ #[.int .i64 2, .int .i64 2, .int .i64 0, .bool false, .string ⟨#[]⟩, .slice none 0 0, .int .i64 0, .int .i64 0, .int .i64 0]) := G3.out.set 1 (.int .i64 2)
  clear G3
  refine (hNumber G4.out.rd (⟨by decide, by kernel_rfl⟩ : CutAt ⟨#[49, 32, 103, 101, 116, 32, 34, 107, 34, 32, 111, 107, 32, 49, 46, 49, 32, 34, 120, 34]⟩ ⟨#[32]⟩ ⟨#[49]⟩ ⟨#[103, 101, 116, 32, 34, 107, 34, 32, 111, 107, 32, 49, 46, 49, 32, 34, 120, 34]⟩ true) int1).mono ?_
  rintro o w4 ⟨rfl, R, K⟩
  have G5 : Hid (Gu w w4 ⟨#[103, 101, 116, 32, 34, 107, 34, 32, 111, 107, 32, 49, 46, 49, 32, 34, 120, 34]⟩ #[.int .i64 2, .int .i64 2, .int .i64 0, .bool false, .string ⟨#[]⟩, .slice none 0 0, .int .i64 0, .int .i64 0, .int .i64 0]) := G4.out.call K R
  clear G4
  clear R K
  have d2 := cell_blk G5.out.ev 2 (v := .int .i64 0) rfl
  have t2 := soft_blk G5.out.ev 2
  go_wp2_with fail
  clear d2 t2
  have G6 : Hid (Gu w (w4.setCell ⟨w.heap.size + 2, 2, none⟩ (.int .i64 1)) ⟨#[103, 101, 116, 32, 34, 107, 34, 32, 111, 107, 32, 49, 46, 49, 32, 34, 120, 34]⟩ #[.int .i64 2, .int .i64 2, .int .i64 1, .bool false, .string ⟨#[]⟩, .slice none 0 0, .int .i64 0, .int .i64 0, .int .i64 0]) := G5.out.set 2 (.int .i64 1)
  clear G5
  refine (hWordR G6.out.rd (⟨by decide, by kernel_rfl⟩ : CutAt ⟨#[103, 101, 116, 32, 34, 107, 34, 32, 111, 107, 32, 49, 46, 49, 32, 34, 120, 34]⟩ ⟨#[32]⟩ ⟨#[103, 101, 116]⟩ ⟨#[34, 107, 34, 32, 111, 107, 32, 49, 46, 49, 32, 34, 120, 34]⟩ true)).mono ?_
  rintro o w5 ⟨rfl, R, K⟩
  have G7 : Hid (Gu w w5 ⟨#[34, 107, 34, 32, 111, 107, 32, 49, 46, 49, 32, 34, 120, 34]⟩ #[.int .i64 2, .int .i64 2, .int .i64 1, .bool false, .string ⟨#[]⟩, .slice none 0 0, .int .i64 0, .int .i64 0, .int .i64 0]) := G6.out.call K R
  clear G6
  clear R K
  have d3 := cell_blk G7.out.ev 3 (v := .bool false) rfl
  have t3 := soft_blk G7.out.ev 3
  go_wp2_with fail
  clear d3 t3
  have G8 : Hid (Gu w (w5.setCell ⟨w.heap.size + 2, 3, none⟩ (.bool false)) ⟨#[34, 107, 34, 32, 111, 107, 32, 49, 46, 49, 32, 34, 120, 34]⟩ #[.int .i64 2, .int .i64 2, .int .i64 1, .bool false, .string ⟨#[]⟩, .slice none 0 0, .int .i64 0, .int .i64 0, .int .i64 0]) := G7.out.set 3 (.bool false)
  clear G7
  refine (hBytes (C := 107) G8.out.rd (⟨by decide, by kernel_rfl⟩ : CutAt ⟨#[34, 107, 34, 32, 111, 107, 32, 49, 46, 49, 32, 34, 120, 34]⟩ ⟨#[34]⟩ ⟨#[]⟩ ⟨#[107, 34, 32, 111, 107, 32, 49, 46, 49, 32, 34, 120, 34]⟩ true) (⟨by decide, by kernel_rfl⟩ : CutAt ⟨#[107, 34, 32, 111, 107, 32, 49, 46, 49, 32, 34, 120, 34]⟩ ⟨#[34]⟩ ⟨#[107]⟩ ⟨#[32, 111, 107, 32, 49, 46, 49, 32, 34, 120, 34]⟩ true) (⟨by decide, by kernel_rfl⟩ : CutAt ⟨#[32, 111, 107, 32, 49, 46, 49, 32, 34, 120, 34]⟩ ⟨#[32]⟩ ⟨#[]⟩ ⟨#[111, 107, 32, 49, 46, 49, 32, 34, 120, 34]⟩ true) hUnquotedK).mono ?_
  rintro o w6 ⟨p6, c6, rfl, O, R, K⟩
  have G9 : Hid (Gu w w6 ⟨#[111, 107, 32, 49, 46, 49, 32, 34, 120, 34]⟩ #[.int .i64 2, .int .i64 2, .int .i64 1, .bool false, .string ⟨#[]⟩, .slice none 0 0, .int .i64 0, .int .i64 0, .int .i64 0]) := G8.out.call K R
  clear G8
  have cv : (convert 41 9 (.slice p6 1 c6)).run Tryd.prog w6 = .ok (.string ⟨#[107]⟩) w6 := (reads_own (l := [107]) O (by decide)).string
  clear O R K
  have d4 := cell_blk G9.out.ev 4 (v := .string ⟨#[]⟩) rfl
  have t4 := soft_blk G9.out.ev 4
  have GN : Hid (Gu w (w6.setCell ⟨w.heap.size + 2, 4, none⟩ (.string ⟨#[107]⟩)) ⟨#[111, 107, 32, 49, 46, 49, 32, 34, 120, 34]⟩ #[.int .i64 2, .int .i64 2, .int .i64 1, .bool false, .string ⟨#[107]⟩, .slice none 0 0, .int .i64 0, .int .i64 0, .int .i64 0]) := G9.out.set 4 (.string ⟨#[107]⟩)
  have e0 := cell_blk GN.out.ev 0 (v := .int .i64 2) rfl
  have e1 := cell_blk GN.out.ev 1 (v := .int .i64 2) rfl
  have e2 := cell_blk GN.out.ev 2 (v := .int .i64 1) rfl
  have e3 := cell_blk GN.out.ev 3 (v := .bool false) rfl
  have e4 := cell_blk GN.out.ev 4 (v := .string ⟨#[107]⟩) rfl
  have e5 := cell_blk GN.out.ev 5 (v := .slice none 0 0) rfl
  have e6 := cell_blk GN.out.ev 6 (v := .int .i64 0) rfl
  have e7 := cell_blk GN.out.ev 7 (v := .int .i64 0) rfl
  have e8 := cell_blk GN.out.ev 8 (v := .int .i64 0) rfl
  go_wp2_with fail
  clear d4 t4
  clear G9 e0 e1 e2 e3 e4 e5 e6 e7 e8
  have G10 : Hid (Gu w (w6.setCell ⟨w.heap.size + 2, 4, none⟩ (.string ⟨#[107]⟩)) ⟨#[111, 107, 32, 49, 46, 49, 32, 34, 120, 34]⟩ #[.int .i64 2, .int .i64 2, .int .i64 1, .bool false, .string ⟨#[107]⟩, .slice none 0 0, .int .i64 0, .int .i64 0, .int .i64 0]) := GN.out
  clear GN
  clear cv
  refine (hWordR G10.out.rd (⟨by decide, by kernel_rfl⟩ : CutAt ⟨#[111, 107, 32, 49, 46, 49, 32, 34, 120, 34]⟩ ⟨#[32]⟩ ⟨#[111, 107]⟩ ⟨#[49, 46, 49, 32, 34, 120, 34]⟩ true)).mono ?_
  rintro o w7 ⟨rfl, R, K⟩
  have G11 : Hid (Gu w w7 ⟨#[49, 46, 49, 32, 34, 120, 34]⟩ #[.int .i64 2, .int .i64 2, .int .i64 1, .bool false, .string ⟨#[107]⟩, .slice none 0 0, .int .i64 0, .int .i64 0, .int .i64 0]) := G10.out.call K R
  clear G10
  clear R K
  go_wp2_with fail
  refine (hStatusOf ⟨#[111, 107]⟩ w7).mono ?_
  rintro o w8 ⟨rfl, hw⟩
  subst hw
  rw [show statusB ⟨#[111, 107]⟩ = 0 by kernel_rfl]
  have d6 := cell_blk G11.out.ev 6 (v := .int .i64 0) rfl
  have t6 := soft_blk G11.out.ev 6
  have GN : Hid (Gu w (w8.setCell ⟨w.heap.size + 2, 6, none⟩ (.int .i64 0)) ⟨#[49, 46, 49, 32, 34, 120, 34]⟩ #[.int .i64 2, .int .i64 2, .int .i64 1, .bool false, .string ⟨#[107]⟩, .slice none 0 0, .int .i64 0, .int .i64 0, .int .i64 0]) := G11.out.set 6 (.int .i64 0)
  have e0 := cell_blk GN.out.ev 0 (v := .int .i64 2) rfl
  have e1 := cell_blk GN.out.ev 1 (v := .int .i64 2) rfl
  have e2 := cell_blk GN.out.ev 2 (v := .int .i64 1) rfl
  have e3 := cell_blk GN.out.ev 3 (v := .bool false) rfl
  have e4 := cell_blk GN.out.ev 4 (v := .string ⟨#[107]⟩) rfl
  have e5 := cell_blk GN.out.ev 5 (v := .slice none 0 0) rfl
  have e6 := cell_blk GN.out.ev 6 (v := .int .i64 0) rfl
  have e7 := cell_blk GN.out.ev 7 (v := .int .i64 0) rfl
  have e8 := cell_blk GN.out.ev 8 (v := .int .i64 0) rfl
  go_wp2_with fail
  clear d6 t6
  clear G11 e0 e1 e2 e3 e4 e5 e6 e7 e8
  have G12 : Hid (Gu w (w8.setCell ⟨w.heap.size + 2, 6, none⟩ (.int .i64 0)) ⟨#[49, 46, 49, 32, 34, 120, 34]⟩ #[.int .i64 2, .int .i64 2, .int .i64 1, .bool false, .string ⟨#[107]⟩, .slice none 0 0, .int .i64 0, .int .i64 0, .int .i64 0]) := GN.out
  clear GN
  have CF : Hid (∀ V, Calls Tryd.prog 34 #[.agg #[.int .i64 2, .int .i64 2, .int .i64 1, .bool false, .string ⟨#[107]⟩, .slice none 0 0, .int .i64 0, .int .i64 0, .int .i64 0]] V fun o w' => o = .returned (.int .i64 3) ∧ Kept (fun _ => False) V w') := fun V => hForm ⟨2, 2, 1, false, ⟨#[107]⟩, none, 0, 0, 0, 0, 0, []⟩ V
  refine (CF.out _).mono ?_
  rintro o w9 ⟨rfl, K⟩
  have G13 : Hid (Gu w w9 ⟨#[49, 46, 49, 32, 34, 120, 34]⟩ #[.int .i64 2, .int .i64 2, .int .i64 1, .bool false, .string ⟨#[107]⟩, .slice none 0 0, .int .i64 0, .int .i64 0, .int .i64 0]) := G12.out.keep K
  clear G12
  clear K CF
  go_wp2_with fail
  refine (hWordR G13.out.rd (⟨by decide, by kernel_rfl⟩ : CutAt ⟨#[49, 46, 49, 32, 34, 120, 34]⟩ ⟨#[32]⟩ ⟨#[49, 46, 49]⟩ ⟨#[34, 120, 34]⟩ true)).mono ?_
  rintro o w10 ⟨rfl, R, K⟩
  have G14 : Hid (Gu w w10 ⟨#[34, 120, 34]⟩ #[.int .i64 2, .int .i64 2, .int .i64 1, .bool false, .string ⟨#[107]⟩, .slice none 0 0, .int .i64 0, .int .i64 0, .int .i64 0]) := G13.out.call K R
  clear G13
  clear R K
  have CT : Hid (Calls Tryd.prog 43 #[.string ⟨#[49, 46, 49]⟩] w10 fun o w' => o = .returned (.tuple #[.agg #[.int .i64 1, .int .i64 1], .int .i64 0]) ∧ Kept (fun _ => False) w10 w') := hTagParse w10 (HV.out.1.kept G14.out.kept) G14.out.rd.lib
  go_wp2_with fail
  refine CT.out.mono ?_
  rintro o w11 ⟨rfl, K⟩
  have G15 : Hid (Gu w w11 ⟨#[34, 120, 34]⟩ #[.int .i64 2, .int .i64 2, .int .i64 1, .bool false, .string ⟨#[107]⟩, .slice none 0 0, .int .i64 0, .int .i64 0, .int .i64 0]) := G14.out.keep K
  clear G14
  clear K CT
  have d7 := cell_blk G15.out.ev 7 (v := .int .i64 0) rfl
  have t7 := soft_blk G15.out.ev 7
  have d8 := cell_blk G15.out.ev 8 (v := .int .i64 0) rfl
  have t8 := soft_blk G15.out.ev 8
  go_wp2_with fail
  clear d7 t7 d8 t8
  have G16 : Hid (Gu w ((w11.setCell ⟨w.heap.size + 2, 7, none⟩ (.int .i64 1)).setCell ⟨w.heap.size + 2, 8, none⟩ (.int .i64 1)) ⟨#[34, 120, 34]⟩ #[.int .i64 2, .int .i64 2, .int .i64 1, .bool false, .string ⟨#[107]⟩, .slice none 0 0, .int .i64 0, .int .i64 1, .int .i64 1]) := (G15.out.set 7 (.int .i64 1)).set 8 (.int .i64 1)
  clear G15
  have BL := block_lt G16.out.ev
  refine (hBytes (C := 120) G16.out.rd (⟨by decide, by kernel_rfl⟩ : CutAt ⟨#[34, 120, 34]⟩ ⟨#[34]⟩ ⟨#[]⟩ ⟨#[120, 34]⟩ true) (⟨by decide, by kernel_rfl⟩ : CutAt ⟨#[120, 34]⟩ ⟨#[34]⟩ ⟨#[120]⟩ ⟨#[]⟩ true) (⟨by decide, by kernel_rfl⟩ : CutAt ⟨#[]⟩ ⟨#[32]⟩ ⟨#[]⟩ ⟨#[]⟩ false) hUnquotedX).mono ?_
  rintro o w12 ⟨p12, c12, rfl, O, R, K⟩
  have G17 : Hid (Gu w w12 ⟨#[]⟩ #[.int .i64 2, .int .i64 2, .int .i64 1, .bool false, .string ⟨#[107]⟩, .slice none 0 0, .int .i64 0, .int .i64 1, .int .i64 1]) := G16.out.call K R
  clear G16
  have OW : Hid (w12.ownsRow (w.heap.size + 3) 5 1 (.slice p12 1 c12) 1 (cellsOf [120])) := owns_mono O (by first | omega | (simp only [alloc_size] at BL ⊢; omega) | (simp at BL ⊢; omega))
  clear O R K BL
  have d5 := cell_blk G17.out.ev 5 (v := .slice none 0 0) rfl
  have t5 := soft_blk G17.out.ev 5
  have GN : Hid (Gu w (w12.setCell ⟨w.heap.size + 2, 5, none⟩ (.slice p12 1 c12)) ⟨#[]⟩ #[.int .i64 2, .int .i64 2, .int .i64 1, .bool false, .string ⟨#[107]⟩, .slice p12 1 c12, .int .i64 0, .int .i64 1, .int .i64 1]) := (G17.out.set 5 (.slice p12 1 c12))
  have e0 := cell_blk GN.out.ev 0 (v := .int .i64 2) rfl
  have e1 := cell_blk GN.out.ev 1 (v := .int .i64 2) rfl
  have e2 := cell_blk GN.out.ev 2 (v := .int .i64 1) rfl
  have e3 := cell_blk GN.out.ev 3 (v := .bool false) rfl
  have e4 := cell_blk GN.out.ev 4 (v := .string ⟨#[107]⟩) rfl
  have e5 := cell_blk GN.out.ev 5 (v := .slice p12 1 c12) rfl
  have e6 := cell_blk GN.out.ev 6 (v := .int .i64 0) rfl
  have e7 := cell_blk GN.out.ev 7 (v := .int .i64 1) rfl
  have e8 := cell_blk GN.out.ev 8 (v := .int .i64 1) rfl
  have r0 := cell_blk GN.out.rs 0 (v := .int .i64 0) rfl
  have q0 := soft_blk GN.out.rs 0
  have r1 := cell_blk GN.out.rs 1 (v := .int .i64 0) rfl
  have q1 := soft_blk GN.out.rs 1
  have r2 := cell_blk GN.out.rs 2 (v := .int .i64 0) rfl
  have q2 := soft_blk GN.out.rs 2
  have r3 := cell_blk GN.out.rs 3 (v := .bool false) rfl
  have q3 := soft_blk GN.out.rs 3
  have r4 := cell_blk GN.out.rs 4 (v := .string ⟨#[]⟩) rfl
  have q4 := soft_blk GN.out.rs 4
  have r5 := cell_blk GN.out.rs 5 (v := .slice none 0 0) rfl
  have q5 := soft_blk GN.out.rs 5
  have r6 := cell_blk GN.out.rs 6 (v := .int .i64 0) rfl
  have q6 := soft_blk GN.out.rs 6
  have r7 := cell_blk GN.out.rs 7 (v := .int .i64 0) rfl
  have q7 := soft_blk GN.out.rs 7
  have r8 := cell_blk GN.out.rs 8 (v := .int .i64 0) rfl
  have q8 := soft_blk GN.out.rs 8
  go_wp2_with fail
  have SA := set_all GN.out.rs (.int .i64 2) (.int .i64 2) (.int .i64 1) (.bool false) (.string ⟨#[107]⟩) (.slice p12 1 c12) (.int .i64 0) (.int .i64 1) (.int .i64 1)
  have KF := GN.out.kept.trans SA.2 (fun j hj z => by have z : j = w.heap.size := z; omega)
  have OA := ((Kept.refl (fun j => j = w.heap.size + 2) w12).setCell (p := ⟨w.heap.size + 2, 5, none⟩) (fun _ => rfl) (.slice p12 1 c12)).owns OW.out (fun k hk z => by have q := OW.out.lt k hk; have z : k = w.heap.size + 2 := z; omega)
  have OB := SA.2.owns OA (fun k hk z => by have q := OA.lt k hk; have z : k = w.heap.size := z; omega)
  have OC := owns_mono OB (show w.heap.size ≤ w.heap.size + 3 by omega)
  refine bodyPost_ret (results_cell_row rfl _ _ w.heap.size 45 #[.int .i64 2, .int .i64 2, .int .i64 1, .bool false, .string ⟨#[107]⟩, .slice p12 1 c12, .int .i64 0, .int .i64 1, .int .i64 1] (0, 0) _ rfl SA.1 Tryd.underlying45 rfl (by kernel_rfl)) rfl ?_
  exact ⟨p12, c12, rfl, OC, KF⟩
end Go.Proofs.YtbangbobfeflcaaDoor
