import Derived.Test.YtbangbobfeflcaaGreatDoorLG4J
namespace Go.Proofs.YtbangbobfeflcaaGreatDoor
open Go.RowKit 

set_option maxRecDepth 100000 in
theorem hGuessE7 (a b : Int) (ha : KI a) (hb : KI b) (ky : ByteArray) (hk : ky.size ≤ 65536) (w : World) (E : EVs w) (V : Tab w) (kw : KWs w) (h0 : w.heap.size ≠ 0) (gm : ∃ x, w.cell? ⟨1, 0, none⟩ = some (.int .i64 x)) : Calls Tryz.prog 30 #[.string (joinB [⟨#[114, 101, 116, 117, 114, 110]⟩, itB a, itB b, ⟨#[112, 117, 116]⟩, quoB ky, ⟨#[102, 117, 108, 108]⟩])] w fun o w' => o = .returned (.agg #[.int .i64 2, .int .i64 a, .int .i64 b, .bool true, .string ky, .slice none 0 0, .int .i64 42, .int .i64 0, .int .i64 0]) ∧ Kept (fun _ => False) w w' := by
  have z1 := itB_size a ha
  have z2 := itB_size b hb
  have z3 := quoB_size ky
  have y0 := joinB_size ⟨#[114, 101, 116, 117, 114, 110]⟩ (itB a) [itB b, ⟨#[112, 117, 116]⟩, quoB ky, ⟨#[102, 117, 108, 108]⟩]
  have y1 := joinB_size (itB a) (itB b) [⟨#[112, 117, 116]⟩, quoB ky, ⟨#[102, 117, 108, 108]⟩]
  have y2 := joinB_size (itB b) ⟨#[112, 117, 116]⟩ [quoB ky, ⟨#[102, 117, 108, 108]⟩]
  have y3 := joinB_size ⟨#[112, 117, 116]⟩ (quoB ky) [⟨#[102, 117, 108, 108]⟩]
  have y4 := joinB_size (quoB ky) ⟨#[102, 117, 108, 108]⟩ []
  have y5 : (joinB [⟨#[102, 117, 108, 108]⟩]).size = 4 := by rw [joinB_one]; rfl
  have p3 : (⟨#[112, 117, 116]⟩ : ByteArray).size = 3 := rfl
  have p6 : (⟨#[114, 101, 116, 117, 114, 110]⟩ : ByteArray).size = 6 := rfl
  have c0 := cut_join (a := ⟨#[114, 101, 116, 117, 114, 110]⟩) (itB a) [itB b, ⟨#[112, 117, 116]⟩, quoB ky, ⟨#[102, 117, 108, 108]⟩] (by decide) (by omega)
  have c1 := cut_join (a := itB a) (itB b) [⟨#[112, 117, 116]⟩, quoB ky, ⟨#[102, 117, 108, 108]⟩] (it_no a) (by omega)
  have c2 := cut_join (a := itB b) ⟨#[112, 117, 116]⟩ [quoB ky, ⟨#[102, 117, 108, 108]⟩] (it_no b) (by omega)
  have c3 := cut_join (a := ⟨#[112, 117, 116]⟩) (quoB ky) [⟨#[102, 117, 108, 108]⟩] (by decide) (by omega)
  have c5 : CutAt ⟨#[102, 117, 108, 108]⟩ ⟨#[32]⟩ ⟨#[102, 117, 108, 108]⟩ ⟨#[]⟩ false := ⟨by decide, by kernel_rfl⟩
  have b4 := bytes_join ky ⟨#[102, 117, 108, 108]⟩ []
  rw [joinB_one] at b4
  have u4 : (joinB [quoB ky, ⟨#[102, 117, 108, 108]⟩]).size ≤ 1000000000 := by omega
  obtain ⟨s0, e0⟩ : ∃ s, joinB [⟨#[114, 101, 116, 117, 114, 110]⟩, itB a, itB b, ⟨#[112, 117, 116]⟩, quoB ky, ⟨#[102, 117, 108, 108]⟩] = s := ⟨_, rfl⟩
  obtain ⟨s1, e1⟩ : ∃ s, joinB [itB a, itB b, ⟨#[112, 117, 116]⟩, quoB ky, ⟨#[102, 117, 108, 108]⟩] = s := ⟨_, rfl⟩
  obtain ⟨s2, e2⟩ : ∃ s, joinB [itB b, ⟨#[112, 117, 116]⟩, quoB ky, ⟨#[102, 117, 108, 108]⟩] = s := ⟨_, rfl⟩
  obtain ⟨s3, e3⟩ : ∃ s, joinB [⟨#[112, 117, 116]⟩, quoB ky, ⟨#[102, 117, 108, 108]⟩] = s := ⟨_, rfl⟩
  obtain ⟨s4, e4⟩ : ∃ s, joinB [quoB ky, ⟨#[102, 117, 108, 108]⟩] = s := ⟨_, rfl⟩
  rw [e0, e1] at c0
  rw [e1, e2] at c1
  rw [e2, e3] at c2
  rw [e3, e4] at c3
  rw [e4] at b4 u4
  rw [e0]
  obtain ⟨s5, e5⟩ : ∃ s : ByteArray, s = ⟨#[102, 117, 108, 108]⟩ := ⟨_, rfl⟩
  rw [← e5] at b4
  have c5 : CutAt s5 ⟨#[32]⟩ ⟨#[102, 117, 108, 108]⟩ ⟨#[]⟩ false := by rw [e5]; exact c5
  have CC := (show Hid (CutAt s0 ⟨#[32]⟩ ⟨#[114, 101, 116, 117, 114, 110]⟩ s1 _ ∧ CutAt s1 ⟨#[32]⟩ (itB a) s2 _ ∧ CutAt s2 ⟨#[32]⟩ (itB b) s3 _ ∧ CutAt s3 ⟨#[32]⟩ ⟨#[112, 117, 116]⟩ s4 _ ∧ CutAt s5 ⟨#[32]⟩ ⟨#[102, 117, 108, 108]⟩ ⟨#[]⟩ _) from ⟨c0, c1, c2, c3, c5⟩)
  have NN : Hid (IntAt (itB a) a ∧ IntAt (itB b) b) := ⟨intB ha, intB hb⟩
  have BB : Hid (bytB s4 = bl ky ∧ byrB s4 = s5) := b4
  have ZZ : Hid (s4.size ≤ 1000000000) := u4
  have EE : Hid (EVs w) := E
  clear z1 z2 z3 u4 y0 y1 y2 y3 y4 y5 p3 p6 c0 c1 c2 c3 c5 b4 e0 e1 e2 e3 e4 e5 E ha hb hk
  have G0 : Hid (Gu w _ s0 #[.int .i64 0, .int .i64 0, .int .i64 0, .bool false, .string ⟨#[]⟩, .slice none 0 0, .int .i64 0, .int .i64 0, .int .i64 0]) := Gu.start w s0 gm h0
  have HV : Hid (Tab w ∧ KWs w) := ⟨V, kw⟩
  clear V kw h0 gm
  go_enter Tryz.func30, Tryz.ntmps30
  go_wp2_with fail
  refine (hWordR G0.out.rd CC.out.1).mono ?_
  rintro o w1 ⟨rfl, R, K⟩
  have G1 : Hid (Gu w w1 s1 #[.int .i64 0, .int .i64 0, .int .i64 0, .bool false, .string ⟨#[]⟩, .slice none 0 0, .int .i64 0, .int .i64 0, .int .i64 0]) := G0.out.call K R
  clear G0
  clear R K
  go_wp2_with fail
  refine (hKind2 w1 (HV.out.2.kept G1.out.kept (fun z => z))).mono ?_
  rintro o w2 ⟨rfl, hw⟩
  subst hw
  have d0 := cell_blk G1.out.ev 0 (v := .int .i64 0) rfl
  have t0 := soft_blk G1.out.ev 0
  go_wp2_with fail
  clear d0 t0
  have G2 : Hid (Gu w (w2.setCell ⟨w.heap.size + 2, 0, none⟩ (.int .i64 2)) s1 #[.int .i64 2, .int .i64 0, .int .i64 0, .bool false, .string ⟨#[]⟩, .slice none 0 0, .int .i64 0, .int .i64 0, .int .i64 0]) := G1.out.set 0 (.int .i64 2)
  clear G1
  refine (hNumber G2.out.rd CC.out.2.1 NN.out.1).mono ?_
  rintro o w3 ⟨rfl, R, K⟩
  have G3 : Hid (Gu w w3 s2 #[.int .i64 2, .int .i64 0, .int .i64 0, .bool false, .string ⟨#[]⟩, .slice none 0 0, .int .i64 0, .int .i64 0, .int .i64 0]) := G2.out.call K R
  clear G2
  clear R K
  have d1 := cell_blk G3.out.ev 1 (v := .int .i64 0) rfl
  have t1 := soft_blk G3.out.ev 1
  go_wp2_with fail
  clear d1 t1
  have G4 : Hid (Gu w (w3.setCell ⟨w.heap.size + 2, 1, none⟩ (.int .i64 a)) s2 #[.int .i64 2, .int .i64 a, .int .i64 0, .bool false, .string ⟨#[]⟩, .slice none 0 0, .int .i64 0, .int .i64 0, .int .i64 0]) := G3.out.set 1 (.int .i64 a)
  clear G3
  refine (hNumber G4.out.rd CC.out.2.2.1 NN.out.2).mono ?_
  rintro o w4 ⟨rfl, R, K⟩
  have G5 : Hid (Gu w w4 s3 #[.int .i64 2, .int .i64 a, .int .i64 0, .bool false, .string ⟨#[]⟩, .slice none 0 0, .int .i64 0, .int .i64 0, .int .i64 0]) := G4.out.call K R
  clear G4
  clear R K
  have d2 := cell_blk G5.out.ev 2 (v := .int .i64 0) rfl
  have t2 := soft_blk G5.out.ev 2
  go_wp2_with fail
  clear d2 t2
  have G6 : Hid (Gu w (w4.setCell ⟨w.heap.size + 2, 2, none⟩ (.int .i64 b)) s3 #[.int .i64 2, .int .i64 a, .int .i64 b, .bool false, .string ⟨#[]⟩, .slice none 0 0, .int .i64 0, .int .i64 0, .int .i64 0]) := G5.out.set 2 (.int .i64 b)
  clear G5
  refine (hWordR G6.out.rd CC.out.2.2.2.1).mono ?_
  rintro o w5 ⟨rfl, R, K⟩
  have G7 : Hid (Gu w w5 s4 #[.int .i64 2, .int .i64 a, .int .i64 b, .bool false, .string ⟨#[]⟩, .slice none 0 0, .int .i64 0, .int .i64 0, .int .i64 0]) := G6.out.call K R
  clear G6
  clear R K
  have d3 := cell_blk G7.out.ev 3 (v := .bool false) rfl
  have t3 := soft_blk G7.out.ev 3
  go_wp2_with fail
  clear d3 t3
  have G8 : Hid (Gu w (w5.setCell ⟨w.heap.size + 2, 3, none⟩ (.bool true)) s4 #[.int .i64 2, .int .i64 a, .int .i64 b, .bool true, .string ⟨#[]⟩, .slice none 0 0, .int .i64 0, .int .i64 0, .int .i64 0]) := G7.out.set 3 (.bool true)
  clear G7
  refine (hBytesG G8.out.rd ZZ.out (G8.out.evs EE.out)).mono ?_
  rintro o w6 ⟨p6, k6, c6, rfl, O, R, K⟩
  rw [BB.out.1] at O
  rw [BB.out.2] at R
  have G9 : Hid (Gu w w6 s5 #[.int .i64 2, .int .i64 a, .int .i64 b, .bool true, .string ⟨#[]⟩, .slice none 0 0, .int .i64 0, .int .i64 0, .int .i64 0]) := G8.out.call K R
  clear G8
  have cv : (convert 34 9 (.slice p6 k6 c6)).run Tryz.prog w6 = .ok (.string ky) w6 := by
    have q := (reads_own (l := bl ky) O (bl_lt ky)).string
    rw [str_bl] at q
    exact q
  clear O R K
  have d4 := cell_blk G9.out.ev 4 (v := .string ⟨#[]⟩) rfl
  have t4 := soft_blk G9.out.ev 4
  have GN : Hid (Gu w (w6.setCell ⟨w.heap.size + 2, 4, none⟩ (.string ky)) s5 #[.int .i64 2, .int .i64 a, .int .i64 b, .bool true, .string ky, .slice none 0 0, .int .i64 0, .int .i64 0, .int .i64 0]) := G9.out.set 4 (.string ky)
  have e0 := cell_blk GN.out.ev 0 (v := .int .i64 2) rfl
  have e1 := cell_blk GN.out.ev 1 (v := .int .i64 a) rfl
  have e2 := cell_blk GN.out.ev 2 (v := .int .i64 b) rfl
  have e3 := cell_blk GN.out.ev 3 (v := .bool true) rfl
  have e4 := cell_blk GN.out.ev 4 (v := .string ky) rfl
  have e5 := cell_blk GN.out.ev 5 (v := .slice none 0 0) rfl
  have e6 := cell_blk GN.out.ev 6 (v := .int .i64 0) rfl
  have e7 := cell_blk GN.out.ev 7 (v := .int .i64 0) rfl
  have e8 := cell_blk GN.out.ev 8 (v := .int .i64 0) rfl
  go_wp2_with fail
  clear d4 t4
  clear G9 e0 e1 e2 e3 e4 e5 e6 e7 e8
  have G10 : Hid (Gu w (w6.setCell ⟨w.heap.size + 2, 4, none⟩ (.string ky)) s5 #[.int .i64 2, .int .i64 a, .int .i64 b, .bool true, .string ky, .slice none 0 0, .int .i64 0, .int .i64 0, .int .i64 0]) := GN.out
  clear GN
  clear cv
  refine (hWordR G10.out.rd CC.out.2.2.2.2).mono ?_
  rintro o w7 ⟨rfl, R, K⟩
  have G11 : Hid (Gu w w7 ⟨#[]⟩ #[.int .i64 2, .int .i64 a, .int .i64 b, .bool true, .string ky, .slice none 0 0, .int .i64 0, .int .i64 0, .int .i64 0]) := G10.out.call K R
  clear G10
  clear R K
  go_wp2_with fail
  refine (hStatusOf ⟨#[102, 117, 108, 108]⟩ w7).mono ?_
  rintro o w8 ⟨rfl, hw⟩
  subst hw
  rw [show statusB ⟨#[102, 117, 108, 108]⟩ = 42 by kernel_rfl]
  have d6 := cell_blk G11.out.ev 6 (v := .int .i64 0) rfl
  have t6 := soft_blk G11.out.ev 6
  have GN : Hid (Gu w (w8.setCell ⟨w.heap.size + 2, 6, none⟩ (.int .i64 42)) ⟨#[]⟩ #[.int .i64 2, .int .i64 a, .int .i64 b, .bool true, .string ky, .slice none 0 0, .int .i64 42, .int .i64 0, .int .i64 0]) := G11.out.set 6 (.int .i64 42)
  have e0 := cell_blk GN.out.ev 0 (v := .int .i64 2) rfl
  have e1 := cell_blk GN.out.ev 1 (v := .int .i64 a) rfl
  have e2 := cell_blk GN.out.ev 2 (v := .int .i64 b) rfl
  have e3 := cell_blk GN.out.ev 3 (v := .bool true) rfl
  have e4 := cell_blk GN.out.ev 4 (v := .string ky) rfl
  have e5 := cell_blk GN.out.ev 5 (v := .slice none 0 0) rfl
  have e6 := cell_blk GN.out.ev 6 (v := .int .i64 42) rfl
  have e7 := cell_blk GN.out.ev 7 (v := .int .i64 0) rfl
  have e8 := cell_blk GN.out.ev 8 (v := .int .i64 0) rfl
  go_wp2_with fail
  clear d6 t6
  clear G11 e0 e1 e2 e3 e4 e5 e6 e7 e8
  have G12 : Hid (Gu w (w8.setCell ⟨w.heap.size + 2, 6, none⟩ (.int .i64 42)) ⟨#[]⟩ #[.int .i64 2, .int .i64 a, .int .i64 b, .bool true, .string ky, .slice none 0 0, .int .i64 42, .int .i64 0, .int .i64 0]) := GN.out
  clear GN
  have CF : Hid (∀ V, Calls Tryz.prog 55 #[.agg #[.int .i64 2, .int .i64 a, .int .i64 b, .bool true, .string ky, .slice none 0 0, .int .i64 42, .int .i64 0, .int .i64 0]] V fun o w' => o = .returned (.int .i64 0) ∧ Kept (fun _ => False) V w') := fun V => hForm ⟨2, a, b, true, ky, none, 0, 0, 42, 0, 0, []⟩ V
  refine (CF.out _).mono ?_
  rintro o w9 ⟨rfl, K⟩
  have G13 : Hid (Gu w w9 ⟨#[]⟩ #[.int .i64 2, .int .i64 a, .int .i64 b, .bool true, .string ky, .slice none 0 0, .int .i64 42, .int .i64 0, .int .i64 0]) := G12.out.keep K
  clear G12
  clear K CF
  have e0 := cell_blk G13.out.ev 0 (v := .int .i64 2) rfl
  have e1 := cell_blk G13.out.ev 1 (v := .int .i64 a) rfl
  have e2 := cell_blk G13.out.ev 2 (v := .int .i64 b) rfl
  have e3 := cell_blk G13.out.ev 3 (v := .bool true) rfl
  have e4 := cell_blk G13.out.ev 4 (v := .string ky) rfl
  have e5 := cell_blk G13.out.ev 5 (v := .slice none 0 0) rfl
  have e6 := cell_blk G13.out.ev 6 (v := .int .i64 42) rfl
  have e7 := cell_blk G13.out.ev 7 (v := .int .i64 0) rfl
  have e8 := cell_blk G13.out.ev 8 (v := .int .i64 0) rfl
  have r0 := cell_blk G13.out.rs 0 (v := .int .i64 0) rfl
  have q0 := soft_blk G13.out.rs 0
  have r1 := cell_blk G13.out.rs 1 (v := .int .i64 0) rfl
  have q1 := soft_blk G13.out.rs 1
  have r2 := cell_blk G13.out.rs 2 (v := .int .i64 0) rfl
  have q2 := soft_blk G13.out.rs 2
  have r3 := cell_blk G13.out.rs 3 (v := .bool false) rfl
  have q3 := soft_blk G13.out.rs 3
  have r4 := cell_blk G13.out.rs 4 (v := .string ⟨#[]⟩) rfl
  have q4 := soft_blk G13.out.rs 4
  have r5 := cell_blk G13.out.rs 5 (v := .slice none 0 0) rfl
  have q5 := soft_blk G13.out.rs 5
  have r6 := cell_blk G13.out.rs 6 (v := .int .i64 0) rfl
  have q6 := soft_blk G13.out.rs 6
  have r7 := cell_blk G13.out.rs 7 (v := .int .i64 0) rfl
  have q7 := soft_blk G13.out.rs 7
  have r8 := cell_blk G13.out.rs 8 (v := .int .i64 0) rfl
  have q8 := soft_blk G13.out.rs 8
  go_wp2_with fail
  have SA := set_all G13.out.rs (.int .i64 2) (.int .i64 a) (.int .i64 b) (.bool true) (.string ky) (.slice none 0 0) (.int .i64 42) (.int .i64 0) (.int .i64 0)
  have KF := G13.out.kept.trans SA.2 (fun j hj z => by have z : j = w.heap.size := z; omega)
  refine bodyPost_ret (results_cell_row rfl _ _ w.heap.size 39 #[.int .i64 2, .int .i64 a, .int .i64 b, .bool true, .string ky, .slice none 0 0, .int .i64 42, .int .i64 0, .int .i64 0] (0, 0) _ rfl SA.1 Tryz.underlying39 rfl (by kernel_rfl)) rfl ?_
  exact ⟨rfl, KF⟩
set_option maxRecDepth 100000 in
theorem hGuessE8 (a b : Int) (ha : KI a) (hb : KI b) (ky : ByteArray) (hk : ky.size ≤ 65536) (w : World) (E : EVs w) (V : Tab w) (kw : KWs w) (h0 : w.heap.size ≠ 0) (gm : ∃ x, w.cell? ⟨1, 0, none⟩ = some (.int .i64 x)) : Calls Tryz.prog 30 #[.string (joinB [⟨#[114, 101, 116, 117, 114, 110]⟩, itB a, itB b, ⟨#[103, 101, 116]⟩, quoB ky, ⟨#[97, 98, 115, 101, 110, 116]⟩])] w fun o w' => o = .returned (.agg #[.int .i64 2, .int .i64 a, .int .i64 b, .bool false, .string ky, .slice none 0 0, .int .i64 76, .int .i64 0, .int .i64 0]) ∧ Kept (fun _ => False) w w' := by
  have z1 := itB_size a ha
  have z2 := itB_size b hb
  have z3 := quoB_size ky
  have y0 := joinB_size ⟨#[114, 101, 116, 117, 114, 110]⟩ (itB a) [itB b, ⟨#[103, 101, 116]⟩, quoB ky, ⟨#[97, 98, 115, 101, 110, 116]⟩]
  have y1 := joinB_size (itB a) (itB b) [⟨#[103, 101, 116]⟩, quoB ky, ⟨#[97, 98, 115, 101, 110, 116]⟩]
  have y2 := joinB_size (itB b) ⟨#[103, 101, 116]⟩ [quoB ky, ⟨#[97, 98, 115, 101, 110, 116]⟩]
  have y3 := joinB_size ⟨#[103, 101, 116]⟩ (quoB ky) [⟨#[97, 98, 115, 101, 110, 116]⟩]
  have y4 := joinB_size (quoB ky) ⟨#[97, 98, 115, 101, 110, 116]⟩ []
  have y5 : (joinB [⟨#[97, 98, 115, 101, 110, 116]⟩]).size = 6 := by rw [joinB_one]; rfl
  have p3 : (⟨#[103, 101, 116]⟩ : ByteArray).size = 3 := rfl
  have p6 : (⟨#[114, 101, 116, 117, 114, 110]⟩ : ByteArray).size = 6 := rfl
  have c0 := cut_join (a := ⟨#[114, 101, 116, 117, 114, 110]⟩) (itB a) [itB b, ⟨#[103, 101, 116]⟩, quoB ky, ⟨#[97, 98, 115, 101, 110, 116]⟩] (by decide) (by omega)
  have c1 := cut_join (a := itB a) (itB b) [⟨#[103, 101, 116]⟩, quoB ky, ⟨#[97, 98, 115, 101, 110, 116]⟩] (it_no a) (by omega)
  have c2 := cut_join (a := itB b) ⟨#[103, 101, 116]⟩ [quoB ky, ⟨#[97, 98, 115, 101, 110, 116]⟩] (it_no b) (by omega)
  have c3 := cut_join (a := ⟨#[103, 101, 116]⟩) (quoB ky) [⟨#[97, 98, 115, 101, 110, 116]⟩] (by decide) (by omega)
  have c5 : CutAt ⟨#[97, 98, 115, 101, 110, 116]⟩ ⟨#[32]⟩ ⟨#[97, 98, 115, 101, 110, 116]⟩ ⟨#[]⟩ false := ⟨by decide, by kernel_rfl⟩
  have b4 := bytes_join ky ⟨#[97, 98, 115, 101, 110, 116]⟩ []
  rw [joinB_one] at b4
  have u4 : (joinB [quoB ky, ⟨#[97, 98, 115, 101, 110, 116]⟩]).size ≤ 1000000000 := by omega
  obtain ⟨s0, e0⟩ : ∃ s, joinB [⟨#[114, 101, 116, 117, 114, 110]⟩, itB a, itB b, ⟨#[103, 101, 116]⟩, quoB ky, ⟨#[97, 98, 115, 101, 110, 116]⟩] = s := ⟨_, rfl⟩
  obtain ⟨s1, e1⟩ : ∃ s, joinB [itB a, itB b, ⟨#[103, 101, 116]⟩, quoB ky, ⟨#[97, 98, 115, 101, 110, 116]⟩] = s := ⟨_, rfl⟩
  obtain ⟨s2, e2⟩ : ∃ s, joinB [itB b, ⟨#[103, 101, 116]⟩, quoB ky, ⟨#[97, 98, 115, 101, 110, 116]⟩] = s := ⟨_, rfl⟩
  obtain ⟨s3, e3⟩ : ∃ s, joinB [⟨#[103, 101, 116]⟩, quoB ky, ⟨#[97, 98, 115, 101, 110, 116]⟩] = s := ⟨_, rfl⟩
  obtain ⟨s4, e4⟩ : ∃ s, joinB [quoB ky, ⟨#[97, 98, 115, 101, 110, 116]⟩] = s := ⟨_, rfl⟩
  rw [e0, e1] at c0
  rw [e1, e2] at c1
  rw [e2, e3] at c2
  rw [e3, e4] at c3
  rw [e4] at b4 u4
  rw [e0]
  obtain ⟨s5, e5⟩ : ∃ s : ByteArray, s = ⟨#[97, 98, 115, 101, 110, 116]⟩ := ⟨_, rfl⟩
  rw [← e5] at b4
  have c5 : CutAt s5 ⟨#[32]⟩ ⟨#[97, 98, 115, 101, 110, 116]⟩ ⟨#[]⟩ false := by rw [e5]; exact c5
  have CC := (show Hid (CutAt s0 ⟨#[32]⟩ ⟨#[114, 101, 116, 117, 114, 110]⟩ s1 _ ∧ CutAt s1 ⟨#[32]⟩ (itB a) s2 _ ∧ CutAt s2 ⟨#[32]⟩ (itB b) s3 _ ∧ CutAt s3 ⟨#[32]⟩ ⟨#[103, 101, 116]⟩ s4 _ ∧ CutAt s5 ⟨#[32]⟩ ⟨#[97, 98, 115, 101, 110, 116]⟩ ⟨#[]⟩ _) from ⟨c0, c1, c2, c3, c5⟩)
  have NN : Hid (IntAt (itB a) a ∧ IntAt (itB b) b) := ⟨intB ha, intB hb⟩
  have BB : Hid (bytB s4 = bl ky ∧ byrB s4 = s5) := b4
  have ZZ : Hid (s4.size ≤ 1000000000) := u4
  have EE : Hid (EVs w) := E
  clear z1 z2 z3 u4 y0 y1 y2 y3 y4 y5 p3 p6 c0 c1 c2 c3 c5 b4 e0 e1 e2 e3 e4 e5 E ha hb hk
  have G0 : Hid (Gu w _ s0 #[.int .i64 0, .int .i64 0, .int .i64 0, .bool false, .string ⟨#[]⟩, .slice none 0 0, .int .i64 0, .int .i64 0, .int .i64 0]) := Gu.start w s0 gm h0
  have HV : Hid (Tab w ∧ KWs w) := ⟨V, kw⟩
  clear V kw h0 gm
  go_enter Tryz.func30, Tryz.ntmps30
  go_wp2_with fail
  refine (hWordR G0.out.rd CC.out.1).mono ?_
  rintro o w1 ⟨rfl, R, K⟩
  have G1 : Hid (Gu w w1 s1 #[.int .i64 0, .int .i64 0, .int .i64 0, .bool false, .string ⟨#[]⟩, .slice none 0 0, .int .i64 0, .int .i64 0, .int .i64 0]) := G0.out.call K R
  clear G0
  clear R K
  go_wp2_with fail
  refine (hKind2 w1 (HV.out.2.kept G1.out.kept (fun z => z))).mono ?_
  rintro o w2 ⟨rfl, hw⟩
  subst hw
  have d0 := cell_blk G1.out.ev 0 (v := .int .i64 0) rfl
  have t0 := soft_blk G1.out.ev 0
  go_wp2_with fail
  clear d0 t0
  have G2 : Hid (Gu w (w2.setCell ⟨w.heap.size + 2, 0, none⟩ (.int .i64 2)) s1 #[.int .i64 2, .int .i64 0, .int .i64 0, .bool false, .string ⟨#[]⟩, .slice none 0 0, .int .i64 0, .int .i64 0, .int .i64 0]) := G1.out.set 0 (.int .i64 2)
  clear G1
  refine (hNumber G2.out.rd CC.out.2.1 NN.out.1).mono ?_
  rintro o w3 ⟨rfl, R, K⟩
  have G3 : Hid (Gu w w3 s2 #[.int .i64 2, .int .i64 0, .int .i64 0, .bool false, .string ⟨#[]⟩, .slice none 0 0, .int .i64 0, .int .i64 0, .int .i64 0]) := G2.out.call K R
  clear G2
  clear R K
  have d1 := cell_blk G3.out.ev 1 (v := .int .i64 0) rfl
  have t1 := soft_blk G3.out.ev 1
  go_wp2_with fail
  clear d1 t1
  have G4 : Hid (Gu w (w3.setCell ⟨w.heap.size + 2, 1, none⟩ (.int .i64 a)) s2 #[.int .i64 2, .int .i64 a, .int .i64 0, .bool false, .string ⟨#[]⟩, .slice none 0 0, .int .i64 0, .int .i64 0, .int .i64 0]) := G3.out.set 1 (.int .i64 a)
  clear G3
  refine (hNumber G4.out.rd CC.out.2.2.1 NN.out.2).mono ?_
  rintro o w4 ⟨rfl, R, K⟩
  have G5 : Hid (Gu w w4 s3 #[.int .i64 2, .int .i64 a, .int .i64 0, .bool false, .string ⟨#[]⟩, .slice none 0 0, .int .i64 0, .int .i64 0, .int .i64 0]) := G4.out.call K R
  clear G4
  clear R K
  have d2 := cell_blk G5.out.ev 2 (v := .int .i64 0) rfl
  have t2 := soft_blk G5.out.ev 2
  go_wp2_with fail
  clear d2 t2
  have G6 : Hid (Gu w (w4.setCell ⟨w.heap.size + 2, 2, none⟩ (.int .i64 b)) s3 #[.int .i64 2, .int .i64 a, .int .i64 b, .bool false, .string ⟨#[]⟩, .slice none 0 0, .int .i64 0, .int .i64 0, .int .i64 0]) := G5.out.set 2 (.int .i64 b)
  clear G5
  refine (hWordR G6.out.rd CC.out.2.2.2.1).mono ?_
  rintro o w5 ⟨rfl, R, K⟩
  have G7 : Hid (Gu w w5 s4 #[.int .i64 2, .int .i64 a, .int .i64 b, .bool false, .string ⟨#[]⟩, .slice none 0 0, .int .i64 0, .int .i64 0, .int .i64 0]) := G6.out.call K R
  clear G6
  clear R K
  have d3 := cell_blk G7.out.ev 3 (v := .bool false) rfl
  have t3 := soft_blk G7.out.ev 3
  go_wp2_with fail
  clear d3 t3
  have G8 : Hid (Gu w (w5.setCell ⟨w.heap.size + 2, 3, none⟩ (.bool false)) s4 #[.int .i64 2, .int .i64 a, .int .i64 b, .bool false, .string ⟨#[]⟩, .slice none 0 0, .int .i64 0, .int .i64 0, .int .i64 0]) := G7.out.set 3 (.bool false)
  clear G7
  refine (hBytesG G8.out.rd ZZ.out (G8.out.evs EE.out)).mono ?_
  rintro o w6 ⟨p6, k6, c6, rfl, O, R, K⟩
  rw [BB.out.1] at O
  rw [BB.out.2] at R
  have G9 : Hid (Gu w w6 s5 #[.int .i64 2, .int .i64 a, .int .i64 b, .bool false, .string ⟨#[]⟩, .slice none 0 0, .int .i64 0, .int .i64 0, .int .i64 0]) := G8.out.call K R
  clear G8
  have cv : (convert 34 9 (.slice p6 k6 c6)).run Tryz.prog w6 = .ok (.string ky) w6 := by
    have q := (reads_own (l := bl ky) O (bl_lt ky)).string
    rw [str_bl] at q
    exact q
  clear O R K
  have d4 := cell_blk G9.out.ev 4 (v := .string ⟨#[]⟩) rfl
  have t4 := soft_blk G9.out.ev 4
  have GN : Hid (Gu w (w6.setCell ⟨w.heap.size + 2, 4, none⟩ (.string ky)) s5 #[.int .i64 2, .int .i64 a, .int .i64 b, .bool false, .string ky, .slice none 0 0, .int .i64 0, .int .i64 0, .int .i64 0]) := G9.out.set 4 (.string ky)
  have e0 := cell_blk GN.out.ev 0 (v := .int .i64 2) rfl
  have e1 := cell_blk GN.out.ev 1 (v := .int .i64 a) rfl
  have e2 := cell_blk GN.out.ev 2 (v := .int .i64 b) rfl
  have e3 := cell_blk GN.out.ev 3 (v := .bool false) rfl
  have e4 := cell_blk GN.out.ev 4 (v := .string ky) rfl
  have e5 := cell_blk GN.out.ev 5 (v := .slice none 0 0) rfl
  have e6 := cell_blk GN.out.ev 6 (v := .int .i64 0) rfl
  have e7 := cell_blk GN.out.ev 7 (v := .int .i64 0) rfl
  have e8 := cell_blk GN.out.ev 8 (v := .int .i64 0) rfl
  go_wp2_with fail
  clear d4 t4
  clear G9 e0 e1 e2 e3 e4 e5 e6 e7 e8
  have G10 : Hid (Gu w (w6.setCell ⟨w.heap.size + 2, 4, none⟩ (.string ky)) s5 #[.int .i64 2, .int .i64 a, .int .i64 b, .bool false, .string ky, .slice none 0 0, .int .i64 0, .int .i64 0, .int .i64 0]) := GN.out
  clear GN
  clear cv
  refine (hWordR G10.out.rd CC.out.2.2.2.2).mono ?_
  rintro o w7 ⟨rfl, R, K⟩
  have G11 : Hid (Gu w w7 ⟨#[]⟩ #[.int .i64 2, .int .i64 a, .int .i64 b, .bool false, .string ky, .slice none 0 0, .int .i64 0, .int .i64 0, .int .i64 0]) := G10.out.call K R
  clear G10
  clear R K
  go_wp2_with fail
  refine (hStatusOf ⟨#[97, 98, 115, 101, 110, 116]⟩ w7).mono ?_
  rintro o w8 ⟨rfl, hw⟩
  subst hw
  rw [show statusB ⟨#[97, 98, 115, 101, 110, 116]⟩ = 76 by kernel_rfl]
  have d6 := cell_blk G11.out.ev 6 (v := .int .i64 0) rfl
  have t6 := soft_blk G11.out.ev 6
  have GN : Hid (Gu w (w8.setCell ⟨w.heap.size + 2, 6, none⟩ (.int .i64 76)) ⟨#[]⟩ #[.int .i64 2, .int .i64 a, .int .i64 b, .bool false, .string ky, .slice none 0 0, .int .i64 76, .int .i64 0, .int .i64 0]) := G11.out.set 6 (.int .i64 76)
  have e0 := cell_blk GN.out.ev 0 (v := .int .i64 2) rfl
  have e1 := cell_blk GN.out.ev 1 (v := .int .i64 a) rfl
  have e2 := cell_blk GN.out.ev 2 (v := .int .i64 b) rfl
  have e3 := cell_blk GN.out.ev 3 (v := .bool false) rfl
  have e4 := cell_blk GN.out.ev 4 (v := .string ky) rfl
  have e5 := cell_blk GN.out.ev 5 (v := .slice none 0 0) rfl
  have e6 := cell_blk GN.out.ev 6 (v := .int .i64 76) rfl
  have e7 := cell_blk GN.out.ev 7 (v := .int .i64 0) rfl
  have e8 := cell_blk GN.out.ev 8 (v := .int .i64 0) rfl
  go_wp2_with fail
  clear d6 t6
  clear G11 e0 e1 e2 e3 e4 e5 e6 e7 e8
  have G12 : Hid (Gu w (w8.setCell ⟨w.heap.size + 2, 6, none⟩ (.int .i64 76)) ⟨#[]⟩ #[.int .i64 2, .int .i64 a, .int .i64 b, .bool false, .string ky, .slice none 0 0, .int .i64 76, .int .i64 0, .int .i64 0]) := GN.out
  clear GN
  have CF : Hid (∀ V, Calls Tryz.prog 55 #[.agg #[.int .i64 2, .int .i64 a, .int .i64 b, .bool false, .string ky, .slice none 0 0, .int .i64 76, .int .i64 0, .int .i64 0]] V fun o w' => o = .returned (.int .i64 0) ∧ Kept (fun _ => False) V w') := fun V => hForm ⟨2, a, b, false, ky, none, 0, 0, 76, 0, 0, []⟩ V
  refine (CF.out _).mono ?_
  rintro o w9 ⟨rfl, K⟩
  have G13 : Hid (Gu w w9 ⟨#[]⟩ #[.int .i64 2, .int .i64 a, .int .i64 b, .bool false, .string ky, .slice none 0 0, .int .i64 76, .int .i64 0, .int .i64 0]) := G12.out.keep K
  clear G12
  clear K CF
  have e0 := cell_blk G13.out.ev 0 (v := .int .i64 2) rfl
  have e1 := cell_blk G13.out.ev 1 (v := .int .i64 a) rfl
  have e2 := cell_blk G13.out.ev 2 (v := .int .i64 b) rfl
  have e3 := cell_blk G13.out.ev 3 (v := .bool false) rfl
  have e4 := cell_blk G13.out.ev 4 (v := .string ky) rfl
  have e5 := cell_blk G13.out.ev 5 (v := .slice none 0 0) rfl
  have e6 := cell_blk G13.out.ev 6 (v := .int .i64 76) rfl
  have e7 := cell_blk G13.out.ev 7 (v := .int .i64 0) rfl
  have e8 := cell_blk G13.out.ev 8 (v := .int .i64 0) rfl
  have r0 := cell_blk G13.out.rs 0 (v := .int .i64 0) rfl
  have q0 := soft_blk G13.out.rs 0
  have r1 := cell_blk G13.out.rs 1 (v := .int .i64 0) rfl
  have q1 := soft_blk G13.out.rs 1
  have r2 := cell_blk G13.out.rs 2 (v := .int .i64 0) rfl
  have q2 := soft_blk G13.out.rs 2
  have r3 := cell_blk G13.out.rs 3 (v := .bool false) rfl
  have q3 := soft_blk G13.out.rs 3
  have r4 := cell_blk G13.out.rs 4 (v := .string ⟨#[]⟩) rfl
  have q4 := soft_blk G13.out.rs 4
  have r5 := cell_blk G13.out.rs 5 (v := .slice none 0 0) rfl
  have q5 := soft_blk G13.out.rs 5
  have r6 := cell_blk G13.out.rs 6 (v := .int .i64 0) rfl
  have q6 := soft_blk G13.out.rs 6
  have r7 := cell_blk G13.out.rs 7 (v := .int .i64 0) rfl
  have q7 := soft_blk G13.out.rs 7
  have r8 := cell_blk G13.out.rs 8 (v := .int .i64 0) rfl
  have q8 := soft_blk G13.out.rs 8
  go_wp2_with fail
  have SA := set_all G13.out.rs (.int .i64 2) (.int .i64 a) (.int .i64 b) (.bool false) (.string ky) (.slice none 0 0) (.int .i64 76) (.int .i64 0) (.int .i64 0)
  have KF := G13.out.kept.trans SA.2 (fun j hj z => by have z : j = w.heap.size := z; omega)
  refine bodyPost_ret (results_cell_row rfl _ _ w.heap.size 39 #[.int .i64 2, .int .i64 a, .int .i64 b, .bool false, .string ky, .slice none 0 0, .int .i64 76, .int .i64 0, .int .i64 0] (0, 0) _ rfl SA.1 Tryz.underlying39 rfl (by kernel_rfl)) rfl ?_
  exact ⟨rfl, KF⟩
end Go.Proofs.YtbangbobfeflcaaGreatDoor
