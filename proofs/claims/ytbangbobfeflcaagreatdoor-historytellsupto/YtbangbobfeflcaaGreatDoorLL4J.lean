import Derived.Test.YtbangbobfeflcaaGreatDoorLL0J
namespace Go.Proofs.YtbangbobfeflcaaGreatDoor
open Go.RowKit 

set_option maxRecDepth 100000 in
set_option maxHeartbeats 4000000 in
theorem hLnPR2 {w : World} {client op st tx ty : Int} {key : ByteArray} {va : Option Addr} {vn vc : Nat} {val : List Nat} (V : Tab w) (kw : KWs w) (hc : KI client) (ho : KI op) (hs : key.size ≤ 64) (ht : (kIsZero tx ty || kIsProper tx ty) = true) (hform : formE ⟨2, client, op, true, key, va, vn, vc, st, tx, ty, val⟩ = 2) : Calls Tryz.prog 32 #[.agg #[.int .i64 2, .int .i64 client, .int .i64 op, .bool true, .string key, .slice va vn vc, .int .i64 st, .int .i64 tx, .int .i64 ty]] w fun o w' => o = .returned (.string (joinB ([kwB 2, itB client, itB op, ⟨#[112, 117, 116]⟩, quoB key] ++ [endB st] ++ [tagB tx ty]))) ∧ Kept (fun _ => False) w w' := by
  have JL : Hid ((Lib.join (([kwB 2, itB client, itB op, ⟨#[112, 117, 116]⟩, quoB key] ++ [endB st] ++ [tagB tx ty]).map (·.data.toList)) [32]).length ≤ 140737488355328) := by
    have z1 := kwB_size 2
    have z2 := itB_size client hc
    have z3 := itB_size op ho
    have z5 := quoB_size key
    have z6 := endB_size st
    obtain ⟨tka, tkb⟩ := val_ok ht
    have z8 := tagB_size tka tkb
    refine Nat.le_trans (join_W (by simp)) ?_
    unfold lenW
    simp only [List.cons_append, List.nil_append, List.map_cons, List.map_nil, List.sum_cons, List.sum_nil, List.length_cons, List.length_nil]
    have z4 : (⟨#[112, 117, 116]⟩ : ByteArray).size = 3 := rfl
    omega
  have S0 : Hid (LnS w _ #[.int .i64 2, .int .i64 client, .int .i64 op, .bool true, .string key, .slice va vn vc, .int .i64 st, .int .i64 tx, .int .i64 ty]) := LnS.start w #[.int .i64 2, .int .i64 client, .int .i64 op, .bool true, .string key, .slice va vn vc, .int .i64 st, .int .i64 tx, .int .i64 ty] V kw
  have S1 : Hid (LnS w (w.alloc (.cells #[.int .i64 2, .int .i64 client, .int .i64 op, .bool true, .string key, .slice va vn vc, .int .i64 st, .int .i64 tx, .int .i64 ty] 39)).drew #[.int .i64 2, .int .i64 client, .int .i64 op, .bool true, .string key, .slice va vn vc, .int .i64 st, .int .i64 tx, .int .i64 ty]) := S0.out.by ((Below.refl _ _).drew)
  obtain ⟨CW, hCW⟩ : ∃ x, itB client = x := ⟨_, rfl⟩
  obtain ⟨OW, hOW⟩ : ∃ x, itB op = x := ⟨_, rfl⟩
  obtain ⟨QW, hQW⟩ : ∃ x, quoB key = x := ⟨_, rfl⟩
  obtain ⟨KW, hKW⟩ : ∃ x, kwB 2 = x := ⟨_, rfl⟩
  have cI : Hid (∀ U, Tab U → Calls Tryz.prog 60 #[.int .i64 client] U fun x w' => x = .returned (.string CW) ∧ Below U.heap.size U w') := fun U h => by rw [← hCW]; exact itoaG client hc U h
  have cF : Hid (∀ U, Tab U → Calls Tryz.prog 61 #[.int .i64 op, .int .i64 10] U fun x w' => x = .returned (.string OW) ∧ Below U.heap.size U w') := fun U h => by rw [← hOW]; exact formatG op ho U h
  have cQ : Hid (∀ U, Calls Tryz.prog 62 #[.string key] U fun x w' => x = .returned (.string QW) ∧ Below U.heap.size U w') := fun U => by rw [← hQW]; exact (hQuoted key U (by omega)).mono fun _ _ h => ⟨h.1, below_kept h.2⟩
  have KA : Hid (∀ U, KWs U → U.cell? ⟨0, 2, none⟩ = some (.string KW)) := fun U h => by rw [← hKW]; exact h.at (by omega) (by omega)
  have CF : Hid (∀ V, Calls Tryz.prog 55 #[.agg #[.int .i64 2, .int .i64 client, .int .i64 op, .bool true, .string key, .slice va vn vc, .int .i64 st, .int .i64 tx, .int .i64 ty]] V fun o w' => o = .returned (.int .i64 2) ∧ Kept (fun _ => False) V w') := fun V => by
    have q := hForm ⟨2, client, op, true, key, va, vn, vc, st, tx, ty, val⟩ V
    rw [hform] at q
    exact q
  obtain ⟨EW, hEW⟩ : ∃ x, endB st = x := ⟨_, rfl⟩
  have CE : Hid (∀ U, Calls Tryz.prog 63 #[.int .i64 st] U fun o w' => o = .returned (.string EW) ∧ w' = U) := fun U => by rw [← hEW]; exact hEndWord st U
  obtain ⟨TW, hTW⟩ : ∃ x, tagB tx ty = x := ⟨_, rfl⟩
  have cT : Hid (∀ U, Tab U → Calls Tryz.prog 64 #[.agg #[.int .i64 tx, .int .i64 ty]] U fun x w' => x = .returned (.string TW) ∧ Below U.heap.size U w') := fun U h => by rw [← hTW]; exact hTagTextG tx ty ht U h
  rw [hKW, hCW, hOW, hQW, hEW, hTW] at JL ⊢
  clear S0 V kw hc ho hs hform hKW hCW hOW hQW hEW hTW ht
  obtain ⟨JB, hJB⟩ : ∃ x, joinB ([KW, CW, OW, ⟨#[112, 117, 116]⟩, QW] ++ [EW] ++ [TW]) = x := ⟨_, rfl⟩
  have HJ : Hid (joinB ([KW, CW, OW, ⟨#[112, 117, 116]⟩, QW] ++ [EW] ++ [TW]) = JB) := hJB
  rw [hJB]
  clear hJB
  have a0 := cell_blk S1.out.ev 0 (v := .int .i64 2) rfl
  have a1 := cell_blk S1.out.ev 1 (v := .int .i64 client) rfl
  have a2 := cell_blk S1.out.ev 2 (v := .int .i64 op) rfl
  have a4 := cell_blk S1.out.ev 4 (v := .string key) rfl
  have ak := KA.out _ S1.out.kw
  go_enter Tryz.func32, Tryz.ntmps32
  go_upto_region 1 with fail
  go_region_held3 (fun w' => w'.cell? ⟨w.heap.size, 0, none⟩ = some (.int .i64 2) ∧ w'.cell? ⟨w.heap.size, 1, none⟩ = some (.int .i64 client) ∧ w'.cell? ⟨w.heap.size, 2, none⟩ = some (.int .i64 op) ∧ w'.cell? ⟨w.heap.size, 4, none⟩ = some (.string key) ∧ w'.cell? ⟨0, 2, none⟩ = some (.string KW)) (go_keep)
    (first
      | (go_at_call 60; refine (cI.out _ S1.out.tab).mono ?_; rintro x w2 ⟨rfl, BB⟩; have S2 : Hid (LnS w w2 #[.int .i64 2, .int .i64 client, .int .i64 op, .bool true, .string key, .slice va vn vc, .int .i64 st, .int .i64 tx, .int .i64 ty]) := S1.out.by BB; clear BB; have b0 := cell_blk S2.out.ev 0 (v := .int .i64 2) rfl; have b1 := cell_blk S2.out.ev 1 (v := .int .i64 client) rfl; have b2 := cell_blk S2.out.ev 2 (v := .int .i64 op) rfl; have b4 := cell_blk S2.out.ev 4 (v := .string key) rfl; have bk := KA.out _ S2.out.kw; skip)
      | (go_at_call 61; refine (cF.out _ S2.out.tab).mono ?_; rintro x w3 ⟨rfl, BB⟩; have S3 : Hid (LnS w w3 #[.int .i64 2, .int .i64 client, .int .i64 op, .bool true, .string key, .slice va vn vc, .int .i64 st, .int .i64 tx, .int .i64 ty]) := S2.out.by BB; clear BB; have c0 := cell_blk S3.out.ev 0 (v := .int .i64 2) rfl; have c1 := cell_blk S3.out.ev 1 (v := .int .i64 client) rfl; have c2 := cell_blk S3.out.ev 2 (v := .int .i64 op) rfl; have c4 := cell_blk S3.out.ev 4 (v := .string key) rfl; have ck := KA.out _ S3.out.kw; skip)
      | (go_at_call 62; refine (cQ.out _).mono ?_; rintro x w4 ⟨rfl, BB⟩; have S4 : Hid (LnS w w4 #[.int .i64 2, .int .i64 client, .int .i64 op, .bool true, .string key, .slice va vn vc, .int .i64 st, .int .i64 tx, .int .i64 ty]) := S3.out.by BB; clear BB; have d0 := cell_blk S4.out.ev 0 (v := .int .i64 2) rfl; have d1 := cell_blk S4.out.ev 1 (v := .int .i64 client) rfl; have d2 := cell_blk S4.out.ev 2 (v := .int .i64 op) rfl; have d4 := cell_blk S4.out.ev 4 (v := .string key) rfl; have dk := KA.out _ S4.out.kw; skip)
      | fail)
  have LT : Hid (w.heap.size < w4.heap.size) := block_lt S4.out.ev
  obtain ⟨W5, hW5⟩ : ∃ W, W = w4.alloc (.cells #[.string KW, .string CW, .string OW, .string ⟨#[103, 101, 116]⟩, .string QW] 9) := ⟨_, rfl⟩
  obtain ⟨g, hg⟩ : ∃ g, g = w4.heap.size := ⟨_, rfl⟩
  have N6 : Hid (LnW w W5 #[.int .i64 2, .int .i64 client, .int .i64 op, .bool true, .string key, .slice va vn vc, .int .i64 st, .int .i64 tx, .int .i64 ty] (some ⟨g, 0, none⟩) 5 5 [KW, CW, OW, ⟨#[103, 101, 116]⟩, QW]) := by
    rw [hW5, hg]
    exact ⟨S4.out.keep ((Kept.refl _ _).alloc _), rfl, .inr ⟨w4.heap.size, 5, #[.string KW, .string CW, .string OW, .string ⟨#[103, 101, 116]⟩, .string QW], rfl, LT.out, alloc_new _ _, Nat.le_refl _, by unfold maxLen; omega, rfl, rfl⟩⟩
  have EW5 : Hid (W5 = w4.alloc (.cells #[.string KW, .string CW, .string OW, .string ⟨#[103, 101, 116]⟩, .string QW] 9) ∧ g = w4.heap.size) := ⟨hW5, hg⟩
  clear hW5 hg
  go_upto_region 2 with fail
  rw [← EW5.out.1, ← EW5.out.2]
  clear EW5 S1 S2 S3 S4 LT a0 a1 a2 a4 ak b0 b1 b2 b4 bk c0 c1 c2 c4 ck d0 d1 d2 d4 dk
  have g0 := cell_blk N6.out.st.ev 0 (v := .int .i64 2) rfl
  have g3 := cell_blk N6.out.st.ev 3 (v := .bool true) rfl
  obtain ⟨M6', q3, q4⟩ := N6.out.put (x := ⟨#[112, 117, 116]⟩)
  have M6 : Hid (LnW w (W5.setCell ⟨g, 3, none⟩ (.string ⟨#[112, 117, 116]⟩)) #[.int .i64 2, .int .i64 client, .int .i64 op, .bool true, .string key, .slice va vn vc, .int .i64 st, .int .i64 tx, .int .i64 ty] (some ⟨g, 0, none⟩) 5 5 [KW, CW, OW, ⟨#[112, 117, 116]⟩, QW]) := M6'
  clear M6'
  go_upto_region 4 with fail
  obtain ⟨W6, hW6⟩ : ∃ W, W = W5.setCell ⟨g, 3, none⟩ (.string ⟨#[112, 117, 116]⟩) := ⟨_, rfl⟩
  rw [← hW6] at M6 ⊢
  clear hW6 q3 q4 N6 g0 g3
  have m0 := cell_blk M6.out.st.ev 0 (v := .int .i64 2) rfl
  have m1 := cell_blk M6.out.st.ev 1 (v := .int .i64 client) rfl
  have m2 := cell_blk M6.out.st.ev 2 (v := .int .i64 op) rfl
  have m3 := cell_blk M6.out.st.ev 3 (v := .bool true) rfl
  have m4 := cell_blk M6.out.st.ev 4 (v := .string key) rfl
  have m5 := cell_blk M6.out.st.ev 5 (v := .slice va vn vc) rfl
  have m6 := cell_blk M6.out.st.ev 6 (v := .int .i64 st) rfl
  have m7 := cell_blk M6.out.st.ev 7 (v := .int .i64 tx) rfl
  have m8 := cell_blk M6.out.st.ev 8 (v := .int .i64 ty) rfl
  go_wp2_with fail
  refine (CE.out _).mono ?_
  rintro o wE ⟨rfl, hw⟩
  subst hw
  have NA1 : Hid (LnW w (wE.alloc (.cells #[.string EW] 9)) #[.int .i64 2, .int .i64 client, .int .i64 op, .bool true, .string key, .slice va vn vc, .int .i64 st, .int .i64 tx, .int .i64 ty] (some ⟨g, 0, none⟩) 5 5 ([KW, CW, OW, ⟨#[112, 117, 116]⟩, QW])) := M6.out.keep ((Kept.refl _ _).alloc _)
  have SR1 : Hid (Src Tryz.prog 1 44 (.slice (some ⟨wE.heap.size, 0, none⟩) 1 1) 1 (strs [EW]) (wE.alloc (.cells #[.string EW] 9))) := src_str (alloc_new _ _)
  go_upto_region 6 with
    (first
      | (at_builtin; refine wpList_append_all _ rfl (.tmp 25) (.tmp 29) 44 9 44 _ 1 16 rfl Tryz.underlying44 Tryz.info9c rfl (w.heap.size + 1) (.slice (some ⟨g, 0, none⟩) 5 5) 5 (strs ([KW, CW, OW, ⟨#[112, 117, 116]⟩, QW])) rfl NA1.out.row _ 1 (strs [EW]) rfl SR1.out (by unfold maxLen; omega) (by omega) (Nat.succ_le_of_lt (block_lt NA1.out.st.ev)) ?_; intro q1 e1 v1 ho hg hn9; have M1 : Hid (LnW w v1 #[.int .i64 2, .int .i64 client, .int .i64 op, .bool true, .string key, .slice va vn vc, .int .i64 st, .int .i64 tx, .int .i64 ty] q1 6 e1 ([KW, CW, OW, ⟨#[112, 117, 116]⟩, QW] ++ [EW])) := NA1.out.add hg.out ho.out; clear ho hg hn9; skip)
      | fail)
  clear NA1 SR1 M6
  clear m0 m1 m2 m3 m4 m5 m6 m7 m8
  have n0 := cell_blk M1.out.st.ev 0 (v := .int .i64 2) rfl
  have n1 := cell_blk M1.out.st.ev 1 (v := .int .i64 client) rfl
  have n2 := cell_blk M1.out.st.ev 2 (v := .int .i64 op) rfl
  have n3 := cell_blk M1.out.st.ev 3 (v := .bool true) rfl
  have n4 := cell_blk M1.out.st.ev 4 (v := .string key) rfl
  have n5 := cell_blk M1.out.st.ev 5 (v := .slice va vn vc) rfl
  have n6 := cell_blk M1.out.st.ev 6 (v := .int .i64 st) rfl
  have n7 := cell_blk M1.out.st.ev 7 (v := .int .i64 tx) rfl
  have n8 := cell_blk M1.out.st.ev 8 (v := .int .i64 ty) rfl
  go_wp2_with fail
  refine (CF.out _).mono ?_
  rintro o w7 ⟨rfl, K7⟩
  have N7 : Hid (LnW w w7 #[.int .i64 2, .int .i64 client, .int .i64 op, .bool true, .string key, .slice va vn vc, .int .i64 st, .int .i64 tx, .int .i64 ty] q1 6 e1 ([KW, CW, OW, ⟨#[112, 117, 116]⟩, QW] ++ [EW])) := M1.out.keep K7
  clear K7 CF M1 n0 n1 n2 n3 n4 n5 n6 n7 n8
  have h7 := cell_blk N7.out.st.ev 7 (v := .int .i64 tx) rfl
  have h8 := cell_blk N7.out.st.ev 8 (v := .int .i64 ty) rfl
  go_wp2_with fail
  refine (cT.out _ N7.out.st.tab).mono ?_
  rintro o w8 ⟨rfl, B8⟩
  have N8 : Hid (LnW w w8 #[.int .i64 2, .int .i64 client, .int .i64 op, .bool true, .string key, .slice va vn vc, .int .i64 st, .int .i64 tx, .int .i64 ty] q1 6 e1 ([KW, CW, OW, ⟨#[112, 117, 116]⟩, QW] ++ [EW])) := N7.out.keep (kept_below B8)
  clear B8 N7 h7 h8
  have NA2 : Hid (LnW w (w8.alloc (.cells #[.string TW] 9)) #[.int .i64 2, .int .i64 client, .int .i64 op, .bool true, .string key, .slice va vn vc, .int .i64 st, .int .i64 tx, .int .i64 ty] q1 6 e1 ([KW, CW, OW, ⟨#[112, 117, 116]⟩, QW] ++ [EW])) := N8.out.keep ((Kept.refl _ _).alloc _)
  have SR2 : Hid (Src Tryz.prog 1 44 (.slice (some ⟨w8.heap.size, 0, none⟩) 1 1) 1 (strs [TW]) (w8.alloc (.cells #[.string TW] 9))) := src_str (alloc_new _ _)
  go_upto_region 15 with
    (first
      | (at_builtin; refine wpList_append_all _ rfl (.tmp 47) (.tmp 51) 44 9 44 _ 1 16 rfl Tryz.underlying44 Tryz.info9c rfl (w.heap.size + 1) (.slice q1 6 e1) 6 (strs ([KW, CW, OW, ⟨#[112, 117, 116]⟩, QW] ++ [EW])) rfl NA2.out.row _ 1 (strs [TW]) rfl SR2.out (by unfold maxLen; omega) (by omega) (Nat.succ_le_of_lt (block_lt NA2.out.st.ev)) ?_; intro q2 e2 v2 ho hg hn9; have M2 : Hid (LnW w v2 #[.int .i64 2, .int .i64 client, .int .i64 op, .bool true, .string key, .slice va vn vc, .int .i64 st, .int .i64 tx, .int .i64 ty] q2 7 e2 ([KW, CW, OW, ⟨#[112, 117, 116]⟩, QW] ++ [EW] ++ [TW])) := NA2.out.add hg.out ho.out; clear ho hg hn9; skip)
      | fail)
  clear NA2 SR2 N8
  have CJ : Hid (Calls Tryz.prog 65 #[.slice q2 7 e2, .string ⟨#[32]⟩] v2 fun o w' => o = .returned (.string JB) ∧ Kept (fun _ => False) v2 w') := M2.out.join rfl (by omega) (by omega) HJ.out JL.out
  go_wp2_with fail
  refine CJ.out.mono ?_
  rintro o wJ ⟨rfl, KJ⟩
  have F : Hid (Kept (fun _ => False) w wJ) := M2.out.st.kept.trans KJ (fun _ _ z => z)
  clear CJ KJ M2
  go_wp2_with fail
  go_ret
  exact ⟨by first | rfl | simp, F.out⟩
end Go.Proofs.YtbangbobfeflcaaGreatDoor

namespace Go.Proofs.YtbangbobfeflcaaGreatDoor
open Go.RowKit 

set_option maxRecDepth 100000 in
set_option maxHeartbeats 4000000 in
theorem hLnPR0 {w : World} {client op st tx ty : Int} {key : ByteArray} {va : Option Addr} {vn vc : Nat} {val : List Nat} (V : Tab w) (kw : KWs w) (hc : KI client) (ho : KI op) (hs : key.size ≤ 64) (hform : formE ⟨2, client, op, true, key, va, vn, vc, st, tx, ty, val⟩ = 0) : Calls Tryz.prog 32 #[.agg #[.int .i64 2, .int .i64 client, .int .i64 op, .bool true, .string key, .slice va vn vc, .int .i64 st, .int .i64 tx, .int .i64 ty]] w fun o w' => o = .returned (.string (joinB ([kwB 2, itB client, itB op, ⟨#[112, 117, 116]⟩, quoB key] ++ [endB st]))) ∧ Kept (fun _ => False) w w' := by
  have JL : Hid ((Lib.join (([kwB 2, itB client, itB op, ⟨#[112, 117, 116]⟩, quoB key] ++ [endB st]).map (·.data.toList)) [32]).length ≤ 140737488355328) := by
    have z1 := kwB_size 2
    have z2 := itB_size client hc
    have z3 := itB_size op ho
    have z5 := quoB_size key
    have z6 := endB_size st
    refine Nat.le_trans (join_W (by simp)) ?_
    unfold lenW
    simp only [List.cons_append, List.nil_append, List.map_cons, List.map_nil, List.sum_cons, List.sum_nil, List.length_cons, List.length_nil]
    have z4 : (⟨#[112, 117, 116]⟩ : ByteArray).size = 3 := rfl
    omega
  have S0 : Hid (LnS w _ #[.int .i64 2, .int .i64 client, .int .i64 op, .bool true, .string key, .slice va vn vc, .int .i64 st, .int .i64 tx, .int .i64 ty]) := LnS.start w #[.int .i64 2, .int .i64 client, .int .i64 op, .bool true, .string key, .slice va vn vc, .int .i64 st, .int .i64 tx, .int .i64 ty] V kw
  have S1 : Hid (LnS w (w.alloc (.cells #[.int .i64 2, .int .i64 client, .int .i64 op, .bool true, .string key, .slice va vn vc, .int .i64 st, .int .i64 tx, .int .i64 ty] 39)).drew #[.int .i64 2, .int .i64 client, .int .i64 op, .bool true, .string key, .slice va vn vc, .int .i64 st, .int .i64 tx, .int .i64 ty]) := S0.out.by ((Below.refl _ _).drew)
  obtain ⟨CW, hCW⟩ : ∃ x, itB client = x := ⟨_, rfl⟩
  obtain ⟨OW, hOW⟩ : ∃ x, itB op = x := ⟨_, rfl⟩
  obtain ⟨QW, hQW⟩ : ∃ x, quoB key = x := ⟨_, rfl⟩
  obtain ⟨KW, hKW⟩ : ∃ x, kwB 2 = x := ⟨_, rfl⟩
  have cI : Hid (∀ U, Tab U → Calls Tryz.prog 60 #[.int .i64 client] U fun x w' => x = .returned (.string CW) ∧ Below U.heap.size U w') := fun U h => by rw [← hCW]; exact itoaG client hc U h
  have cF : Hid (∀ U, Tab U → Calls Tryz.prog 61 #[.int .i64 op, .int .i64 10] U fun x w' => x = .returned (.string OW) ∧ Below U.heap.size U w') := fun U h => by rw [← hOW]; exact formatG op ho U h
  have cQ : Hid (∀ U, Calls Tryz.prog 62 #[.string key] U fun x w' => x = .returned (.string QW) ∧ Below U.heap.size U w') := fun U => by rw [← hQW]; exact (hQuoted key U (by omega)).mono fun _ _ h => ⟨h.1, below_kept h.2⟩
  have KA : Hid (∀ U, KWs U → U.cell? ⟨0, 2, none⟩ = some (.string KW)) := fun U h => by rw [← hKW]; exact h.at (by omega) (by omega)
  have CF : Hid (∀ V, Calls Tryz.prog 55 #[.agg #[.int .i64 2, .int .i64 client, .int .i64 op, .bool true, .string key, .slice va vn vc, .int .i64 st, .int .i64 tx, .int .i64 ty]] V fun o w' => o = .returned (.int .i64 0) ∧ Kept (fun _ => False) V w') := fun V => by
    have q := hForm ⟨2, client, op, true, key, va, vn, vc, st, tx, ty, val⟩ V
    rw [hform] at q
    exact q
  obtain ⟨EW, hEW⟩ : ∃ x, endB st = x := ⟨_, rfl⟩
  have CE : Hid (∀ U, Calls Tryz.prog 63 #[.int .i64 st] U fun o w' => o = .returned (.string EW) ∧ w' = U) := fun U => by rw [← hEW]; exact hEndWord st U
  rw [hKW, hCW, hOW, hQW, hEW] at JL ⊢
  clear S0 V kw hc ho hs hform hKW hCW hOW hQW hEW
  obtain ⟨JB, hJB⟩ : ∃ x, joinB ([KW, CW, OW, ⟨#[112, 117, 116]⟩, QW] ++ [EW]) = x := ⟨_, rfl⟩
  have HJ : Hid (joinB ([KW, CW, OW, ⟨#[112, 117, 116]⟩, QW] ++ [EW]) = JB) := hJB
  rw [hJB]
  clear hJB
  have a0 := cell_blk S1.out.ev 0 (v := .int .i64 2) rfl
  have a1 := cell_blk S1.out.ev 1 (v := .int .i64 client) rfl
  have a2 := cell_blk S1.out.ev 2 (v := .int .i64 op) rfl
  have a4 := cell_blk S1.out.ev 4 (v := .string key) rfl
  have ak := KA.out _ S1.out.kw
  go_enter Tryz.func32, Tryz.ntmps32
  go_upto_region 1 with fail
  go_region_held3 (fun w' => w'.cell? ⟨w.heap.size, 0, none⟩ = some (.int .i64 2) ∧ w'.cell? ⟨w.heap.size, 1, none⟩ = some (.int .i64 client) ∧ w'.cell? ⟨w.heap.size, 2, none⟩ = some (.int .i64 op) ∧ w'.cell? ⟨w.heap.size, 4, none⟩ = some (.string key) ∧ w'.cell? ⟨0, 2, none⟩ = some (.string KW)) (go_keep)
    (first
      | (go_at_call 60; refine (cI.out _ S1.out.tab).mono ?_; rintro x w2 ⟨rfl, BB⟩; have S2 : Hid (LnS w w2 #[.int .i64 2, .int .i64 client, .int .i64 op, .bool true, .string key, .slice va vn vc, .int .i64 st, .int .i64 tx, .int .i64 ty]) := S1.out.by BB; clear BB; have b0 := cell_blk S2.out.ev 0 (v := .int .i64 2) rfl; have b1 := cell_blk S2.out.ev 1 (v := .int .i64 client) rfl; have b2 := cell_blk S2.out.ev 2 (v := .int .i64 op) rfl; have b4 := cell_blk S2.out.ev 4 (v := .string key) rfl; have bk := KA.out _ S2.out.kw; skip)
      | (go_at_call 61; refine (cF.out _ S2.out.tab).mono ?_; rintro x w3 ⟨rfl, BB⟩; have S3 : Hid (LnS w w3 #[.int .i64 2, .int .i64 client, .int .i64 op, .bool true, .string key, .slice va vn vc, .int .i64 st, .int .i64 tx, .int .i64 ty]) := S2.out.by BB; clear BB; have c0 := cell_blk S3.out.ev 0 (v := .int .i64 2) rfl; have c1 := cell_blk S3.out.ev 1 (v := .int .i64 client) rfl; have c2 := cell_blk S3.out.ev 2 (v := .int .i64 op) rfl; have c4 := cell_blk S3.out.ev 4 (v := .string key) rfl; have ck := KA.out _ S3.out.kw; skip)
      | (go_at_call 62; refine (cQ.out _).mono ?_; rintro x w4 ⟨rfl, BB⟩; have S4 : Hid (LnS w w4 #[.int .i64 2, .int .i64 client, .int .i64 op, .bool true, .string key, .slice va vn vc, .int .i64 st, .int .i64 tx, .int .i64 ty]) := S3.out.by BB; clear BB; have d0 := cell_blk S4.out.ev 0 (v := .int .i64 2) rfl; have d1 := cell_blk S4.out.ev 1 (v := .int .i64 client) rfl; have d2 := cell_blk S4.out.ev 2 (v := .int .i64 op) rfl; have d4 := cell_blk S4.out.ev 4 (v := .string key) rfl; have dk := KA.out _ S4.out.kw; skip)
      | fail)
  have LT : Hid (w.heap.size < w4.heap.size) := block_lt S4.out.ev
  obtain ⟨W5, hW5⟩ : ∃ W, W = w4.alloc (.cells #[.string KW, .string CW, .string OW, .string ⟨#[103, 101, 116]⟩, .string QW] 9) := ⟨_, rfl⟩
  obtain ⟨g, hg⟩ : ∃ g, g = w4.heap.size := ⟨_, rfl⟩
  have N6 : Hid (LnW w W5 #[.int .i64 2, .int .i64 client, .int .i64 op, .bool true, .string key, .slice va vn vc, .int .i64 st, .int .i64 tx, .int .i64 ty] (some ⟨g, 0, none⟩) 5 5 [KW, CW, OW, ⟨#[103, 101, 116]⟩, QW]) := by
    rw [hW5, hg]
    exact ⟨S4.out.keep ((Kept.refl _ _).alloc _), rfl, .inr ⟨w4.heap.size, 5, #[.string KW, .string CW, .string OW, .string ⟨#[103, 101, 116]⟩, .string QW], rfl, LT.out, alloc_new _ _, Nat.le_refl _, by unfold maxLen; omega, rfl, rfl⟩⟩
  have EW5 : Hid (W5 = w4.alloc (.cells #[.string KW, .string CW, .string OW, .string ⟨#[103, 101, 116]⟩, .string QW] 9) ∧ g = w4.heap.size) := ⟨hW5, hg⟩
  clear hW5 hg
  go_upto_region 2 with fail
  rw [← EW5.out.1, ← EW5.out.2]
  clear EW5 S1 S2 S3 S4 LT a0 a1 a2 a4 ak b0 b1 b2 b4 bk c0 c1 c2 c4 ck d0 d1 d2 d4 dk
  have g0 := cell_blk N6.out.st.ev 0 (v := .int .i64 2) rfl
  have g3 := cell_blk N6.out.st.ev 3 (v := .bool true) rfl
  obtain ⟨M6', q3, q4⟩ := N6.out.put (x := ⟨#[112, 117, 116]⟩)
  have M6 : Hid (LnW w (W5.setCell ⟨g, 3, none⟩ (.string ⟨#[112, 117, 116]⟩)) #[.int .i64 2, .int .i64 client, .int .i64 op, .bool true, .string key, .slice va vn vc, .int .i64 st, .int .i64 tx, .int .i64 ty] (some ⟨g, 0, none⟩) 5 5 [KW, CW, OW, ⟨#[112, 117, 116]⟩, QW]) := M6'
  clear M6'
  go_upto_region 4 with fail
  obtain ⟨W6, hW6⟩ : ∃ W, W = W5.setCell ⟨g, 3, none⟩ (.string ⟨#[112, 117, 116]⟩) := ⟨_, rfl⟩
  rw [← hW6] at M6 ⊢
  clear hW6 q3 q4 N6 g0 g3
  have m0 := cell_blk M6.out.st.ev 0 (v := .int .i64 2) rfl
  have m1 := cell_blk M6.out.st.ev 1 (v := .int .i64 client) rfl
  have m2 := cell_blk M6.out.st.ev 2 (v := .int .i64 op) rfl
  have m3 := cell_blk M6.out.st.ev 3 (v := .bool true) rfl
  have m4 := cell_blk M6.out.st.ev 4 (v := .string key) rfl
  have m5 := cell_blk M6.out.st.ev 5 (v := .slice va vn vc) rfl
  have m6 := cell_blk M6.out.st.ev 6 (v := .int .i64 st) rfl
  have m7 := cell_blk M6.out.st.ev 7 (v := .int .i64 tx) rfl
  have m8 := cell_blk M6.out.st.ev 8 (v := .int .i64 ty) rfl
  go_wp2_with fail
  refine (CE.out _).mono ?_
  rintro o wE ⟨rfl, hw⟩
  subst hw
  have NA1 : Hid (LnW w (wE.alloc (.cells #[.string EW] 9)) #[.int .i64 2, .int .i64 client, .int .i64 op, .bool true, .string key, .slice va vn vc, .int .i64 st, .int .i64 tx, .int .i64 ty] (some ⟨g, 0, none⟩) 5 5 ([KW, CW, OW, ⟨#[112, 117, 116]⟩, QW])) := M6.out.keep ((Kept.refl _ _).alloc _)
  have SR1 : Hid (Src Tryz.prog 1 44 (.slice (some ⟨wE.heap.size, 0, none⟩) 1 1) 1 (strs [EW]) (wE.alloc (.cells #[.string EW] 9))) := src_str (alloc_new _ _)
  go_upto_region 6 with
    (first
      | (at_builtin; refine wpList_append_all _ rfl (.tmp 25) (.tmp 29) 44 9 44 _ 1 16 rfl Tryz.underlying44 Tryz.info9c rfl (w.heap.size + 1) (.slice (some ⟨g, 0, none⟩) 5 5) 5 (strs ([KW, CW, OW, ⟨#[112, 117, 116]⟩, QW])) rfl NA1.out.row _ 1 (strs [EW]) rfl SR1.out (by unfold maxLen; omega) (by omega) (Nat.succ_le_of_lt (block_lt NA1.out.st.ev)) ?_; intro q1 e1 v1 ho hg hn9; have M1 : Hid (LnW w v1 #[.int .i64 2, .int .i64 client, .int .i64 op, .bool true, .string key, .slice va vn vc, .int .i64 st, .int .i64 tx, .int .i64 ty] q1 6 e1 ([KW, CW, OW, ⟨#[112, 117, 116]⟩, QW] ++ [EW])) := NA1.out.add hg.out ho.out; clear ho hg hn9; skip)
      | fail)
  clear NA1 SR1 M6
  clear m0 m1 m2 m3 m4 m5 m6 m7 m8
  have n0 := cell_blk M1.out.st.ev 0 (v := .int .i64 2) rfl
  have n1 := cell_blk M1.out.st.ev 1 (v := .int .i64 client) rfl
  have n2 := cell_blk M1.out.st.ev 2 (v := .int .i64 op) rfl
  have n3 := cell_blk M1.out.st.ev 3 (v := .bool true) rfl
  have n4 := cell_blk M1.out.st.ev 4 (v := .string key) rfl
  have n5 := cell_blk M1.out.st.ev 5 (v := .slice va vn vc) rfl
  have n6 := cell_blk M1.out.st.ev 6 (v := .int .i64 st) rfl
  have n7 := cell_blk M1.out.st.ev 7 (v := .int .i64 tx) rfl
  have n8 := cell_blk M1.out.st.ev 8 (v := .int .i64 ty) rfl
  go_wp2_with fail
  refine (CF.out _).mono ?_
  rintro o w7 ⟨rfl, K7⟩
  have N7 : Hid (LnW w w7 #[.int .i64 2, .int .i64 client, .int .i64 op, .bool true, .string key, .slice va vn vc, .int .i64 st, .int .i64 tx, .int .i64 ty] q1 6 e1 ([KW, CW, OW, ⟨#[112, 117, 116]⟩, QW] ++ [EW])) := M1.out.keep K7
  clear K7 CF M1 n0 n1 n2 n3 n4 n5 n6 n7 n8
  have CJ : Hid (Calls Tryz.prog 65 #[.slice q1 6 e1, .string ⟨#[32]⟩] w7 fun o w' => o = .returned (.string JB) ∧ Kept (fun _ => False) w7 w') := N7.out.join rfl (by omega) (by omega) HJ.out JL.out
  go_wp2_with fail
  refine CJ.out.mono ?_
  rintro o wJ ⟨rfl, KJ⟩
  have F : Hid (Kept (fun _ => False) w wJ) := N7.out.st.kept.trans KJ (fun _ _ z => z)
  clear CJ KJ N7
  go_wp2_with fail
  go_ret
  exact ⟨by first | rfl | simp, F.out⟩
end Go.Proofs.YtbangbobfeflcaaGreatDoor
