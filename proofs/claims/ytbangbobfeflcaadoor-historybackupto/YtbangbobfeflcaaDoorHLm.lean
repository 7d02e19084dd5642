import Derived.Test.YtbangbobfeflcaaDoorHLn
namespace Go.Proofs.YtbangbobfeflcaaDoor
open Go.RowKit 

set_option maxRecDepth 100000 in
set_option maxHeartbeats 1000000 in
theorem hLine2 (w : World) (V : Tab w) (kw : KWs w) : Calls Tryd.prog 16 #[.agg #[.int .i64 1, .int .i64 2, .int .i64 1, .bool false, .string ⟨#[107]⟩, .slice none 0 0, .int .i64 0, .int .i64 0, .int .i64 0]] w fun o w' => o = .returned (.string ⟨#[105, 110, 118, 111, 107, 101, 32, 50, 32, 49, 32, 103, 101, 116, 32, 34, 107, 34]⟩) ∧ Kept (fun _ => False) w w' := by
  have S0 : Hid (LnS w _ #[.int .i64 1, .int .i64 2, .int .i64 1, .bool false, .string ⟨#[107]⟩, .slice none 0 0, .int .i64 0, .int .i64 0, .int .i64 0]) := LnS.start w #[.int .i64 1, .int .i64 2, .int .i64 1, .bool false, .string ⟨#[107]⟩, .slice none 0 0, .int .i64 0, .int .i64 0, .int .i64 0] V kw
  have S1 : Hid (LnS w (w.alloc (.cells #[.int .i64 1, .int .i64 2, .int .i64 1, .bool false, .string ⟨#[107]⟩, .slice none 0 0, .int .i64 0, .int .i64 0, .int .i64 0] 45)).drew #[.int .i64 1, .int .i64 2, .int .i64 1, .bool false, .string ⟨#[107]⟩, .slice none 0 0, .int .i64 0, .int .i64 0, .int .i64 0]) := S0.out.by ((Below.refl _ _).drew)
  have cI : Hid (∀ U, Tab U → Calls Tryd.prog 30 #[.int .i64 2] U fun x w' => x = .returned (.string ⟨#[50]⟩) ∧ Below U.heap.size U w') := fun U h => itoaAt (by omega) (by omega) (by kernel_rfl) U h
  have cF : Hid (∀ U, Tab U → Calls Tryd.prog 31 #[.int .i64 1, .int .i64 10] U fun x w' => x = .returned (.string ⟨#[49]⟩) ∧ Below U.heap.size U w') := fun U h => formatAt (by omega) (by omega) (by kernel_rfl) U h
  have cQ : Hid (∀ U, Calls Tryd.prog 32 #[.string ⟨#[107]⟩] U fun x w' => x = .returned (.string ⟨#[34, 107, 34]⟩) ∧ Below U.heap.size U w') := fun U => quotedAtK U
  clear S0 V kw
  have a0 := cell_blk S1.out.ev 0 (v := .int .i64 1) rfl
  have a1 := cell_blk S1.out.ev 1 (v := .int .i64 2) rfl
  have a2 := cell_blk S1.out.ev 2 (v := .int .i64 1) rfl
  have a4 := cell_blk S1.out.ev 4 (v := .string ⟨#[107]⟩) rfl
  have ak := S1.out.kw.c1
  go_enter Tryd.func16, Tryd.ntmps16
  go_upto_region 1 with fail
  go_region_held3 (fun w' => w'.cell? ⟨w.heap.size, 0, none⟩ = some (.int .i64 1) ∧ w'.cell? ⟨w.heap.size, 1, none⟩ = some (.int .i64 2) ∧ w'.cell? ⟨w.heap.size, 2, none⟩ = some (.int .i64 1) ∧ w'.cell? ⟨w.heap.size, 4, none⟩ = some (.string ⟨#[107]⟩) ∧ w'.cell? ⟨0, 1, none⟩ = some (.string ⟨#[105, 110, 118, 111, 107, 101]⟩)) (go_keep)
    (first
      | (go_at_call 30; refine (cI.out _ S1.out.tab).mono ?_; rintro x w2 ⟨rfl, BB⟩; have S2 : Hid (LnS w w2 #[.int .i64 1, .int .i64 2, .int .i64 1, .bool false, .string ⟨#[107]⟩, .slice none 0 0, .int .i64 0, .int .i64 0, .int .i64 0]) := S1.out.by BB; clear BB; have b0 := cell_blk S2.out.ev 0 (v := .int .i64 1) rfl; have b1 := cell_blk S2.out.ev 1 (v := .int .i64 2) rfl; have b2 := cell_blk S2.out.ev 2 (v := .int .i64 1) rfl; have b4 := cell_blk S2.out.ev 4 (v := .string ⟨#[107]⟩) rfl; have bk := S2.out.kw.c1;  skip)
      | (go_at_call 31; refine (cF.out _ S2.out.tab).mono ?_; rintro x w3 ⟨rfl, BB⟩; have S3 : Hid (LnS w w3 #[.int .i64 1, .int .i64 2, .int .i64 1, .bool false, .string ⟨#[107]⟩, .slice none 0 0, .int .i64 0, .int .i64 0, .int .i64 0]) := S2.out.by BB; clear BB; have c0 := cell_blk S3.out.ev 0 (v := .int .i64 1) rfl; have c1 := cell_blk S3.out.ev 1 (v := .int .i64 2) rfl; have c2 := cell_blk S3.out.ev 2 (v := .int .i64 1) rfl; have c4 := cell_blk S3.out.ev 4 (v := .string ⟨#[107]⟩) rfl; have ck := S3.out.kw.c1;  skip)
      | (go_at_call 32; refine (cQ.out _).mono ?_; rintro x w4 ⟨rfl, BB⟩; have S4 : Hid (LnS w w4 #[.int .i64 1, .int .i64 2, .int .i64 1, .bool false, .string ⟨#[107]⟩, .slice none 0 0, .int .i64 0, .int .i64 0, .int .i64 0]) := S3.out.by BB; clear BB; have d0 := cell_blk S4.out.ev 0 (v := .int .i64 1) rfl; have d1 := cell_blk S4.out.ev 1 (v := .int .i64 2) rfl; have d2 := cell_blk S4.out.ev 2 (v := .int .i64 1) rfl; have d4 := cell_blk S4.out.ev 4 (v := .string ⟨#[107]⟩) rfl; have dk := S4.out.kw.c1;  skip)
      | fail)
  have LT : Hid (w.heap.size < w4.heap.size) := block_lt S4.out.ev
  have S6 : Hid (LnS w (w4.alloc (.cells #[.string ⟨#[105, 110, 118, 111, 107, 101]⟩, .string ⟨#[50]⟩, .string ⟨#[49]⟩, .string ⟨#[103, 101, 116]⟩, .string ⟨#[34, 107, 34]⟩] 9)) #[.int .i64 1, .int .i64 2, .int .i64 1, .bool false, .string ⟨#[107]⟩, .slice none 0 0, .int .i64 0, .int .i64 0, .int .i64 0]) := S4.out.keep ((Kept.refl _ _).alloc _)
  have N6 : Hid (LnW w (w4.alloc (.cells #[.string ⟨#[105, 110, 118, 111, 107, 101]⟩, .string ⟨#[50]⟩, .string ⟨#[49]⟩, .string ⟨#[103, 101, 116]⟩, .string ⟨#[34, 107, 34]⟩] 9)) #[.int .i64 1, .int .i64 2, .int .i64 1, .bool false, .string ⟨#[107]⟩, .slice none 0 0, .int .i64 0, .int .i64 0, .int .i64 0] (some ⟨w4.heap.size, 0, none⟩) 5 5 [⟨#[105, 110, 118, 111, 107, 101]⟩, ⟨#[50]⟩, ⟨#[49]⟩, ⟨#[103, 101, 116]⟩, ⟨#[34, 107, 34]⟩]) := ⟨S6.out, rfl, .inr ⟨w4.heap.size, 5, #[.string ⟨#[105, 110, 118, 111, 107, 101]⟩, .string ⟨#[50]⟩, .string ⟨#[49]⟩, .string ⟨#[103, 101, 116]⟩, .string ⟨#[34, 107, 34]⟩], rfl, LT.out, alloc_new _ _, Nat.le_refl _, by unfold maxLen; omega, rfl, rfl⟩⟩
  have g0 := cell_blk N6.out.st.ev 0 (v := .int .i64 1) rfl
  have g1 := cell_blk N6.out.st.ev 1 (v := .int .i64 2) rfl
  have g2 := cell_blk N6.out.st.ev 2 (v := .int .i64 1) rfl
  have g3 := cell_blk N6.out.st.ev 3 (v := .bool false) rfl
  have g4 := cell_blk N6.out.st.ev 4 (v := .string ⟨#[107]⟩) rfl
  have g5 := cell_blk N6.out.st.ev 5 (v := .slice none 0 0) rfl
  have g6 := cell_blk N6.out.st.ev 6 (v := .int .i64 0) rfl
  have g7 := cell_blk N6.out.st.ev 7 (v := .int .i64 0) rfl
  have g8 := cell_blk N6.out.st.ev 8 (v := .int .i64 0) rfl
  go_wp2_with fail
  have CF : Hid (∀ V, Calls Tryd.prog 34 #[.agg #[.int .i64 1, .int .i64 2, .int .i64 1, .bool false, .string ⟨#[107]⟩, .slice none 0 0, .int .i64 0, .int .i64 0, .int .i64 0]] V fun o w' => o = .returned (.int .i64 0) ∧ Kept (fun _ => False) V w') := fun V => hForm ⟨1, 2, 1, false, ⟨#[107]⟩, none, 0, 0, 0, 0, 0, []⟩ V
  refine (CF.out _).mono ?_
  rintro o w7 ⟨rfl, K7⟩
  have N7 : Hid (LnW w w7 #[.int .i64 1, .int .i64 2, .int .i64 1, .bool false, .string ⟨#[107]⟩, .slice none 0 0, .int .i64 0, .int .i64 0, .int .i64 0] (some ⟨w4.heap.size, 0, none⟩) 5 5 [⟨#[105, 110, 118, 111, 107, 101]⟩, ⟨#[50]⟩, ⟨#[49]⟩, ⟨#[103, 101, 116]⟩, ⟨#[34, 107, 34]⟩]) := N6.out.keep K7
  go_wp2_with fail
  have CJ : Hid (Calls Tryd.prog 36 #[.slice (some ⟨w4.heap.size, 0, none⟩) 5 5, .string ⟨#[32]⟩] w7 fun o w' => o = .returned (.string ⟨#[105, 110, 118, 111, 107, 101, 32, 50, 32, 49, 32, 103, 101, 116, 32, 34, 107, 34]⟩) ∧ Kept (fun _ => False) w7 w') := N7.out.join rfl (by omega) (by omega) (by kernel_rfl) (by decide)
  refine CJ.out.mono ?_
  rintro o wJ ⟨rfl, KJ⟩
  have F : Hid (Kept (fun _ => False) w wJ) := N7.out.st.kept.trans KJ (fun _ _ z => z)
  go_wp2_with fail
  go_ret
  exact ⟨by first | rfl | simp, F.out⟩
set_option maxRecDepth 100000 in
set_option maxHeartbeats 1000000 in
theorem hLine3 (w : World) (V : Tab w) (kw : KWs w) : Calls Tryd.prog 16 #[.agg #[.int .i64 3, .int .i64 1, .int .i64 1, .bool true, .string ⟨#[107]⟩, .slice none 0 0, .int .i64 0, .int .i64 1, .int .i64 1]] w fun o w' => o = .returned (.string ⟨#[99, 97, 110, 99, 101, 108, 32, 49, 32, 49, 32, 112, 117, 116, 32, 34, 107, 34, 32, 49, 46, 49]⟩) ∧ Kept (fun _ => False) w w' := by
  have S0 : Hid (LnS w _ #[.int .i64 3, .int .i64 1, .int .i64 1, .bool true, .string ⟨#[107]⟩, .slice none 0 0, .int .i64 0, .int .i64 1, .int .i64 1]) := LnS.start w #[.int .i64 3, .int .i64 1, .int .i64 1, .bool true, .string ⟨#[107]⟩, .slice none 0 0, .int .i64 0, .int .i64 1, .int .i64 1] V kw
  have S1 : Hid (LnS w (w.alloc (.cells #[.int .i64 3, .int .i64 1, .int .i64 1, .bool true, .string ⟨#[107]⟩, .slice none 0 0, .int .i64 0, .int .i64 1, .int .i64 1] 45)).drew #[.int .i64 3, .int .i64 1, .int .i64 1, .bool true, .string ⟨#[107]⟩, .slice none 0 0, .int .i64 0, .int .i64 1, .int .i64 1]) := S0.out.by ((Below.refl _ _).drew)
  have cI : Hid (∀ U, Tab U → Calls Tryd.prog 30 #[.int .i64 1] U fun x w' => x = .returned (.string ⟨#[49]⟩) ∧ Below U.heap.size U w') := fun U h => itoaAt (by omega) (by omega) (by kernel_rfl) U h
  have cF : Hid (∀ U, Tab U → Calls Tryd.prog 31 #[.int .i64 1, .int .i64 10] U fun x w' => x = .returned (.string ⟨#[49]⟩) ∧ Below U.heap.size U w') := fun U h => formatAt (by omega) (by omega) (by kernel_rfl) U h
  have cQ : Hid (∀ U, Calls Tryd.prog 32 #[.string ⟨#[107]⟩] U fun x w' => x = .returned (.string ⟨#[34, 107, 34]⟩) ∧ Below U.heap.size U w') := fun U => quotedAtK U
  clear S0 V kw
  have a0 := cell_blk S1.out.ev 0 (v := .int .i64 3) rfl
  have a1 := cell_blk S1.out.ev 1 (v := .int .i64 1) rfl
  have a2 := cell_blk S1.out.ev 2 (v := .int .i64 1) rfl
  have a4 := cell_blk S1.out.ev 4 (v := .string ⟨#[107]⟩) rfl
  have ak := S1.out.kw.c3
  go_enter Tryd.func16, Tryd.ntmps16
  go_upto_region 1 with fail
  go_region_held3 (fun w' => w'.cell? ⟨w.heap.size, 0, none⟩ = some (.int .i64 3) ∧ w'.cell? ⟨w.heap.size, 1, none⟩ = some (.int .i64 1) ∧ w'.cell? ⟨w.heap.size, 2, none⟩ = some (.int .i64 1) ∧ w'.cell? ⟨w.heap.size, 4, none⟩ = some (.string ⟨#[107]⟩) ∧ w'.cell? ⟨0, 3, none⟩ = some (.string ⟨#[99, 97, 110, 99, 101, 108]⟩)) (go_keep)
    (first
      | (go_at_call 30; refine (cI.out _ S1.out.tab).mono ?_; rintro x w2 ⟨rfl, BB⟩; have S2 : Hid (LnS w w2 #[.int .i64 3, .int .i64 1, .int .i64 1, .bool true, .string ⟨#[107]⟩, .slice none 0 0, .int .i64 0, .int .i64 1, .int .i64 1]) := S1.out.by BB; clear BB; have b0 := cell_blk S2.out.ev 0 (v := .int .i64 3) rfl; have b1 := cell_blk S2.out.ev 1 (v := .int .i64 1) rfl; have b2 := cell_blk S2.out.ev 2 (v := .int .i64 1) rfl; have b4 := cell_blk S2.out.ev 4 (v := .string ⟨#[107]⟩) rfl; have bk := S2.out.kw.c3;  skip)
      | (go_at_call 31; refine (cF.out _ S2.out.tab).mono ?_; rintro x w3 ⟨rfl, BB⟩; have S3 : Hid (LnS w w3 #[.int .i64 3, .int .i64 1, .int .i64 1, .bool true, .string ⟨#[107]⟩, .slice none 0 0, .int .i64 0, .int .i64 1, .int .i64 1]) := S2.out.by BB; clear BB; have c0 := cell_blk S3.out.ev 0 (v := .int .i64 3) rfl; have c1 := cell_blk S3.out.ev 1 (v := .int .i64 1) rfl; have c2 := cell_blk S3.out.ev 2 (v := .int .i64 1) rfl; have c4 := cell_blk S3.out.ev 4 (v := .string ⟨#[107]⟩) rfl; have ck := S3.out.kw.c3;  skip)
      | (go_at_call 32; refine (cQ.out _).mono ?_; rintro x w4 ⟨rfl, BB⟩; have S4 : Hid (LnS w w4 #[.int .i64 3, .int .i64 1, .int .i64 1, .bool true, .string ⟨#[107]⟩, .slice none 0 0, .int .i64 0, .int .i64 1, .int .i64 1]) := S3.out.by BB; clear BB; have d0 := cell_blk S4.out.ev 0 (v := .int .i64 3) rfl; have d1 := cell_blk S4.out.ev 1 (v := .int .i64 1) rfl; have d2 := cell_blk S4.out.ev 2 (v := .int .i64 1) rfl; have d4 := cell_blk S4.out.ev 4 (v := .string ⟨#[107]⟩) rfl; have dk := S4.out.kw.c3;  skip)
      | fail)
  have LT : Hid (w.heap.size < w4.heap.size) := block_lt S4.out.ev
  have S5 : Hid (LnS w (w4.alloc (.cells #[.string ⟨#[99, 97, 110, 99, 101, 108]⟩, .string ⟨#[49]⟩, .string ⟨#[49]⟩, .string ⟨#[103, 101, 116]⟩, .string ⟨#[34, 107, 34]⟩] 9)) #[.int .i64 3, .int .i64 1, .int .i64 1, .bool true, .string ⟨#[107]⟩, .slice none 0 0, .int .i64 0, .int .i64 1, .int .i64 1]) := S4.out.keep ((Kept.refl _ _).alloc _)
  have Z5 : Hid ((w4.alloc (.cells #[.string ⟨#[99, 97, 110, 99, 101, 108]⟩, .string ⟨#[49]⟩, .string ⟨#[49]⟩, .string ⟨#[103, 101, 116]⟩, .string ⟨#[34, 107, 34]⟩] 9)).heap[w4.heap.size]? = some (.cells #[.string ⟨#[99, 97, 110, 99, 101, 108]⟩, .string ⟨#[49]⟩, .string ⟨#[49]⟩, .string ⟨#[103, 101, 116]⟩, .string ⟨#[34, 107, 34]⟩] 9 (0, 0))) := alloc_new _ _
  have z3 := cell_blk Z5.out 3 (v := .string ⟨#[103, 101, 116]⟩) rfl
  have zs := soft_blk Z5.out 3
  have f3 := cell_blk S5.out.ev 3 (v := .bool true) rfl
  have S6 : Hid (LnS w (w4.alloc (.cells #[.string ⟨#[99, 97, 110, 99, 101, 108]⟩, .string ⟨#[49]⟩, .string ⟨#[49]⟩, .string ⟨#[112, 117, 116]⟩, .string ⟨#[34, 107, 34]⟩] 9)) #[.int .i64 3, .int .i64 1, .int .i64 1, .bool true, .string ⟨#[107]⟩, .slice none 0 0, .int .i64 0, .int .i64 1, .int .i64 1]) := S4.out.keep ((Kept.refl _ _).alloc _)
  have N6 : Hid (LnW w (w4.alloc (.cells #[.string ⟨#[99, 97, 110, 99, 101, 108]⟩, .string ⟨#[49]⟩, .string ⟨#[49]⟩, .string ⟨#[112, 117, 116]⟩, .string ⟨#[34, 107, 34]⟩] 9)) #[.int .i64 3, .int .i64 1, .int .i64 1, .bool true, .string ⟨#[107]⟩, .slice none 0 0, .int .i64 0, .int .i64 1, .int .i64 1] (some ⟨w4.heap.size, 0, none⟩) 5 5 [⟨#[99, 97, 110, 99, 101, 108]⟩, ⟨#[49]⟩, ⟨#[49]⟩, ⟨#[112, 117, 116]⟩, ⟨#[34, 107, 34]⟩]) := ⟨S6.out, rfl, .inr ⟨w4.heap.size, 5, #[.string ⟨#[99, 97, 110, 99, 101, 108]⟩, .string ⟨#[49]⟩, .string ⟨#[49]⟩, .string ⟨#[112, 117, 116]⟩, .string ⟨#[34, 107, 34]⟩], rfl, LT.out, alloc_new _ _, Nat.le_refl _, by unfold maxLen; omega, rfl, rfl⟩⟩
  have g0 := cell_blk N6.out.st.ev 0 (v := .int .i64 3) rfl
  have g1 := cell_blk N6.out.st.ev 1 (v := .int .i64 1) rfl
  have g2 := cell_blk N6.out.st.ev 2 (v := .int .i64 1) rfl
  have g3 := cell_blk N6.out.st.ev 3 (v := .bool true) rfl
  have g4 := cell_blk N6.out.st.ev 4 (v := .string ⟨#[107]⟩) rfl
  have g5 := cell_blk N6.out.st.ev 5 (v := .slice none 0 0) rfl
  have g6 := cell_blk N6.out.st.ev 6 (v := .int .i64 0) rfl
  have g7 := cell_blk N6.out.st.ev 7 (v := .int .i64 1) rfl
  have g8 := cell_blk N6.out.st.ev 8 (v := .int .i64 1) rfl
  go_wp2_with fail
  have CF : Hid (∀ V, Calls Tryd.prog 34 #[.agg #[.int .i64 3, .int .i64 1, .int .i64 1, .bool true, .string ⟨#[107]⟩, .slice none 0 0, .int .i64 0, .int .i64 1, .int .i64 1]] V fun o w' => o = .returned (.int .i64 2) ∧ Kept (fun _ => False) V w') := fun V => hForm ⟨3, 1, 1, true, ⟨#[107]⟩, none, 0, 0, 0, 1, 1, []⟩ V
  refine (CF.out _).mono ?_
  rintro o w7 ⟨rfl, K7⟩
  have N7 : Hid (LnW w w7 #[.int .i64 3, .int .i64 1, .int .i64 1, .bool true, .string ⟨#[107]⟩, .slice none 0 0, .int .i64 0, .int .i64 1, .int .i64 1] (some ⟨w4.heap.size, 0, none⟩) 5 5 [⟨#[99, 97, 110, 99, 101, 108]⟩, ⟨#[49]⟩, ⟨#[49]⟩, ⟨#[112, 117, 116]⟩, ⟨#[34, 107, 34]⟩]) := N6.out.keep K7
  have h7 := cell_blk N7.out.st.ev 7 (v := .int .i64 1) rfl
  have h8 := cell_blk N7.out.st.ev 8 (v := .int .i64 1) rfl
  go_wp2_with fail
  refine (hTagText w7 N7.out.st.tab).mono ?_
  rintro o w8 ⟨rfl, B8⟩
  have NA1 : Hid (LnW w (w8.alloc (.cells #[.string ⟨#[49, 46, 49]⟩] 9)) #[.int .i64 3, .int .i64 1, .int .i64 1, .bool true, .string ⟨#[107]⟩, .slice none 0 0, .int .i64 0, .int .i64 1, .int .i64 1] (some ⟨w4.heap.size, 0, none⟩) 5 5 [⟨#[99, 97, 110, 99, 101, 108]⟩, ⟨#[49]⟩, ⟨#[49]⟩, ⟨#[112, 117, 116]⟩, ⟨#[34, 107, 34]⟩]) := N7.out.keep ((kept_below B8).alloc _)
  have SR1 : Hid (Src Tryd.prog 1 84 (.slice (some ⟨w8.heap.size, 0, none⟩) 1 1) 1 (strs [⟨#[49, 46, 49]⟩]) (w8.alloc (.cells #[.string ⟨#[49, 46, 49]⟩] 9))) := src_str (alloc_new _ _)
  go_wp2_with
    (first
      | (at_builtin; refine wpList_append_all _ rfl (.tmp 47) (.tmp 51) 84 9 84 _ 1 16 rfl Tryd.underlying84 Tryd.info9c rfl (w.heap.size + 1) (.slice (some ⟨w4.heap.size, 0, none⟩) 5 5) 5 (strs [⟨#[99, 97, 110, 99, 101, 108]⟩, ⟨#[49]⟩, ⟨#[49]⟩, ⟨#[112, 117, 116]⟩, ⟨#[34, 107, 34]⟩]) rfl NA1.out.row _ 1 (strs [⟨#[49, 46, 49]⟩]) rfl SR1.out (by unfold maxLen; omega) (by omega) (Nat.succ_le_of_lt (block_lt NA1.out.st.ev)) ?_; intro q1 e1 v1 ho hg hn9; have M1 : Hid (LnW w v1 #[.int .i64 3, .int .i64 1, .int .i64 1, .bool true, .string ⟨#[107]⟩, .slice none 0 0, .int .i64 0, .int .i64 1, .int .i64 1] q1 6 e1 [⟨#[99, 97, 110, 99, 101, 108]⟩, ⟨#[49]⟩, ⟨#[49]⟩, ⟨#[112, 117, 116]⟩, ⟨#[34, 107, 34]⟩, ⟨#[49, 46, 49]⟩]) := NA1.out.more hg.out ho.out; clear ho hg hn9;  skip)
      | fail)
  have CJ : Hid (Calls Tryd.prog 36 #[.slice q1 6 e1, .string ⟨#[32]⟩] v1 fun o w' => o = .returned (.string ⟨#[99, 97, 110, 99, 101, 108, 32, 49, 32, 49, 32, 112, 117, 116, 32, 34, 107, 34, 32, 49, 46, 49]⟩) ∧ Kept (fun _ => False) v1 w') := M1.out.join rfl (by omega) (by omega) (by kernel_rfl) (by decide)
  refine CJ.out.mono ?_
  rintro o wJ ⟨rfl, KJ⟩
  have F : Hid (Kept (fun _ => False) w wJ) := M1.out.st.kept.trans KJ (fun _ _ z => z)
  go_wp2_with fail
  go_ret
  exact ⟨by first | rfl | simp, F.out⟩
set_option maxRecDepth 100000 in
set_option maxHeartbeats 1000000 in
theorem hLine4 (w : World) (V : Tab w) (kw : KWs w) (p : Option Addr) (c : Nat) (rv : Reads w p 1 c [120]) : Calls Tryd.prog 16 #[.agg #[.int .i64 2, .int .i64 2, .int .i64 1, .bool false, .string ⟨#[107]⟩, .slice p 1 c, .int .i64 0, .int .i64 1, .int .i64 1]] w fun o w' => o = .returned (.string ⟨#[114, 101, 116, 117, 114, 110, 32, 50, 32, 49, 32, 103, 101, 116, 32, 34, 107, 34, 32, 111, 107, 32, 49, 46, 49, 32, 34, 120, 34]⟩) ∧ Kept (fun _ => False) w w' := by
  have S0 : Hid (LnS w _ #[.int .i64 2, .int .i64 2, .int .i64 1, .bool false, .string ⟨#[107]⟩, .slice p 1 c, .int .i64 0, .int .i64 1, .int .i64 1]) := LnS.start w #[.int .i64 2, .int .i64 2, .int .i64 1, .bool false, .string ⟨#[107]⟩, .slice p 1 c, .int .i64 0, .int .i64 1, .int .i64 1] V kw
  have S1 : Hid (LnS w (w.alloc (.cells #[.int .i64 2, .int .i64 2, .int .i64 1, .bool false, .string ⟨#[107]⟩, .slice p 1 c, .int .i64 0, .int .i64 1, .int .i64 1] 45)).drew #[.int .i64 2, .int .i64 2, .int .i64 1, .bool false, .string ⟨#[107]⟩, .slice p 1 c, .int .i64 0, .int .i64 1, .int .i64 1]) := S0.out.by ((Below.refl _ _).drew)
  have cI : Hid (∀ U, Tab U → Calls Tryd.prog 30 #[.int .i64 2] U fun x w' => x = .returned (.string ⟨#[50]⟩) ∧ Below U.heap.size U w') := fun U h => itoaAt (by omega) (by omega) (by kernel_rfl) U h
  have cF : Hid (∀ U, Tab U → Calls Tryd.prog 31 #[.int .i64 1, .int .i64 10] U fun x w' => x = .returned (.string ⟨#[49]⟩) ∧ Below U.heap.size U w') := fun U h => formatAt (by omega) (by omega) (by kernel_rfl) U h
  have cQ : Hid (∀ U, Calls Tryd.prog 32 #[.string ⟨#[107]⟩] U fun x w' => x = .returned (.string ⟨#[34, 107, 34]⟩) ∧ Below U.heap.size U w') := fun U => quotedAtK U
  have RV : Hid (Reads w p 1 c [120]) := rv
  clear S0 V kw rv
  have a0 := cell_blk S1.out.ev 0 (v := .int .i64 2) rfl
  have a1 := cell_blk S1.out.ev 1 (v := .int .i64 2) rfl
  have a2 := cell_blk S1.out.ev 2 (v := .int .i64 1) rfl
  have a4 := cell_blk S1.out.ev 4 (v := .string ⟨#[107]⟩) rfl
  have ak := S1.out.kw.c2
  go_enter Tryd.func16, Tryd.ntmps16
  go_upto_region 1 with fail
  go_region_held3 (fun w' => w'.cell? ⟨w.heap.size, 0, none⟩ = some (.int .i64 2) ∧ w'.cell? ⟨w.heap.size, 1, none⟩ = some (.int .i64 2) ∧ w'.cell? ⟨w.heap.size, 2, none⟩ = some (.int .i64 1) ∧ w'.cell? ⟨w.heap.size, 4, none⟩ = some (.string ⟨#[107]⟩) ∧ w'.cell? ⟨0, 2, none⟩ = some (.string ⟨#[114, 101, 116, 117, 114, 110]⟩)) (go_keep)
    (first
      | (go_at_call 30; refine (cI.out _ S1.out.tab).mono ?_; rintro x w2 ⟨rfl, BB⟩; have S2 : Hid (LnS w w2 #[.int .i64 2, .int .i64 2, .int .i64 1, .bool false, .string ⟨#[107]⟩, .slice p 1 c, .int .i64 0, .int .i64 1, .int .i64 1]) := S1.out.by BB; clear BB; have b0 := cell_blk S2.out.ev 0 (v := .int .i64 2) rfl; have b1 := cell_blk S2.out.ev 1 (v := .int .i64 2) rfl; have b2 := cell_blk S2.out.ev 2 (v := .int .i64 1) rfl; have b4 := cell_blk S2.out.ev 4 (v := .string ⟨#[107]⟩) rfl; have bk := S2.out.kw.c2;  skip)
      | (go_at_call 31; refine (cF.out _ S2.out.tab).mono ?_; rintro x w3 ⟨rfl, BB⟩; have S3 : Hid (LnS w w3 #[.int .i64 2, .int .i64 2, .int .i64 1, .bool false, .string ⟨#[107]⟩, .slice p 1 c, .int .i64 0, .int .i64 1, .int .i64 1]) := S2.out.by BB; clear BB; have c0 := cell_blk S3.out.ev 0 (v := .int .i64 2) rfl; have c1 := cell_blk S3.out.ev 1 (v := .int .i64 2) rfl; have c2 := cell_blk S3.out.ev 2 (v := .int .i64 1) rfl; have c4 := cell_blk S3.out.ev 4 (v := .string ⟨#[107]⟩) rfl; have ck := S3.out.kw.c2;  skip)
      | (go_at_call 32; refine (cQ.out _).mono ?_; rintro x w4 ⟨rfl, BB⟩; have S4 : Hid (LnS w w4 #[.int .i64 2, .int .i64 2, .int .i64 1, .bool false, .string ⟨#[107]⟩, .slice p 1 c, .int .i64 0, .int .i64 1, .int .i64 1]) := S3.out.by BB; clear BB; have d0 := cell_blk S4.out.ev 0 (v := .int .i64 2) rfl; have d1 := cell_blk S4.out.ev 1 (v := .int .i64 2) rfl; have d2 := cell_blk S4.out.ev 2 (v := .int .i64 1) rfl; have d4 := cell_blk S4.out.ev 4 (v := .string ⟨#[107]⟩) rfl; have dk := S4.out.kw.c2;  skip)
      | fail)
  have LT : Hid (w.heap.size < w4.heap.size) := block_lt S4.out.ev
  have S6 : Hid (LnS w (w4.alloc (.cells #[.string ⟨#[114, 101, 116, 117, 114, 110]⟩, .string ⟨#[50]⟩, .string ⟨#[49]⟩, .string ⟨#[103, 101, 116]⟩, .string ⟨#[34, 107, 34]⟩] 9)) #[.int .i64 2, .int .i64 2, .int .i64 1, .bool false, .string ⟨#[107]⟩, .slice p 1 c, .int .i64 0, .int .i64 1, .int .i64 1]) := S4.out.keep ((Kept.refl _ _).alloc _)
  have N6 : Hid (LnW w (w4.alloc (.cells #[.string ⟨#[114, 101, 116, 117, 114, 110]⟩, .string ⟨#[50]⟩, .string ⟨#[49]⟩, .string ⟨#[103, 101, 116]⟩, .string ⟨#[34, 107, 34]⟩] 9)) #[.int .i64 2, .int .i64 2, .int .i64 1, .bool false, .string ⟨#[107]⟩, .slice p 1 c, .int .i64 0, .int .i64 1, .int .i64 1] (some ⟨w4.heap.size, 0, none⟩) 5 5 [⟨#[114, 101, 116, 117, 114, 110]⟩, ⟨#[50]⟩, ⟨#[49]⟩, ⟨#[103, 101, 116]⟩, ⟨#[34, 107, 34]⟩]) := ⟨S6.out, rfl, .inr ⟨w4.heap.size, 5, #[.string ⟨#[114, 101, 116, 117, 114, 110]⟩, .string ⟨#[50]⟩, .string ⟨#[49]⟩, .string ⟨#[103, 101, 116]⟩, .string ⟨#[34, 107, 34]⟩], rfl, LT.out, alloc_new _ _, Nat.le_refl _, by unfold maxLen; omega, rfl, rfl⟩⟩
  have g0 := cell_blk N6.out.st.ev 0 (v := .int .i64 2) rfl
  have g1 := cell_blk N6.out.st.ev 1 (v := .int .i64 2) rfl
  have g2 := cell_blk N6.out.st.ev 2 (v := .int .i64 1) rfl
  have g3 := cell_blk N6.out.st.ev 3 (v := .bool false) rfl
  have g4 := cell_blk N6.out.st.ev 4 (v := .string ⟨#[107]⟩) rfl
  have g5 := cell_blk N6.out.st.ev 5 (v := .slice p 1 c) rfl
  have g6 := cell_blk N6.out.st.ev 6 (v := .int .i64 0) rfl
  have g7 := cell_blk N6.out.st.ev 7 (v := .int .i64 1) rfl
  have g8 := cell_blk N6.out.st.ev 8 (v := .int .i64 1) rfl
  go_wp2_with fail
  have CE : Hid (∀ U, Calls Tryd.prog 33 #[.int .i64 0] U fun o w' => o = .returned (.string ⟨#[111, 107]⟩) ∧ w' = U) := fun U => hEndWord 0 U
  refine (CE.out _).mono ?_
  rintro o wE ⟨rfl, hw⟩
  subst hw
  have NA1 : Hid (LnW w ((w4.alloc (.cells #[.string ⟨#[114, 101, 116, 117, 114, 110]⟩, .string ⟨#[50]⟩, .string ⟨#[49]⟩, .string ⟨#[103, 101, 116]⟩, .string ⟨#[34, 107, 34]⟩] 9)).alloc (.cells #[.string ⟨#[111, 107]⟩] 9)) #[.int .i64 2, .int .i64 2, .int .i64 1, .bool false, .string ⟨#[107]⟩, .slice p 1 c, .int .i64 0, .int .i64 1, .int .i64 1] (some ⟨w4.heap.size, 0, none⟩) 5 5 [⟨#[114, 101, 116, 117, 114, 110]⟩, ⟨#[50]⟩, ⟨#[49]⟩, ⟨#[103, 101, 116]⟩, ⟨#[34, 107, 34]⟩]) := N6.out.keep ((Kept.refl _ _).alloc _)
  have SR1 : Hid (Src Tryd.prog 1 84 (.slice (some ⟨w4.heap.size + 1, 0, none⟩) 1 1) 1 (strs [⟨#[111, 107]⟩]) ((w4.alloc (.cells #[.string ⟨#[114, 101, 116, 117, 114, 110]⟩, .string ⟨#[50]⟩, .string ⟨#[49]⟩, .string ⟨#[103, 101, 116]⟩, .string ⟨#[34, 107, 34]⟩] 9)).alloc (.cells #[.string ⟨#[111, 107]⟩] 9))) := src_str (by have q := alloc_new (w4.alloc (.cells #[.string ⟨#[114, 101, 116, 117, 114, 110]⟩, .string ⟨#[50]⟩, .string ⟨#[49]⟩, .string ⟨#[103, 101, 116]⟩, .string ⟨#[34, 107, 34]⟩] 9)) (.cells #[.string ⟨#[111, 107]⟩] 9); rw [alloc_size] at q; exact q)
  go_upto_region 6 with
    (first
      | (at_builtin; refine wpList_append_all _ rfl (.tmp 25) (.tmp 29) 84 9 84 _ 1 16 rfl Tryd.underlying84 Tryd.info9c rfl (w.heap.size + 1) (.slice (some ⟨w4.heap.size, 0, none⟩) 5 5) 5 (strs [⟨#[114, 101, 116, 117, 114, 110]⟩, ⟨#[50]⟩, ⟨#[49]⟩, ⟨#[103, 101, 116]⟩, ⟨#[34, 107, 34]⟩]) rfl NA1.out.row _ 1 (strs [⟨#[111, 107]⟩]) rfl SR1.out (by unfold maxLen; omega) (by omega) (Nat.succ_le_of_lt (block_lt NA1.out.st.ev)) ?_; intro q1 e1 v1 ho hg hn9; have M1 : Hid (LnW w v1 #[.int .i64 2, .int .i64 2, .int .i64 1, .bool false, .string ⟨#[107]⟩, .slice p 1 c, .int .i64 0, .int .i64 1, .int .i64 1] q1 6 e1 [⟨#[114, 101, 116, 117, 114, 110]⟩, ⟨#[50]⟩, ⟨#[49]⟩, ⟨#[103, 101, 116]⟩, ⟨#[34, 107, 34]⟩, ⟨#[111, 107]⟩]) := NA1.out.more hg.out ho.out; clear ho hg hn9;  skip)
      | fail)
  clear NA1 SR1
  have m0 := cell_blk M1.out.st.ev 0 (v := .int .i64 2) rfl
  have m1 := cell_blk M1.out.st.ev 1 (v := .int .i64 2) rfl
  have m2 := cell_blk M1.out.st.ev 2 (v := .int .i64 1) rfl
  have m3 := cell_blk M1.out.st.ev 3 (v := .bool false) rfl
  have m4 := cell_blk M1.out.st.ev 4 (v := .string ⟨#[107]⟩) rfl
  have m5 := cell_blk M1.out.st.ev 5 (v := .slice p 1 c) rfl
  have m6 := cell_blk M1.out.st.ev 6 (v := .int .i64 0) rfl
  have m7 := cell_blk M1.out.st.ev 7 (v := .int .i64 1) rfl
  have m8 := cell_blk M1.out.st.ev 8 (v := .int .i64 1) rfl
  go_wp2_with fail
  have CF : Hid (∀ V, Calls Tryd.prog 34 #[.agg #[.int .i64 2, .int .i64 2, .int .i64 1, .bool false, .string ⟨#[107]⟩, .slice p 1 c, .int .i64 0, .int .i64 1, .int .i64 1]] V fun o w' => o = .returned (.int .i64 3) ∧ Kept (fun _ => False) V w') := fun V => hForm ⟨2, 2, 1, false, ⟨#[107]⟩, p, 1, c, 0, 1, 1, []⟩ V
  refine (CF.out _).mono ?_
  rintro o w7 ⟨rfl, K7⟩
  have N7 : Hid (LnW w w7 #[.int .i64 2, .int .i64 2, .int .i64 1, .bool false, .string ⟨#[107]⟩, .slice p 1 c, .int .i64 0, .int .i64 1, .int .i64 1] q1 6 e1 [⟨#[114, 101, 116, 117, 114, 110]⟩, ⟨#[50]⟩, ⟨#[49]⟩, ⟨#[103, 101, 116]⟩, ⟨#[34, 107, 34]⟩, ⟨#[111, 107]⟩]) := M1.out.keep K7
  have h7 := cell_blk N7.out.st.ev 7 (v := .int .i64 1) rfl
  have h8 := cell_blk N7.out.st.ev 8 (v := .int .i64 1) rfl
  go_wp2_with fail
  refine (hTagText w7 N7.out.st.tab).mono ?_
  rintro o w8 ⟨rfl, B8⟩
  have NA2 : Hid (LnW w (w8.alloc (.cells #[.string ⟨#[49, 46, 49]⟩] 9)) #[.int .i64 2, .int .i64 2, .int .i64 1, .bool false, .string ⟨#[107]⟩, .slice p 1 c, .int .i64 0, .int .i64 1, .int .i64 1] q1 6 e1 [⟨#[114, 101, 116, 117, 114, 110]⟩, ⟨#[50]⟩, ⟨#[49]⟩, ⟨#[103, 101, 116]⟩, ⟨#[34, 107, 34]⟩, ⟨#[111, 107]⟩]) := N7.out.keep ((kept_below B8).alloc _)
  have SR2 : Hid (Src Tryd.prog 1 84 (.slice (some ⟨w8.heap.size, 0, none⟩) 1 1) 1 (strs [⟨#[49, 46, 49]⟩]) (w8.alloc (.cells #[.string ⟨#[49, 46, 49]⟩] 9))) := src_str (alloc_new _ _)
  go_upto_region 14 with
    (first
      | (at_builtin; refine wpList_append_all _ rfl (.tmp 53) (.tmp 57) 84 9 84 _ 1 16 rfl Tryd.underlying84 Tryd.info9c rfl (w.heap.size + 1) (.slice q1 6 e1) 6 (strs [⟨#[114, 101, 116, 117, 114, 110]⟩, ⟨#[50]⟩, ⟨#[49]⟩, ⟨#[103, 101, 116]⟩, ⟨#[34, 107, 34]⟩, ⟨#[111, 107]⟩]) rfl NA2.out.row _ 1 (strs [⟨#[49, 46, 49]⟩]) rfl SR2.out (by unfold maxLen; omega) (by omega) (Nat.succ_le_of_lt (block_lt NA2.out.st.ev)) ?_; intro q2 e2 v2 ho hg hn9; have M2 : Hid (LnW w v2 #[.int .i64 2, .int .i64 2, .int .i64 1, .bool false, .string ⟨#[107]⟩, .slice p 1 c, .int .i64 0, .int .i64 1, .int .i64 1] q2 7 e2 [⟨#[114, 101, 116, 117, 114, 110]⟩, ⟨#[50]⟩, ⟨#[49]⟩, ⟨#[103, 101, 116]⟩, ⟨#[34, 107, 34]⟩, ⟨#[111, 107]⟩, ⟨#[49, 46, 49]⟩]) := NA2.out.more hg.out ho.out; clear ho hg hn9;  skip)
      | fail)
  clear NA2 SR2
  have h5 := cell_blk M2.out.st.ev 5 (v := .slice p 1 c) rfl
  have cv : (convert 41 9 (.slice p 1 c)).run Tryd.prog v2 = .ok (.string ⟨#[120]⟩) v2 := (RV.out.kept M2.out.st.kept (fun _ _ z => z)).string
  go_wp2_with fail
  have CX : Hid (∀ U, Calls Tryd.prog 32 #[.string ⟨#[120]⟩] U fun x w' => x = .returned (.string ⟨#[34, 120, 34]⟩) ∧ Kept (fun _ => False) U w') := fun U => hQuotedX U
  refine (CX.out _).mono ?_
  rintro o wX ⟨rfl, KX⟩
  have NA3 : Hid (LnW w (wX.alloc (.cells #[.string ⟨#[34, 120, 34]⟩] 9)) #[.int .i64 2, .int .i64 2, .int .i64 1, .bool false, .string ⟨#[107]⟩, .slice p 1 c, .int .i64 0, .int .i64 1, .int .i64 1] q2 7 e2 [⟨#[114, 101, 116, 117, 114, 110]⟩, ⟨#[50]⟩, ⟨#[49]⟩, ⟨#[103, 101, 116]⟩, ⟨#[34, 107, 34]⟩, ⟨#[111, 107]⟩, ⟨#[49, 46, 49]⟩]) := M2.out.keep (KX.alloc _)
  have SR3 : Hid (Src Tryd.prog 1 84 (.slice (some ⟨wX.heap.size, 0, none⟩) 1 1) 1 (strs [⟨#[34, 120, 34]⟩]) (wX.alloc (.cells #[.string ⟨#[34, 120, 34]⟩] 9))) := src_str (alloc_new _ _)
  go_wp2_with
    (first
      | (at_builtin; refine wpList_append_all _ rfl (.tmp 59) (.tmp 64) 84 9 84 _ 1 16 rfl Tryd.underlying84 Tryd.info9c rfl (w.heap.size + 1) (.slice q2 7 e2) 7 (strs [⟨#[114, 101, 116, 117, 114, 110]⟩, ⟨#[50]⟩, ⟨#[49]⟩, ⟨#[103, 101, 116]⟩, ⟨#[34, 107, 34]⟩, ⟨#[111, 107]⟩, ⟨#[49, 46, 49]⟩]) rfl NA3.out.row _ 1 (strs [⟨#[34, 120, 34]⟩]) rfl SR3.out (by unfold maxLen; omega) (by omega) (Nat.succ_le_of_lt (block_lt NA3.out.st.ev)) ?_; intro q3 e3 v3 ho hg hn9; have M3 : Hid (LnW w v3 #[.int .i64 2, .int .i64 2, .int .i64 1, .bool false, .string ⟨#[107]⟩, .slice p 1 c, .int .i64 0, .int .i64 1, .int .i64 1] q3 8 e3 [⟨#[114, 101, 116, 117, 114, 110]⟩, ⟨#[50]⟩, ⟨#[49]⟩, ⟨#[103, 101, 116]⟩, ⟨#[34, 107, 34]⟩, ⟨#[111, 107]⟩, ⟨#[49, 46, 49]⟩, ⟨#[34, 120, 34]⟩]) := NA3.out.more hg.out ho.out; clear ho hg hn9;  skip)
      | fail)
  have CJ : Hid (Calls Tryd.prog 36 #[.slice q3 8 e3, .string ⟨#[32]⟩] v3 fun o w' => o = .returned (.string ⟨#[114, 101, 116, 117, 114, 110, 32, 50, 32, 49, 32, 103, 101, 116, 32, 34, 107, 34, 32, 111, 107, 32, 49, 46, 49, 32, 34, 120, 34]⟩) ∧ Kept (fun _ => False) v3 w') := M3.out.join rfl (by omega) (by omega) (by kernel_rfl) (by decide)
  refine CJ.out.mono ?_
  rintro o wJ ⟨rfl, KJ⟩
  have F : Hid (Kept (fun _ => False) w wJ) := M3.out.st.kept.trans KJ (fun _ _ z => z)
  go_wp2_with fail
  go_ret
  exact ⟨by first | rfl | simp, F.out⟩
end Go.Proofs.YtbangbobfeflcaaDoor
