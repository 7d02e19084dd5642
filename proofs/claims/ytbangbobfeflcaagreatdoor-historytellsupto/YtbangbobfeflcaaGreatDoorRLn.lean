import Derived.Test.YtbangbobfeflcaaGreatDoorRLpJ
namespace Go.Proofs.YtbangbobfeflcaaGreatDoor
open Go.RowKit 

theorem resB_size {e : Ev} (hf : faultE e = 0) (hk : e.kind = 2) (hv : e.val.length ≤ 65536) : (resB e).size ≤ 300000 := by
  obtain ⟨_, _, _, _, _, _, h7⟩ := fault_all hf
  have t := tagB_43 hf
  have q := quoB_size (str e.val)
  rw [str_size] at q
  unfold resB
  split
  · split
    · simp only [ByteArray.size_append]
      show 3 + (1 + (tagB e.tx e.ty).size) ≤ _
      omega
    · simp only [ByteArray.size_append]
      show 3 + (1 + (tagB e.tx e.ty).size) + 1 + (quoB (str e.val)).size ≤ _
      omega
  · next s0 =>
    split
    · decide
    · next s1 =>
      split
      · decide
      · next s2 =>
        have kk : KI e.st := by
          unfold statusE at h7
          rw [if_neg s0, if_neg (by rw [hk]; decide)] at h7
          cases hp : e.put
          · rw [hp] at h7
            have : e.st = 76 ∨ (20 ≤ e.st ∧ e.st ≤ 26) := by simpa using h7
            exact ⟨by omega, by omega⟩
          · rw [hp] at h7
            have : e.st = 42 := by simpa using h7
            exact absurd this s1
        have i := itB_size e.st kk
        simp only [ByteArray.size_append]
        show 7 + (itB e.st).size + (1 + (tagB e.tx e.ty).size) ≤ _
        omega
set_option maxRecDepth 100000 in
set_option maxHeartbeats 4000000 in
theorem hRLine {w : World} (e : Ev) (hf : faultE e = 0) (rv : Reads w e.va e.vn e.vc e.val) : Calls Tryz.prog 35 #[e.agg] w fun o w' => o = .returned (.string (lineB e)) ∧ Kept (fun _ => False) w w' := by
  rw [← line_doc hf]
  obtain ⟨h1, h2, h3, h4, h5, h6, h7⟩ := fault_all hf
  have tz := tagB_43 hf
  have vl : e.val.length ≤ 65536 := by rw [rv.length]; exact val_le h4
  have rz : e.kind = 2 → (resB e).size ≤ 300000 := fun hk => resB_size hf hk vl
  have CX : Hid (∀ U, Calls Tryz.prog 77 #[.agg #[.int .i64 e.tx, .int .i64 e.ty]] U fun o w' => o = .returned (.string (tagB e.tx e.ty)) ∧ Kept (fun _ => False) U w') := fun U => by
    refine (rText e.tx e.ty U).mono ?_
    rintro o w1 ⟨rfl, B⟩
    rw [text_tag (tag_val hf)]
    exact ⟨rfl, kept_below B⟩
  have vz : (str e.val).size ≤ 65536 := by rw [str_size]; exact vl
  have qz := quoB_size (str e.val)
  have kz := quoB_size e.key
  have CQ : Hid (∀ U, Calls Tryz.prog 75 #[.string (str e.val)] U fun o w' => o = .returned (.string (quoB (str e.val))) ∧ Kept (fun _ => False) U w') := fun U => hRQuoted (str e.val) U vz
  have CK : Hid (∀ U, Calls Tryz.prog 75 #[.string e.key] U fun o w' => o = .returned (.string (quoB e.key)) ∧ Kept (fun _ => False) U w') := fun U => hRQuoted e.key U (by omega)
  have RV : Hid (Reads w e.va e.vn e.vc e.val) := rv
  have CR : Hid (e.kind = 2 → ∀ U, Kept (fun _ => False) w U → Calls Tryz.prog 76 #[e.agg] U fun o w' => o = .returned (.string (resB e)) ∧ Kept (fun _ => False) U w') := fun hk U K => hRResult e hf hk (Reads.kept K rv (fun _ _ z => z))
  have cF : Hid (∀ U, Calls Tryz.prog 74 #[.int .i64 e.client] U fun o w' => o = .returned (.string (itB e.client)) ∧ Kept (fun _ => False) U w') := fun U => by
    have q := hRNum (e.client.toNat + 1) e.client.toNat (by omega) (by omega) U
    rw [decB_it, Int.toNat_of_nonneg (by omega)] at q
    exact q
  have cI : Hid (∀ U, Calls Tryz.prog 74 #[.int .i64 e.op] U fun o w' => o = .returned (.string (itB e.op)) ∧ Kept (fun _ => False) U w') := fun U => by
    have q := hRNum (e.op.toNat + 1) e.op.toNat (by omega) (by omega) U
    rw [decB_it, Int.toNat_of_nonneg (by omega)] at q
    exact q
  have z1 := itB_size e.client ⟨by omega, by omega⟩
  have z2 := itB_size e.op ⟨by omega, by omega⟩
  have kb : (quoB e.key).size ≤ 258 := by omega
  have qb : (quoB (str e.val)).size ≤ 262146 := by omega
  clear h2 h3 h4 h5 h6 h7 hf rv vl vz qz kz
  unfold lnB wdB
  obtain ⟨R, hR⟩ : ∃ t, resB e = t := ⟨_, rfl⟩
  rw [hR] at CR rz ⊢
  clear hR
  obtain ⟨ki, cl, op, pu, ke, va, vn, vc, st, tx, ty, val⟩ := e
  simp only [Ev.agg] at h1 tz rz CX CQ CK CR cF cI RV z1 z2 kb qb ⊢
  obtain ⟨T, hT⟩ : ∃ t, tagB tx ty = t := ⟨_, rfl⟩
  obtain ⟨V, hV⟩ : ∃ t, str val = t := ⟨_, rfl⟩
  obtain ⟨Q, hQ⟩ : ∃ t, quoB (str val) = t := ⟨_, rfl⟩
  obtain ⟨Y, hY⟩ : ∃ t, quoB ke = t := ⟨_, rfl⟩
  obtain ⟨I1, hI1⟩ : ∃ t, itB cl = t := ⟨_, rfl⟩
  obtain ⟨I2, hI2⟩ : ∃ t, itB op = t := ⟨_, rfl⟩
  rw [hT] at CX tz ⊢
  rw [hQ] at CQ qb ⊢
  rw [hV] at CQ
  rw [hY] at CK kb ⊢
  rw [hI1] at cF z1 ⊢
  rw [hI2] at cI z2 ⊢
  obtain ⟨A, hA⟩ : ∃ z, ⟨#[32]⟩ ++ I1 = z := ⟨_, rfl⟩
  have zA : A.size ≤ 22 := by rw [← hA, ByteArray.size_append]; first | omega | (have : (⟨#[32]⟩ : ByteArray).size = 1 := rfl; omega) | (have : (I1 : ByteArray).size = 21 := rfl; omega)
  have aA : ∀ U, (Op.stringOp .add ⟨#[32]⟩ I1).run Tryz.prog U = .ok (.string A) U := fun U => by rw [run_string_add_sum U ⟨#[32]⟩ I1 (by first | omega | (have : (⟨#[32]⟩ : ByteArray).size = 1 := rfl; omega) | (have : (I1 : ByteArray).size = 21 := rfl; omega)), hA]
  obtain ⟨B, hB⟩ : ∃ z, A ++ ⟨#[32]⟩ = z := ⟨_, rfl⟩
  have zB : B.size ≤ 23 := by rw [← hB, ByteArray.size_append]; first | omega | (have : (A : ByteArray).size = 22 := rfl; omega) | (have : (⟨#[32]⟩ : ByteArray).size = 1 := rfl; omega)
  have aB : ∀ U, (Op.stringOp .add A ⟨#[32]⟩).run Tryz.prog U = .ok (.string B) U := fun U => by rw [run_string_add_sum U A ⟨#[32]⟩ (by first | omega | (have : (A : ByteArray).size = 22 := rfl; omega) | (have : (⟨#[32]⟩ : ByteArray).size = 1 := rfl; omega)), hB]
  obtain ⟨C, hC⟩ : ∃ z, B ++ I2 = z := ⟨_, rfl⟩
  have zC : C.size ≤ 44 := by rw [← hC, ByteArray.size_append]; first | omega | (have : (B : ByteArray).size = 23 := rfl; omega) | (have : (I2 : ByteArray).size = 21 := rfl; omega)
  have aC : ∀ U, (Op.stringOp .add B I2).run Tryz.prog U = .ok (.string C) U := fun U => by rw [run_string_add_sum U B I2 (by first | omega | (have : (B : ByteArray).size = 23 := rfl; omega) | (have : (I2 : ByteArray).size = 21 := rfl; omega)), hC]
  rw [hA, hB, hC]
  obtain ⟨Z, hZ⟩ : ∃ Z, (if ki = 2 then (⟨#[114, 101, 116, 117, 114, 110]⟩ ++ ((C ++ (if pu = true then ⟨#[32, 112, 117, 116, 32]⟩ else ⟨#[32, 103, 101, 116, 32]⟩)) ++ Y)) ++ R else if ki = 3 then (if pu = true then ((⟨#[99, 97, 110, 99, 101, 108]⟩ ++ ((C ++ (if pu = true then ⟨#[32, 112, 117, 116, 32]⟩ else ⟨#[32, 103, 101, 116, 32]⟩)) ++ Y)) ++ ⟨#[32]⟩) ++ T else ⟨#[99, 97, 110, 99, 101, 108]⟩ ++ ((C ++ (if pu = true then ⟨#[32, 112, 117, 116, 32]⟩ else ⟨#[32, 103, 101, 116, 32]⟩)) ++ Y)) else if pu = true then ((⟨#[105, 110, 118, 111, 107, 101]⟩ ++ ((C ++ (if pu = true then ⟨#[32, 112, 117, 116, 32]⟩ else ⟨#[32, 103, 101, 116, 32]⟩)) ++ Y)) ++ ⟨#[32]⟩) ++ Q else ⟨#[105, 110, 118, 111, 107, 101]⟩ ++ ((C ++ (if pu = true then ⟨#[32, 112, 117, 116, 32]⟩ else ⟨#[32, 103, 101, 116, 32]⟩)) ++ Y)) = Z := ⟨_, rfl⟩
  rw [hZ]
  have HZ : Hid (_ = Z) := hZ
  clear hZ
  have HV : Hid (str val = V) := hV
  clear hT hQ hY hI1 hI2 hA hB hC hV zA zB
  have K0 : Hid (Kept (fun _ => False) w (w.alloc (Obj.cells #[.int .i64 ki, .int .i64 cl, .int .i64 op, .bool pu, .string ke, .slice va vn vc, .int .i64 st, .int .i64 tx, .int .i64 ty] 39))) := (Kept.refl _ _).alloc _
  have B0 : Hid ((w.alloc (Obj.cells #[.int .i64 ki, .int .i64 cl, .int .i64 op, .bool pu, .string ke, .slice va vn vc, .int .i64 st, .int .i64 tx, .int .i64 ty] 39)).heap[w.heap.size]? = some (.cells #[.int .i64 ki, .int .i64 cl, .int .i64 op, .bool pu, .string ke, .slice va vn vc, .int .i64 st, .int .i64 tx, .int .i64 ty] 39 (0, 0))) := alloc_new _ _
  have c1 := cell_blk B0.out 1 (v := .int .i64 cl) rfl
  have c2 := cell_blk B0.out 2 (v := .int .i64 op) rfl
  have KP : Hid (∀ w2, Kept (fun _ => False) (w.alloc (Obj.cells #[.int .i64 ki, .int .i64 cl, .int .i64 op, .bool pu, .string ke, .slice va vn vc, .int .i64 st, .int .i64 tx, .int .i64 ty] 39)).drew w2 → w2.cell? ⟨w.heap.size, 1, none⟩ = some (.int .i64 cl) ∧ w2.cell? ⟨w.heap.size, 2, none⟩ = some (.int .i64 op) ∧ w2.heap[w.heap.size]? = some (.cells #[.int .i64 ki, .int .i64 cl, .int .i64 op, .bool pu, .string ke, .slice va vn vc, .int .i64 st, .int .i64 tx, .int .i64 ty] 39 (0, 0)) ∧ Kept (fun _ => False) w w2) := fun w2 K => ⟨K.cell c1 (fun z => z), K.cell c2 (fun z => z), K.get B0.out (fun z => z), (K0.out.drew).trans K (fun _ _ z => z)⟩
  go_enter Tryz.func35, Tryz.ntmps35
  go_upto_region 1 with fail
  go_region_held3 (fun w' => w'.cell? ⟨w.heap.size, 1, none⟩ = some (.int .i64 cl) ∧ w'.cell? ⟨w.heap.size, 2, none⟩ = some (.int .i64 op)) (go_keep)
    (first | (go_at_call 74; refine (cF.out _).mono ?_; rintro x w2 ⟨rfl, J2⟩; clear cF; obtain ⟨q0, q1, B2', K2'⟩ := KP.out w2 J2; have S2 : Hid (w2.heap[w.heap.size]? = some (.cells #[.int .i64 ki, .int .i64 cl, .int .i64 op, .bool pu, .string ke, .slice va vn vc, .int .i64 st, .int .i64 tx, .int .i64 ty] 39 (0, 0)) ∧ Kept (fun _ => False) w w2) := ⟨B2', K2'⟩; clear B2' K2' J2) | (go_at_call 74; refine (cI.out _).mono ?_; rintro x w3 ⟨rfl, J3⟩; have S3 : Hid (w3.heap[w.heap.size]? = some (.cells #[.int .i64 ki, .int .i64 cl, .int .i64 op, .bool pu, .string ke, .slice va vn vc, .int .i64 st, .int .i64 tx, .int .i64 ty] 39 (0, 0)) ∧ Kept (fun _ => False) w w3) := ⟨J3.get S2.out.1 (fun z => z), S2.out.2.trans J3 (fun _ _ z => z)⟩; have q2 : w3.cell? ⟨w.heap.size, 1, none⟩ = some (.int .i64 cl) := J3.cell q0 (fun z => z); have q3 : w3.cell? ⟨w.heap.size, 2, none⟩ = some (.int .i64 op) := J3.cell q1 (fun z => z); clear J3) | fail)
  clear c1 c2 q0 q1 q2 q3 KP S2 cI K0 B0
  have d0 := cell_blk S3.out.1 0 (v := .int .i64 ki) rfl
  have d1 := cell_blk S3.out.1 1 (v := .int .i64 cl) rfl
  have d2 := cell_blk S3.out.1 2 (v := .int .i64 op) rfl
  have d3 := cell_blk S3.out.1 3 (v := .bool pu) rfl
  have d4 := cell_blk S3.out.1 4 (v := .string ke) rfl
  have d5 := cell_blk S3.out.1 5 (v := .slice va vn vc) rfl
  have d6 := cell_blk S3.out.1 6 (v := .int .i64 st) rfl
  have d7 := cell_blk S3.out.1 7 (v := .int .i64 tx) rfl
  have d8 := cell_blk S3.out.1 8 (v := .int .i64 ty) rfl
  cases pu
  · obtain ⟨D, hD⟩ : ∃ z, C ++ ⟨#[32, 103, 101, 116, 32]⟩ = z := ⟨_, rfl⟩
    have zD : D.size ≤ 49 := by rw [← hD, ByteArray.size_append]; first | omega | (have : (C : ByteArray).size = 44 := rfl; omega) | (have : (⟨#[32, 103, 101, 116, 32]⟩ : ByteArray).size = 5 := rfl; omega)
    have aD : ∀ U, (Op.stringOp .add C ⟨#[32, 103, 101, 116, 32]⟩).run Tryz.prog U = .ok (.string D) U := fun U => by rw [run_string_add_sum U C ⟨#[32, 103, 101, 116, 32]⟩ (by first | omega | (have : (C : ByteArray).size = 44 := rfl; omega) | (have : (⟨#[32, 103, 101, 116, 32]⟩ : ByteArray).size = 5 := rfl; omega)), hD]
    obtain ⟨E, hE⟩ : ∃ z, D ++ Y = z := ⟨_, rfl⟩
    have zE : E.size ≤ 307 := by rw [← hE, ByteArray.size_append]; first | omega | (have : (D : ByteArray).size = 49 := rfl; omega) | (have : (Y : ByteArray).size = 258 := rfl; omega)
    have aE : ∀ U, (Op.stringOp .add D Y).run Tryz.prog U = .ok (.string E) U := fun U => by rw [run_string_add_sum U D Y (by first | omega | (have : (D : ByteArray).size = 49 := rfl; omega) | (have : (Y : ByteArray).size = 258 := rfl; omega)), hE]
    have EE : Hid ((C ++ (if false = true then ⟨#[32, 112, 117, 116, 32]⟩ else ⟨#[32, 103, 101, 116, 32]⟩)) ++ Y = E) := by show (C ++ (if false = true then ⟨#[32, 112, 117, 116, 32]⟩ else ⟨#[32, 103, 101, 116, 32]⟩)) ++ Y = E; first | (rw [if_pos rfl, hD, hE]) | (rw [if_neg (by decide), hD, hE])
    rw [EE.out] at HZ
    clear hD hE zD EE
    go_wp2_with fail
    refine (CK.out _).mono ?_
    rintro o w4 ⟨rfl, J4⟩
    have S4 : Hid (w4.heap[w.heap.size]? = some (.cells #[.int .i64 ki, .int .i64 cl, .int .i64 op, .bool false, .string ke, .slice va vn vc, .int .i64 st, .int .i64 tx, .int .i64 ty] 39 (0, 0)) ∧ Kept (fun _ => False) w w4) := ⟨J4.get S3.out.1 (fun z => z), S3.out.2.trans J4 (fun _ _ z => z)⟩
    clear J4 S3 CK d0 d1 d2 d3 d4 d5 d6 d7 d8
    rcases h1 with rfl | rfl | rfl
    · obtain ⟨F, hF⟩ : ∃ z, ⟨#[105, 110, 118, 111, 107, 101]⟩ ++ E = z := ⟨_, rfl⟩
      have zF : F.size ≤ 313 := by rw [← hF, ByteArray.size_append]; first | omega | (have : (⟨#[105, 110, 118, 111, 107, 101]⟩ : ByteArray).size = 6 := rfl; omega) | (have : (E : ByteArray).size = 307 := rfl; omega)
      have aF : ∀ U, (Op.stringOp .add ⟨#[105, 110, 118, 111, 107, 101]⟩ E).run Tryz.prog U = .ok (.string F) U := fun U => by rw [run_string_add_sum U ⟨#[105, 110, 118, 111, 107, 101]⟩ E (by first | omega | (have : (⟨#[105, 110, 118, 111, 107, 101]⟩ : ByteArray).size = 6 := rfl; omega) | (have : (E : ByteArray).size = 307 := rfl; omega)), hF]
      have ZE : Hid (F = Z) := by
        have q := HZ.out
        rw [if_neg (by decide), if_neg (by decide), if_neg (by decide), hF] at q
        exact q
      clear HZ
      clear hF
      have d0 := cell_blk S4.out.1 0 (v := .int .i64 1) rfl
      have d1 := cell_blk S4.out.1 1 (v := .int .i64 cl) rfl
      have d2 := cell_blk S4.out.1 2 (v := .int .i64 op) rfl
      have d3 := cell_blk S4.out.1 3 (v := .bool false) rfl
      have d4 := cell_blk S4.out.1 4 (v := .string ke) rfl
      have d5 := cell_blk S4.out.1 5 (v := .slice va vn vc) rfl
      have d6 := cell_blk S4.out.1 6 (v := .int .i64 st) rfl
      have d7 := cell_blk S4.out.1 7 (v := .int .i64 tx) rfl
      have d8 := cell_blk S4.out.1 8 (v := .int .i64 ty) rfl
      go_wp2_with fail
      go_ret
      exact ⟨by rw [← ZE.out]; first | rfl | simp, S4.out.2⟩
    · have rz := rz (by trivial)
      obtain ⟨F, hF⟩ : ∃ z, ⟨#[114, 101, 116, 117, 114, 110]⟩ ++ E = z := ⟨_, rfl⟩
      have zF : F.size ≤ 313 := by rw [← hF, ByteArray.size_append]; first | omega | (have : (⟨#[114, 101, 116, 117, 114, 110]⟩ : ByteArray).size = 6 := rfl; omega) | (have : (E : ByteArray).size = 307 := rfl; omega)
      have aF : ∀ U, (Op.stringOp .add ⟨#[114, 101, 116, 117, 114, 110]⟩ E).run Tryz.prog U = .ok (.string F) U := fun U => by rw [run_string_add_sum U ⟨#[114, 101, 116, 117, 114, 110]⟩ E (by first | omega | (have : (⟨#[114, 101, 116, 117, 114, 110]⟩ : ByteArray).size = 6 := rfl; omega) | (have : (E : ByteArray).size = 307 := rfl; omega)), hF]
      obtain ⟨G, hG⟩ : ∃ z, F ++ R = z := ⟨_, rfl⟩
      have zG : G.size ≤ 300313 := by rw [← hG, ByteArray.size_append]; first | omega | (have : (F : ByteArray).size = 313 := rfl; omega) | (have : (R : ByteArray).size = 300000 := rfl; omega)
      have aG : ∀ U, (Op.stringOp .add F R).run Tryz.prog U = .ok (.string G) U := fun U => by rw [run_string_add_sum U F R (by first | omega | (have : (F : ByteArray).size = 313 := rfl; omega) | (have : (R : ByteArray).size = 300000 := rfl; omega)), hG]
      have ZE : Hid (G = Z) := by
        have q := HZ.out
        rw [if_pos (by trivial), hF, hG] at q
        exact q
      clear HZ
      clear hF hG
      have d0 := cell_blk S4.out.1 0 (v := .int .i64 2) rfl
      have d1 := cell_blk S4.out.1 1 (v := .int .i64 cl) rfl
      have d2 := cell_blk S4.out.1 2 (v := .int .i64 op) rfl
      have d3 := cell_blk S4.out.1 3 (v := .bool false) rfl
      have d4 := cell_blk S4.out.1 4 (v := .string ke) rfl
      have d5 := cell_blk S4.out.1 5 (v := .slice va vn vc) rfl
      have d6 := cell_blk S4.out.1 6 (v := .int .i64 st) rfl
      have d7 := cell_blk S4.out.1 7 (v := .int .i64 tx) rfl
      have d8 := cell_blk S4.out.1 8 (v := .int .i64 ty) rfl
      go_wp2_with fail
      refine (CR.out (by trivial) _ S4.out.2).mono ?_
      rintro o w5 ⟨rfl, J5⟩
      have K5 : Hid (Kept (fun _ => False) w w5) := S4.out.2.trans J5 (fun _ _ z => z)
      clear J5
      go_wp2_with fail
      go_ret
      exact ⟨by rw [← ZE.out]; first | rfl | simp, K5.out⟩
    · obtain ⟨F, hF⟩ : ∃ z, ⟨#[99, 97, 110, 99, 101, 108]⟩ ++ E = z := ⟨_, rfl⟩
      have zF : F.size ≤ 313 := by rw [← hF, ByteArray.size_append]; first | omega | (have : (⟨#[99, 97, 110, 99, 101, 108]⟩ : ByteArray).size = 6 := rfl; omega) | (have : (E : ByteArray).size = 307 := rfl; omega)
      have aF : ∀ U, (Op.stringOp .add ⟨#[99, 97, 110, 99, 101, 108]⟩ E).run Tryz.prog U = .ok (.string F) U := fun U => by rw [run_string_add_sum U ⟨#[99, 97, 110, 99, 101, 108]⟩ E (by first | omega | (have : (⟨#[99, 97, 110, 99, 101, 108]⟩ : ByteArray).size = 6 := rfl; omega) | (have : (E : ByteArray).size = 307 := rfl; omega)), hF]
      have ZE : Hid (F = Z) := by
        have q := HZ.out
        rw [if_neg (by decide), if_pos (by trivial), if_neg (by decide), hF] at q
        exact q
      clear HZ
      clear hF
      have d0 := cell_blk S4.out.1 0 (v := .int .i64 3) rfl
      have d1 := cell_blk S4.out.1 1 (v := .int .i64 cl) rfl
      have d2 := cell_blk S4.out.1 2 (v := .int .i64 op) rfl
      have d3 := cell_blk S4.out.1 3 (v := .bool false) rfl
      have d4 := cell_blk S4.out.1 4 (v := .string ke) rfl
      have d5 := cell_blk S4.out.1 5 (v := .slice va vn vc) rfl
      have d6 := cell_blk S4.out.1 6 (v := .int .i64 st) rfl
      have d7 := cell_blk S4.out.1 7 (v := .int .i64 tx) rfl
      have d8 := cell_blk S4.out.1 8 (v := .int .i64 ty) rfl
      go_wp2_with fail
      go_ret
      exact ⟨by rw [← ZE.out]; first | rfl | simp, S4.out.2⟩
  · obtain ⟨D, hD⟩ : ∃ z, C ++ ⟨#[32, 112, 117, 116, 32]⟩ = z := ⟨_, rfl⟩
    have zD : D.size ≤ 49 := by rw [← hD, ByteArray.size_append]; first | omega | (have : (C : ByteArray).size = 44 := rfl; omega) | (have : (⟨#[32, 112, 117, 116, 32]⟩ : ByteArray).size = 5 := rfl; omega)
    have aD : ∀ U, (Op.stringOp .add C ⟨#[32, 112, 117, 116, 32]⟩).run Tryz.prog U = .ok (.string D) U := fun U => by rw [run_string_add_sum U C ⟨#[32, 112, 117, 116, 32]⟩ (by first | omega | (have : (C : ByteArray).size = 44 := rfl; omega) | (have : (⟨#[32, 112, 117, 116, 32]⟩ : ByteArray).size = 5 := rfl; omega)), hD]
    obtain ⟨E, hE⟩ : ∃ z, D ++ Y = z := ⟨_, rfl⟩
    have zE : E.size ≤ 307 := by rw [← hE, ByteArray.size_append]; first | omega | (have : (D : ByteArray).size = 49 := rfl; omega) | (have : (Y : ByteArray).size = 258 := rfl; omega)
    have aE : ∀ U, (Op.stringOp .add D Y).run Tryz.prog U = .ok (.string E) U := fun U => by rw [run_string_add_sum U D Y (by first | omega | (have : (D : ByteArray).size = 49 := rfl; omega) | (have : (Y : ByteArray).size = 258 := rfl; omega)), hE]
    have EE : Hid ((C ++ (if true = true then ⟨#[32, 112, 117, 116, 32]⟩ else ⟨#[32, 103, 101, 116, 32]⟩)) ++ Y = E) := by show (C ++ (if true = true then ⟨#[32, 112, 117, 116, 32]⟩ else ⟨#[32, 103, 101, 116, 32]⟩)) ++ Y = E; first | (rw [if_pos rfl, hD, hE]) | (rw [if_neg (by decide), hD, hE])
    rw [EE.out] at HZ
    clear hD hE zD EE
    go_wp2_with fail
    refine (CK.out _).mono ?_
    rintro o w4 ⟨rfl, J4⟩
    have S4 : Hid (w4.heap[w.heap.size]? = some (.cells #[.int .i64 ki, .int .i64 cl, .int .i64 op, .bool true, .string ke, .slice va vn vc, .int .i64 st, .int .i64 tx, .int .i64 ty] 39 (0, 0)) ∧ Kept (fun _ => False) w w4) := ⟨J4.get S3.out.1 (fun z => z), S3.out.2.trans J4 (fun _ _ z => z)⟩
    clear J4 S3 CK d0 d1 d2 d3 d4 d5 d6 d7 d8
    rcases h1 with rfl | rfl | rfl
    · obtain ⟨F, hF⟩ : ∃ z, ⟨#[105, 110, 118, 111, 107, 101]⟩ ++ E = z := ⟨_, rfl⟩
      have zF : F.size ≤ 313 := by rw [← hF, ByteArray.size_append]; first | omega | (have : (⟨#[105, 110, 118, 111, 107, 101]⟩ : ByteArray).size = 6 := rfl; omega) | (have : (E : ByteArray).size = 307 := rfl; omega)
      have aF : ∀ U, (Op.stringOp .add ⟨#[105, 110, 118, 111, 107, 101]⟩ E).run Tryz.prog U = .ok (.string F) U := fun U => by rw [run_string_add_sum U ⟨#[105, 110, 118, 111, 107, 101]⟩ E (by first | omega | (have : (⟨#[105, 110, 118, 111, 107, 101]⟩ : ByteArray).size = 6 := rfl; omega) | (have : (E : ByteArray).size = 307 := rfl; omega)), hF]
      obtain ⟨G, hG⟩ : ∃ z, F ++ ⟨#[32]⟩ = z := ⟨_, rfl⟩
      have zG : G.size ≤ 314 := by rw [← hG, ByteArray.size_append]; first | omega | (have : (F : ByteArray).size = 313 := rfl; omega) | (have : (⟨#[32]⟩ : ByteArray).size = 1 := rfl; omega)
      have aG : ∀ U, (Op.stringOp .add F ⟨#[32]⟩).run Tryz.prog U = .ok (.string G) U := fun U => by rw [run_string_add_sum U F ⟨#[32]⟩ (by first | omega | (have : (F : ByteArray).size = 313 := rfl; omega) | (have : (⟨#[32]⟩ : ByteArray).size = 1 := rfl; omega)), hG]
      obtain ⟨J, hJ⟩ : ∃ z, G ++ Q = z := ⟨_, rfl⟩
      have zJ : J.size ≤ 262460 := by rw [← hJ, ByteArray.size_append]; first | omega | (have : (G : ByteArray).size = 314 := rfl; omega) | (have : (Q : ByteArray).size = 262146 := rfl; omega)
      have aJ : ∀ U, (Op.stringOp .add G Q).run Tryz.prog U = .ok (.string J) U := fun U => by rw [run_string_add_sum U G Q (by first | omega | (have : (G : ByteArray).size = 314 := rfl; omega) | (have : (Q : ByteArray).size = 262146 := rfl; omega)), hJ]
      have ZE : Hid (J = Z) := by
        have q := HZ.out
        rw [if_neg (by decide), if_neg (by decide), if_pos (by trivial), hF, hG, hJ] at q
        exact q
      clear HZ
      clear hF hG hJ
      have d0 := cell_blk S4.out.1 0 (v := .int .i64 1) rfl
      have d1 := cell_blk S4.out.1 1 (v := .int .i64 cl) rfl
      have d2 := cell_blk S4.out.1 2 (v := .int .i64 op) rfl
      have d3 := cell_blk S4.out.1 3 (v := .bool true) rfl
      have d4 := cell_blk S4.out.1 4 (v := .string ke) rfl
      have d5 := cell_blk S4.out.1 5 (v := .slice va vn vc) rfl
      have d6 := cell_blk S4.out.1 6 (v := .int .i64 st) rfl
      have d7 := cell_blk S4.out.1 7 (v := .int .i64 tx) rfl
      have d8 := cell_blk S4.out.1 8 (v := .int .i64 ty) rfl
      have cv : (convert 34 9 (.slice va vn vc)).run Tryz.prog w4 = .ok (.string V) w4 := by rw [← HV.out]; exact (Reads.kept S4.out.2 RV.out (fun _ _ z => z)).string
      go_wp2_with fail
      refine (CQ.out _).mono ?_
      rintro o w5 ⟨rfl, J5⟩
      have K5 : Hid (Kept (fun _ => False) w w5) := S4.out.2.trans J5 (fun _ _ z => z)
      clear J5
      go_wp2_with fail
      go_ret
      exact ⟨by rw [← ZE.out]; first | rfl | simp, K5.out⟩
    · have rz := rz (by trivial)
      obtain ⟨F, hF⟩ : ∃ z, ⟨#[114, 101, 116, 117, 114, 110]⟩ ++ E = z := ⟨_, rfl⟩
      have zF : F.size ≤ 313 := by rw [← hF, ByteArray.size_append]; first | omega | (have : (⟨#[114, 101, 116, 117, 114, 110]⟩ : ByteArray).size = 6 := rfl; omega) | (have : (E : ByteArray).size = 307 := rfl; omega)
      have aF : ∀ U, (Op.stringOp .add ⟨#[114, 101, 116, 117, 114, 110]⟩ E).run Tryz.prog U = .ok (.string F) U := fun U => by rw [run_string_add_sum U ⟨#[114, 101, 116, 117, 114, 110]⟩ E (by first | omega | (have : (⟨#[114, 101, 116, 117, 114, 110]⟩ : ByteArray).size = 6 := rfl; omega) | (have : (E : ByteArray).size = 307 := rfl; omega)), hF]
      obtain ⟨G, hG⟩ : ∃ z, F ++ R = z := ⟨_, rfl⟩
      have zG : G.size ≤ 300313 := by rw [← hG, ByteArray.size_append]; first | omega | (have : (F : ByteArray).size = 313 := rfl; omega) | (have : (R : ByteArray).size = 300000 := rfl; omega)
      have aG : ∀ U, (Op.stringOp .add F R).run Tryz.prog U = .ok (.string G) U := fun U => by rw [run_string_add_sum U F R (by first | omega | (have : (F : ByteArray).size = 313 := rfl; omega) | (have : (R : ByteArray).size = 300000 := rfl; omega)), hG]
      have ZE : Hid (G = Z) := by
        have q := HZ.out
        rw [if_pos (by trivial), hF, hG] at q
        exact q
      clear HZ
      clear hF hG
      have d0 := cell_blk S4.out.1 0 (v := .int .i64 2) rfl
      have d1 := cell_blk S4.out.1 1 (v := .int .i64 cl) rfl
      have d2 := cell_blk S4.out.1 2 (v := .int .i64 op) rfl
      have d3 := cell_blk S4.out.1 3 (v := .bool true) rfl
      have d4 := cell_blk S4.out.1 4 (v := .string ke) rfl
      have d5 := cell_blk S4.out.1 5 (v := .slice va vn vc) rfl
      have d6 := cell_blk S4.out.1 6 (v := .int .i64 st) rfl
      have d7 := cell_blk S4.out.1 7 (v := .int .i64 tx) rfl
      have d8 := cell_blk S4.out.1 8 (v := .int .i64 ty) rfl
      go_wp2_with fail
      refine (CR.out (by trivial) _ S4.out.2).mono ?_
      rintro o w5 ⟨rfl, J5⟩
      have K5 : Hid (Kept (fun _ => False) w w5) := S4.out.2.trans J5 (fun _ _ z => z)
      clear J5
      go_wp2_with fail
      go_ret
      exact ⟨by rw [← ZE.out]; first | rfl | simp, K5.out⟩
    · obtain ⟨F, hF⟩ : ∃ z, ⟨#[99, 97, 110, 99, 101, 108]⟩ ++ E = z := ⟨_, rfl⟩
      have zF : F.size ≤ 313 := by rw [← hF, ByteArray.size_append]; first | omega | (have : (⟨#[99, 97, 110, 99, 101, 108]⟩ : ByteArray).size = 6 := rfl; omega) | (have : (E : ByteArray).size = 307 := rfl; omega)
      have aF : ∀ U, (Op.stringOp .add ⟨#[99, 97, 110, 99, 101, 108]⟩ E).run Tryz.prog U = .ok (.string F) U := fun U => by rw [run_string_add_sum U ⟨#[99, 97, 110, 99, 101, 108]⟩ E (by first | omega | (have : (⟨#[99, 97, 110, 99, 101, 108]⟩ : ByteArray).size = 6 := rfl; omega) | (have : (E : ByteArray).size = 307 := rfl; omega)), hF]
      obtain ⟨G, hG⟩ : ∃ z, F ++ ⟨#[32]⟩ = z := ⟨_, rfl⟩
      have zG : G.size ≤ 314 := by rw [← hG, ByteArray.size_append]; first | omega | (have : (F : ByteArray).size = 313 := rfl; omega) | (have : (⟨#[32]⟩ : ByteArray).size = 1 := rfl; omega)
      have aG : ∀ U, (Op.stringOp .add F ⟨#[32]⟩).run Tryz.prog U = .ok (.string G) U := fun U => by rw [run_string_add_sum U F ⟨#[32]⟩ (by first | omega | (have : (F : ByteArray).size = 313 := rfl; omega) | (have : (⟨#[32]⟩ : ByteArray).size = 1 := rfl; omega)), hG]
      obtain ⟨J, hJ⟩ : ∃ z, G ++ T = z := ⟨_, rfl⟩
      have zJ : J.size ≤ 357 := by rw [← hJ, ByteArray.size_append]; first | omega | (have : (G : ByteArray).size = 314 := rfl; omega) | (have : (T : ByteArray).size = 43 := rfl; omega)
      have aJ : ∀ U, (Op.stringOp .add G T).run Tryz.prog U = .ok (.string J) U := fun U => by rw [run_string_add_sum U G T (by first | omega | (have : (G : ByteArray).size = 314 := rfl; omega) | (have : (T : ByteArray).size = 43 := rfl; omega)), hJ]
      have ZE : Hid (J = Z) := by
        have q := HZ.out
        rw [if_neg (by decide), if_pos (by trivial), if_pos (by trivial), hF, hG, hJ] at q
        exact q
      clear HZ
      clear hF hG hJ
      have d0 := cell_blk S4.out.1 0 (v := .int .i64 3) rfl
      have d1 := cell_blk S4.out.1 1 (v := .int .i64 cl) rfl
      have d2 := cell_blk S4.out.1 2 (v := .int .i64 op) rfl
      have d3 := cell_blk S4.out.1 3 (v := .bool true) rfl
      have d4 := cell_blk S4.out.1 4 (v := .string ke) rfl
      have d5 := cell_blk S4.out.1 5 (v := .slice va vn vc) rfl
      have d6 := cell_blk S4.out.1 6 (v := .int .i64 st) rfl
      have d7 := cell_blk S4.out.1 7 (v := .int .i64 tx) rfl
      have d8 := cell_blk S4.out.1 8 (v := .int .i64 ty) rfl
      go_wp2_with fail
      refine (CX.out _).mono ?_
      rintro o w5 ⟨rfl, J5⟩
      have K5 : Hid (Kept (fun _ => False) w w5) := S4.out.2.trans J5 (fun _ _ z => z)
      clear J5
      go_wp2_with fail
      go_ret
      exact ⟨by rw [← ZE.out]; first | rfl | simp, K5.out⟩
end Go.Proofs.YtbangbobfeflcaaGreatDoor
