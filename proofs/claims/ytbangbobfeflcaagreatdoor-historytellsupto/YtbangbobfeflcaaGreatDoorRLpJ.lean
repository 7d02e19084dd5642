import Derived.Test.YtbangbobfeflcaaGreatDoorRNu
namespace Go.Proofs.YtbangbobfeflcaaGreatDoor
open Go.RowKit 

theorem text_tag {a b : Int} (h : (kIsZero a b || kIsProper a b) = true) : (⟨(textL a b).toArray⟩ : ByteArray) = tagB a b := by
  have e : (tagB a b).data.toList = Lib.itoa a ++ 46 :: Lib.itoa b := tagB_list a b
  unfold textL
  rw [if_pos h, ← e]
def resB (e : Ev) : ByteArray := if e.st = 0 then (if e.put = true then ⟨#[32, 111, 107]⟩ ++ (⟨#[32]⟩ ++ tagB e.tx e.ty) else ((⟨#[32, 111, 107]⟩ ++ (⟨#[32]⟩ ++ tagB e.tx e.ty)) ++ ⟨#[32]⟩) ++ quoB (str e.val)) else if e.st = 42 then ⟨#[32, 102, 117, 108, 108]⟩ else if e.st = 76 then ⟨#[32, 97, 98, 115, 101, 110, 116]⟩ else (⟨#[32, 119, 114, 111, 110, 103, 32]⟩ ++ itB e.st) ++ (⟨#[32]⟩ ++ tagB e.tx e.ty)
/-- The tag of an event that may be is one that may be. -/
theorem tag_val {e : Ev} (hf : faultE e = 0) : (kIsZero e.tx e.ty || kIsProper e.tx e.ty) = true := by
  obtain ⟨_, _, _, _, h5, _, _⟩ := fault_all hf
  by_cases h : formE e = 0 ∨ formE e = 1
  · obtain ⟨t1, t2⟩ := tg_zero h5 h
    rw [t1, t2]
    decide
  · exact tag_ok h5 h
theorem tagB_43 {e : Ev} (hf : faultE e = 0) : (tagB e.tx e.ty).size ≤ 43 := tagB_size (val_ok (tag_val hf)).1 (val_ok (tag_val hf)).2
set_option maxRecDepth 100000 in
set_option maxHeartbeats 2000000 in
theorem hRResult {w : World} (e : Ev) (hf : faultE e = 0) (hk : e.kind = 2) (rv : Reads w e.va e.vn e.vc e.val) : Calls Tryz.prog 76 #[e.agg] w fun o w' => o = .returned (.string (resB e)) ∧ Kept (fun _ => False) w w' := by
  obtain ⟨h1, h2, h3, h4, h5, h6, h7⟩ := fault_all hf
  have tz := tagB_43 hf
  have CX : Hid (∀ U, Calls Tryz.prog 77 #[.agg #[.int .i64 e.tx, .int .i64 e.ty]] U fun o w' => o = .returned (.string (tagB e.tx e.ty)) ∧ Kept (fun _ => False) U w') := fun U => by
    refine (rText e.tx e.ty U).mono ?_
    rintro o w1 ⟨rfl, B⟩
    rw [text_tag (tag_val hf)]
    exact ⟨rfl, kept_below B⟩
  have vz : (str e.val).size ≤ 65536 := by rw [str_size, rv.length]; exact val_le h4
  have qz := quoB_size (str e.val)
  have CQ : Hid (∀ U, Calls Tryz.prog 75 #[.string (str e.val)] U fun o w' => o = .returned (.string (quoB (str e.val))) ∧ Kept (fun _ => False) U w') := fun U => hRQuoted (str e.val) U vz
  have RV : Hid (Reads w e.va e.vn e.vc e.val) := rv
  have h8 : (e.put = true ∧ (e.st = 0 ∨ e.st = 42)) ∨ (e.put = false ∧ (e.st = 0 ∨ e.st = 76 ∨ (20 ≤ e.st ∧ e.st ≤ 26))) := by
    unfold statusE at h7
    by_cases s0 : e.st = 0
    · cases hp : e.put
      · exact .inr ⟨rfl, .inl s0⟩
      · exact .inl ⟨rfl, .inl s0⟩
    · rw [if_neg s0, if_neg (by rw [hk]; decide)] at h7
      cases hp : e.put
      · rw [hp] at h7
        have : e.st = 76 ∨ (20 ≤ e.st ∧ e.st ≤ 26) := by simpa using h7
        exact .inr ⟨rfl, .inr this⟩
      · rw [hp] at h7
        have : e.st = 42 := by simpa using h7
        exact .inl ⟨rfl, .inr this⟩
  clear h1 h2 h3 h4 h5 h6 h7 hf rv
  obtain ⟨ki, cl, op, pu, ke, va, vn, vc, st, tx, ty, val⟩ := e
  unfold resB
  simp only [Ev.agg] at hk CX CQ RV tz vz qz h8 ⊢
  subst hk
  obtain ⟨T, hT⟩ : ∃ t, tagB tx ty = t := ⟨_, rfl⟩
  obtain ⟨V, hV⟩ : ∃ t, str val = t := ⟨_, rfl⟩
  obtain ⟨Q, hQ⟩ : ∃ t, quoB (str val) = t := ⟨_, rfl⟩
  rw [hT] at CX tz ⊢
  rw [hQ] at CQ qz ⊢
  rw [hV] at CQ qz vz
  have qz : Q.size ≤ 262146 := by omega
  obtain ⟨S, hS⟩ : ∃ z, ⟨#[32]⟩ ++ T = z := ⟨_, rfl⟩
  have zS : S.size ≤ 44 := by rw [← hS, ByteArray.size_append]; first | omega | (have : (⟨#[32]⟩ : ByteArray).size = 1 := rfl; omega) | (have : (T : ByteArray).size = 43 := rfl; omega)
  have aS : ∀ U, (Op.stringOp .add ⟨#[32]⟩ T).run Tryz.prog U = .ok (.string S) U := fun U => by rw [run_string_add_sum U ⟨#[32]⟩ T (by first | omega | (have : (⟨#[32]⟩ : ByteArray).size = 1 := rfl; omega) | (have : (T : ByteArray).size = 43 := rfl; omega)), hS]
  have K0 : Hid (Kept (fun _ => False) w (w.alloc (Obj.cells #[.int .i64 2, .int .i64 cl, .int .i64 op, .bool pu, .string ke, .slice va vn vc, .int .i64 st, .int .i64 tx, .int .i64 ty] 39))) := (Kept.refl _ _).alloc _
  have B0 : Hid ((w.alloc (Obj.cells #[.int .i64 2, .int .i64 cl, .int .i64 op, .bool pu, .string ke, .slice va vn vc, .int .i64 st, .int .i64 tx, .int .i64 ty] 39)).heap[w.heap.size]? = some (.cells #[.int .i64 2, .int .i64 cl, .int .i64 op, .bool pu, .string ke, .slice va vn vc, .int .i64 st, .int .i64 tx, .int .i64 ty] 39 (0, 0))) := alloc_new _ _
  rw [hS]
  clear hT hQ hS
  have HV : Hid (str val = V) := hV
  clear hV
  rcases h8 with ⟨rfl, rfl | rfl⟩ | ⟨rfl, rfl | rfl | ⟨s1, s2⟩⟩
  · obtain ⟨X, hX⟩ : ∃ z, ⟨#[32, 111, 107]⟩ ++ S = z := ⟨_, rfl⟩
    have zX : X.size ≤ 47 := by rw [← hX, ByteArray.size_append]; first | omega | (have : (⟨#[32, 111, 107]⟩ : ByteArray).size = 3 := rfl; omega) | (have : (S : ByteArray).size = 44 := rfl; omega)
    have aX : ∀ U, (Op.stringOp .add ⟨#[32, 111, 107]⟩ S).run Tryz.prog U = .ok (.string X) U := fun U => by rw [run_string_add_sum U ⟨#[32, 111, 107]⟩ S (by first | omega | (have : (⟨#[32, 111, 107]⟩ : ByteArray).size = 3 := rfl; omega) | (have : (S : ByteArray).size = 44 := rfl; omega)), hX]
    rw [show (if (0 : Int) = 0 then (if true = true then ⟨#[32, 111, 107]⟩ ++ S else (((⟨#[32, 111, 107]⟩ ++ S) ++ ⟨#[32]⟩) ++ Q)) else if (0 : Int) = 42 then ⟨#[32, 102, 117, 108, 108]⟩ else if (0 : Int) = 76 then ⟨#[32, 97, 98, 115, 101, 110, 116]⟩ else (⟨#[32, 119, 114, 111, 110, 103, 32]⟩ ++ itB 0) ++ S) = X from hX]
    clear hX
    go_enter Tryz.func76, Tryz.ntmps76
    go_wp2_with fail
    refine (CX.out _).mono ?_
    rintro o w1 ⟨rfl, K1'⟩
    have K1 : Hid (Kept (fun _ => False) w w1) := K0.out.trans K1' (fun _ _ z => z)
    have B1 : Hid (w1.heap[w.heap.size]? = some (.cells #[.int .i64 2, .int .i64 cl, .int .i64 op, .bool true, .string ke, .slice va vn vc, .int .i64 0, .int .i64 tx, .int .i64 ty] 39 (0, 0))) := K1'.get B0.out (fun z => z)
    clear K1' CX
    have d0 := cell_blk B1.out 0 (v := .int .i64 2) rfl
    have d1 := cell_blk B1.out 1 (v := .int .i64 cl) rfl
    have d2 := cell_blk B1.out 2 (v := .int .i64 op) rfl
    have d3 := cell_blk B1.out 3 (v := .bool true) rfl
    have d4 := cell_blk B1.out 4 (v := .string ke) rfl
    have d5 := cell_blk B1.out 5 (v := .slice va vn vc) rfl
    have d6 := cell_blk B1.out 6 (v := .int .i64 0) rfl
    have d7 := cell_blk B1.out 7 (v := .int .i64 tx) rfl
    have d8 := cell_blk B1.out 8 (v := .int .i64 ty) rfl
    go_wp2_with fail
    go_ret
    exact ⟨by first | rfl | simp, K1.out⟩
  · rw [show (if (42 : Int) = 0 then (if true = true then ⟨#[32, 111, 107]⟩ ++ S else (((⟨#[32, 111, 107]⟩ ++ S) ++ ⟨#[32]⟩) ++ Q)) else if (42 : Int) = 42 then ⟨#[32, 102, 117, 108, 108]⟩ else if (42 : Int) = 76 then ⟨#[32, 97, 98, 115, 101, 110, 116]⟩ else (⟨#[32, 119, 114, 111, 110, 103, 32]⟩ ++ itB 42) ++ S) = ⟨#[32, 102, 117, 108, 108]⟩ from rfl]
    go_enter Tryz.func76, Tryz.ntmps76
    go_wp2_with fail
    refine (CX.out _).mono ?_
    rintro o w1 ⟨rfl, K1'⟩
    have K1 : Hid (Kept (fun _ => False) w w1) := K0.out.trans K1' (fun _ _ z => z)
    have B1 : Hid (w1.heap[w.heap.size]? = some (.cells #[.int .i64 2, .int .i64 cl, .int .i64 op, .bool true, .string ke, .slice va vn vc, .int .i64 42, .int .i64 tx, .int .i64 ty] 39 (0, 0))) := K1'.get B0.out (fun z => z)
    clear K1' CX
    have d0 := cell_blk B1.out 0 (v := .int .i64 2) rfl
    have d1 := cell_blk B1.out 1 (v := .int .i64 cl) rfl
    have d2 := cell_blk B1.out 2 (v := .int .i64 op) rfl
    have d3 := cell_blk B1.out 3 (v := .bool true) rfl
    have d4 := cell_blk B1.out 4 (v := .string ke) rfl
    have d5 := cell_blk B1.out 5 (v := .slice va vn vc) rfl
    have d6 := cell_blk B1.out 6 (v := .int .i64 42) rfl
    have d7 := cell_blk B1.out 7 (v := .int .i64 tx) rfl
    have d8 := cell_blk B1.out 8 (v := .int .i64 ty) rfl
    go_wp2_with fail
    go_ret
    exact ⟨by first | rfl | simp, K1.out⟩
  · obtain ⟨X, hX⟩ : ∃ z, ⟨#[32, 111, 107]⟩ ++ S = z := ⟨_, rfl⟩
    have zX : X.size ≤ 47 := by rw [← hX, ByteArray.size_append]; first | omega | (have : (⟨#[32, 111, 107]⟩ : ByteArray).size = 3 := rfl; omega) | (have : (S : ByteArray).size = 44 := rfl; omega)
    have aX : ∀ U, (Op.stringOp .add ⟨#[32, 111, 107]⟩ S).run Tryz.prog U = .ok (.string X) U := fun U => by rw [run_string_add_sum U ⟨#[32, 111, 107]⟩ S (by first | omega | (have : (⟨#[32, 111, 107]⟩ : ByteArray).size = 3 := rfl; omega) | (have : (S : ByteArray).size = 44 := rfl; omega)), hX]
    obtain ⟨Y, hY⟩ : ∃ z, X ++ ⟨#[32]⟩ = z := ⟨_, rfl⟩
    have zY : Y.size ≤ 48 := by rw [← hY, ByteArray.size_append]; first | omega | (have : (X : ByteArray).size = 47 := rfl; omega) | (have : (⟨#[32]⟩ : ByteArray).size = 1 := rfl; omega)
    have aY : ∀ U, (Op.stringOp .add X ⟨#[32]⟩).run Tryz.prog U = .ok (.string Y) U := fun U => by rw [run_string_add_sum U X ⟨#[32]⟩ (by first | omega | (have : (X : ByteArray).size = 47 := rfl; omega) | (have : (⟨#[32]⟩ : ByteArray).size = 1 := rfl; omega)), hY]
    obtain ⟨Z, hZ⟩ : ∃ z, Y ++ Q = z := ⟨_, rfl⟩
    have zZ : Z.size ≤ 262194 := by rw [← hZ, ByteArray.size_append]; first | omega | (have : (Y : ByteArray).size = 48 := rfl; omega) | (have : (Q : ByteArray).size = 262146 := rfl; omega)
    have aZ : ∀ U, (Op.stringOp .add Y Q).run Tryz.prog U = .ok (.string Z) U := fun U => by rw [run_string_add_sum U Y Q (by first | omega | (have : (Y : ByteArray).size = 48 := rfl; omega) | (have : (Q : ByteArray).size = 262146 := rfl; omega)), hZ]
    rw [show (if (0 : Int) = 0 then (if false = true then ⟨#[32, 111, 107]⟩ ++ S else (((⟨#[32, 111, 107]⟩ ++ S) ++ ⟨#[32]⟩) ++ Q)) else if (0 : Int) = 42 then ⟨#[32, 102, 117, 108, 108]⟩ else if (0 : Int) = 76 then ⟨#[32, 97, 98, 115, 101, 110, 116]⟩ else (⟨#[32, 119, 114, 111, 110, 103, 32]⟩ ++ itB 0) ++ S) = Z from by rw [if_pos rfl, if_neg (by decide), hX, hY, hZ]]
    clear hX hY hZ
    go_enter Tryz.func76, Tryz.ntmps76
    go_wp2_with fail
    refine (CX.out _).mono ?_
    rintro o w1 ⟨rfl, K1'⟩
    have K1 : Hid (Kept (fun _ => False) w w1) := K0.out.trans K1' (fun _ _ z => z)
    have B1 : Hid (w1.heap[w.heap.size]? = some (.cells #[.int .i64 2, .int .i64 cl, .int .i64 op, .bool false, .string ke, .slice va vn vc, .int .i64 0, .int .i64 tx, .int .i64 ty] 39 (0, 0))) := K1'.get B0.out (fun z => z)
    clear K1' CX
    have d0 := cell_blk B1.out 0 (v := .int .i64 2) rfl
    have d1 := cell_blk B1.out 1 (v := .int .i64 cl) rfl
    have d2 := cell_blk B1.out 2 (v := .int .i64 op) rfl
    have d3 := cell_blk B1.out 3 (v := .bool false) rfl
    have d4 := cell_blk B1.out 4 (v := .string ke) rfl
    have d5 := cell_blk B1.out 5 (v := .slice va vn vc) rfl
    have d6 := cell_blk B1.out 6 (v := .int .i64 0) rfl
    have d7 := cell_blk B1.out 7 (v := .int .i64 tx) rfl
    have d8 := cell_blk B1.out 8 (v := .int .i64 ty) rfl
    have cv : (convert 34 9 (.slice va vn vc)).run Tryz.prog w1 = .ok (.string V) w1 := by rw [← HV.out]; exact (Reads.kept K1.out RV.out (fun _ _ z => z)).string
    go_wp2_with fail
    refine (CQ.out _).mono ?_
    rintro o w2 ⟨rfl, K2'⟩
    have K2 : Hid (Kept (fun _ => False) w w2) := K1.out.trans K2' (fun _ _ z => z)
    clear K2'
    go_wp2_with fail
    go_ret
    exact ⟨by first | rfl | simp, K2.out⟩
  · rw [show (if (76 : Int) = 0 then (if false = true then ⟨#[32, 111, 107]⟩ ++ S else (((⟨#[32, 111, 107]⟩ ++ S) ++ ⟨#[32]⟩) ++ Q)) else if (76 : Int) = 42 then ⟨#[32, 102, 117, 108, 108]⟩ else if (76 : Int) = 76 then ⟨#[32, 97, 98, 115, 101, 110, 116]⟩ else (⟨#[32, 119, 114, 111, 110, 103, 32]⟩ ++ itB 76) ++ S) = ⟨#[32, 97, 98, 115, 101, 110, 116]⟩ from rfl]
    go_enter Tryz.func76, Tryz.ntmps76
    go_wp2_with fail
    refine (CX.out _).mono ?_
    rintro o w1 ⟨rfl, K1'⟩
    have K1 : Hid (Kept (fun _ => False) w w1) := K0.out.trans K1' (fun _ _ z => z)
    have B1 : Hid (w1.heap[w.heap.size]? = some (.cells #[.int .i64 2, .int .i64 cl, .int .i64 op, .bool false, .string ke, .slice va vn vc, .int .i64 76, .int .i64 tx, .int .i64 ty] 39 (0, 0))) := K1'.get B0.out (fun z => z)
    clear K1' CX
    have d0 := cell_blk B1.out 0 (v := .int .i64 2) rfl
    have d1 := cell_blk B1.out 1 (v := .int .i64 cl) rfl
    have d2 := cell_blk B1.out 2 (v := .int .i64 op) rfl
    have d3 := cell_blk B1.out 3 (v := .bool false) rfl
    have d4 := cell_blk B1.out 4 (v := .string ke) rfl
    have d5 := cell_blk B1.out 5 (v := .slice va vn vc) rfl
    have d6 := cell_blk B1.out 6 (v := .int .i64 76) rfl
    have d7 := cell_blk B1.out 7 (v := .int .i64 tx) rfl
    have d8 := cell_blk B1.out 8 (v := .int .i64 ty) rfl
    go_wp2_with fail
    go_ret
    exact ⟨by first | rfl | simp, K1.out⟩
  · have nz : ¬ st = 0 := by omega
    have n42 : ¬ st = 42 := by omega
    have n76 : ¬ st = 76 := by omega
    rw [if_neg nz, if_neg n42, if_neg n76]
    obtain ⟨m, rfl⟩ : ∃ m : Nat, st = (m : Int) := ⟨st.toNat, by omega⟩
    have m1 : m < 27 := by omega
    have CN : Hid (∀ U, Calls Tryz.prog 74 #[.int .i64 (m : Int)] U fun o w' => o = .returned (.string (itB (m : Int))) ∧ Kept (fun _ => False) U w') := fun U => by
      have q := hRNum (m + 1) m (by omega) (by omega) U
      rw [decB_it] at q
      exact q
    have iz := itB_size (m : Int) ⟨by omega, by omega⟩
    obtain ⟨I, hI⟩ : ∃ t, itB (m : Int) = t := ⟨_, rfl⟩
    rw [hI] at CN iz ⊢
    obtain ⟨X, hX⟩ : ∃ z, ⟨#[32, 119, 114, 111, 110, 103, 32]⟩ ++ I = z := ⟨_, rfl⟩
    have zX : X.size ≤ 28 := by rw [← hX, ByteArray.size_append]; first | omega | (have : (⟨#[32, 119, 114, 111, 110, 103, 32]⟩ : ByteArray).size = 7 := rfl; omega) | (have : (I : ByteArray).size = 21 := rfl; omega)
    have aX : ∀ U, (Op.stringOp .add ⟨#[32, 119, 114, 111, 110, 103, 32]⟩ I).run Tryz.prog U = .ok (.string X) U := fun U => by rw [run_string_add_sum U ⟨#[32, 119, 114, 111, 110, 103, 32]⟩ I (by first | omega | (have : (⟨#[32, 119, 114, 111, 110, 103, 32]⟩ : ByteArray).size = 7 := rfl; omega) | (have : (I : ByteArray).size = 21 := rfl; omega)), hX]
    obtain ⟨Y, hY⟩ : ∃ z, X ++ S = z := ⟨_, rfl⟩
    have zY : Y.size ≤ 72 := by rw [← hY, ByteArray.size_append]; first | omega | (have : (X : ByteArray).size = 28 := rfl; omega) | (have : (S : ByteArray).size = 44 := rfl; omega)
    have aY : ∀ U, (Op.stringOp .add X S).run Tryz.prog U = .ok (.string Y) U := fun U => by rw [run_string_add_sum U X S (by first | omega | (have : (X : ByteArray).size = 28 := rfl; omega) | (have : (S : ByteArray).size = 44 := rfl; omega)), hY]
    rw [hX, hY]
    have e0 : ((m : Int) == 0) = false := by rw [beq_eq_false_iff_ne]; exact nz
    have e42 : ((m : Int) == 42) = false := by rw [beq_eq_false_iff_ne]; exact n42
    have e76 : ((m : Int) == 76) = false := by rw [beq_eq_false_iff_ne]; exact n76
    clear hX hY hI nz n42 n76 s1 s2
    go_enter Tryz.func76, Tryz.ntmps76
    go_wp2_with fail
    refine (CX.out _).mono ?_
    rintro o w1 ⟨rfl, K1'⟩
    have K1 : Hid (Kept (fun _ => False) w w1) := K0.out.trans K1' (fun _ _ z => z)
    have B1 : Hid (w1.heap[w.heap.size]? = some (.cells #[.int .i64 2, .int .i64 cl, .int .i64 op, .bool false, .string ke, .slice va vn vc, .int .i64 (m : Int), .int .i64 tx, .int .i64 ty] 39 (0, 0))) := K1'.get B0.out (fun z => z)
    clear K1' CX
    have d0 := cell_blk B1.out 0 (v := .int .i64 2) rfl
    have d1 := cell_blk B1.out 1 (v := .int .i64 cl) rfl
    have d2 := cell_blk B1.out 2 (v := .int .i64 op) rfl
    have d3 := cell_blk B1.out 3 (v := .bool false) rfl
    have d4 := cell_blk B1.out 4 (v := .string ke) rfl
    have d5 := cell_blk B1.out 5 (v := .slice va vn vc) rfl
    have d6 := cell_blk B1.out 6 (v := .int .i64 (m : Int)) rfl
    have d7 := cell_blk B1.out 7 (v := .int .i64 tx) rfl
    have d8 := cell_blk B1.out 8 (v := .int .i64 ty) rfl
    go_wp2_with fail
    refine (CN.out _).mono ?_
    rintro o w2 ⟨rfl, K2'⟩
    have K2 : Hid (Kept (fun _ => False) w w2) := K1.out.trans K2' (fun _ _ z => z)
    clear K2'
    go_wp2_with fail
    go_ret
    exact ⟨by first | rfl | simp, K2.out⟩
end Go.Proofs.YtbangbobfeflcaaGreatDoor

namespace Go.Proofs.YtbangbobfeflcaaGreatDoor
open Go.RowKit 

def wdB (e : Ev) : ByteArray := ((((⟨#[32]⟩ ++ itB e.client) ++ ⟨#[32]⟩) ++ itB e.op) ++ (if e.put = true then ⟨#[32, 112, 117, 116, 32]⟩ else ⟨#[32, 103, 101, 116, 32]⟩)) ++ quoB e.key
def lnB (e : Ev) : ByteArray := if e.kind = 2 then (⟨#[114, 101, 116, 117, 114, 110]⟩ ++ wdB e) ++ resB e else if e.kind = 3 then (if e.put = true then ((⟨#[99, 97, 110, 99, 101, 108]⟩ ++ wdB e) ++ ⟨#[32]⟩) ++ tagB e.tx e.ty else ⟨#[99, 97, 110, 99, 101, 108]⟩ ++ wdB e) else if e.put = true then ((⟨#[105, 110, 118, 111, 107, 101]⟩ ++ wdB e) ++ ⟨#[32]⟩) ++ quoB (str e.val) else ⟨#[105, 110, 118, 111, 107, 101]⟩ ++ wdB e
theorem ba_eq {a b : ByteArray} (h : a.data.toList = b.data.toList) : a = b := ByteArray.ext (Array.toList_inj.1 h)
theorem line_doc {e : Ev} (hf : faultE e = 0) : lnB e = lineB e := by
  obtain ⟨h1, _, _, _, _, _, h7⟩ := fault_all hf
  apply ba_eq
  unfold lnB lineB lineW wdB resB formE formR
  obtain ⟨ki, cl, op, pu, ke, va, vn, vc, st, tx, ty, val⟩ := e
  simp only at h1 h7 ⊢
  unfold statusE at h7
  simp only at h7
  rcases h1 with rfl | rfl | rfl
  · cases pu <;> simp [joinB_list, joinB_one, kwB]
  · by_cases s0 : st = 0
    · subst s0
      cases pu <;> simp [joinB_list, joinB_one, kwB, endB]
    · rw [if_neg s0] at h7
      cases pu
      · have q : st = 76 ∨ (20 ≤ st ∧ st ≤ 26) := by simpa using h7
        rcases q with rfl | ⟨q1, q2⟩
        · simp [joinB_list, joinB_one, kwB, endB]
        · have n42 : ¬ st = 42 := by omega
          have n76 : ¬ st = 76 := by omega
          simp [joinB_list, joinB_one, kwB, endB, s0, n42, n76]
      · have q : st = 42 := by simpa using h7
        subst q
        simp [joinB_list, joinB_one, kwB, endB]
  · cases pu <;> simp [joinB_list, joinB_one, kwB]
end Go.Proofs.YtbangbobfeflcaaGreatDoor
