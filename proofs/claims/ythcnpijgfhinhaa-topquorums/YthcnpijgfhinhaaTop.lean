import Derived.Test.YthcnpijgfhinhaaTopFill
import Derived.Test.YthcnpijgfhinhaaMeets
namespace Go.Proofs.Ythcnpijgfhinhaa
open Go.RowKit

set_option maxRecDepth 100000 in
set_option maxHeartbeats 4000000 in
theorem top_not (N K D : Int) (a1 a2 : Option Addr) (len1 cap1 len2 cap2 : Nat) (w : World) (h : ¬ okC N K D) :
    Calls Try.prog 7 #[.agg #[.int .i64 N, .int .i64 K, .int .i64 D], .slice a1 len1 cap1, .slice a2 len2 cap2] w fun x w' => x = .returned (.bool true) ∧ Below w.heap.size w w' := by
  have H : Hid (¬ okC N K D) := h
  clear h
  have C0 : Hid (Cf w (w.alloc (Obj.cells #[.int .i64 N, .int .i64 K, .int .i64 D] 23)) N K D) := Cf.start w N K D
  go_enter Try.func7, Try.ntmps7
  go_wp2_with fail
  refine (size_not N K D _ H.out).mono ?_
  rintro e w1 ⟨rfl, b1⟩
  have C1 : Hid (Cf w w1 N K D) := C0.out.by b1
  clear b1 C0
  obtain ⟨q0, q1, q2⟩ := C1.out.cells
  go_wp2_with fail
  refine (fits N K D _).mono ?_
  rw [(okB_not N K D).2 H.out]
  rintro e w2 ⟨rfl, b2⟩
  have C2 : Hid (Cf w w2 N K D) := C1.out.by b2
  clear b2 C1 q0 q1 q2
  obtain ⟨q0, q1, q2⟩ := C2.out.cells
  go_wp2_with fail
  refine (new_not N K D _ H.out).mono ?_
  rintro e w3 ⟨rfl, b3⟩
  have C3 : Hid (Cf w w3 N K D) := C2.out.by b3
  clear b3 C2 q0 q1 q2
  go_wp2_with fail
  refine (size_ok 3 2 0 _ (by unfold okC; omega)).mono ?_
  have e3 : quo 3 2 = 3 := by decide
  rw [e3]
  rintro e w4 ⟨rfl, b4⟩
  have B4 : Hid (Below w.heap.size w w4) := C3.out.bel.trans (b4.mono C3.out.bel.size)
  clear b4 C3
  go_wp2_with fail
  go_ret
  exact ⟨rfl, B4.out⟩
set_option maxRecDepth 100000 in
set_option maxHeartbeats 4000000 in
theorem top_ok (N K D : Int) (a1 a2 : Option Addr) (len1 cap1 len2 cap2 : Nat) (l1 l2 : List Int) (w : World) (h : okC N K D) (r1 : IReads w a1 len1 cap1 l1) (r2 : IReads w a2 len2 cap2 l2) :
    Calls Try.prog 7 #[.agg #[.int .i64 N, .int .i64 K, .int .i64 D], .slice a1 len1 cap1, .slice a2 len2 cap2] w fun x w' => x = .returned (.bool true) ∧ Below w.heap.size w w' := by
  have OK : Hid (okC N K D) := h
  clear h
  have R1 : Hid (IReads w a1 len1 cap1 l1) := r1
  have R2 : Hid (IReads w a2 len2 cap2 l2) := r2
  clear r1 r2
  have C0 : Hid (Cf w (w.alloc (Obj.cells #[.int .i64 N, .int .i64 K, .int .i64 D] 23)) N K D) := Cf.start w N K D
  obtain ⟨Q1, Q2, Q3, Q4⟩ := quo_low N K D OK.out
  obtain ⟨qv, hq⟩ : ∃ x, quo N K = x := ⟨_, rfl⟩
  have HQ : Hid (quo N K = qv) := hq
  rw [hq] at Q1 Q2 Q3 Q4
  clear hq
  have nb : 1 ≤ K ∧ K ≤ N ∧ N ≤ 255 := ⟨OK.out.1, OK.out.2.1, OK.out.2.2.1⟩
  go_enter Try.func7, Try.ntmps7
  go_wp2_with fail
  refine (size_ok N K D _ OK.out).mono ?_
  rw [HQ.out]
  rintro e w1 ⟨rfl, b1⟩
  have C1 : Hid (Cf w w1 N K D) := C0.out.by b1
  clear b1 C0
  obtain ⟨q0, q1, q2⟩ := C1.out.cells
  go_wp2_with fail
  refine (fits N K D _).mono ?_
  rw [(okB_iff N K D).2 OK.out]
  rintro e w2 ⟨rfl, b2⟩
  have C2 : Hid (Cf w w2 N K D) := C1.out.by b2
  clear b2 C1 q0 q1 q2
  obtain ⟨q0, q1, q2⟩ := C2.out.cells
  go_wp2_with fail
  refine (down_ok N K D _ OK.out).mono ?_
  rw [HQ.out]
  rintro e w3 ⟨rfl, b3⟩
  have C3 : Hid (Cf w w3 N K D) := C2.out.by b3
  clear b3 C2 q0 q1 q2
  obtain ⟨q0, q1, q2⟩ := C3.out.cells
  go_wp2_with fail
  refine (quorumOf N K D _ OK.out).mono ?_
  rw [HQ.out]
  rintro e w4 ⟨rfl, b4⟩
  have C4 : Hid (Cf w w4 N K D) := C3.out.by b4
  clear b4 C3 q0 q1 q2
  obtain ⟨q0, q1, q2⟩ := C4.out.cells
  have eNq : N - (N - qv) = qv := by omega
  have eNq2 : IntKind.i64.wrap (qv - 1) = qv - 1 := by rw [IntKind.wrap_i64]; omega
  go_upto_region 9 with fail
  go_wp2_with fail
  refine (new_ok N K D _ OK.out).mono ?_
  rintro e w11 ⟨A, hA, rfl, hS, b11⟩
  have CB : Hid (Cf w w11 N K D ∧ IsS w11 A N K D (fun _ => false) ∧ w.heap.size < A) := ⟨C4.out.by b11, hS, by have := block_lt C4.out.blk; omega⟩
  clear b11 C4 q0 q1 q2 hS hA
  obtain ⟨q0, q1, q2⟩ := CB.out.1.cells
  go_wp2_with fail
  refine (new_ok N K D _ OK.out).mono ?_
  rintro e w12 ⟨B, hB, rfl, hS, b12⟩
  have CC : Hid (Sh w w12 N K D A B (lset [] N) (lset [] N)) := by
    rw [lset_nil]
    exact ⟨CB.out.1.by b12, CB.out.2.1.by b12, hS, CB.out.2.2, by have := CB.out.2.1.lt; omega⟩
  clear b12 CB q0 q1 q2 hS hB eNq eNq2
  go_upto_region 13 with fail
  go_cut [19, 20] from 120 to 127 (fun x y wc => x = .int .i64 (sz (lset l1 N) N : Int) ∧ y = .int .i64 (sz (lset l2 N) N : Int) ∧ Hid (Sh w wc N K D A B (lset l1 N) (lset l2 N)))
  case first =>
    obtain ⟨q0, q1, q2⟩ := CC.out.cf.cells
    have ST : Hid (Sh w w12.drew N K D A B (lset [] N) (lset [] N)) := CC.out.by ((Below.refl _ _).drew)
    have F1 : Hid (∀ wx m, Sh w wx N K D A B (lset [] N) m → Calls Try.prog 32 #[.pointer (some ⟨A, 0, none⟩), .agg #[.int .i64 N, .int .i64 K, .int .i64 D], .slice a1 len1 cap1] wx fun x w' => x = .returned (.int .i64 (sz (lset l1 N) N : Int)) ∧ Hid (Sh w w' N K D A B (lset l1 N) m)) := fun wx m S =>
      (fill A N K D a1 len1 cap1 l1 wx S.s1 (R1.out.by S.cf.bel) (R1.out.far (Nat.le_of_lt S.h1))).mono (fun x w' ⟨he, h1, h2⟩ => ⟨he, S.add1 h1 h2⟩)
    have F2 : Hid (∀ wx m, Sh w wx N K D A B m (lset [] N) → Calls Try.prog 32 #[.pointer (some ⟨B, 0, none⟩), .agg #[.int .i64 N, .int .i64 K, .int .i64 D], .slice a2 len2 cap2] wx fun x w' => x = .returned (.int .i64 (sz (lset l2 N) N : Int)) ∧ Hid (Sh w w' N K D A B m (lset l2 N))) := fun wx m S =>
      (fill B N K D a2 len2 cap2 l2 wx S.s2 (R2.out.by S.cf.bel) (R2.out.far (by have := S.h1; have := S.h2; omega))).mono (fun x w' ⟨he, h1, h2⟩ => ⟨he, S.add2 h1 h2⟩)
    clear CC R1 R2
    go_region_held3 (fun w' => w'.cell? ⟨w.heap.size, 0, none⟩ = some (.int .i64 N) ∧ w'.cell? ⟨w.heap.size, 1, none⟩ = some (.int .i64 K) ∧ w'.cell? ⟨w.heap.size, 2, none⟩ = some (.int .i64 D)) (go_keep)
      (first | (go_at_call_of 32 (Value.pointer (some ⟨A, 0, none⟩)); refine (F1.out _ _ ST.out).mono ?_; rintro x w2 ⟨rfl, S2⟩; clear ST; have ST := S2; obtain ⟨q0, q1, q2⟩ := S2.out.cf.cells; clear S2) | (go_at_call_of 32 (Value.pointer (some ⟨B, 0, none⟩)); refine (F2.out _ _ ST.out).mono ?_; rintro x w2 ⟨rfl, S2⟩; clear ST; have ST := S2; obtain ⟨q0, q1, q2⟩ := S2.out.cf.cells; clear S2) | fail)
    all_goals go_wp2_with fail
    all_goals go_meet
    all_goals exact ⟨rfl, rfl, ST⟩
  case rest =>
  clear CC
  obtain ⟨rfl, rfl, S1⟩ := hcut
  obtain ⟨z1, hz1⟩ : ∃ z, sz (lset l1 N) N = z := ⟨_, rfl⟩
  obtain ⟨z2, hz2⟩ : ∃ z, sz (lset l2 N) N = z := ⟨_, rfl⟩
  have ME1 : Hid (metB (lset l1 N) N K = decide (qv ≤ (z1 : Int))) := by
    show metB (lset l1 N) N K = decide (qv ≤ (z1 : Int))
    unfold metB; rw [HQ.out, hz1]
  have ME2 : Hid (metB (lset l2 N) N K = decide (qv ≤ (z2 : Int))) := by
    show metB (lset l2 N) N K = decide (qv ≤ (z2 : Int))
    unfold metB; rw [HQ.out, hz2]
  have zl1 : z1 ≤ N.toNat := hz1 ▸ sz_le _ _
  have zl2 : z2 ≤ N.toNat := hz2 ▸ sz_le _ _
  have zb : z1 ≤ 255 ∧ z2 ≤ 255 := by omega
  have cL1 : Hid (∀ wx, Sh w wx N K D A B (lset l1 N) (lset l2 N) → Calls Try.prog 18 #[.pointer (some ⟨A, 0, none⟩)] wx fun x w' => x = .returned (.int .i64 (z1 : Int)) ∧ Hid (Sh w w' N K D A B (lset l1 N) (lset l2 N))) := fun wx S => (len wx S.s1).mono (fun x w' ⟨he, hw⟩ => by rw [hz1] at he; exact ⟨he, hw ▸ S⟩)
  have cL2 : Hid (∀ wx, Sh w wx N K D A B (lset l1 N) (lset l2 N) → Calls Try.prog 18 #[.pointer (some ⟨B, 0, none⟩)] wx fun x w' => x = .returned (.int .i64 (z2 : Int)) ∧ Hid (Sh w w' N K D A B (lset l1 N) (lset l2 N))) := fun wx S => (len wx S.s2).mono (fun x w' ⟨he, hw⟩ => by rw [hz2] at he; exact ⟨he, hw ▸ S⟩)
  have cM1 : Hid (∀ wx, Sh w wx N K D A B (lset l1 N) (lset l2 N) → Calls Try.prog 17 #[.pointer (some ⟨A, 0, none⟩)] wx fun x w' => x = .returned (.bool (decide (qv ≤ (z1 : Int)))) ∧ Hid (Sh w w' N K D A B (lset l1 N) (lset l2 N))) := fun wx S => (met wx S.s1).mono (fun x w' ⟨he, hw⟩ => by rw [ME1.out] at he; exact ⟨he, S.by hw⟩)
  have cM2 : Hid (∀ wx, Sh w wx N K D A B (lset l1 N) (lset l2 N) → Calls Try.prog 17 #[.pointer (some ⟨B, 0, none⟩)] wx fun x w' => x = .returned (.bool (decide (qv ≤ (z2 : Int)))) ∧ Hid (Sh w w' N K D A B (lset l1 N) (lset l2 N))) := fun wx S => (met wx S.s2).mono (fun x w' ⟨he, hw⟩ => by rw [ME2.out] at he; exact ⟨he, S.by hw⟩)
  obtain ⟨zr, hzr⟩ : ∃ z, (pick (lset l1 N) false N.toNat).length = z := ⟨_, rfl⟩
  have zrN : (zr : Int) = N - (z1 : Int) := by
    have c := cnt_false (lset l1 N) N.toNat
    rw [← pick_length, hzr] at c
    have : Q.cnt (lset l1 N) N.toNat = z1 := hz1
    omega
  have cR1 : Hid (∀ wx, Sh w wx N K D A B (lset l1 N) (lset l2 N) → Calls Try.prog 15 #[.pointer (some ⟨A, 0, none⟩)] wx fun x w' => ∃ a c, x = .returned (.slice a zr c) ∧ Hid (Sh w w' N K D A B (lset l1 N) (lset l2 N))) := fun wx S => (rest wx S.s1).mono (fun x w' ⟨v, he, ho, hb⟩ => by
    obtain ⟨a, c, rfl, _, _⟩ := owns_ireads ho
    rw [hzr] at he
    exact ⟨a, c, he, S.by hb⟩)
  rw [hz1, hz2]
  have HZ : Hid (sz (lset l1 N) N = z1 ∧ sz (lset l2 N) N = z2) := ⟨hz1, hz2⟩
  clear hz1 hz2 hzr
  go_upto_region 14 with fail
  go_cut [171] from 128 to 170 (fun x wc => x = .bool false ∧ Hid (Sh w wc N K D A B (lset l1 N) (lset l2 N)))
  case first =>
    obtain ⟨q0, q1, q2⟩ := S1.out.cf.cells
    have ST : Hid (Sh w wc.drew N K D A B (lset l1 N) (lset l2 N)) := S1.out.by ((Below.refl _ _).drew)
    have e1 : N - (z1 : Int) = (zr : Int) := zrN.symm
    have e2 : IntKind.i64.wrap (zr : Int) = (zr : Int) := by rw [IntKind.wrap_i64]; omega
    clear S1 HZ ME1 ME2 R1 R2 zrN
    go_region_held3 (fun w' => w'.cell? ⟨w.heap.size, 0, none⟩ = some (.int .i64 N)) (go_keep)
      (first | (go_at_call_of 18 (Value.pointer (some ⟨A, 0, none⟩)); refine (cL1.out _ ST.out).mono ?_; rintro x w2 ⟨rfl, S2⟩; clear ST; have ST := S2; obtain ⟨q0, q1, q2⟩ := S2.out.cf.cells; clear S2) | (go_at_call_of 18 (Value.pointer (some ⟨B, 0, none⟩)); refine (cL2.out _ ST.out).mono ?_; rintro x w2 ⟨rfl, S2⟩; clear ST; have ST := S2; obtain ⟨q0, q1, q2⟩ := S2.out.cf.cells; clear S2) | (go_at_call_of 17 (Value.pointer (some ⟨A, 0, none⟩)); refine (cM1.out _ ST.out).mono ?_; rintro x w2 ⟨rfl, S2⟩; clear ST; have ST := S2; obtain ⟨q0, q1, q2⟩ := S2.out.cf.cells; clear S2) | (go_at_call_of 17 (Value.pointer (some ⟨B, 0, none⟩)); refine (cM2.out _ ST.out).mono ?_; rintro x w2 ⟨rfl, S2⟩; clear ST; have ST := S2; obtain ⟨q0, q1, q2⟩ := S2.out.cf.cells; clear S2) | (go_at_call 15; refine (cR1.out _ ST.out).mono ?_; rintro x w2 ⟨ra, rc, rfl, S2⟩; clear ST; have ST := S2; obtain ⟨q0, q1, q2⟩ := S2.out.cf.cells; clear S2) | fail)
    all_goals go_wp2_with fail
    all_goals go_meet
    all_goals exact ⟨by simp, ST⟩
  case rest =>
  clear S1 cL1 cL2 cR1
  obtain ⟨rfl, S2⟩ := hcut
  go_wp2_with fail
  refine (and_same _ S2.out.s1 S2.out.s2).mono ?_
  rintro e w7 ⟨X, hX, rfl, hS, b7⟩
  have C7 : Hid (Sh w w7 N K D A B (lset l1 N) (lset l2 N) ∧ IsS w7 X N K D (fun i => lset l1 N i && lset l2 N i)) := ⟨S2.out.by b7, hS⟩
  clear b7 S2 hS hX zrN
  obtain ⟨q0, q1, q2⟩ := C7.out.1.cf.cells
  have T1 : Hid (IReads w7 a1 len1 cap1 l1) := R1.out.by C7.out.1.cf.bel
  have T2 : Hid (IReads w7 a2 len2 cap2 l2) := R2.out.by C7.out.1.cf.bel
  clear R1 R2
  go_wp2_with fail
  go_loopw [23, 24, 25] (fun s23 s24 _ wr => ∃ i n : Nat, s24 = .int .i64 (i : Int) ∧ s23 = .int .i64 (n : Int) ∧ (i : Int) ≤ N ∧ n ≤ i ∧ Hid (n = Q.cnt (fun i => lset l1 N i && lset l2 N i) i ∧ wr = w7)) (fun _ s24 _ _ => N.toNat - (intOf s24).toNat)
  case atStart => exact ⟨0, 0, rfl, rfl, by omega, by omega, rfl, rfl⟩
  case round =>
    obtain ⟨i, n, rfl, rfl, hi, hn, H⟩ := hrel
    obtain ⟨hc, rfl⟩ := H.out
    clear H
    by_cases hlt : (i : Int) < N
    · have mb : memI (fun i => lset l1 N i && lset l2 N i) (i : Int) = (decide ((i : Int) ∈ l1) && decide ((i : Int) ∈ l2)) := by
        unfold memI lset; simp [hlt]
      have cn : Q.cnt (fun i => lset l1 N i && lset l2 N i) (i + 1) = n + (decide ((i : Int) ∈ l1) && decide ((i : Int) ∈ l2)).toNat := by
        simp only [Q.cnt]; rw [← hc]; unfold lset; simp [hlt]
      clear hc
      cases d1 : decide ((i : Int) ∈ l1)
      · rw [d1] at mb cn
        have CN : Hid (n = Q.cnt (fun i => lset l1 N i && lset l2 N i) (i + 1)) := cn.symm
        clear cn
        go_wp2_with fail
        refine (hasInt _ _ _ _ _ _ T1.out).mono ?_
        rw [d1]
        rintro e w8 ⟨rfl, rfl⟩
        go_wp2_with fail
        refine (has _ _ C7.out.2).mono ?_
        rw [mb]
        rintro e w9 ⟨rfl, rfl⟩
        clear mb
        go_wp2_with fail
        go_roundw
        case rel => exact ⟨i + 1, n, by go_num, rfl, by omega, by omega, CN.out, trivial⟩
        case measure => simp [intOf]; omega
      · cases d2 : decide ((i : Int) ∈ l2)
        · rw [d1, d2] at mb cn
          have CN : Hid (n = Q.cnt (fun i => lset l1 N i && lset l2 N i) (i + 1)) := cn.symm
          clear cn
          go_wp2_with fail
          refine (hasInt _ _ _ _ _ _ T1.out).mono ?_
          rw [d1]
          rintro e w8 ⟨rfl, rfl⟩
          go_wp2_with fail
          refine (hasInt _ _ _ _ _ _ T2.out).mono ?_
          rw [d2]
          rintro e w8 ⟨rfl, rfl⟩
          go_wp2_with fail
          refine (has _ _ C7.out.2).mono ?_
          rw [mb]
          rintro e w9 ⟨rfl, rfl⟩
          clear mb
          go_wp2_with fail
          go_roundw
          case rel => exact ⟨i + 1, n, by go_num, rfl, by omega, by omega, CN.out, trivial⟩
          case measure => simp [intOf]; omega
        · rw [d1, d2] at mb cn
          have CN : Hid (n + 1 = Q.cnt (fun i => lset l1 N i && lset l2 N i) (i + 1)) := cn.symm
          clear cn
          go_wp2_with fail
          refine (hasInt _ _ _ _ _ _ T1.out).mono ?_
          rw [d1]
          rintro e w8 ⟨rfl, rfl⟩
          go_wp2_with fail
          refine (hasInt _ _ _ _ _ _ T2.out).mono ?_
          rw [d2]
          rintro e w8 ⟨rfl, rfl⟩
          go_wp2_with fail
          refine (has _ _ C7.out.2).mono ?_
          rw [mb]
          rintro e w9 ⟨rfl, rfl⟩
          clear mb
          go_wp2_with fail
          go_roundw
          case rel => exact ⟨i + 1, n + 1, by go_num, by go_num, by omega, by omega, CN.out, trivial⟩
          case measure => simp [intOf]; omega
    · have hs3 : sz (fun i => lset l1 N i && lset l2 N i) N = n := by
        have e : N.toNat = i := by omega
        unfold sz; rw [e, hc]
      have CO : qv ≤ (z1 : Int) → qv ≤ (z2 : Int) → K ≤ (n : Int) := fun p1 p2 => by
        have := common_and (lset l1 N) (lset l2 N) N K (by omega) (ME1.out.trans (decide_eq_true p1)) (ME2.out.trans (decide_eq_true p2))
        rw [hs3, HQ.out] at this
        omega
      have CO' : Hid (qv ≤ (z1 : Int) → qv ≤ (z2 : Int) → K ≤ (n : Int)) := CO
      clear CO hc
      go_wp2_with fail
      refine (len _ C7.out.2).mono ?_
      rw [hs3]
      rintro e w8 ⟨rfl, rfl⟩
      clear hs3
      by_cases p1 : qv ≤ (z1 : Int)
      · by_cases p2 : qv ≤ (z2 : Int)
        · have p3 := CO'.out p1 p2
          go_wp2_with fail
          refine (cM1.out _ C7.out.1).mono ?_
          rw [decide_eq_true p1]
          rintro e w9 ⟨rfl, S9⟩
          go_wp2_with fail
          refine (cM2.out _ S9.out).mono ?_
          rw [decide_eq_true p2]
          rintro e w10 ⟨rfl, S10⟩
          obtain ⟨q0, q1, q2⟩ := S10.out.cf.cells
          go_wp2_with fail
          go_ret
          exact ⟨by simp, S10.out.cf.bel⟩
        · go_wp2_with fail
          refine (cM1.out _ C7.out.1).mono ?_
          rw [decide_eq_true p1]
          rintro e w9 ⟨rfl, S9⟩
          go_wp2_with fail
          refine (cM2.out _ S9.out).mono ?_
          rw [decide_eq_false (by omega)]
          rintro e w10 ⟨rfl, S10⟩
          go_wp2_with fail
          go_ret
          exact ⟨by simp, S10.out.cf.bel⟩
      · go_wp2_with fail
        refine (cM1.out _ C7.out.1).mono ?_
        rw [decide_eq_false (by omega)]
        rintro e w9 ⟨rfl, S9⟩
        go_wp2_with fail
        go_ret
        exact ⟨by simp, S9.out.cf.bel⟩
theorem top (N K D : Int) (a1 a2 : Option Addr) (len1 cap1 len2 cap2 : Nat) (l1 l2 : List Int) (w : World) (r1 : IReads w a1 len1 cap1 l1) (r2 : IReads w a2 len2 cap2 l2) :
    Calls Try.prog 7 #[.agg #[.int .i64 N, .int .i64 K, .int .i64 D], .slice a1 len1 cap1, .slice a2 len2 cap2] w fun x w' => x = .returned (.bool true) ∧ Below w.heap.size w w' := by
  by_cases h : okC N K D
  · exact top_ok N K D a1 a2 len1 cap1 len2 cap2 l1 l2 w h r1 r2
  · exact top_not N K D a1 a2 len1 cap1 len2 cap2 w h
end Go.Proofs.Ythcnpijgfhinhaa
