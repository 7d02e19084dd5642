import Derived.Test.YtojepeefphbekaaGreatHold0
namespace Go.Proofs.YtojepeefphbekaaGreat
open Go.RowKit 

set_option maxRecDepth 100000 in
set_option maxHeartbeats 8000000 in
/-- TableHolds. -/
theorem holdsWalk (d : Int) (a : Option Addr) (len cap : Nat) (l : List Mv) (w : World) (r : MReads w a len cap l) (hl : len ≤ 4398046510976) : Calls Tryz.prog 4 #[.int .i64 d, .slice a len cap] w fun o w' => o = .returned (.bool true) ∧ Kept (fun _ => False) w w' := by
  obtain ⟨dd, hdd⟩ : ∃ dd, dd = d % 5 := ⟨_, rfl⟩
  have d0 : 0 ≤ dd := by rw [hdd]; exact Int.emod_nonneg d (by omega)
  have d4 : dd < 5 := by rw [hdd]; exact Int.emod_lt_of_pos d (by omega)
  have SM : Hid (∀ V : World, Calls Tryz.prog 8 #[.int .i64 d] V fun o w' => o = .returned (.int .i64 dd) ∧ w' = V) := by rw [hdd]; exact fun V => small d V
  obtain ⟨D, hD⟩ : ∃ D : Nat, D = dd.toNat := ⟨_, rfl⟩
  have eD : (D : Int) = dd := by omega
  have HM : Hid (MReads w a len cap l) := r
  clear hdd r hD
  go_enter Tryz.func4, Tryz.ntmps4
  go_wp2_with fail
  refine (SM.out w).mono ?_
  rintro o w0 ⟨rfl, rfl⟩
  go_wp2_with fail
  refine (tDone dd a len cap l w0 HM.out hl d0 (by omega)).mono ?_
  rintro o w1 ⟨tb, rfl, D1⟩
  obtain ⟨t, dst, et⟩ := D1.out
  have HD : Hid (Dst w0 w1 dd t l ∧ t.tb = tb ∧ l.length ≤ 4398046511104) := ⟨dst, et, by rw [HM.out.length]; omega⟩
  clear dst et D1
  go_wp2_with fail
  go_loopw [4, 7, 8, 9, 10, 11, 12, 13, 14, 25] (fun _ _ _ _ _ _ _ _ _ u25 wr => ∃ (n : Nat), u25 = .int .i64 (n : Int) ∧ n ≤ 3 ∧ Hid (Kept (fun _ => False) w1 wr)) (fun _ _ _ _ _ _ _ _ _ u25 _ => 3 - (intOf u25).toNat)
  case atStart => exact ⟨0, rfl, Nat.zero_le _, Kept.refl _ _⟩
  case round =>
    obtain ⟨n, rfl, hn, S⟩ := hrel
    obtain ⟨wo, hwo⟩ : ∃ wo, wo = wr := ⟨_, rfl⟩
    rw [← hwo] at S ⊢
    clear hwo
    by_cases hn3 : n < 3
    · have n1 : (n : Int) < 3 := by omega
      obtain ⟨key, hkey⟩ : ∃ k, k = key3 (n : Int) := ⟨_, rfl⟩
      have EK : Hid (key.size ≤ maxLen ∧ key.size ≤ 64) := by
        rw [hkey]
        have := key3_size (n : Int)
        unfold maxLen
        exact ⟨by omega, by omega⟩
      have KO : Hid (∀ V : World, Calls Tryz.prog 20 #[.int .i64 (n : Int)] V fun o w' => o = .returned (.string key) ∧ Kept (fun _ => False) V w') := by rw [hkey]; exact fun V => keyOf3 (n : Int) V
      clear hkey
      go_wp2_with fail
      refine (KO.out wo).mono ?_
      rintro o w2 ⟨rfl, K2⟩
      have B2 : Hid (Dst w0 w2 dd t l ∧ Kept (fun _ => False) wo w2) := ⟨HD.out.1.k0 (S.out.and0 K2), K2⟩
      clear K2 KO
      go_wp2_with fail
      refine (tExpected dd a len cap l key w2 (HM.out.by B2.out.1.kept (fun _ _ z => z)) hl d0 (by omega) EK.out.2).mono ?_
      rintro o w3 ⟨p3, n3, c3, rfl, k3, X3⟩
      have EE : Hid (EntsOf (TMp t key) (datOf t key) (desc l key k3).reverse ∧ n3 ≤ 60 ∧ (desc l key k3).length = n3) := by
        have e := expected_ents B2.out.1 d0 key X3.out.2.1
        have ln : (desc l key k3).length = n3 := by have := X3.out.1.len; rw [List.length_reverse] at this; exact this
        refine ⟨e, ?_, ln⟩
        have := desc_len l key k3
        have := (floor_stop B2.out.1 d0 key X3.out.2.1).1
        omega
      have B3 : Hid (Dst w0 w3 dd t l ∧ EntRd w3 p3 n3 c3 (desc l key k3).reverse ∧ Kept (fun _ => False) wo w3) := ⟨B2.out.1.k0 X3.out.2.2, X3.out.1, B2.out.2.and0 X3.out.2.2⟩
      clear X3 B2
      go_wp2_with fail
      refine (dEntries B3.out.1 HD.out.2.1 HD.out.2.2 EK.out.1).mono ?_
      rintro o w4 ⟨p4, n4, c4, es4, rfl, E4⟩
      have SE : Hid (Calls Tryz.prog 22 #[.slice p4 n4 c4, .slice p3 n3 c3] w4 fun o w' => o = .returned (.bool true) ∧ Kept (fun _ => False) w4 w') := by
        refine (sameEntriesG p4 p3 n4 n3 c4 c3 es4 (desc l key k3).reverse w4 E4.out.1 (B3.out.2.1.k0 E4.out.2.2)).mono ?_
        rintro o w' ⟨rfl, K⟩
        rw [decide_eq_true (ents_one E4.out.2.1 EE.out.1 (fun _ => rfl))]
        exact ⟨rfl, K⟩
      have B4 : Hid (Dst w0 w4 dd t l ∧ EntRd w4 p3 n3 c3 (desc l key k3).reverse ∧ Kept (fun _ => False) wo w4) := ⟨B3.out.1.k0 E4.out.2.2, B3.out.2.1.k0 E4.out.2.2, B3.out.2.2.and0 E4.out.2.2⟩
      clear E4 B3
      go_wp2_with fail
      refine SE.out.mono ?_
      rintro o w5 ⟨rfl, K5⟩
      have B5 : Hid (Dst w0 w5 dd t l ∧ EntRd w5 p3 n3 c3 (desc l key k3).reverse ∧ Kept (fun _ => False) wo w5) := ⟨B4.out.1.k0 K5, B4.out.2.1.k0 K5, B4.out.2.2.and0 K5⟩
      clear K5 SE B4
      go_upto_region 14 with fail
      obtain ⟨W, hW⟩ : ∃ W, W = (w5.alloc (.cells #[.int .i64 0, .int .i64 0] 37)).alloc (.cells #[.int .i64 0, .int .i64 0] 37) := ⟨_, rfl⟩
      obtain ⟨FP, hFP⟩ : ∃ B, B = w5.heap.size + 1 := ⟨_, rfl⟩
      obtain ⟨TP, hTP⟩ : ∃ A, A = w5.heap.size := ⟨_, rfl⟩
      have H0 : Hid (HS w5 W TP FP (0, 0) (0, 0)) := by
        have K : Kept (fun _ => False) w5 W := by rw [hW]; exact ((Kept.refl _ w5).alloc _).alloc _
        exact ⟨by rw [hW, hTP]; exact two0 _ _ _, by rw [hW, hFP]; exact two1 _ _ _, K, by omega⟩
      rw [← hW, ← hFP, ← hTP]
      clear hW hFP hTP
      have n60 := EE.out.2.1
      go_wp2_with fail
      go_loopw [12, 13, 14, 44] (fun u12 _ _ u44 wr => ∃ (i q : Nat) (tv fv : Int × Int), u12 = .int .i64 (q : Int) ∧ u44 = .int .i64 (i : Int) ∧ i ≤ n3 ∧ Hid (HS w5 wr TP FP tv fv ∧ Seen (desc l key k3) i D q tv fv)) (fun _ _ _ u44 _ => n3 - (intOf u44).toNat)
      case atStart => exact ⟨0, 0, (0, 0), (0, 0), rfl, rfl, Nat.zero_le _, H0.out, Seen.zero _ _⟩
      case round =>
        obtain ⟨i, q, tv, fv, rfl, rfl, hi, T⟩ := hrel
        clear H0
        by_cases hlt : i < n3
        · have i1 : (i : Int) < (n3 : Int) := by omega
          obtain ⟨z, hz⟩ : ∃ z : Nat, z = n3 - 1 - i := ⟨_, rfl⟩
          have zn : z < n3 := by omega
          have wz1 : IntKind.i64.wrap ((n3 : Int) - 1) = (n3 : Int) - 1 := by rw [IntKind.wrap_i64]; omega
          have wz2 : IntKind.i64.wrap ((n3 : Int) - 1 - (i : Int)) = (z : Int) := by rw [IntKind.wrap_i64]; omega
          have z0 : (0 : Int) ≤ (z : Int) := by omega
          have z1 : (z : Int) < (n3 : Int) := by omega
          obtain ⟨b, x, y, f, g, ea, en, ec, v, rfl, hv, c0, c1, c2, c3', c4', ev⟩ := (B5.out.2.1.k0 T.out.1.kept).ev zn
          have HV : Hid ((desc l key k3)[i]? = some v ∧ v.1 = (x, y) ∧ v.2.1 = f) := by
            refine ⟨?_, ev.tag.symm, ev.fin.symm⟩
            rw [List.getElem?_reverse (by rw [EE.out.2.2]; exact zn), EE.out.2.2] at hv
            rw [← hv]
            congr 1
            omega
          have qi := T.out.2.le
          clear hv ev hz
          go_upto_region 19 with fail
          obtain ⟨W2, hW2⟩ : ∃ W2, W2 = wr.alloc (.cells #[.int .i64 x, .int .i64 y, .bool f, .bool g, .slice ea en ec] 40) := ⟨_, rfl⟩
          obtain ⟨EB, hEB⟩ : ∃ B, B = wr.heap.size := ⟨_, rfl⟩
          have H2 : Hid (HS w5 W2 TP FP tv fv ∧ W2.heap[EB]? = some (.cells #[.int .i64 x, .int .i64 y, .bool f, .bool g, .slice ea en ec] 40 (0, 0))) := by
            rw [hW2, hEB]
            exact ⟨T.out.1.k0 (k0_alloc _ _), heap_alloc_new _ _⟩
          have SN : Hid (Seen (desc l key k3) i D q tv fv) := T.out.2
          have nET : ¬ EB = TP := by rw [hEB]; have := block_lt T.out.1.top; omega
          have nEF : ¬ EB = FP := by rw [hEB]; have := block_lt T.out.1.flo; omega
          have nTF : ¬ TP = FP := T.out.1.lo.2.2
          rw [← hW2, ← hEB]
          clear hW2 hEB c0 c1 c2 c3' c4' T
          have e0 := cell_blk H2.out.2 0 (v := .int .i64 x) rfl
          have e1 := cell_blk H2.out.2 1 (v := .int .i64 y) rfl
          have e2 := cell_blk H2.out.2 2 (v := .bool f) rfl
          have t0 := cell_blk H2.out.1.top 0 (v := .int .i64 tv.1) rfl
          have t1 := cell_blk H2.out.1.top 1 (v := .int .i64 tv.2) rfl
          have f0 := cell_blk H2.out.1.flo 0 (v := .int .i64 fv.1) rfl
          have f1 := cell_blk H2.out.1.flo 1 (v := .int .i64 fv.2) rfl
          have s0 := soft_blk H2.out.1.top 0
          have s1 := soft_blk H2.out.1.top 1
          have s2 := soft_blk H2.out.1.flo 0
          have s3 := soft_blk H2.out.1.flo 1
          cases f
          · have R : Hid (HS w5 W2 TP FP tv fv ∧ Seen (desc l key k3) (i + 1) D q tv fv) := ⟨H2.out.1, SN.out.skip HV.out.1 HV.out.2.2⟩
            go_wp2_with fail
            go_roundw
            case rel => exact ⟨i + 1, q, tv, fv, rfl, by go_num, by omega, R⟩
            case measure => simp [intOf] <;> omega
          · have ST := SN.out.take HV.out.1 HV.out.2.2
            rw [HV.out.2.1] at ST
            have wq : IntKind.i64.wrap ((q : Int) + 1) = ((q + 1 : Nat) : Int) := by rw [IntKind.wrap_i64]; omega
            by_cases h0 : q = 0
            · rw [if_pos h0] at ST
              have h0' : (q : Int) = 0 := by omega
              by_cases h1 : q = D
              · rw [if_pos h1] at ST
                have h1' : (q : Int) = dd := by omega
                have R : Hid (HS w5 ((((W2.setCell ⟨TP, 0, none⟩ (.int .i64 x)).setCell ⟨TP, 1, none⟩ (.int .i64 y)).setCell ⟨FP, 0, none⟩ (.int .i64 x)).setCell ⟨FP, 1, none⟩ (.int .i64 y)) TP FP (x, y) (x, y) ∧ Seen (desc l key k3) (i + 1) D (q + 1) (x, y) (x, y)) := ⟨(H2.out.1.setT x y).setF x y, ST⟩
                clear ST
                go_wp2_with fail
                go_roundw
                case rel => exact ⟨i + 1, q + 1, (x, y), (x, y), by first | rfl | simp_all, by go_num, by omega, R⟩
                case measure => simp [intOf] <;> omega
              · rw [if_neg h1] at ST
                have h1' : ¬ (q : Int) = dd := by omega
                have R : Hid (HS w5 ((W2.setCell ⟨TP, 0, none⟩ (.int .i64 x)).setCell ⟨TP, 1, none⟩ (.int .i64 y)) TP FP (x, y) fv ∧ Seen (desc l key k3) (i + 1) D (q + 1) (x, y) fv) := ⟨H2.out.1.setT x y, ST⟩
                clear ST
                go_wp2_with fail
                go_roundw
                case rel => exact ⟨i + 1, q + 1, (x, y), fv, by first | rfl | simp_all, by go_num, by omega, R⟩
                case measure => simp [intOf] <;> omega
            · rw [if_neg h0] at ST
              have h0' : ¬ (q : Int) = 0 := by omega
              by_cases h1 : q = D
              · rw [if_pos h1] at ST
                have h1' : (q : Int) = dd := by omega
                have R : Hid (HS w5 ((W2.setCell ⟨FP, 0, none⟩ (.int .i64 x)).setCell ⟨FP, 1, none⟩ (.int .i64 y)) TP FP tv (x, y) ∧ Seen (desc l key k3) (i + 1) D (q + 1) tv (x, y)) := ⟨H2.out.1.setF x y, ST⟩
                clear ST
                go_wp2_with fail
                go_roundw
                case rel => exact ⟨i + 1, q + 1, tv, (x, y), by first | rfl | simp_all, by go_num, by omega, R⟩
                case measure => simp [intOf] <;> omega
              · rw [if_neg h1] at ST
                have h1' : ¬ (q : Int) = dd := by omega
                have R : Hid (HS w5 W2 TP FP tv fv ∧ Seen (desc l key k3) (i + 1) D (q + 1) tv fv) := ⟨H2.out.1, ST⟩
                clear ST
                go_wp2_with fail
                go_roundw
                case rel => exact ⟨i + 1, q + 1, tv, fv, by first | rfl | simp_all, by go_num, by omega, R⟩
                case measure => simp [intOf] <;> omega
        · have i1 : ¬ (i : Int) < (n3 : Int) := by omega
          obtain ⟨⟨tx, ty⟩, etv⟩ : ∃ e, e = tv := ⟨_, rfl⟩
          obtain ⟨⟨fx, fy⟩, efv⟩ : ∃ e, e = fv := ⟨_, rfl⟩
          have FT : Hid (floorT (TS t key) 0 = (tx, ty) ∧ floorT (TS t key) dd = (fx, fy)) := by
            have e := finT_set B5.out.1 key EE.out.1
            have h1 := T.out.2.tv
            have h2 := T.out.2.fv
            rw [List.take_of_length_le (by rw [EE.out.2.2]; omega), e, floor_rev] at h1 h2
            rw [eD] at h2
            exact ⟨by rw [etv, h1]; rfl, by rw [efv, h2]⟩
          have H2 : Hid (HS w5 wr TP FP (tx, ty) (fx, fy) ∧ Kept (fun _ => False) w1 wr) := by
            rw [etv, efv]
            exact ⟨T.out.1, (S.out.and0 B5.out.2.2).and0 T.out.1.kept⟩
          clear etv efv T
          have TOP : Hid (∀ V, Kept (fun _ => False) wr V → Calls Tryz.prog 23 #[.pointer (some ⟨tb, 0, none⟩), .string key] V fun o w' => o = .returned (.agg #[.int .i64 tx, .int .i64 ty]) ∧ Kept (fun _ => False) V w') := by
            intro V K
            have := tTop l.length t key V (B5.out.1.k0 (H2.out.1.kept.and0 K)).tab EK.out.1
            rw [HD.out.2.1] at this
            refine this.mono ?_
            rintro o w' ⟨x, y, rfl, e, K'⟩
            rw [FT.out.1] at e
            have ex : tx = x := congrArg Prod.fst e
            have ey : ty = y := congrArg Prod.snd e
            rw [ex, ey]
            exact ⟨rfl, K'⟩
          have FLO : Hid (∀ V, Kept (fun _ => False) wr V → Calls Tryz.prog 24 #[.pointer (some ⟨tb, 0, none⟩), .string key] V fun o w' => o = .returned (.agg #[.int .i64 fx, .int .i64 fy]) ∧ Kept (fun _ => False) V w') := by
            intro V K
            have := tFloor l.length t key V (B5.out.1.k0 (H2.out.1.kept.and0 K)).tab EK.out.1
            rw [HD.out.2.1, B5.out.1.delta] at this
            refine this.mono ?_
            rintro o w' ⟨x, y, rfl, e, K'⟩
            rw [FT.out.2] at e
            have ex : fx = x := congrArg Prod.fst e
            have ey : fy = y := congrArg Prod.snd e
            rw [ex, ey]
            exact ⟨rfl, K'⟩
          have CF : Hid (∀ V, Kept (fun _ => False) wr V → V.cell? ⟨TP, 0, none⟩ = some (.int .i64 tx) ∧ V.cell? ⟨TP, 1, none⟩ = some (.int .i64 ty) ∧ V.cell? ⟨FP, 0, none⟩ = some (.int .i64 fx) ∧ V.cell? ⟨FP, 1, none⟩ = some (.int .i64 fy)) := by
            intro V K
            have h := H2.out.1.k0 K
            exact ⟨cell_blk h.top 0 rfl, cell_blk h.top 1 rfl, cell_blk h.flo 0 rfl, cell_blk h.flo 1 rfl⟩
          obtain ⟨t0, t1, f0, f1⟩ := CF.out wr (Kept.refl _ _)
          go_upto_region 26 with fail
          go_region_held3 (fun V => V.cell? ⟨TP, 0, none⟩ = some (.int .i64 tx) ∧ V.cell? ⟨TP, 1, none⟩ = some (.int .i64 ty) ∧ V.cell? ⟨FP, 0, none⟩ = some (.int .i64 fx) ∧ V.cell? ⟨FP, 1, none⟩ = some (.int .i64 fy)) (first | go_keep)
            (first
              | (go_at_call 23; refine (TOP.out wr.drew (Kept.refl _ _).drew).mono ?_; rintro o w7 ⟨rfl, K7'⟩
                 have K7 : Hid (Kept (fun _ => False) wr w7) := ((Kept.refl _ _).drew).and0 K7'
                 obtain ⟨t0, t1, f0, f1⟩ := CF.out w7 K7.out
                 clear K7')
              | (go_at_call 24; refine (FLO.out _ K7.out).mono ?_; rintro o w8 ⟨rfl, K8'⟩
                 have K8 : Hid (Kept (fun _ => False) wr w8) := K7.out.and0 K8'
                 obtain ⟨t0, t1, f0, f1⟩ := CF.out w8 K8.out
                 clear K8')
              | fail)
          go_wp2_with fail
          go_roundw
          case rel => exact ⟨n + 1, by go_num, by omega, H2.out.2.and0 K8.out⟩
          case measure => simp [intOf] <;> omega
    · have n1 : ¬ (n : Int) < 3 := by omega
      go_wp2_with fail
      refine (taken wo).mono ?_
      rintro o w9 ⟨rfl, K9⟩
      have KE : Hid (Kept (fun _ => False) w0 w9) := (HD.out.1.kept.and0 S.out).and0 K9
      clear K9 S
      go_wp2_with fail
      go_ret
      exact ⟨rfl, KE.out⟩
end Go.Proofs.YtojepeefphbekaaGreat
