import Derived.Test.YteokeifkkhchmaaDoorLk
namespace Go.Proofs.YteokeifkkhchmaaDoor
open Go.RowKit 

/-- The number of servers that the law makes of any number. -/
theorem mod9 (X : Int) : ∃ (r : Int) (m q n : Nat), X.tmod 9 = r ∧ IntKind.i64.wrap (r + 9) = (m : Int) ∧ (m : Int).tmod 9 = (q : Int) ∧ IntKind.i64.wrap ((q : Int) + 1) = (n : Int) ∧ 1 ≤ n ∧ n ≤ 9 := by
  have h1 := Int.tmod_lt_of_pos X (b := 9) (by omega)
  have h2 := Int.lt_tmod_of_pos X (b := 9) (by omega)
  refine ⟨X.tmod 9, (X.tmod 9 + 9).toNat, (X.tmod 9 + 9).toNat % 9, (X.tmod 9 + 9).toNat % 9 + 1, rfl, ?_, ?_, ?_, by omega, by omega⟩
  · rw [IntKind.wrap_i64]; omega
  · rw [Int.tmod_eq_emod_of_nonneg (by omega)]; omega
  · rw [IntKind.wrap_i64]; omega
set_option maxRecDepth 100000 in
set_option maxHeartbeats 8000000 in
theorem phaseLikes (X Y Z : Int) (a1 a2 : Option Addr) (len1 cap1 len2 cap2 : Nat) (l1 l2 : List Int) (w : World) (r1 : IReads w a1 len1 cap1 l1) (r2 : IReads w a2 len2 cap2 l2) (f2 : ∀ x ∈ l2, KF x) (V : Vars w) :
    Calls Tryd.prog 3 #[.agg #[.int .i64 X, .int .i64 Y, .int .i64 Z], .slice a1 len1 cap1, .slice a2 len2 cap2] w fun o w' => o = .returned (.bool true) ∧ Kept (fun _ => False) w w' := by
  have H : Hid (IReads w a1 len1 cap1 l1 ∧ IReads w a2 len2 cap2 l2 ∧ (∀ x ∈ l2, KF x) ∧ Vars w) := ⟨r1, r2, f2, V⟩
  have rm1 := r1.room
  have rm2 := r2.room
  have sm1 := r1.small
  have sm2 := r2.small
  unfold maxLen at sm1 sm2
  clear r1 r2 f2 V
  obtain ⟨r, m, q, n, e1, e2, e3, e4, n1, n9⟩ := mod9 X
  have OK : Hid (okC (n : Int) 1 0) := by
    show okC (n : Int) 1 0
    unfold okC; omega
  have cN : Hid (1 ≤ n ∧ n ≤ 9) := ⟨n1, n9⟩
  go_enter Tryd.func3, Tryd.ntmps3
  go_upto_region 2 with fail
  obtain ⟨W, hW⟩ : ∃ W, W = w.alloc (.cells #[.int .i64 (n : Int), .int .i64 1, .int .i64 0] 23) := ⟨_, rfl⟩
  rw [← hW]
  obtain ⟨bc, hbc⟩ : ∃ bc, bc = w.heap.size := ⟨_, rfl⟩
  rw [← hbc]
  have S0 : Hid (W.heap[bc]? = some (.cells #[.int .i64 (n : Int), .int .i64 1, .int .i64 0] 23 (0, 0)) ∧ Kept (fun _ => False) w W ∧ w.heap.size ≤ bc) := by
    rw [hW, hbc]
    exact ⟨heap_alloc_new _ _, k0_alloc _ _, Nat.le_refl _⟩
  have c0 := cell_blk S0.out.1 0 (v := .int .i64 (n : Int)) rfl
  have c1 := cell_blk S0.out.1 1 (v := .int .i64 1) rfl
  have c2 := cell_blk S0.out.1 2 (v := .int .i64 0) rfl
  clear hW hbc e1 e2 e3 e4
  go_wp2_with fail
  refine (newI_ok (n : Int) 1 0 W OK.out).mono ?_
  rintro o w1 ⟨pa, ma, l1, l2, rfl, i1, k1⟩
  have S1 : Hid (w1.heap[bc]? = some (.cells #[.int .i64 (n : Int), .int .i64 1, .int .i64 0] 23 (0, 0)) ∧ Kept (fun _ => False) w w1 ∧ IsP 57 (Value.int .i64) RI w1 pa ma (n : Int) (quo (n : Int) 1) (fun _ => none) ∧ w.heap.size ≤ ma) := ⟨k1.get S0.out.1 (fun z => z), S0.out.2.1.and0 k1, i1, Nat.le_trans S0.out.2.1.size l2⟩
  clear c0 c1 c2 l1 l2 i1 k1
  have c0 := cell_blk S1.out.1 0 (v := .int .i64 (n : Int)) rfl
  have c1 := cell_blk S1.out.1 1 (v := .int .i64 1) rfl
  have c2 := cell_blk S1.out.1 2 (v := .int .i64 0) rfl
  go_wp2_with fail
  refine (newS_ok (n : Int) 1 0 w1 OK.out).mono ?_
  rintro o w2 ⟨pb, mb, l1, l2, rfl, i2, k2⟩
  have S2 : Hid (w2.heap[bc]? = some (.cells #[.int .i64 (n : Int), .int .i64 1, .int .i64 0] 23 (0, 0)) ∧ Kept (fun _ => False) w w2 ∧ IsP 57 (Value.int .i64) RI w2 pa ma (n : Int) (quo (n : Int) 1) (fun _ => none) ∧ w.heap.size ≤ ma ∧ IsP 60 Value.string RS w2 pb mb (n : Int) (quo (n : Int) 1) (fun _ => none) ∧ ma < mb) := ⟨k2.get S1.out.1 (fun z => z), S1.out.2.1.and0 k2, S1.out.2.2.1.k0 k2, S1.out.2.2.2, i2, by have := S1.out.2.2.1.lt.2; omega⟩
  clear c0 c1 c2 l1 l2 i2 k2
  have c0 := cell_blk S2.out.1 0 (v := .int .i64 (n : Int)) rfl
  have c1 := cell_blk S2.out.1 1 (v := .int .i64 1) rfl
  have c2 := cell_blk S2.out.1 2 (v := .int .i64 0) rfl
  go_wp2_with fail
  refine (newR_ok (n : Int) 1 0 w2 OK.out).mono ?_
  rintro o w3 ⟨pd, md, l1, l2, rfl, i3, k3⟩
  obtain ⟨W5, hW5⟩ : ∃ W5, W5 = (w3.alloc (.cells (lastA (fun _ => none) n) 3)).alloc (.cells (comeA (fun _ => none) n) 4) := ⟨_, rfl⟩
  obtain ⟨lb, hlb⟩ : ∃ lb, lb = w3.heap.size := ⟨_, rfl⟩
  obtain ⟨cb, hcb⟩ : ∃ cb, cb = w3.heap.size + 1 := ⟨_, rfl⟩
  have mA : ∀ W : World, (Instr.makeSlice 24 (.int .i64 (n : Int)) (.int .i64 (n : Int))).run Tryd.prog W = .ok (.slice (some ⟨W.heap.size, 0, none⟩) n n) (W.alloc (.cells (madeCells #[.int .i64 0] n) 3)) := run_make_row' 24 3 (.int .i64 0) 8 Tryd.underlying24 int_info rfl .i64 .i64 n (by omega) (by omega)
  have mB : ∀ W : World, (Instr.makeSlice 37 (.int .i64 (n : Int)) (.int .i64 (n : Int))).run Tryd.prog W = .ok (.slice (some ⟨W.heap.size, 0, none⟩) n n) (W.alloc (.cells (madeCells #[.bool false] n) 4)) := run_make_row' 37 4 (.bool false) 1 Tryd.underlying37 bool_info rfl .i64 .i64 n (by omega) (by omega)
  rw [lastA_new] at mA
  rw [comeA_new] at mB
  have S3 : Hid (LK w W5 bc pa ma pb mb pd md lb cb n (fun _ => none)) := by
    have kW : Kept (fun _ => False) w3 W5 := by rw [hW5]; exact (k0_alloc _ _).alloc _
    have k3W := k3.and0 kW
    have z1 := S2.out.2.1.size
    have z2 := S2.out.2.2.2.2.1.lt.2
    have z3 := (S2.out.2.1.and0 k3).size
    refine ⟨k3W.get S2.out.1 (fun z => z), S2.out.2.2.1.k0 k3W, S2.out.2.2.2.2.1.k0 k3W, i3.k0 kW, by rw [hW5, hlb]; exact two0 _ _ _, by rw [hW5, hcb]; exact two1 _ _ _, ⟨by have := S2.out.2.2.2.2.2; omega, by have := S2.out.2.2.2.2.2; omega, by omega⟩, ⟨by have := S0.out.2.2; omega, S2.out.2.2.2.1, by have := S2.out.2.2.2.2.2; have := S2.out.2.2.2.1; omega, by omega, by omega, by omega⟩, S2.out.2.1.and0 k3W, fun _ _ q => by cases q⟩
  have EW : Hid (W5 = (w3.alloc (.cells (lastA (fun _ => none) n) 3)).alloc (.cells (comeA (fun _ => none) n) 4) ∧ lb = w3.heap.size ∧ cb = w3.heap.size + 1) := ⟨hW5, hlb, hcb⟩
  have d0 := cell_blk (k3.get S2.out.1 (fun z => z)) 0 (v := .int .i64 (n : Int)) rfl
  have d1 := cell_blk ((k3.alloc (.cells (lastA (fun _ => none) n) 3)).get S2.out.1 (fun z => z)) 0 (v := .int .i64 (n : Int)) rfl
  clear c0 c1 c2 l1 l2 i3 k3 hW5 hlb hcb
  go_upto_region 10 with fail
  rw [← EW.out.1, ← EW.out.2.2, ← EW.out.2.1]
  clear mA mB d0 d1
  go_upto_region 11 with fail
  clear S0 S1 S2 EW
  (try go_frame)
  go_loopw [15, 73] (fun y z wr => ∃ (i : Nat) (M : Int → Option Int), z = .int .i64 (i : Int) ∧ y = .int .i64 (cntM M n : Int) ∧ i ≤ len1 ∧ Hid (LK w wr bc pa ma pb mb pd md lb cb n M)) (fun _ z _ => len1 - (intOf z).toNat)
  case atStart => exact ⟨0, fun _ => none, rfl, by rw [cntM_none]; rfl, Nat.zero_le _, S3⟩
  case round =>
    obtain ⟨i, M, rfl, rfl, hi, T⟩ := hrel
    clear S3
    by_cases hlt : i < len1
    · obtain ⟨g1, o1, rfl, hc1⟩ := H.out.1.cells (by omega)
      have d1 := T.out.kept.cell (hc1 i hlt) (fun z => z)
      obtain ⟨s, hs⟩ : ∃ s, s = l1.getD i 0 := ⟨_, rfl⟩
      rw [← hs] at d1
      have i1 : (i : Int) < (len1 : Int) := by omega
      clear hc1 hs
      go_upto_if 81 with fail
      clear d1
      have C2 : Hid (∀ h : i < len2, ∃ g2 o2, a2 = some ⟨g2, o2, none⟩ ∧ wr.cell? ⟨g2, o2 + i, none⟩ = some (.int .i64 (l2.getD i 0)) ∧ KF (l2.getD i 0)) := by
        intro h
        obtain ⟨g2, o2, e, hc2⟩ := H.out.2.1.cells (by omega)
        refine ⟨g2, o2, e, T.out.kept.cell (hc2 i h) (fun z => z), ?_⟩
        rw [getD_at l2 i (by have := H.out.2.1.length; omega)]
        exact H.out.2.2.1 _ (List.getElem_mem _)
      go_cut [18] from 78 to 85 (fun u wc => ∃ v : Int, u = .int .i64 v ∧ Hid (KF v) ∧ wc = wr)
      case first =>
        by_cases h2 : i < len2
        · obtain ⟨g2, o2, rfl, d2, kf⟩ := C2.out h2
          have KV : Hid (KF (l2.getD i 0)) := kf
          have i2 : (i : Int) < (len2 : Int) := by omega
          clear kf
          go_wp2_with fail
          go_meet
          exact ⟨_, rfl, KV, rfl⟩
        · have i2 : ¬ (i : Int) < (len2 : Int) := by omega
          have KV : Hid (KF 0) := by
            show KF 0
            unfold KF; omega
          go_wp2_with fail
          go_meet
          exact ⟨0, rfl, KV, rfl⟩
      case rest =>
        obtain ⟨v, rfl, KV, hw⟩ := hcut
        have hw2 := hw.symm
        subst hw2
        clear C2 hw
        by_cases so : s < 0 ∨ (n : Int) ≤ s
        · as_aux_lemma =>
            have HO : Hid (s < 0 ∨ (n : Int) ≤ s) := so
            clear so
            go_wp2_with fail
            refine (answerI_off s v wr T.out.a HO.out).mono ?_
            rintro o w6 ⟨rfl, rfl⟩
            go_wp2_with fail
            refine (itoa v KV.out w6 (H.out.2.2.2.by T.out.kept)).mono ?_
            rintro o w7 ⟨rfl, k7⟩
            have T7 : Hid (LK w w7 bc pa ma pb mb pd md lb cb n M) := T.out.k0 k7
            clear k7
            go_wp2_with fail
            refine (answerS_off s (itS v) w7 T7.out.b HO.out).mono ?_
            rintro o w8 ⟨rfl, rfl⟩
            go_wp2_with fail
            refine (answerR_off s v rText w8 T7.out.d HO.out).mono ?_
            rintro o w9 ⟨rfl, k9⟩
            have T9 : Hid (LK w w9 bc pa ma pb mb pd md lb cb n M) := T7.out.k0 k9
            clear k9 T7
            have b0 := T9.out.cells.1
            by_cases s0 : s < 0
            · go_wp2_with fail
              go_roundw
              case rel => exact ⟨i + 1, M, by go_num, rfl, by omega, T9⟩
              case measure => simp [intOf]; omega
            · have s1 : (n : Int) ≤ s := by have := HO.out; omega
              go_wp2_with fail
              go_roundw
              case rel => exact ⟨i + 1, M, by go_num, rfl, by omega, T9⟩
              case measure => simp [intOf]; omega
        · obtain ⟨t, rfl⟩ : ∃ t : Nat, s = (t : Int) := ⟨s.toNat, by omega⟩
          have HT : Hid (t < n ∧ (t : Int) < (n : Int)) := ⟨by omega, by omega⟩
          have t0 : ¬ (t : Int) < 0 := by omega
          have t1 : ¬ (n : Int) ≤ (t : Int) := by omega
          have t2 : (t : Int) < (n : Int) := by omega
          clear so
          cases hb : (M (t : Int)).isSome
          · as_aux_lemma =>
              have MB : Hid ((M (t : Int)).isSome = false) := hb
              clear hb
              go_wp2_with fail
              refine (answerI_in (t : Int) v wr T.out.a (by omega) HT.out.2).mono ?_
              rw [MB.out]
              rintro o w6 ⟨rfl, ip6, k6⟩
              have T6 : Hid (IsP 57 (Value.int .i64) RI w6 pa ma (n : Int) (quo (n : Int) 1) (upd M (t : Int) v) ∧ Kept (fun j => j = ma) wr w6) := ⟨ip6, k6⟩
              clear ip6 k6
              go_wp2_with fail
              have VV : Hid (Vars w6) := H.out.2.2.2.by (T.out.kept.trans T6.out.2 (fun j hj z => by have z : j = ma := z; have := T.out.new; omega))
              refine (itoa v KV.out w6 VV.out).mono ?_
              rintro o w7 ⟨rfl, k7⟩
              have T7 : Hid (IsP 57 (Value.int .i64) RI w7 pa ma (n : Int) (quo (n : Int) 1) (upd M (t : Int) v) ∧ Kept (fun j => j = ma) wr w7 ∧ IsP 60 Value.string RS w7 pb mb (n : Int) (quo (n : Int) 1) (strM M)) := by
                have kk := T6.out.2.and0 k7
                obtain ⟨e1, c1, m1⟩ := T.out.a.map
                exact ⟨T6.out.1.k0 k7, kk, T.out.b.kept kk (fun z => cells_ne T.out.b.blk m1 z) (fun z => T.out.ne.1 z.symm)⟩
              clear k7 T6 VV
              have MS : (strM M (t : Int)).isSome = false := (some_map itS (M (t : Int))).trans MB.out
              have MR : (repM M (t : Int)).isSome = false := (some_map _ (M (t : Int))).trans MB.out
              go_wp2_with fail
              refine (answerS_in (t : Int) (itS v) w7 T7.out.2.2 (by omega) HT.out.2).mono ?_
              rw [MS]
              rintro o w8 ⟨rfl, ip8, k8⟩
              have T8 : Hid (IsP 60 Value.string RS w8 pb mb (n : Int) (quo (n : Int) 1) (upd (strM M) (t : Int) (itS v)) ∧ Kept (fun j => j = mb) w7 w8 ∧ IsP 63 rpv RR w8 pd md (n : Int) (quo (n : Int) 1) (repM M)) := by
                have kk : Kept (fun j => j = ma ∨ j = mb) wr w8 := (T7.out.2.1.mono (fun _ _ z => .inl z)).trans k8 (fun _ _ z => .inr z)
                obtain ⟨e1, c1, m1⟩ := T.out.a.map
                obtain ⟨e2, c2, m2⟩ := T.out.b.map
                refine ⟨ip8, k8, T.out.d.kept kk (fun z => ?_) (fun z => ?_)⟩
                · rcases z with z | z
                  · exact cells_ne T.out.d.blk m1 z
                  · exact cells_ne T.out.d.blk m2 z
                · rcases z with z | z
                  · exact T.out.ne.2.1 z.symm
                  · exact T.out.ne.2.2 z.symm
              clear ip8 k8 MS
              go_wp2_with fail
              refine (answerR_in (t : Int) v rText w8 T8.out.2.2 (by omega) HT.out.2).mono ?_
              rw [MR]
              rintro o w9 ⟨rfl, ip9, k9⟩
              have T9 : Hid (L3 w wr w9 bc pa ma pb mb pd md lb cb n M t v) := T.out.three t v HT.out.1 KV.out T7.out.1 T7.out.2.1 T8.out.1 T8.out.2.1 ip9 k9
              clear ip9 k9 T7 T8 MR
              have b0 := T9.out.b
              have b1 := T9.out.b'
              have q0 := T9.out.c
              have q1 := T9.out.l
              have q2 := T9.out.fc
              have q3 := T9.out.fl
              obtain ⟨ne1, ne2, ne3⟩ := T9.out.ne
              rw [MB.out] at q0
              obtain ⟨k, hk⟩ : ∃ k, k = cntM (upd M (t : Int) v) n := ⟨_, rfl⟩
              have k9 : k ≤ 9 := by have := cntM_le (upd M (t : Int) v) n; have := cN.out.2; omega
              have CK : Hid (k = cntM (upd M (t : Int) v) n) := hk
              have cm : cntM M n + 1 = k := by
                rw [hk, cntM_upd M (t : Int) v n (by omega) HT.out.2]
                unfold nput
                rw [MB.out]
                rfl
              obtain ⟨k0, hk0⟩ : ∃ k0, k0 = cntM M n := ⟨_, rfl⟩
              rw [← hk0] at cm
              rw [← hk0]
              have HK0 : Hid (k0 = cntM M n) := hk0
              obtain ⟨mt, hmt⟩ : ∃ mt, mt = metV (upd M (t : Int) v) n := ⟨_, rfl⟩
              have mq : decide ((n : Int) + 1 ≤ 2 * (k : Int)) = mt := by rw [hmt, hk]; exact metV_eq _ n
              have HMT : Hid (mt = metV (upd M (t : Int) v) n) := hmt
              have kq : (k0 : Int) + 1 = (k : Int) := by omega
              obtain ⟨W, hW⟩ : ∃ W, W = (w9.setCell ⟨cb, t, none⟩ (.bool true)).setCell ⟨lb, t, none⟩ (.int .i64 v) := ⟨_, rfl⟩
              have EW : Hid (W = (w9.setCell ⟨cb, t, none⟩ (.bool true)).setCell ⟨lb, t, none⟩ (.int .i64 v)) := hW
              have TU : Hid (LK w W bc pa ma pb mb pd md lb cb n (upd M (t : Int) v)) := by rw [hW]; exact T9.out.up
              clear hk hk0 hmt hW T9
              go_upto_region 29 with fail
              rw [← EW.out]
              clear b0 b1 q0 q1 q2 q3 mq
              obtain ⟨dd, hdd⟩ : ∃ dd : Nat, (dd : Int) = (n : Int) - (k : Int) := ⟨n - k, by have := cntM_le (upd M (t : Int) v) n; rw [← CK.out] at this; omega⟩
              have wd : IntKind.i64.wrap ((n : Int) - (k : Int)) = (dd : Int) := by rw [IntKind.wrap_i64]; omega
              have HDD : Hid ((dd : Int) = (n : Int) - (k : Int)) := hdd
              have d9 : dd ≤ 9 := by omega
              clear hdd
              have ST : Hid (LK w W.drew bc pa ma pb mb pd md lb cb n (upd M (t : Int) v)) := TU.out.k0 (Kept.refl _ _).drew
              have c0 := TU.out.cells.1
              clear TU
              go_region_held3 (fun w' => w'.cell? ⟨bc, 0, none⟩ = some (.int .i64 (n : Int))) (first | go_keep)
                (first
                  | (go_at_call 15; refine (ST.out.mis).mono ?_; rw [← CK.out]; rintro o wE ⟨qE, LE, cE, rfl, hLc, hL, kE⟩; obtain rfl : LE = dd := (by have := HDD.out; omega); have SN := ST.out.k0 kE; have cc := SN.cells.1; clear ST hL kE; have ST : Hid (LK w wE bc pa ma pb mb pd md lb cb n (upd M (t : Int) v)) := SN; clear SN)
                  | (go_at_call 14; refine (ST.out.met3).mono ?_; rw [← HMT.out]; rintro o wD ⟨rfl, kD⟩; have SN := ST.out.k0 kD; have cc := SN.cells.1; clear ST kD; have ST : Hid (LK w wD bc pa ma pb mb pd md lb cb n (upd M (t : Int) v)) := SN; clear SN)
                  | (go_at_call 13; refine (ST.out.met2).mono ?_; rw [← HMT.out]; rintro o wC ⟨rfl, kC⟩; have SN := ST.out.k0 kC; have cc := SN.cells.1; clear ST kC; have ST : Hid (LK w wC bc pa ma pb mb pd md lb cb n (upd M (t : Int) v)) := SN; clear SN)
                  | (go_at_call 12; refine (ST.out.met1).mono ?_; rw [← HMT.out]; rintro o wB ⟨rfl, kB⟩; have SN := ST.out.k0 kB; have cc := SN.cells.1; clear ST kB; have ST : Hid (LK w wB bc pa ma pb mb pd md lb cb n (upd M (t : Int) v)) := SN; clear SN)
                  | (go_at_call 11; refine (ST.out.len).mono ?_; rw [← CK.out]; rintro o wA ⟨rfl, kA⟩; have SN := ST.out.k0 kA; have cc := SN.cells.1; clear ST kA; have ST : Hid (LK w wA bc pa ma pb mb pd md lb cb n (upd M (t : Int) v)) := SN; clear SN)
                  | fail)
              all_goals go_wp2_with fail
              all_goals go_roundw
              case rel => exact ⟨i + 1, upd M (t : Int) v, by go_num, by rw [← CK.out], by omega, ST⟩
              case measure => simp [intOf]; omega
          · as_aux_lemma =>
              have MB : Hid ((M (t : Int)).isSome = true) := hb
              clear hb
              go_wp2_with fail
              refine (answerI_in (t : Int) v wr T.out.a (by omega) HT.out.2).mono ?_
              rw [MB.out]
              rintro o w6 ⟨rfl, ip6, k6⟩
              have T6 : Hid (IsP 57 (Value.int .i64) RI w6 pa ma (n : Int) (quo (n : Int) 1) (upd M (t : Int) v) ∧ Kept (fun j => j = ma) wr w6) := ⟨ip6, k6⟩
              clear ip6 k6
              go_wp2_with fail
              have VV : Hid (Vars w6) := H.out.2.2.2.by (T.out.kept.trans T6.out.2 (fun j hj z => by have z : j = ma := z; have := T.out.new; omega))
              refine (itoa v KV.out w6 VV.out).mono ?_
              rintro o w7 ⟨rfl, k7⟩
              have T7 : Hid (IsP 57 (Value.int .i64) RI w7 pa ma (n : Int) (quo (n : Int) 1) (upd M (t : Int) v) ∧ Kept (fun j => j = ma) wr w7 ∧ IsP 60 Value.string RS w7 pb mb (n : Int) (quo (n : Int) 1) (strM M)) := by
                have kk := T6.out.2.and0 k7
                obtain ⟨e1, c1, m1⟩ := T.out.a.map
                exact ⟨T6.out.1.k0 k7, kk, T.out.b.kept kk (fun z => cells_ne T.out.b.blk m1 z) (fun z => T.out.ne.1 z.symm)⟩
              clear k7 T6 VV
              have MS : (strM M (t : Int)).isSome = true := (some_map itS (M (t : Int))).trans MB.out
              have MR : (repM M (t : Int)).isSome = true := (some_map _ (M (t : Int))).trans MB.out
              go_wp2_with fail
              refine (answerS_in (t : Int) (itS v) w7 T7.out.2.2 (by omega) HT.out.2).mono ?_
              rw [MS]
              rintro o w8 ⟨rfl, ip8, k8⟩
              have T8 : Hid (IsP 60 Value.string RS w8 pb mb (n : Int) (quo (n : Int) 1) (upd (strM M) (t : Int) (itS v)) ∧ Kept (fun j => j = mb) w7 w8 ∧ IsP 63 rpv RR w8 pd md (n : Int) (quo (n : Int) 1) (repM M)) := by
                have kk : Kept (fun j => j = ma ∨ j = mb) wr w8 := (T7.out.2.1.mono (fun _ _ z => .inl z)).trans k8 (fun _ _ z => .inr z)
                obtain ⟨e1, c1, m1⟩ := T.out.a.map
                obtain ⟨e2, c2, m2⟩ := T.out.b.map
                refine ⟨ip8, k8, T.out.d.kept kk (fun z => ?_) (fun z => ?_)⟩
                · rcases z with z | z
                  · exact cells_ne T.out.d.blk m1 z
                  · exact cells_ne T.out.d.blk m2 z
                · rcases z with z | z
                  · exact T.out.ne.2.1 z.symm
                  · exact T.out.ne.2.2 z.symm
              clear ip8 k8 MS
              go_wp2_with fail
              refine (answerR_in (t : Int) v rText w8 T8.out.2.2 (by omega) HT.out.2).mono ?_
              rw [MR]
              rintro o w9 ⟨rfl, ip9, k9⟩
              have T9 : Hid (L3 w wr w9 bc pa ma pb mb pd md lb cb n M t v) := T.out.three t v HT.out.1 KV.out T7.out.1 T7.out.2.1 T8.out.1 T8.out.2.1 ip9 k9
              clear ip9 k9 T7 T8 MR
              have b0 := T9.out.b
              have b1 := T9.out.b'
              have q0 := T9.out.c
              have q1 := T9.out.l
              have q2 := T9.out.fc
              have q3 := T9.out.fl
              obtain ⟨ne1, ne2, ne3⟩ := T9.out.ne
              rw [MB.out] at q0
              obtain ⟨k, hk⟩ : ∃ k, k = cntM (upd M (t : Int) v) n := ⟨_, rfl⟩
              have k9 : k ≤ 9 := by have := cntM_le (upd M (t : Int) v) n; have := cN.out.2; omega
              have CK : Hid (k = cntM (upd M (t : Int) v) n) := hk
              have cm : cntM M n = k := by
                rw [hk, cntM_upd M (t : Int) v n (by omega) HT.out.2]
                unfold nput
                rw [MB.out]
                rfl
              obtain ⟨k0, hk0⟩ : ∃ k0, k0 = cntM M n := ⟨_, rfl⟩
              rw [← hk0] at cm
              rw [← hk0]
              have HK0 : Hid (k0 = cntM M n) := hk0
              obtain ⟨mt, hmt⟩ : ∃ mt, mt = metV (upd M (t : Int) v) n := ⟨_, rfl⟩
              have mq : decide ((n : Int) + 1 ≤ 2 * (k : Int)) = mt := by rw [hmt, hk]; exact metV_eq _ n
              have HMT : Hid (mt = metV (upd M (t : Int) v) n) := hmt
              have cm2 := cm.symm
              subst cm2
              obtain ⟨W, hW⟩ : ∃ W, W = (w9.setCell ⟨cb, t, none⟩ (.bool true)).setCell ⟨lb, t, none⟩ (.int .i64 v) := ⟨_, rfl⟩
              have EW : Hid (W = (w9.setCell ⟨cb, t, none⟩ (.bool true)).setCell ⟨lb, t, none⟩ (.int .i64 v)) := hW
              have TU : Hid (LK w W bc pa ma pb mb pd md lb cb n (upd M (t : Int) v)) := by rw [hW]; exact T9.out.up
              clear hk hk0 hmt hW T9
              go_upto_region 29 with fail
              rw [← EW.out]
              clear b0 b1 q0 q1 q2 q3 mq
              obtain ⟨dd, hdd⟩ : ∃ dd : Nat, (dd : Int) = (n : Int) - (k : Int) := ⟨n - k, by have := cntM_le (upd M (t : Int) v) n; rw [← CK.out] at this; omega⟩
              have wd : IntKind.i64.wrap ((n : Int) - (k : Int)) = (dd : Int) := by rw [IntKind.wrap_i64]; omega
              have HDD : Hid ((dd : Int) = (n : Int) - (k : Int)) := hdd
              have d9 : dd ≤ 9 := by omega
              clear hdd
              have ST : Hid (LK w W.drew bc pa ma pb mb pd md lb cb n (upd M (t : Int) v)) := TU.out.k0 (Kept.refl _ _).drew
              have c0 := TU.out.cells.1
              clear TU
              go_region_held3 (fun w' => w'.cell? ⟨bc, 0, none⟩ = some (.int .i64 (n : Int))) (first | go_keep)
                (first
                  | (go_at_call 15; refine (ST.out.mis).mono ?_; rw [← CK.out]; rintro o wE ⟨qE, LE, cE, rfl, hLc, hL, kE⟩; obtain rfl : LE = dd := (by have := HDD.out; omega); have SN := ST.out.k0 kE; have cc := SN.cells.1; clear ST hL kE; have ST : Hid (LK w wE bc pa ma pb mb pd md lb cb n (upd M (t : Int) v)) := SN; clear SN)
                  | (go_at_call 14; refine (ST.out.met3).mono ?_; rw [← HMT.out]; rintro o wD ⟨rfl, kD⟩; have SN := ST.out.k0 kD; have cc := SN.cells.1; clear ST kD; have ST : Hid (LK w wD bc pa ma pb mb pd md lb cb n (upd M (t : Int) v)) := SN; clear SN)
                  | (go_at_call 13; refine (ST.out.met2).mono ?_; rw [← HMT.out]; rintro o wC ⟨rfl, kC⟩; have SN := ST.out.k0 kC; have cc := SN.cells.1; clear ST kC; have ST : Hid (LK w wC bc pa ma pb mb pd md lb cb n (upd M (t : Int) v)) := SN; clear SN)
                  | (go_at_call 12; refine (ST.out.met1).mono ?_; rw [← HMT.out]; rintro o wB ⟨rfl, kB⟩; have SN := ST.out.k0 kB; have cc := SN.cells.1; clear ST kB; have ST : Hid (LK w wB bc pa ma pb mb pd md lb cb n (upd M (t : Int) v)) := SN; clear SN)
                  | (go_at_call 11; refine (ST.out.len).mono ?_; rw [← CK.out]; rintro o wA ⟨rfl, kA⟩; have SN := ST.out.k0 kA; have cc := SN.cells.1; clear ST kA; have ST : Hid (LK w wA bc pa ma pb mb pd md lb cb n (upd M (t : Int) v)) := SN; clear SN)
                  | fail)
              all_goals go_wp2_with fail
              all_goals go_roundw
              case rel => exact ⟨i + 1, upd M (t : Int) v, by go_num, by rw [← CK.out], by omega, ST⟩
              case measure => simp [intOf]; omega
    · have b0 := T.out.cells.1
      go_wp2_with fail
      clear b0
      (try go_frame)
      go_loopw [225] (fun z wr => ∃ s : Nat, z = .int .i64 (s : Int) ∧ s ≤ n ∧ Hid (LK w wr bc pa ma pb mb pd md lb cb n M)) (fun z _ => n - (intOf z).toNat)
      case atStart => exact ⟨0, rfl, Nat.zero_le _, T⟩
      case round =>
        clear T
        obtain ⟨s, rfl, hsn, T⟩ := hrel
        by_cases hs : s < n
        · have KS : Hid (KF (s : Int)) := by
            show KF (s : Int)
            unfold KF; omega
          have hs' : (s : Int) < (n : Int) := by omega
          cases hm : M (s : Int) with
          | none =>
            as_aux_lemma =>
              have HM : Hid (M (s : Int) = none) := hm
              have q0 := (T.out.at s hs).1
              have q1 := (T.out.at s hs).2.1
              rw [hm] at q0 q1
              replace q0 : wr.cell? ⟨cb, s, none⟩ = some (.bool false) := q0
              replace q1 : wr.cell? ⟨lb, s, none⟩ = some (.int .i64 0) := q1
              have QQ : Hid (wr.cell? ⟨cb, s, none⟩ = some (.bool false) ∧ wr.cell? ⟨lb, s, none⟩ = some (.int .i64 0)) := ⟨q0, q1⟩
              clear hm q0 q1
              go_wp2_with fail
              refine (getI (s : Int) wr T.out.a KS.out).mono ?_
              rw [HM.out]
              rintro o w6 ⟨rfl, rfl⟩
              dsimp only [Option.getD, Option.isSome]
              go_wp2_with fail
              refine (getS (s : Int) w6 T.out.b KS.out).mono ?_
              have eS : strM M (s : Int) = none := by unfold strM; rw [HM.out]; rfl
              rw [eS]
              rintro o w7 ⟨rfl, rfl⟩
              dsimp only [Option.getD, Option.isSome]
              clear eS
              go_wp2_with fail
              refine (getR (s : Int) w7 T.out.d KS.out).mono ?_
              have eR : repM M (s : Int) = none := by unfold repM; rw [HM.out]; rfl
              rw [eR]
              rintro o w8 ⟨rfl, k8⟩
              dsimp only [Option.getD, Option.isSome, rpv]
              clear eR
              obtain ⟨wz, hwz⟩ : ∃ wz, wz = w8.alloc (.cells #[.int .i64 0, .string (ByteArray.mk #[])] 36) := ⟨_, rfl⟩
              obtain ⟨bz, hbz⟩ : ∃ bz, bz = w8.heap.size := ⟨_, rfl⟩
              have KZ : Hid (Kept (fun _ => False) w7 wz ∧ wz.heap[bz]? = some (.cells #[.int .i64 0, .string (ByteArray.mk #[])] 36 (0, 0)) ∧ wz = w8.alloc (.cells #[.int .i64 0, .string (ByteArray.mk #[])] 36) ∧ bz = w8.heap.size) := ⟨by rw [hwz]; exact k8.alloc _, by rw [hwz, hbz]; exact heap_alloc_new _ _, hwz, hbz⟩
              have TZ : Hid (LK w wz bc pa ma pb mb pd md lb cb n M) := T.out.k0 KZ.out.1
              have SH : Hid (∀ V, Kept (fun _ => False) wz V → V.cell? ⟨cb, s, none⟩ = some (.bool false) ∧ V.cell? ⟨lb, s, none⟩ = some (.int .i64 0) ∧ V.cell? ⟨bz, 0, none⟩ = some (.int .i64 0) ∧ V.cell? ⟨bz, 1, none⟩ = some (.string (ByteArray.mk #[]))) := fun V kV => by
                have k2 := KZ.out.1.and0 kV
                have b2 := kV.get KZ.out.2.1 (fun z => z)
                exact ⟨k2.cell QQ.out.1 (fun z => z), k2.cell QQ.out.2 (fun z => z), cell_blk b2 0 rfl, cell_blk b2 1 rfl⟩


              clear k8 hwz hbz T
              go_upto_region 38 with fail
              rw [← KZ.out.2.2.1, ← KZ.out.2.2.2]
              obtain ⟨p0, p1, p2, p3⟩ := SH.out wz (Kept.refl _ _)
              go_upto_region 40 with fail
              clear p0 p1 p2 p3
              refine wp_region_held_drew (S := (fun V => V.cell? ⟨cb, s, none⟩ = some (.bool false) ∧ V.cell? ⟨lb, s, none⟩ = some (.int .i64 0) ∧ V.cell? ⟨bz, 0, none⟩ = some (.int .i64 0) ∧ V.cell? ⟨bz, 1, none⟩ = some (.string (ByteArray.mk #[])))) (by kernel_rfl) ?_ (fun hHeld => ?_)
              · exact SH.out _ (Kept.refl _ _).drew
              refine wpAnyH_take (i := 0) (oi := { dst := some 268, op := Op.move (Operand.tmp 14), type := 37, pos := "law.go:172", after := #[], guard := none }) (v := .slice (some ⟨cb, 0, none⟩) n n) rfl (by kernel_rfl) (by kernel_rfl) (by kernel_rfl) (fun _ _ _ h => h) (Or.inl ⟨by rfl, ?_⟩) (by assumption) ?_
              · intro w9 hSw
                (try dsimp only at hSw)
                go_simp
                all_goals (try omega)
                all_goals (try rfl)
              (try simp only [Act.put, List.setIfInBounds_toArray, List.set_cons_zero, List.set_cons_succ])
              refine wpAnyH_take (i := 1) (oi := { dst := some 269, op := Op.move (Operand.tmp 26), type := 3, pos := "law.go:172", after := #[], guard := none }) (v := .int .i64 (s : Int)) rfl (by kernel_rfl) (by kernel_rfl) (by kernel_rfl) (fun _ _ _ h => h) (Or.inl ⟨by rfl, ?_⟩) (by assumption) ?_
              · intro w9 hSw
                (try dsimp only at hSw)
                go_simp
                all_goals (try omega)
                all_goals (try rfl)
              (try simp only [Act.put, List.setIfInBounds_toArray, List.set_cons_zero, List.set_cons_succ])
              refine wpAnyH_take (i := 2) (oi := { dst := some 270, op := Op.indexAddr 37 (Operand.tmp 268) (Operand.tmp 269), type := 0, pos := "law.go:172", after := #[{ on := 0, ground := Ground.data }, { on := 1, ground := Ground.data }], guard := none }) (v := .pointer (some ⟨cb, s, none⟩)) rfl (by kernel_rfl) (by kernel_rfl) (by kernel_rfl) (fun _ _ _ h => h) (Or.inl ⟨by rfl, ?_⟩) (by assumption) ?_
              · intro w9 hSw
                (try dsimp only at hSw)
                go_simp
                all_goals (try omega)
                all_goals (try rfl)
              (try simp only [Act.put, List.setIfInBounds_toArray, List.set_cons_zero, List.set_cons_succ])
              refine wpAnyH_take (i := 3) (oi := { dst := some 271, op := Op.load 4 (Operand.tmp 270), type := 4, pos := "law.go:172", after := #[{ on := 2, ground := Ground.data }], guard := none }) (v := .bool false) rfl (by kernel_rfl) (by kernel_rfl) (by kernel_rfl) (fun _ _ _ h => h) (Or.inl ⟨by rfl, ?_⟩) (by assumption) ?_
              · intro w9 hSw
                (try dsimp only at hSw)
                go_simp
                all_goals (try omega)
                all_goals (try rfl)
              (try simp only [Act.put, List.setIfInBounds_toArray, List.set_cons_zero, List.set_cons_succ])
              refine wpAnyH_take (i := 4) (oi := { dst := some 272, op := Op.move (Operand.tmp 271), type := 4, pos := "law.go:172", after := #[{ on := 3, ground := Ground.data }], guard := none }) (v := .bool false) rfl (by kernel_rfl) (by kernel_rfl) (by kernel_rfl) (fun _ _ _ h => h) (Or.inl ⟨by rfl, ?_⟩) (by assumption) ?_
              · intro w9 hSw
                (try dsimp only at hSw)
                go_simp
                all_goals (try omega)
                all_goals (try rfl)
              (try simp only [Act.put, List.setIfInBounds_toArray, List.set_cons_zero, List.set_cons_succ])
              refine wpAnyH_take (i := 5) (oi := { dst := some 273, op := Op.move (Operand.tmp 27), type := 3, pos := "law.go:172", after := #[{ on := 4, ground := Ground.guard }], guard := some (4, true) }) (v := undef) rfl (by kernel_rfl) (by kernel_rfl) (by kernel_rfl) (fun _ _ _ h => h) (Or.inr ⟨by rfl, rfl⟩) (by assumption) ?_
              (try simp only [Act.put, List.setIfInBounds_toArray, List.set_cons_zero, List.set_cons_succ])
              refine wpAnyH_take (i := 6) (oi := { dst := some 274, op := Op.move (Operand.tmp 13), type := 24, pos := "law.go:172", after := #[{ on := 4, ground := Ground.guard }], guard := some (4, true) }) (v := undef) rfl (by kernel_rfl) (by kernel_rfl) (by kernel_rfl) (fun _ _ _ h => h) (Or.inr ⟨by rfl, rfl⟩) (by assumption) ?_
              (try simp only [Act.put, List.setIfInBounds_toArray, List.set_cons_zero, List.set_cons_succ])
              refine wpAnyH_take (i := 7) (oi := { dst := some 275, op := Op.move (Operand.tmp 26), type := 3, pos := "law.go:172", after := #[{ on := 4, ground := Ground.guard }], guard := some (4, true) }) (v := undef) rfl (by kernel_rfl) (by kernel_rfl) (by kernel_rfl) (fun _ _ _ h => h) (Or.inr ⟨by rfl, rfl⟩) (by assumption) ?_
              (try simp only [Act.put, List.setIfInBounds_toArray, List.set_cons_zero, List.set_cons_succ])
              refine wpAnyH_take (i := 8) (oi := { dst := some 276, op := Op.indexAddr 24 (Operand.tmp 274) (Operand.tmp 275), type := 0, pos := "law.go:172", after := #[{ on := 6, ground := Ground.data }, { on := 7, ground := Ground.data }, { on := 4, ground := Ground.guard }], guard := some (4, true) }) (v := undef) rfl (by kernel_rfl) (by kernel_rfl) (by kernel_rfl) (fun _ _ _ h => h) (Or.inr ⟨by rfl, rfl⟩) (by assumption) ?_
              (try simp only [Act.put, List.setIfInBounds_toArray, List.set_cons_zero, List.set_cons_succ])
              refine wpAnyH_take (i := 9) (oi := { dst := some 277, op := Op.load 3 (Operand.tmp 276), type := 3, pos := "law.go:172", after := #[{ on := 8, ground := Ground.data }, { on := 4, ground := Ground.guard }], guard := some (4, true) }) (v := undef) rfl (by kernel_rfl) (by kernel_rfl) (by kernel_rfl) (fun _ _ _ h => h) (Or.inr ⟨by rfl, rfl⟩) (by assumption) ?_
              (try simp only [Act.put, List.setIfInBounds_toArray, List.set_cons_zero, List.set_cons_succ])
              refine wpAnyH_take (i := 10) (oi := { dst := some 278, op := Op.binOp BinOp.neq 3 (Operand.tmp 273) (Operand.tmp 277) 3, type := 4, pos := "law.go:172", after := #[{ on := 5, ground := Ground.data }, { on := 9, ground := Ground.data }, { on := 4, ground := Ground.guard }], guard := some (4, true) }) (v := undef) rfl (by kernel_rfl) (by kernel_rfl) (by kernel_rfl) (fun _ _ _ h => h) (Or.inr ⟨by rfl, rfl⟩) (by assumption) ?_
              (try simp only [Act.put, List.setIfInBounds_toArray, List.set_cons_zero, List.set_cons_succ])
              refine wpAnyH_take (i := 11) (oi := { dst := some 279, op := Op.move (Operand.tmp 278), type := 4, pos := "law.go:172", after := #[{ on := 10, ground := Ground.data }, { on := 4, ground := Ground.chain }, { on := 4, ground := Ground.guard }], guard := some (4, true) }) (v := undef) rfl (by kernel_rfl) (by kernel_rfl) (by kernel_rfl) (fun _ _ _ h => h) (Or.inr ⟨by rfl, rfl⟩) (by assumption) ?_
              (try simp only [Act.put, List.setIfInBounds_toArray, List.set_cons_zero, List.set_cons_succ])
              refine wpAnyH_take (i := 12) (oi := { dst := some 280, op := Op.move (Operand.tmp 29), type := 9, pos := "law.go:172", after := #[{ on := 11, ground := Ground.guard }], guard := some (11, false) }) (v := undef) rfl (by kernel_rfl) (by kernel_rfl) (by kernel_rfl) (fun _ _ _ h => h) (Or.inr ⟨by rfl, rfl⟩) (by assumption) ?_
              (try simp only [Act.put, List.setIfInBounds_toArray, List.set_cons_zero, List.set_cons_succ])
              refine wpAnyH_take (i := 13) (oi := { dst := some 281, op := Op.move (Operand.tmp 13), type := 24, pos := "law.go:172", after := #[{ on := 11, ground := Ground.guard }], guard := some (11, false) }) (v := undef) rfl (by kernel_rfl) (by kernel_rfl) (by kernel_rfl) (fun _ _ _ h => h) (Or.inr ⟨by rfl, rfl⟩) (by assumption) ?_
              (try simp only [Act.put, List.setIfInBounds_toArray, List.set_cons_zero, List.set_cons_succ])
              refine wpAnyH_take (i := 14) (oi := { dst := some 282, op := Op.move (Operand.tmp 26), type := 3, pos := "law.go:172", after := #[{ on := 11, ground := Ground.guard }], guard := some (11, false) }) (v := undef) rfl (by kernel_rfl) (by kernel_rfl) (by kernel_rfl) (fun _ _ _ h => h) (Or.inr ⟨by rfl, rfl⟩) (by assumption) ?_
              (try simp only [Act.put, List.setIfInBounds_toArray, List.set_cons_zero, List.set_cons_succ])
              refine wpAnyH_take (i := 15) (oi := { dst := some 283, op := Op.indexAddr 24 (Operand.tmp 281) (Operand.tmp 282), type := 0, pos := "law.go:172", after := #[{ on := 13, ground := Ground.data }, { on := 14, ground := Ground.data }, { on := 11, ground := Ground.guard }], guard := some (11, false) }) (v := undef) rfl (by kernel_rfl) (by kernel_rfl) (by kernel_rfl) (fun _ _ _ h => h) (Or.inr ⟨by rfl, rfl⟩) (by assumption) ?_
              (try simp only [Act.put, List.setIfInBounds_toArray, List.set_cons_zero, List.set_cons_succ])
              refine wpAnyH_take (i := 16) (oi := { dst := some 284, op := Op.load 3 (Operand.tmp 283), type := 3, pos := "law.go:172", after := #[{ on := 15, ground := Ground.data }, { on := 11, ground := Ground.guard }], guard := some (11, false) }) (v := undef) rfl (by kernel_rfl) (by kernel_rfl) (by kernel_rfl) (fun _ _ _ h => h) (Or.inr ⟨by rfl, rfl⟩) (by assumption) ?_
              (try simp only [Act.put, List.setIfInBounds_toArray, List.set_cons_zero, List.set_cons_succ])
              refine wpAnyH_take (i := 17) (oi := { dst := some 285, op := Op.call { callee := Callee.value (Operand.func 9), args := #[Operand.tmp 284], argTypes := #[3] }, type := 9, pos := "law.go:172", after := #[{ on := 16, ground := Ground.data }, { on := 11, ground := Ground.chain }, { on := 11, ground := Ground.guard }], guard := some (11, false) }) (v := undef) rfl (by kernel_rfl) (by kernel_rfl) (by kernel_rfl) (fun _ _ _ h => h) (Or.inr ⟨by rfl, rfl⟩) (by assumption) ?_
              (try simp only [Act.put, List.setIfInBounds_toArray, List.set_cons_zero, List.set_cons_succ])
              refine wpAnyH_take (i := 18) (oi := { dst := some 286, op := Op.binOp BinOp.neq 9 (Operand.tmp 280) (Operand.tmp 285) 9, type := 4, pos := "law.go:172", after := #[{ on := 12, ground := Ground.data }, { on := 17, ground := Ground.data }, { on := 11, ground := Ground.guard }], guard := some (11, false) }) (v := undef) rfl (by kernel_rfl) (by kernel_rfl) (by kernel_rfl) (fun _ _ _ h => h) (Or.inr ⟨by rfl, rfl⟩) (by assumption) ?_
              (try simp only [Act.put, List.setIfInBounds_toArray, List.set_cons_zero, List.set_cons_succ])
              refine wpAnyH_take (i := 19) (oi := { dst := some 287, op := Op.pick (Operand.tmp 279) (Operand.const (Value.bool true)) (Operand.tmp 286), type := 4, pos := "law.go:172", after := #[{ on := 11, ground := Ground.data }, { on := 18, ground := Ground.data }, { on := 4, ground := Ground.guard }], guard := some (4, true) }) (v := undef) rfl (by kernel_rfl) (by kernel_rfl) (by kernel_rfl) (fun _ _ _ h => h) (Or.inr ⟨by rfl, rfl⟩) (by assumption) ?_
              (try simp only [Act.put, List.setIfInBounds_toArray, List.set_cons_zero, List.set_cons_succ])
              refine wpAnyH_take (i := 20) (oi := { dst := some 288, op := Op.move (Operand.tmp 287), type := 4, pos := "law.go:172", after := #[{ on := 19, ground := Ground.data }, { on := 17, ground := Ground.chain }, { on := 4, ground := Ground.guard }], guard := some (4, true) }) (v := undef) rfl (by kernel_rfl) (by kernel_rfl) (by kernel_rfl) (fun _ _ _ h => h) (Or.inr ⟨by rfl, rfl⟩) (by assumption) ?_
              (try simp only [Act.put, List.setIfInBounds_toArray, List.set_cons_zero, List.set_cons_succ])
              refine wpAnyH_take (i := 21) (oi := { dst := some 289, op := Op.load 36 (Operand.tmp 31), type := 36, pos := "law.go:172", after := #[{ on := 20, ground := Ground.guard }], guard := some (20, false) }) (v := undef) rfl (by kernel_rfl) (by kernel_rfl) (by kernel_rfl) (fun _ _ _ h => h) (Or.inr ⟨by rfl, rfl⟩) (by assumption) ?_
              (try simp only [Act.put, List.setIfInBounds_toArray, List.set_cons_zero, List.set_cons_succ])
              refine wpAnyH_take (i := 22) (oi := { dst := some 290, op := Op.move (Operand.tmp 13), type := 24, pos := "law.go:172", after := #[{ on := 20, ground := Ground.guard }], guard := some (20, false) }) (v := undef) rfl (by kernel_rfl) (by kernel_rfl) (by kernel_rfl) (fun _ _ _ h => h) (Or.inr ⟨by rfl, rfl⟩) (by assumption) ?_
              (try simp only [Act.put, List.setIfInBounds_toArray, List.set_cons_zero, List.set_cons_succ])
              refine wpAnyH_take (i := 23) (oi := { dst := some 291, op := Op.move (Operand.tmp 26), type := 3, pos := "law.go:172", after := #[{ on := 20, ground := Ground.guard }], guard := some (20, false) }) (v := undef) rfl (by kernel_rfl) (by kernel_rfl) (by kernel_rfl) (fun _ _ _ h => h) (Or.inr ⟨by rfl, rfl⟩) (by assumption) ?_
              (try simp only [Act.put, List.setIfInBounds_toArray, List.set_cons_zero, List.set_cons_succ])
              refine wpAnyH_take (i := 24) (oi := { dst := some 292, op := Op.indexAddr 24 (Operand.tmp 290) (Operand.tmp 291), type := 0, pos := "law.go:172", after := #[{ on := 22, ground := Ground.data }, { on := 23, ground := Ground.data }, { on := 20, ground := Ground.guard }], guard := some (20, false) }) (v := undef) rfl (by kernel_rfl) (by kernel_rfl) (by kernel_rfl) (fun _ _ _ h => h) (Or.inr ⟨by rfl, rfl⟩) (by assumption) ?_
              (try simp only [Act.put, List.setIfInBounds_toArray, List.set_cons_zero, List.set_cons_succ])
              refine wpAnyH_take (i := 25) (oi := { dst := some 293, op := Op.load 3 (Operand.tmp 292), type := 3, pos := "law.go:172", after := #[{ on := 24, ground := Ground.data }, { on := 20, ground := Ground.guard }], guard := some (20, false) }) (v := undef) rfl (by kernel_rfl) (by kernel_rfl) (by kernel_rfl) (fun _ _ _ h => h) (Or.inr ⟨by rfl, rfl⟩) (by assumption) ?_
              (try simp only [Act.put, List.setIfInBounds_toArray, List.set_cons_zero, List.set_cons_succ])
              refine wpAnyH_take (i := 26) (oi := { dst := some 294, op := Op.build 36 #[(0, Operand.tmp 293), (1, Operand.const (Value.string { data := #[114] }))], type := 36, pos := "law.go:172", after := #[{ on := 25, ground := Ground.data }, { on := 20, ground := Ground.guard }], guard := some (20, false) }) (v := undef) rfl (by kernel_rfl) (by kernel_rfl) (by kernel_rfl) (fun _ _ _ h => h) (Or.inr ⟨by rfl, rfl⟩) (by assumption) ?_
              (try simp only [Act.put, List.setIfInBounds_toArray, List.set_cons_zero, List.set_cons_succ])
              refine wpAnyH_take (i := 27) (oi := { dst := some 295, op := Op.binOp BinOp.neq 36 (Operand.tmp 289) (Operand.tmp 294) 36, type := 4, pos := "law.go:172", after := #[{ on := 21, ground := Ground.data }, { on := 26, ground := Ground.data }, { on := 20, ground := Ground.guard }], guard := some (20, false) }) (v := undef) rfl (by kernel_rfl) (by kernel_rfl) (by kernel_rfl) (fun _ _ _ h => h) (Or.inr ⟨by rfl, rfl⟩) (by assumption) ?_
              (try simp only [Act.put, List.setIfInBounds_toArray, List.set_cons_zero, List.set_cons_succ])
              refine wpAnyH_take (i := 28) (oi := { dst := some 296, op := Op.pick (Operand.tmp 288) (Operand.const (Value.bool true)) (Operand.tmp 295), type := 4, pos := "law.go:172", after := #[{ on := 20, ground := Ground.data }, { on := 27, ground := Ground.data }, { on := 4, ground := Ground.guard }], guard := some (4, true) }) (v := undef) rfl (by kernel_rfl) (by kernel_rfl) (by kernel_rfl) (fun _ _ _ h => h) (Or.inr ⟨by rfl, rfl⟩) (by assumption) ?_
              (try simp only [Act.put, List.setIfInBounds_toArray, List.set_cons_zero, List.set_cons_succ])
              refine wpAnyH_take (i := 29) (oi := { dst := some 297, op := Op.pick (Operand.tmp 272) (Operand.tmp 296) (Operand.const (Value.bool false)), type := 4, pos := "law.go:172", after := #[{ on := 4, ground := Ground.data }, { on := 28, ground := Ground.data }], guard := none }) (v := .bool false) rfl (by kernel_rfl) (by kernel_rfl) (by kernel_rfl) (fun _ _ _ h => h) (Or.inl ⟨by rfl, ?_⟩) (by assumption) ?_
              · intro w9 hSw
                (try dsimp only at hSw)
                go_simp
                all_goals (try omega)
                all_goals (try rfl)
              (try simp only [Act.put, List.setIfInBounds_toArray, List.set_cons_zero, List.set_cons_succ])
              refine wpAnyH_take (i := 30) (oi := { dst := some 298, op := Op.move (Operand.tmp 297), type := 4, pos := "law.go:172", after := #[{ on := 29, ground := Ground.data }, { on := 20, ground := Ground.chain }], guard := none }) (v := .bool false) rfl (by kernel_rfl) (by kernel_rfl) (by kernel_rfl) (fun _ _ _ h => h) (Or.inl ⟨by rfl, ?_⟩) (by assumption) ?_
              · intro w9 hSw
                (try dsimp only at hSw)
                go_simp
                all_goals (try omega)
                all_goals (try rfl)
              (try simp only [Act.put, List.setIfInBounds_toArray, List.set_cons_zero, List.set_cons_succ])
              refine wpAnyH_take (i := 31) (oi := { dst := some 299, op := Op.move (Operand.tmp 14), type := 37, pos := "law.go:172", after := #[{ on := 30, ground := Ground.guard }], guard := some (30, false) }) (v := .slice (some ⟨cb, 0, none⟩) n n) rfl (by kernel_rfl) (by kernel_rfl) (by kernel_rfl) (fun _ _ _ h => h) (Or.inl ⟨by rfl, ?_⟩) (by assumption) ?_
              · intro w9 hSw
                (try dsimp only at hSw)
                go_simp
                all_goals (try omega)
                all_goals (try rfl)
              (try simp only [Act.put, List.setIfInBounds_toArray, List.set_cons_zero, List.set_cons_succ])
              refine wpAnyH_take (i := 32) (oi := { dst := some 300, op := Op.move (Operand.tmp 26), type := 3, pos := "law.go:172", after := #[{ on := 30, ground := Ground.guard }], guard := some (30, false) }) (v := .int .i64 (s : Int)) rfl (by kernel_rfl) (by kernel_rfl) (by kernel_rfl) (fun _ _ _ h => h) (Or.inl ⟨by rfl, ?_⟩) (by assumption) ?_
              · intro w9 hSw
                (try dsimp only at hSw)
                go_simp
                all_goals (try omega)
                all_goals (try rfl)
              (try simp only [Act.put, List.setIfInBounds_toArray, List.set_cons_zero, List.set_cons_succ])
              refine wpAnyH_take (i := 33) (oi := { dst := some 301, op := Op.indexAddr 37 (Operand.tmp 299) (Operand.tmp 300), type := 0, pos := "law.go:172", after := #[{ on := 31, ground := Ground.data }, { on := 32, ground := Ground.data }, { on := 30, ground := Ground.guard }], guard := some (30, false) }) (v := .pointer (some ⟨cb, s, none⟩)) rfl (by kernel_rfl) (by kernel_rfl) (by kernel_rfl) (fun _ _ _ h => h) (Or.inl ⟨by rfl, ?_⟩) (by assumption) ?_
              · intro w9 hSw
                (try dsimp only at hSw)
                go_simp
                all_goals (try omega)
                all_goals (try rfl)
              (try simp only [Act.put, List.setIfInBounds_toArray, List.set_cons_zero, List.set_cons_succ])
              refine wpAnyH_take (i := 34) (oi := { dst := some 302, op := Op.load 4 (Operand.tmp 301), type := 4, pos := "law.go:172", after := #[{ on := 33, ground := Ground.data }, { on := 30, ground := Ground.guard }], guard := some (30, false) }) (v := .bool false) rfl (by kernel_rfl) (by kernel_rfl) (by kernel_rfl) (fun _ _ _ h => h) (Or.inl ⟨by rfl, ?_⟩) (by assumption) ?_
              · intro w9 hSw
                (try dsimp only at hSw)
                go_simp
                all_goals (try omega)
                all_goals (try rfl)
              (try simp only [Act.put, List.setIfInBounds_toArray, List.set_cons_zero, List.set_cons_succ])
              refine wpAnyH_take (i := 35) (oi := { dst := some 303, op := Op.unOp UnOp.not 4 (Operand.tmp 302), type := 4, pos := "law.go:172", after := #[{ on := 34, ground := Ground.data }, { on := 30, ground := Ground.guard }], guard := some (30, false) }) (v := .bool true) rfl (by kernel_rfl) (by kernel_rfl) (by kernel_rfl) (fun _ _ _ h => h) (Or.inl ⟨by rfl, ?_⟩) (by assumption) ?_
              · intro w9 hSw
                (try dsimp only at hSw)
                go_simp
                all_goals (try omega)
                all_goals (try rfl)
              (try simp only [Act.put, List.setIfInBounds_toArray, List.set_cons_zero, List.set_cons_succ])
              refine wpAnyH_take (i := 36) (oi := { dst := some 304, op := Op.move (Operand.tmp 303), type := 4, pos := "law.go:172", after := #[{ on := 35, ground := Ground.data }, { on := 30, ground := Ground.chain }, { on := 30, ground := Ground.guard }], guard := some (30, false) }) (v := .bool true) rfl (by kernel_rfl) (by kernel_rfl) (by kernel_rfl) (fun _ _ _ h => h) (Or.inl ⟨by rfl, ?_⟩) (by assumption) ?_
              · intro w9 hSw
                (try dsimp only at hSw)
                go_simp
                all_goals (try omega)
                all_goals (try rfl)
              (try simp only [Act.put, List.setIfInBounds_toArray, List.set_cons_zero, List.set_cons_succ])
              refine wpAnyH_take (i := 37) (oi := { dst := some 305, op := Op.move (Operand.tmp 27), type := 3, pos := "law.go:172", after := #[{ on := 36, ground := Ground.guard }], guard := some (36, true) }) (v := .int .i64 0) rfl (by kernel_rfl) (by kernel_rfl) (by kernel_rfl) (fun _ _ _ h => h) (Or.inl ⟨by rfl, ?_⟩) (by assumption) ?_
              · intro w9 hSw
                (try dsimp only at hSw)
                go_simp
                all_goals (try omega)
                all_goals (try rfl)
              (try simp only [Act.put, List.setIfInBounds_toArray, List.set_cons_zero, List.set_cons_succ])
              refine wpAnyH_take (i := 38) (oi := { dst := some 306, op := Op.binOp BinOp.neq 3 (Operand.tmp 305) (Operand.const (Value.int IntKind.i64 0)) 3, type := 4, pos := "law.go:172", after := #[{ on := 37, ground := Ground.data }, { on := 36, ground := Ground.guard }], guard := some (36, true) }) (v := .bool false) rfl (by kernel_rfl) (by kernel_rfl) (by kernel_rfl) (fun _ _ _ h => h) (Or.inl ⟨by rfl, ?_⟩) (by assumption) ?_
              · intro w9 hSw
                (try dsimp only at hSw)
                go_simp
                all_goals (try omega)
                all_goals (try rfl)
              (try simp only [Act.put, List.setIfInBounds_toArray, List.set_cons_zero, List.set_cons_succ])
              refine wpAnyH_take (i := 39) (oi := { dst := some 307, op := Op.move (Operand.tmp 306), type := 4, pos := "law.go:172", after := #[{ on := 38, ground := Ground.data }, { on := 36, ground := Ground.chain }, { on := 36, ground := Ground.guard }], guard := some (36, true) }) (v := .bool false) rfl (by kernel_rfl) (by kernel_rfl) (by kernel_rfl) (fun _ _ _ h => h) (Or.inl ⟨by rfl, ?_⟩) (by assumption) ?_
              · intro w9 hSw
                (try dsimp only at hSw)
                go_simp
                all_goals (try omega)
                all_goals (try rfl)
              (try simp only [Act.put, List.setIfInBounds_toArray, List.set_cons_zero, List.set_cons_succ])
              refine wpAnyH_take (i := 40) (oi := { dst := some 308, op := Op.move (Operand.tmp 29), type := 9, pos := "law.go:172", after := #[{ on := 39, ground := Ground.guard }], guard := some (39, false) }) (v := .string (ByteArray.mk #[])) rfl (by kernel_rfl) (by kernel_rfl) (by kernel_rfl) (fun _ _ _ h => h) (Or.inl ⟨by rfl, ?_⟩) (by assumption) ?_
              · intro w9 hSw
                (try dsimp only at hSw)
                go_simp
                all_goals (try omega)
                all_goals (try rfl)
              (try simp only [Act.put, List.setIfInBounds_toArray, List.set_cons_zero, List.set_cons_succ])
              refine wpAnyH_take (i := 41) (oi := { dst := some 309, op := Op.binOp BinOp.neq 9 (Operand.tmp 308) (Operand.const (Value.string { data := #[] })) 9, type := 4, pos := "law.go:172", after := #[{ on := 40, ground := Ground.data }, { on := 39, ground := Ground.guard }], guard := some (39, false) }) (v := .bool false) rfl (by kernel_rfl) (by kernel_rfl) (by kernel_rfl) (fun _ _ _ h => h) (Or.inl ⟨by rfl, ?_⟩) (by assumption) ?_
              · intro w9 hSw
                (try dsimp only at hSw)
                go_simp
                all_goals (try omega)
                all_goals (try rfl)
              (try simp only [Act.put, List.setIfInBounds_toArray, List.set_cons_zero, List.set_cons_succ])
              refine wpAnyH_take (i := 42) (oi := { dst := some 310, op := Op.pick (Operand.tmp 307) (Operand.const (Value.bool true)) (Operand.tmp 309), type := 4, pos := "law.go:172", after := #[{ on := 39, ground := Ground.data }, { on := 41, ground := Ground.data }, { on := 36, ground := Ground.guard }], guard := some (36, true) }) (v := .bool false) rfl (by kernel_rfl) (by kernel_rfl) (by kernel_rfl) (fun _ _ _ h => h) (Or.inl ⟨by rfl, ?_⟩) (by assumption) ?_
              · intro w9 hSw
                (try dsimp only at hSw)
                go_simp
                all_goals (try omega)
                all_goals (try rfl)
              (try simp only [Act.put, List.setIfInBounds_toArray, List.set_cons_zero, List.set_cons_succ])
              refine wpAnyH_take (i := 43) (oi := { dst := some 311, op := Op.move (Operand.tmp 310), type := 4, pos := "law.go:172", after := #[{ on := 42, ground := Ground.data }, { on := 39, ground := Ground.chain }, { on := 36, ground := Ground.guard }], guard := some (36, true) }) (v := .bool false) rfl (by kernel_rfl) (by kernel_rfl) (by kernel_rfl) (fun _ _ _ h => h) (Or.inl ⟨by rfl, ?_⟩) (by assumption) ?_
              · intro w9 hSw
                (try dsimp only at hSw)
                go_simp
                all_goals (try omega)
                all_goals (try rfl)
              (try simp only [Act.put, List.setIfInBounds_toArray, List.set_cons_zero, List.set_cons_succ])
              refine wpAnyH_take (i := 44) (oi := { dst := some 312, op := Op.load 36 (Operand.tmp 31), type := 36, pos := "law.go:172", after := #[{ on := 43, ground := Ground.guard }], guard := some (43, false) }) (v := .agg #[.int .i64 0, .string (ByteArray.mk #[])]) rfl (by kernel_rfl) (by kernel_rfl) (by kernel_rfl) (fun _ _ _ h => h) (Or.inl ⟨by rfl, ?_⟩) (by assumption) ?_
              · intro w9 hSw
                (try dsimp only at hSw)
                go_simp
                all_goals (try omega)
                all_goals (try rfl)
              (try simp only [Act.put, List.setIfInBounds_toArray, List.set_cons_zero, List.set_cons_succ])
              refine wpAnyH_take (i := 45) (oi := { dst := some 313, op := Op.build 36 #[], type := 36, pos := "law.go:172", after := #[{ on := 43, ground := Ground.guard }], guard := some (43, false) }) (v := .agg #[.int .i64 0, .string (ByteArray.mk #[])]) rfl (by kernel_rfl) (by kernel_rfl) (by kernel_rfl) (fun _ _ _ h => h) (Or.inl ⟨by rfl, ?_⟩) (by assumption) ?_
              · intro w9 hSw
                (try dsimp only at hSw)
                go_simp
                all_goals (try omega)
                all_goals (try rfl)
              (try simp only [Act.put, List.setIfInBounds_toArray, List.set_cons_zero, List.set_cons_succ])
              refine wpAnyH_take (i := 46) (oi := { dst := some 314, op := Op.binOp BinOp.neq 36 (Operand.tmp 312) (Operand.tmp 313) 36, type := 4, pos := "law.go:172", after := #[{ on := 44, ground := Ground.data }, { on := 45, ground := Ground.data }, { on := 43, ground := Ground.guard }], guard := some (43, false) }) (v := .bool false) rfl (by kernel_rfl) (by kernel_rfl) (by kernel_rfl) (fun _ _ _ h => h) (Or.inl ⟨by rfl, ?_⟩) (by assumption) ?_
              · intro w9 hSw
                (try dsimp only at hSw)
                go_simp
                all_goals (try omega)
                all_goals (try rfl)
              (try simp only [Act.put, List.setIfInBounds_toArray, List.set_cons_zero, List.set_cons_succ])
              refine wpAnyH_take (i := 47) (oi := { dst := some 315, op := Op.pick (Operand.tmp 311) (Operand.const (Value.bool true)) (Operand.tmp 314), type := 4, pos := "law.go:172", after := #[{ on := 43, ground := Ground.data }, { on := 46, ground := Ground.data }, { on := 36, ground := Ground.guard }], guard := some (36, true) }) (v := .bool false) rfl (by kernel_rfl) (by kernel_rfl) (by kernel_rfl) (fun _ _ _ h => h) (Or.inl ⟨by rfl, ?_⟩) (by assumption) ?_
              · intro w9 hSw
                (try dsimp only at hSw)
                go_simp
                all_goals (try omega)
                all_goals (try rfl)
              (try simp only [Act.put, List.setIfInBounds_toArray, List.set_cons_zero, List.set_cons_succ])
              refine wpAnyH_take (i := 48) (oi := { dst := some 316, op := Op.pick (Operand.tmp 304) (Operand.tmp 315) (Operand.const (Value.bool false)), type := 4, pos := "law.go:172", after := #[{ on := 36, ground := Ground.data }, { on := 47, ground := Ground.data }, { on := 30, ground := Ground.guard }], guard := some (30, false) }) (v := .bool false) rfl (by kernel_rfl) (by kernel_rfl) (by kernel_rfl) (fun _ _ _ h => h) (Or.inl ⟨by rfl, ?_⟩) (by assumption) ?_
              · intro w9 hSw
                (try dsimp only at hSw)
                go_simp
                all_goals (try omega)
                all_goals (try rfl)
              (try simp only [Act.put, List.setIfInBounds_toArray, List.set_cons_zero, List.set_cons_succ])
              refine wpAnyH_take (i := 49) (oi := { dst := some 317, op := Op.pick (Operand.tmp 298) (Operand.const (Value.bool true)) (Operand.tmp 316), type := 4, pos := "law.go:172", after := #[{ on := 30, ground := Ground.data }, { on := 48, ground := Ground.data }], guard := none }) (v := .bool false) rfl (by kernel_rfl) (by kernel_rfl) (by kernel_rfl) (fun _ _ _ h => h) (Or.inl ⟨by rfl, ?_⟩) (by assumption) ?_
              · intro w9 hSw
                (try dsimp only at hSw)
                go_simp
                all_goals (try omega)
                all_goals (try rfl)
              (try simp only [Act.put, List.setIfInBounds_toArray, List.set_cons_zero, List.set_cons_succ])
              refine wpAnyH_done (by kernel_rfl) ?_ _
              have TE : Hid (LK w _ bc pa ma pb mb pd md lb cb n M) := TZ.out.k0 (Kept.refl (fun _ => False) wz).drew
              go_wp2_with fail
              go_roundw
              case rel => exact ⟨s + 1, by go_num, by omega, TE⟩
              case measure => simp [intOf]; omega
          | some v =>
            as_aux_lemma =>
              have HM : Hid (M (s : Int) = some v) := hm
              have q0 := (T.out.at s hs).1
              have q1 := (T.out.at s hs).2.1
              rw [hm] at q0 q1
              replace q0 : wr.cell? ⟨cb, s, none⟩ = some (.bool true) := q0
              replace q1 : wr.cell? ⟨lb, s, none⟩ = some (.int .i64 v) := q1
              have QQ : Hid (wr.cell? ⟨cb, s, none⟩ = some (.bool true) ∧ wr.cell? ⟨lb, s, none⟩ = some (.int .i64 v)) := ⟨q0, q1⟩
              clear hm q0 q1
              go_wp2_with fail
              refine (getI (s : Int) wr T.out.a KS.out).mono ?_
              rw [HM.out]
              rintro o w6 ⟨rfl, rfl⟩
              dsimp only [Option.getD, Option.isSome]
              go_wp2_with fail
              refine (getS (s : Int) w6 T.out.b KS.out).mono ?_
              have eS : strM M (s : Int) = some (itS v) := by unfold strM; rw [HM.out]; rfl
              rw [eS]
              rintro o w7 ⟨rfl, rfl⟩
              dsimp only [Option.getD, Option.isSome]
              clear eS
              go_wp2_with fail
              refine (getR (s : Int) w7 T.out.d KS.out).mono ?_
              have eR : repM M (s : Int) = some (v, rText) := by unfold repM; rw [HM.out]; rfl
              rw [eR]
              rintro o w8 ⟨rfl, k8⟩
              dsimp only [Option.getD, Option.isSome, rpv]
              clear eR
              obtain ⟨wz, hwz⟩ : ∃ wz, wz = w8.alloc (.cells #[.int .i64 v, .string rText] 36) := ⟨_, rfl⟩
              obtain ⟨bz, hbz⟩ : ∃ bz, bz = w8.heap.size := ⟨_, rfl⟩
              have KZ : Hid (Kept (fun _ => False) w7 wz ∧ wz.heap[bz]? = some (.cells #[.int .i64 v, .string rText] 36 (0, 0)) ∧ wz = w8.alloc (.cells #[.int .i64 v, .string rText] 36) ∧ bz = w8.heap.size) := ⟨by rw [hwz]; exact k8.alloc _, by rw [hwz, hbz]; exact heap_alloc_new _ _, hwz, hbz⟩
              have TZ : Hid (LK w wz bc pa ma pb mb pd md lb cb n M) := T.out.k0 KZ.out.1
              have SH : Hid (∀ V, Kept (fun _ => False) wz V → V.cell? ⟨cb, s, none⟩ = some (.bool true) ∧ V.cell? ⟨lb, s, none⟩ = some (.int .i64 v) ∧ V.cell? ⟨bz, 0, none⟩ = some (.int .i64 v) ∧ V.cell? ⟨bz, 1, none⟩ = some (.string rText)) := fun V kV => by
                have k2 := KZ.out.1.and0 kV
                have b2 := kV.get KZ.out.2.1 (fun z => z)
                exact ⟨k2.cell QQ.out.1 (fun z => z), k2.cell QQ.out.2 (fun z => z), cell_blk b2 0 rfl, cell_blk b2 1 rfl⟩
              have KV : Hid (KF v) := T.out.fit _ _ HM.out
              have VV : Hid (Vars wz.drew) := H.out.2.2.2.by (TZ.out.kept.drew)
              clear k8 hwz hbz T
              go_upto_region 38 with fail
              rw [← KZ.out.2.2.1, ← KZ.out.2.2.2]
              obtain ⟨p0, p1, p2, p3⟩ := SH.out wz (Kept.refl _ _)
              go_upto_region 40 with fail
              clear p0 p1 p2 p3
              refine wp_region_held_drew (S := (fun V => V.cell? ⟨cb, s, none⟩ = some (.bool true) ∧ V.cell? ⟨lb, s, none⟩ = some (.int .i64 v) ∧ V.cell? ⟨bz, 0, none⟩ = some (.int .i64 v) ∧ V.cell? ⟨bz, 1, none⟩ = some (.string rText))) (by kernel_rfl) ?_ (fun hHeld => ?_)
              · exact SH.out _ (Kept.refl _ _).drew
              refine wpAnyH_take (i := 0) (oi := { dst := some 268, op := Op.move (Operand.tmp 14), type := 37, pos := "law.go:172", after := #[], guard := none }) (v := .slice (some ⟨cb, 0, none⟩) n n) rfl (by kernel_rfl) (by kernel_rfl) (by kernel_rfl) (fun _ _ _ h => h) (Or.inl ⟨by rfl, ?_⟩) (by assumption) ?_
              · intro w9 hSw
                (try dsimp only at hSw)
                go_simp
                all_goals (try omega)
                all_goals (try rfl)
              (try simp only [Act.put, List.setIfInBounds_toArray, List.set_cons_zero, List.set_cons_succ])
              refine wpAnyH_take (i := 1) (oi := { dst := some 269, op := Op.move (Operand.tmp 26), type := 3, pos := "law.go:172", after := #[], guard := none }) (v := .int .i64 (s : Int)) rfl (by kernel_rfl) (by kernel_rfl) (by kernel_rfl) (fun _ _ _ h => h) (Or.inl ⟨by rfl, ?_⟩) (by assumption) ?_
              · intro w9 hSw
                (try dsimp only at hSw)
                go_simp
                all_goals (try omega)
                all_goals (try rfl)
              (try simp only [Act.put, List.setIfInBounds_toArray, List.set_cons_zero, List.set_cons_succ])
              refine wpAnyH_take (i := 2) (oi := { dst := some 270, op := Op.indexAddr 37 (Operand.tmp 268) (Operand.tmp 269), type := 0, pos := "law.go:172", after := #[{ on := 0, ground := Ground.data }, { on := 1, ground := Ground.data }], guard := none }) (v := .pointer (some ⟨cb, s, none⟩)) rfl (by kernel_rfl) (by kernel_rfl) (by kernel_rfl) (fun _ _ _ h => h) (Or.inl ⟨by rfl, ?_⟩) (by assumption) ?_
              · intro w9 hSw
                (try dsimp only at hSw)
                go_simp
                all_goals (try omega)
                all_goals (try rfl)
              (try simp only [Act.put, List.setIfInBounds_toArray, List.set_cons_zero, List.set_cons_succ])
              refine wpAnyH_take (i := 3) (oi := { dst := some 271, op := Op.load 4 (Operand.tmp 270), type := 4, pos := "law.go:172", after := #[{ on := 2, ground := Ground.data }], guard := none }) (v := .bool true) rfl (by kernel_rfl) (by kernel_rfl) (by kernel_rfl) (fun _ _ _ h => h) (Or.inl ⟨by rfl, ?_⟩) (by assumption) ?_
              · intro w9 hSw
                (try dsimp only at hSw)
                go_simp
                all_goals (try omega)
                all_goals (try rfl)
              (try simp only [Act.put, List.setIfInBounds_toArray, List.set_cons_zero, List.set_cons_succ])
              refine wpAnyH_take (i := 4) (oi := { dst := some 272, op := Op.move (Operand.tmp 271), type := 4, pos := "law.go:172", after := #[{ on := 3, ground := Ground.data }], guard := none }) (v := .bool true) rfl (by kernel_rfl) (by kernel_rfl) (by kernel_rfl) (fun _ _ _ h => h) (Or.inl ⟨by rfl, ?_⟩) (by assumption) ?_
              · intro w9 hSw
                (try dsimp only at hSw)
                go_simp
                all_goals (try omega)
                all_goals (try rfl)
              (try simp only [Act.put, List.setIfInBounds_toArray, List.set_cons_zero, List.set_cons_succ])
              refine wpAnyH_take (i := 5) (oi := { dst := some 273, op := Op.move (Operand.tmp 27), type := 3, pos := "law.go:172", after := #[{ on := 4, ground := Ground.guard }], guard := some (4, true) }) (v := .int .i64 v) rfl (by kernel_rfl) (by kernel_rfl) (by kernel_rfl) (fun _ _ _ h => h) (Or.inl ⟨by rfl, ?_⟩) (by assumption) ?_
              · intro w9 hSw
                (try dsimp only at hSw)
                go_simp
                all_goals (try omega)
                all_goals (try rfl)
              (try simp only [Act.put, List.setIfInBounds_toArray, List.set_cons_zero, List.set_cons_succ])
              refine wpAnyH_take (i := 6) (oi := { dst := some 274, op := Op.move (Operand.tmp 13), type := 24, pos := "law.go:172", after := #[{ on := 4, ground := Ground.guard }], guard := some (4, true) }) (v := .slice (some ⟨lb, 0, none⟩) n n) rfl (by kernel_rfl) (by kernel_rfl) (by kernel_rfl) (fun _ _ _ h => h) (Or.inl ⟨by rfl, ?_⟩) (by assumption) ?_
              · intro w9 hSw
                (try dsimp only at hSw)
                go_simp
                all_goals (try omega)
                all_goals (try rfl)
              (try simp only [Act.put, List.setIfInBounds_toArray, List.set_cons_zero, List.set_cons_succ])
              refine wpAnyH_take (i := 7) (oi := { dst := some 275, op := Op.move (Operand.tmp 26), type := 3, pos := "law.go:172", after := #[{ on := 4, ground := Ground.guard }], guard := some (4, true) }) (v := .int .i64 (s : Int)) rfl (by kernel_rfl) (by kernel_rfl) (by kernel_rfl) (fun _ _ _ h => h) (Or.inl ⟨by rfl, ?_⟩) (by assumption) ?_
              · intro w9 hSw
                (try dsimp only at hSw)
                go_simp
                all_goals (try omega)
                all_goals (try rfl)
              (try simp only [Act.put, List.setIfInBounds_toArray, List.set_cons_zero, List.set_cons_succ])
              refine wpAnyH_take (i := 8) (oi := { dst := some 276, op := Op.indexAddr 24 (Operand.tmp 274) (Operand.tmp 275), type := 0, pos := "law.go:172", after := #[{ on := 6, ground := Ground.data }, { on := 7, ground := Ground.data }, { on := 4, ground := Ground.guard }], guard := some (4, true) }) (v := .pointer (some ⟨lb, s, none⟩)) rfl (by kernel_rfl) (by kernel_rfl) (by kernel_rfl) (fun _ _ _ h => h) (Or.inl ⟨by rfl, ?_⟩) (by assumption) ?_
              · intro w9 hSw
                (try dsimp only at hSw)
                go_simp
                all_goals (try omega)
                all_goals (try rfl)
              (try simp only [Act.put, List.setIfInBounds_toArray, List.set_cons_zero, List.set_cons_succ])
              refine wpAnyH_take (i := 9) (oi := { dst := some 277, op := Op.load 3 (Operand.tmp 276), type := 3, pos := "law.go:172", after := #[{ on := 8, ground := Ground.data }, { on := 4, ground := Ground.guard }], guard := some (4, true) }) (v := .int .i64 v) rfl (by kernel_rfl) (by kernel_rfl) (by kernel_rfl) (fun _ _ _ h => h) (Or.inl ⟨by rfl, ?_⟩) (by assumption) ?_
              · intro w9 hSw
                (try dsimp only at hSw)
                go_simp
                all_goals (try omega)
                all_goals (try rfl)
              (try simp only [Act.put, List.setIfInBounds_toArray, List.set_cons_zero, List.set_cons_succ])
              refine wpAnyH_take (i := 10) (oi := { dst := some 278, op := Op.binOp BinOp.neq 3 (Operand.tmp 273) (Operand.tmp 277) 3, type := 4, pos := "law.go:172", after := #[{ on := 5, ground := Ground.data }, { on := 9, ground := Ground.data }, { on := 4, ground := Ground.guard }], guard := some (4, true) }) (v := .bool false) rfl (by kernel_rfl) (by kernel_rfl) (by kernel_rfl) (fun _ _ _ h => h) (Or.inl ⟨by rfl, ?_⟩) (by assumption) ?_
              · intro w9 hSw
                (try dsimp only at hSw)
                go_simp
                all_goals (try omega)
                all_goals (try rfl)
              (try simp only [Act.put, List.setIfInBounds_toArray, List.set_cons_zero, List.set_cons_succ])
              refine wpAnyH_take (i := 11) (oi := { dst := some 279, op := Op.move (Operand.tmp 278), type := 4, pos := "law.go:172", after := #[{ on := 10, ground := Ground.data }, { on := 4, ground := Ground.chain }, { on := 4, ground := Ground.guard }], guard := some (4, true) }) (v := .bool false) rfl (by kernel_rfl) (by kernel_rfl) (by kernel_rfl) (fun _ _ _ h => h) (Or.inl ⟨by rfl, ?_⟩) (by assumption) ?_
              · intro w9 hSw
                (try dsimp only at hSw)
                go_simp
                all_goals (try omega)
                all_goals (try rfl)
              (try simp only [Act.put, List.setIfInBounds_toArray, List.set_cons_zero, List.set_cons_succ])
              refine wpAnyH_take (i := 12) (oi := { dst := some 280, op := Op.move (Operand.tmp 29), type := 9, pos := "law.go:172", after := #[{ on := 11, ground := Ground.guard }], guard := some (11, false) }) (v := .string (itS v)) rfl (by kernel_rfl) (by kernel_rfl) (by kernel_rfl) (fun _ _ _ h => h) (Or.inl ⟨by rfl, ?_⟩) (by assumption) ?_
              · intro w9 hSw
                (try dsimp only at hSw)
                go_simp
                all_goals (try omega)
                all_goals (try rfl)
              (try simp only [Act.put, List.setIfInBounds_toArray, List.set_cons_zero, List.set_cons_succ])
              refine wpAnyH_take (i := 13) (oi := { dst := some 281, op := Op.move (Operand.tmp 13), type := 24, pos := "law.go:172", after := #[{ on := 11, ground := Ground.guard }], guard := some (11, false) }) (v := .slice (some ⟨lb, 0, none⟩) n n) rfl (by kernel_rfl) (by kernel_rfl) (by kernel_rfl) (fun _ _ _ h => h) (Or.inl ⟨by rfl, ?_⟩) (by assumption) ?_
              · intro w9 hSw
                (try dsimp only at hSw)
                go_simp
                all_goals (try omega)
                all_goals (try rfl)
              (try simp only [Act.put, List.setIfInBounds_toArray, List.set_cons_zero, List.set_cons_succ])
              refine wpAnyH_take (i := 14) (oi := { dst := some 282, op := Op.move (Operand.tmp 26), type := 3, pos := "law.go:172", after := #[{ on := 11, ground := Ground.guard }], guard := some (11, false) }) (v := .int .i64 (s : Int)) rfl (by kernel_rfl) (by kernel_rfl) (by kernel_rfl) (fun _ _ _ h => h) (Or.inl ⟨by rfl, ?_⟩) (by assumption) ?_
              · intro w9 hSw
                (try dsimp only at hSw)
                go_simp
                all_goals (try omega)
                all_goals (try rfl)
              (try simp only [Act.put, List.setIfInBounds_toArray, List.set_cons_zero, List.set_cons_succ])
              refine wpAnyH_take (i := 15) (oi := { dst := some 283, op := Op.indexAddr 24 (Operand.tmp 281) (Operand.tmp 282), type := 0, pos := "law.go:172", after := #[{ on := 13, ground := Ground.data }, { on := 14, ground := Ground.data }, { on := 11, ground := Ground.guard }], guard := some (11, false) }) (v := .pointer (some ⟨lb, s, none⟩)) rfl (by kernel_rfl) (by kernel_rfl) (by kernel_rfl) (fun _ _ _ h => h) (Or.inl ⟨by rfl, ?_⟩) (by assumption) ?_
              · intro w9 hSw
                (try dsimp only at hSw)
                go_simp
                all_goals (try omega)
                all_goals (try rfl)
              (try simp only [Act.put, List.setIfInBounds_toArray, List.set_cons_zero, List.set_cons_succ])
              refine wpAnyH_take (i := 16) (oi := { dst := some 284, op := Op.load 3 (Operand.tmp 283), type := 3, pos := "law.go:172", after := #[{ on := 15, ground := Ground.data }, { on := 11, ground := Ground.guard }], guard := some (11, false) }) (v := .int .i64 v) rfl (by kernel_rfl) (by kernel_rfl) (by kernel_rfl) (fun _ _ _ h => h) (Or.inl ⟨by rfl, ?_⟩) (by assumption) ?_
              · intro w9 hSw
                (try dsimp only at hSw)
                go_simp
                all_goals (try omega)
                all_goals (try rfl)
              (try simp only [Act.put, List.setIfInBounds_toArray, List.set_cons_zero, List.set_cons_succ])
              refine wpAnyH_ready (rs := [17]) (by kernel_rfl) (by simp) ?_
              refine AllReadyH.cons (o := { dst := some 285, op := Op.call { callee := Callee.value (Operand.func 9), args := #[Operand.tmp 284], argTypes := #[3] }, type := 9, pos := "law.go:172", after := #[{ on := 16, ground := Ground.data }, { on := 11, ground := Ground.chain }, { on := 11, ground := Ground.guard }], guard := some (11, false) }) rfl (fun K hK => ?_) AllReadyH.nil
              go_simp
              refine (itoa v KV.out _ VV.out).mono ?_
              rintro o wK ⟨rfl, kK⟩
              have TK : Hid (Kept (fun _ => False) wz.drew wK) := kK
              clear kK
              refine hK.out _ _ ?_ (fun hHeld => ?_)
              · exact SH.out _ (((Kept.refl (fun _ => False) wz).drew).and0 TK.out)
              clear hK K
              (try simp only [Act.put, List.setIfInBounds_toArray, List.set_cons_zero, List.set_cons_succ])
              refine wpAnyH_take (i := 18) (oi := { dst := some 286, op := Op.binOp BinOp.neq 9 (Operand.tmp 280) (Operand.tmp 285) 9, type := 4, pos := "law.go:172", after := #[{ on := 12, ground := Ground.data }, { on := 17, ground := Ground.data }, { on := 11, ground := Ground.guard }], guard := some (11, false) }) (v := .bool false) rfl (by kernel_rfl) (by kernel_rfl) (by kernel_rfl) (fun _ _ _ h => h) (Or.inl ⟨by rfl, ?_⟩) (by assumption) ?_
              · intro w9 hSw
                (try dsimp only at hSw)
                go_simp
                all_goals (try omega)
                all_goals (try rfl)
              (try simp only [Act.put, List.setIfInBounds_toArray, List.set_cons_zero, List.set_cons_succ])
              refine wpAnyH_take (i := 19) (oi := { dst := some 287, op := Op.pick (Operand.tmp 279) (Operand.const (Value.bool true)) (Operand.tmp 286), type := 4, pos := "law.go:172", after := #[{ on := 11, ground := Ground.data }, { on := 18, ground := Ground.data }, { on := 4, ground := Ground.guard }], guard := some (4, true) }) (v := .bool false) rfl (by kernel_rfl) (by kernel_rfl) (by kernel_rfl) (fun _ _ _ h => h) (Or.inl ⟨by rfl, ?_⟩) (by assumption) ?_
              · intro w9 hSw
                (try dsimp only at hSw)
                go_simp
                all_goals (try omega)
                all_goals (try rfl)
              (try simp only [Act.put, List.setIfInBounds_toArray, List.set_cons_zero, List.set_cons_succ])
              refine wpAnyH_take (i := 20) (oi := { dst := some 288, op := Op.move (Operand.tmp 287), type := 4, pos := "law.go:172", after := #[{ on := 19, ground := Ground.data }, { on := 17, ground := Ground.chain }, { on := 4, ground := Ground.guard }], guard := some (4, true) }) (v := .bool false) rfl (by kernel_rfl) (by kernel_rfl) (by kernel_rfl) (fun _ _ _ h => h) (Or.inl ⟨by rfl, ?_⟩) (by assumption) ?_
              · intro w9 hSw
                (try dsimp only at hSw)
                go_simp
                all_goals (try omega)
                all_goals (try rfl)
              (try simp only [Act.put, List.setIfInBounds_toArray, List.set_cons_zero, List.set_cons_succ])
              refine wpAnyH_take (i := 21) (oi := { dst := some 289, op := Op.load 36 (Operand.tmp 31), type := 36, pos := "law.go:172", after := #[{ on := 20, ground := Ground.guard }], guard := some (20, false) }) (v := .agg #[.int .i64 v, .string rText]) rfl (by kernel_rfl) (by kernel_rfl) (by kernel_rfl) (fun _ _ _ h => h) (Or.inl ⟨by rfl, ?_⟩) (by assumption) ?_
              · intro w9 hSw
                (try dsimp only at hSw)
                go_simp
                all_goals (try omega)
                all_goals (try rfl)
              (try simp only [Act.put, List.setIfInBounds_toArray, List.set_cons_zero, List.set_cons_succ])
              refine wpAnyH_take (i := 22) (oi := { dst := some 290, op := Op.move (Operand.tmp 13), type := 24, pos := "law.go:172", after := #[{ on := 20, ground := Ground.guard }], guard := some (20, false) }) (v := .slice (some ⟨lb, 0, none⟩) n n) rfl (by kernel_rfl) (by kernel_rfl) (by kernel_rfl) (fun _ _ _ h => h) (Or.inl ⟨by rfl, ?_⟩) (by assumption) ?_
              · intro w9 hSw
                (try dsimp only at hSw)
                go_simp
                all_goals (try omega)
                all_goals (try rfl)
              (try simp only [Act.put, List.setIfInBounds_toArray, List.set_cons_zero, List.set_cons_succ])
              refine wpAnyH_take (i := 23) (oi := { dst := some 291, op := Op.move (Operand.tmp 26), type := 3, pos := "law.go:172", after := #[{ on := 20, ground := Ground.guard }], guard := some (20, false) }) (v := .int .i64 (s : Int)) rfl (by kernel_rfl) (by kernel_rfl) (by kernel_rfl) (fun _ _ _ h => h) (Or.inl ⟨by rfl, ?_⟩) (by assumption) ?_
              · intro w9 hSw
                (try dsimp only at hSw)
                go_simp
                all_goals (try omega)
                all_goals (try rfl)
              (try simp only [Act.put, List.setIfInBounds_toArray, List.set_cons_zero, List.set_cons_succ])
              refine wpAnyH_take (i := 24) (oi := { dst := some 292, op := Op.indexAddr 24 (Operand.tmp 290) (Operand.tmp 291), type := 0, pos := "law.go:172", after := #[{ on := 22, ground := Ground.data }, { on := 23, ground := Ground.data }, { on := 20, ground := Ground.guard }], guard := some (20, false) }) (v := .pointer (some ⟨lb, s, none⟩)) rfl (by kernel_rfl) (by kernel_rfl) (by kernel_rfl) (fun _ _ _ h => h) (Or.inl ⟨by rfl, ?_⟩) (by assumption) ?_
              · intro w9 hSw
                (try dsimp only at hSw)
                go_simp
                all_goals (try omega)
                all_goals (try rfl)
              (try simp only [Act.put, List.setIfInBounds_toArray, List.set_cons_zero, List.set_cons_succ])
              refine wpAnyH_take (i := 25) (oi := { dst := some 293, op := Op.load 3 (Operand.tmp 292), type := 3, pos := "law.go:172", after := #[{ on := 24, ground := Ground.data }, { on := 20, ground := Ground.guard }], guard := some (20, false) }) (v := .int .i64 v) rfl (by kernel_rfl) (by kernel_rfl) (by kernel_rfl) (fun _ _ _ h => h) (Or.inl ⟨by rfl, ?_⟩) (by assumption) ?_
              · intro w9 hSw
                (try dsimp only at hSw)
                go_simp
                all_goals (try omega)
                all_goals (try rfl)
              (try simp only [Act.put, List.setIfInBounds_toArray, List.set_cons_zero, List.set_cons_succ])
              refine wpAnyH_take (i := 26) (oi := { dst := some 294, op := Op.build 36 #[(0, Operand.tmp 293), (1, Operand.const (Value.string { data := #[114] }))], type := 36, pos := "law.go:172", after := #[{ on := 25, ground := Ground.data }, { on := 20, ground := Ground.guard }], guard := some (20, false) }) (v := .agg #[.int .i64 v, .string rText]) rfl (by kernel_rfl) (by kernel_rfl) (by kernel_rfl) (fun _ _ _ h => h) (Or.inl ⟨by rfl, ?_⟩) (by assumption) ?_
              · intro w9 hSw
                (try dsimp only at hSw)
                go_simp
                all_goals (try omega)
                all_goals (try rfl)
              (try simp only [Act.put, List.setIfInBounds_toArray, List.set_cons_zero, List.set_cons_succ])
              refine wpAnyH_take (i := 27) (oi := { dst := some 295, op := Op.binOp BinOp.neq 36 (Operand.tmp 289) (Operand.tmp 294) 36, type := 4, pos := "law.go:172", after := #[{ on := 21, ground := Ground.data }, { on := 26, ground := Ground.data }, { on := 20, ground := Ground.guard }], guard := some (20, false) }) (v := .bool false) rfl (by kernel_rfl) (by kernel_rfl) (by kernel_rfl) (fun _ _ _ h => h) (Or.inl ⟨by rfl, ?_⟩) (by assumption) ?_
              · intro w9 hSw
                (try dsimp only at hSw)
                go_simp
                all_goals (try omega)
                all_goals (try rfl)
              (try simp only [Act.put, List.setIfInBounds_toArray, List.set_cons_zero, List.set_cons_succ])
              refine wpAnyH_take (i := 28) (oi := { dst := some 296, op := Op.pick (Operand.tmp 288) (Operand.const (Value.bool true)) (Operand.tmp 295), type := 4, pos := "law.go:172", after := #[{ on := 20, ground := Ground.data }, { on := 27, ground := Ground.data }, { on := 4, ground := Ground.guard }], guard := some (4, true) }) (v := .bool false) rfl (by kernel_rfl) (by kernel_rfl) (by kernel_rfl) (fun _ _ _ h => h) (Or.inl ⟨by rfl, ?_⟩) (by assumption) ?_
              · intro w9 hSw
                (try dsimp only at hSw)
                go_simp
                all_goals (try omega)
                all_goals (try rfl)
              (try simp only [Act.put, List.setIfInBounds_toArray, List.set_cons_zero, List.set_cons_succ])
              refine wpAnyH_take (i := 29) (oi := { dst := some 297, op := Op.pick (Operand.tmp 272) (Operand.tmp 296) (Operand.const (Value.bool false)), type := 4, pos := "law.go:172", after := #[{ on := 4, ground := Ground.data }, { on := 28, ground := Ground.data }], guard := none }) (v := .bool false) rfl (by kernel_rfl) (by kernel_rfl) (by kernel_rfl) (fun _ _ _ h => h) (Or.inl ⟨by rfl, ?_⟩) (by assumption) ?_
              · intro w9 hSw
                (try dsimp only at hSw)
                go_simp
                all_goals (try omega)
                all_goals (try rfl)
              (try simp only [Act.put, List.setIfInBounds_toArray, List.set_cons_zero, List.set_cons_succ])
              refine wpAnyH_take (i := 30) (oi := { dst := some 298, op := Op.move (Operand.tmp 297), type := 4, pos := "law.go:172", after := #[{ on := 29, ground := Ground.data }, { on := 20, ground := Ground.chain }], guard := none }) (v := .bool false) rfl (by kernel_rfl) (by kernel_rfl) (by kernel_rfl) (fun _ _ _ h => h) (Or.inl ⟨by rfl, ?_⟩) (by assumption) ?_
              · intro w9 hSw
                (try dsimp only at hSw)
                go_simp
                all_goals (try omega)
                all_goals (try rfl)
              (try simp only [Act.put, List.setIfInBounds_toArray, List.set_cons_zero, List.set_cons_succ])
              refine wpAnyH_take (i := 31) (oi := { dst := some 299, op := Op.move (Operand.tmp 14), type := 37, pos := "law.go:172", after := #[{ on := 30, ground := Ground.guard }], guard := some (30, false) }) (v := .slice (some ⟨cb, 0, none⟩) n n) rfl (by kernel_rfl) (by kernel_rfl) (by kernel_rfl) (fun _ _ _ h => h) (Or.inl ⟨by rfl, ?_⟩) (by assumption) ?_
              · intro w9 hSw
                (try dsimp only at hSw)
                go_simp
                all_goals (try omega)
                all_goals (try rfl)
              (try simp only [Act.put, List.setIfInBounds_toArray, List.set_cons_zero, List.set_cons_succ])
              refine wpAnyH_take (i := 32) (oi := { dst := some 300, op := Op.move (Operand.tmp 26), type := 3, pos := "law.go:172", after := #[{ on := 30, ground := Ground.guard }], guard := some (30, false) }) (v := .int .i64 (s : Int)) rfl (by kernel_rfl) (by kernel_rfl) (by kernel_rfl) (fun _ _ _ h => h) (Or.inl ⟨by rfl, ?_⟩) (by assumption) ?_
              · intro w9 hSw
                (try dsimp only at hSw)
                go_simp
                all_goals (try omega)
                all_goals (try rfl)
              (try simp only [Act.put, List.setIfInBounds_toArray, List.set_cons_zero, List.set_cons_succ])
              refine wpAnyH_take (i := 33) (oi := { dst := some 301, op := Op.indexAddr 37 (Operand.tmp 299) (Operand.tmp 300), type := 0, pos := "law.go:172", after := #[{ on := 31, ground := Ground.data }, { on := 32, ground := Ground.data }, { on := 30, ground := Ground.guard }], guard := some (30, false) }) (v := .pointer (some ⟨cb, s, none⟩)) rfl (by kernel_rfl) (by kernel_rfl) (by kernel_rfl) (fun _ _ _ h => h) (Or.inl ⟨by rfl, ?_⟩) (by assumption) ?_
              · intro w9 hSw
                (try dsimp only at hSw)
                go_simp
                all_goals (try omega)
                all_goals (try rfl)
              (try simp only [Act.put, List.setIfInBounds_toArray, List.set_cons_zero, List.set_cons_succ])
              refine wpAnyH_take (i := 34) (oi := { dst := some 302, op := Op.load 4 (Operand.tmp 301), type := 4, pos := "law.go:172", after := #[{ on := 33, ground := Ground.data }, { on := 30, ground := Ground.guard }], guard := some (30, false) }) (v := .bool true) rfl (by kernel_rfl) (by kernel_rfl) (by kernel_rfl) (fun _ _ _ h => h) (Or.inl ⟨by rfl, ?_⟩) (by assumption) ?_
              · intro w9 hSw
                (try dsimp only at hSw)
                go_simp
                all_goals (try omega)
                all_goals (try rfl)
              (try simp only [Act.put, List.setIfInBounds_toArray, List.set_cons_zero, List.set_cons_succ])
              refine wpAnyH_take (i := 35) (oi := { dst := some 303, op := Op.unOp UnOp.not 4 (Operand.tmp 302), type := 4, pos := "law.go:172", after := #[{ on := 34, ground := Ground.data }, { on := 30, ground := Ground.guard }], guard := some (30, false) }) (v := .bool false) rfl (by kernel_rfl) (by kernel_rfl) (by kernel_rfl) (fun _ _ _ h => h) (Or.inl ⟨by rfl, ?_⟩) (by assumption) ?_
              · intro w9 hSw
                (try dsimp only at hSw)
                go_simp
                all_goals (try omega)
                all_goals (try rfl)
              (try simp only [Act.put, List.setIfInBounds_toArray, List.set_cons_zero, List.set_cons_succ])
              refine wpAnyH_take (i := 36) (oi := { dst := some 304, op := Op.move (Operand.tmp 303), type := 4, pos := "law.go:172", after := #[{ on := 35, ground := Ground.data }, { on := 30, ground := Ground.chain }, { on := 30, ground := Ground.guard }], guard := some (30, false) }) (v := .bool false) rfl (by kernel_rfl) (by kernel_rfl) (by kernel_rfl) (fun _ _ _ h => h) (Or.inl ⟨by rfl, ?_⟩) (by assumption) ?_
              · intro w9 hSw
                (try dsimp only at hSw)
                go_simp
                all_goals (try omega)
                all_goals (try rfl)
              (try simp only [Act.put, List.setIfInBounds_toArray, List.set_cons_zero, List.set_cons_succ])
              refine wpAnyH_take (i := 37) (oi := { dst := some 305, op := Op.move (Operand.tmp 27), type := 3, pos := "law.go:172", after := #[{ on := 36, ground := Ground.guard }], guard := some (36, true) }) (v := undef) rfl (by kernel_rfl) (by kernel_rfl) (by kernel_rfl) (fun _ _ _ h => h) (Or.inr ⟨by rfl, rfl⟩) (by assumption) ?_
              (try simp only [Act.put, List.setIfInBounds_toArray, List.set_cons_zero, List.set_cons_succ])
              refine wpAnyH_take (i := 38) (oi := { dst := some 306, op := Op.binOp BinOp.neq 3 (Operand.tmp 305) (Operand.const (Value.int IntKind.i64 0)) 3, type := 4, pos := "law.go:172", after := #[{ on := 37, ground := Ground.data }, { on := 36, ground := Ground.guard }], guard := some (36, true) }) (v := undef) rfl (by kernel_rfl) (by kernel_rfl) (by kernel_rfl) (fun _ _ _ h => h) (Or.inr ⟨by rfl, rfl⟩) (by assumption) ?_
              (try simp only [Act.put, List.setIfInBounds_toArray, List.set_cons_zero, List.set_cons_succ])
              refine wpAnyH_take (i := 39) (oi := { dst := some 307, op := Op.move (Operand.tmp 306), type := 4, pos := "law.go:172", after := #[{ on := 38, ground := Ground.data }, { on := 36, ground := Ground.chain }, { on := 36, ground := Ground.guard }], guard := some (36, true) }) (v := undef) rfl (by kernel_rfl) (by kernel_rfl) (by kernel_rfl) (fun _ _ _ h => h) (Or.inr ⟨by rfl, rfl⟩) (by assumption) ?_
              (try simp only [Act.put, List.setIfInBounds_toArray, List.set_cons_zero, List.set_cons_succ])
              refine wpAnyH_take (i := 40) (oi := { dst := some 308, op := Op.move (Operand.tmp 29), type := 9, pos := "law.go:172", after := #[{ on := 39, ground := Ground.guard }], guard := some (39, false) }) (v := undef) rfl (by kernel_rfl) (by kernel_rfl) (by kernel_rfl) (fun _ _ _ h => h) (Or.inr ⟨by rfl, rfl⟩) (by assumption) ?_
              (try simp only [Act.put, List.setIfInBounds_toArray, List.set_cons_zero, List.set_cons_succ])
              refine wpAnyH_take (i := 41) (oi := { dst := some 309, op := Op.binOp BinOp.neq 9 (Operand.tmp 308) (Operand.const (Value.string { data := #[] })) 9, type := 4, pos := "law.go:172", after := #[{ on := 40, ground := Ground.data }, { on := 39, ground := Ground.guard }], guard := some (39, false) }) (v := undef) rfl (by kernel_rfl) (by kernel_rfl) (by kernel_rfl) (fun _ _ _ h => h) (Or.inr ⟨by rfl, rfl⟩) (by assumption) ?_
              (try simp only [Act.put, List.setIfInBounds_toArray, List.set_cons_zero, List.set_cons_succ])
              refine wpAnyH_take (i := 42) (oi := { dst := some 310, op := Op.pick (Operand.tmp 307) (Operand.const (Value.bool true)) (Operand.tmp 309), type := 4, pos := "law.go:172", after := #[{ on := 39, ground := Ground.data }, { on := 41, ground := Ground.data }, { on := 36, ground := Ground.guard }], guard := some (36, true) }) (v := undef) rfl (by kernel_rfl) (by kernel_rfl) (by kernel_rfl) (fun _ _ _ h => h) (Or.inr ⟨by rfl, rfl⟩) (by assumption) ?_
              (try simp only [Act.put, List.setIfInBounds_toArray, List.set_cons_zero, List.set_cons_succ])
              refine wpAnyH_take (i := 43) (oi := { dst := some 311, op := Op.move (Operand.tmp 310), type := 4, pos := "law.go:172", after := #[{ on := 42, ground := Ground.data }, { on := 39, ground := Ground.chain }, { on := 36, ground := Ground.guard }], guard := some (36, true) }) (v := undef) rfl (by kernel_rfl) (by kernel_rfl) (by kernel_rfl) (fun _ _ _ h => h) (Or.inr ⟨by rfl, rfl⟩) (by assumption) ?_
              (try simp only [Act.put, List.setIfInBounds_toArray, List.set_cons_zero, List.set_cons_succ])
              refine wpAnyH_take (i := 44) (oi := { dst := some 312, op := Op.load 36 (Operand.tmp 31), type := 36, pos := "law.go:172", after := #[{ on := 43, ground := Ground.guard }], guard := some (43, false) }) (v := undef) rfl (by kernel_rfl) (by kernel_rfl) (by kernel_rfl) (fun _ _ _ h => h) (Or.inr ⟨by rfl, rfl⟩) (by assumption) ?_
              (try simp only [Act.put, List.setIfInBounds_toArray, List.set_cons_zero, List.set_cons_succ])
              refine wpAnyH_take (i := 45) (oi := { dst := some 313, op := Op.build 36 #[], type := 36, pos := "law.go:172", after := #[{ on := 43, ground := Ground.guard }], guard := some (43, false) }) (v := undef) rfl (by kernel_rfl) (by kernel_rfl) (by kernel_rfl) (fun _ _ _ h => h) (Or.inr ⟨by rfl, rfl⟩) (by assumption) ?_
              (try simp only [Act.put, List.setIfInBounds_toArray, List.set_cons_zero, List.set_cons_succ])
              refine wpAnyH_take (i := 46) (oi := { dst := some 314, op := Op.binOp BinOp.neq 36 (Operand.tmp 312) (Operand.tmp 313) 36, type := 4, pos := "law.go:172", after := #[{ on := 44, ground := Ground.data }, { on := 45, ground := Ground.data }, { on := 43, ground := Ground.guard }], guard := some (43, false) }) (v := undef) rfl (by kernel_rfl) (by kernel_rfl) (by kernel_rfl) (fun _ _ _ h => h) (Or.inr ⟨by rfl, rfl⟩) (by assumption) ?_
              (try simp only [Act.put, List.setIfInBounds_toArray, List.set_cons_zero, List.set_cons_succ])
              refine wpAnyH_take (i := 47) (oi := { dst := some 315, op := Op.pick (Operand.tmp 311) (Operand.const (Value.bool true)) (Operand.tmp 314), type := 4, pos := "law.go:172", after := #[{ on := 43, ground := Ground.data }, { on := 46, ground := Ground.data }, { on := 36, ground := Ground.guard }], guard := some (36, true) }) (v := undef) rfl (by kernel_rfl) (by kernel_rfl) (by kernel_rfl) (fun _ _ _ h => h) (Or.inr ⟨by rfl, rfl⟩) (by assumption) ?_
              (try simp only [Act.put, List.setIfInBounds_toArray, List.set_cons_zero, List.set_cons_succ])
              refine wpAnyH_take (i := 48) (oi := { dst := some 316, op := Op.pick (Operand.tmp 304) (Operand.tmp 315) (Operand.const (Value.bool false)), type := 4, pos := "law.go:172", after := #[{ on := 36, ground := Ground.data }, { on := 47, ground := Ground.data }, { on := 30, ground := Ground.guard }], guard := some (30, false) }) (v := .bool false) rfl (by kernel_rfl) (by kernel_rfl) (by kernel_rfl) (fun _ _ _ h => h) (Or.inl ⟨by rfl, ?_⟩) (by assumption) ?_
              · intro w9 hSw
                (try dsimp only at hSw)
                go_simp
                all_goals (try omega)
                all_goals (try rfl)
              (try simp only [Act.put, List.setIfInBounds_toArray, List.set_cons_zero, List.set_cons_succ])
              refine wpAnyH_take (i := 49) (oi := { dst := some 317, op := Op.pick (Operand.tmp 298) (Operand.const (Value.bool true)) (Operand.tmp 316), type := 4, pos := "law.go:172", after := #[{ on := 30, ground := Ground.data }, { on := 48, ground := Ground.data }], guard := none }) (v := .bool false) rfl (by kernel_rfl) (by kernel_rfl) (by kernel_rfl) (fun _ _ _ h => h) (Or.inl ⟨by rfl, ?_⟩) (by assumption) ?_
              · intro w9 hSw
                (try dsimp only at hSw)
                go_simp
                all_goals (try omega)
                all_goals (try rfl)
              (try simp only [Act.put, List.setIfInBounds_toArray, List.set_cons_zero, List.set_cons_succ])
              refine wpAnyH_done (by kernel_rfl) ?_ _
              have TE : Hid (LK w _ bc pa ma pb mb pd md lb cb n M) := TZ.out.k0 (((Kept.refl (fun _ => False) wz).drew).and0 TK.out)
              go_wp2_with fail
              go_roundw
              case rel => exact ⟨s + 1, by go_num, by omega, TE⟩
              case measure => simp [intOf]; omega
        · go_wp2_with fail
          refine (taken _).mono ?_
          rintro o w9 ⟨rfl, k9⟩
          have TE : Hid (Kept (fun _ => False) w w9) := T.out.kept.and0 k9
          clear k9
          go_wp2_with fail
          go_ret
          exact ⟨rfl, TE.out⟩
end Go.Proofs.YteokeifkkhchmaaDoor
