import Derived.Test.YtodmakcklacbfaaNOneJ
namespace Go.Proofs.Ytodmakcklacbfaa
open Go.RowKit 

theorem run_len {f : Fd} : ∀ {o : List Nat} {d : Nat} {v : Int}, f.Run o d v → o.length ≤ left f.n d
  | [], _, _, _ => Nat.zero_le _
  | i :: o, d, v, h => by
    have h1 := run_len h.2
    have h2 := left_add (n := f.n) h.1.1 h.1.2.1
    simp only [List.length_cons]
    omega
theorem mixed_zero (g : Nat → Nat) (R : List Nat) : mixed g R 0 = R := rfl
theorem mixed_all (g : Nat → Nat) (R : List Nat) : mixed g R R.length = R.map g := by
  unfold mixed
  rw [List.take_length, List.drop_length, List.append_nil]
theorem mixed_ge {g : Nat → Nat} {R : List Nat} {j : Nat} (h : R.length = j) : mixed g R j = R.map g := by rw [← h]; exact mixed_all g R
set_option maxRecDepth 100000 in
set_option maxHeartbeats 8000000 in
theorem one {w : World} {p0 : Option Addr} {n c0 : Nat} {ms : List Cm} (cr : CRd w p0 n c0 ms) (hb : n ≤ 1300000000000) : Calls Try.prog 15 #[.slice p0 n c0] w (RetO (OneQ ms w)) := by
  have rm := cr.room
  have sm := cr.small
  unfold maxLen at sm
  obtain ⟨bad, hbad⟩ : ∃ bad, bad = ms.any fun m => m.cl.bad := ⟨_, rfl⟩
  have CB : Hid (Calls Try.prog 43 #[.slice p0 n c0, .func (.func 44) #[] #[]] w fun o w' => o = .returned (.bool bad) ∧ Kept (fun _ => False) w w') := by
    rw [hbad]
    exact containsBad cr
  have H : Hid (CRd w p0 n c0 ms ∧ n ≤ 1300000000000 ∧ bad = ms.any fun m => m.cl.bad) := ⟨cr, hb, hbad⟩
  clear cr hb hbad
  go_enter Try.func15, Try.ntmps15
  go_wp2_with fail
  refine CB.out.mono ?_
  rintro o w1 ⟨rfl, K1'⟩
  have K1 : Hid (Kept (fun _ => False) w w1) := K1'
  clear K1' CB
  cases bad
  · have NB : Hid (∀ c ∈ ms.map Cm.cl, c.bad = false) := by
      intro c hc
      obtain ⟨m, hm, rfl⟩ := List.mem_map.1 hc
      have := H.out.2.2
      cases q : m.cl.bad
      · rfl
      · have : (ms.any fun m => m.cl.bad) = true := List.any_eq_true.2 ⟨m, hm, q⟩
        rw [← H.out.2.2] at this
        cases this
    have S0 : Hid (OS w w1 ms 0 none 0 0 none 0 0) := ⟨NRow.nil _ _, ⟨rfl, ⟨rfl, .inl ⟨rfl, rfl⟩⟩⟩, K1.out⟩
    go_wp2_with fail
    go_loopw [5, 6, 7, 8, 17] (fun u5 u6 _ _ u17 wr => ∃ (i k c k' c' : Nat) (p q : Option Addr), u5 = .slice p k c ∧ u6 = .slice q k' c' ∧ u17 = .int .i64 (i : Int) ∧ i ≤ n ∧ Hid (OS w wr ms i p k c q k' c')) (fun _ _ _ _ u17 _ => n - (intOf u17).toNat)
    case atStart => exact ⟨0, 0, 0, 0, 0, none, none, rfl, rfl, rfl, Nat.zero_le _, S0⟩
    case round =>
      obtain ⟨i, k, c, k', c', p, q, rfl, rfl, rfl, hi, S⟩ := hrel
      clear S0
      obtain ⟨wo, hwo⟩ : ∃ wo, wo = wr := ⟨_, rfl⟩
      rw [← hwo] at S ⊢
      clear hwo
      by_cases hlt : i < n
      · have i1 : (i : Int) < (n : Int) := by omega
        have cr := H.out.1.k0 S.out.kept
        obtain ⟨b, off, m, rfl, hm, c0', c1, c2, c3, c4, c5, c6, c7, c8, c9, c10, _⟩ := cr.at hlt
        obtain ⟨W, hW⟩ : ∃ W, W = wo.alloc (.cells #[.int .i64 m.client, .int .i64 m.op, .bool m.put, .string m.key, .slice m.va m.vn m.vc, .int .i64 m.st, .int .i64 m.frm, .int .i64 m.to, .bool m.opn, .int .i64 m.tx, .int .i64 m.ty] 38) := ⟨_, rfl⟩
        obtain ⟨B, hB⟩ : ∃ B, B = wo.heap.size := ⟨_, rfl⟩
        have J : Hid (W.heap[B]? = some (.cells m.cs 38 (0, 0)) ∧ OS w W ms i p k c q k' c' ∧ ms[i]? = some m) := by
          have K : Kept (fun _ => False) wo W := by rw [hW]; exact (Kept.refl _ _).alloc _
          refine ⟨?_, S.out.k0 K, hm⟩
          rw [hW, hB]
          exact alloc_new _ _
        have EW : Hid (W = wo.alloc (.cells #[.int .i64 m.client, .int .i64 m.op, .bool m.put, .string m.key, .slice m.va m.vn m.vc, .int .i64 m.st, .int .i64 m.frm, .int .i64 m.to, .bool m.opn, .int .i64 m.tx, .int .i64 m.ty] 38) ∧ B = wo.heap.size) := ⟨hW, hB⟩
        clear hW hB cr hm S
        go_upto_region 8 with fail
        rw [← EW.out.1, ← EW.out.2]
        clear c0' c1 c2 c3 c4 c5 c6 c7 c8 c9 c10 EW
        have c0' := cell_blk J.out.1 0 (v := .int .i64 m.client) rfl
        have c1 := cell_blk J.out.1 1 (v := .int .i64 m.op) rfl
        have c2 := cell_blk J.out.1 2 (v := .bool m.put) rfl
        have c3 := cell_blk J.out.1 3 (v := .string m.key) rfl
        have c4 := cell_blk J.out.1 4 (v := .slice m.va m.vn m.vc) rfl
        have c5 := cell_blk J.out.1 5 (v := .int .i64 m.st) rfl
        have c6 := cell_blk J.out.1 6 (v := .int .i64 m.frm) rfl
        have c7 := cell_blk J.out.1 7 (v := .int .i64 m.to) rfl
        have c8 := cell_blk J.out.1 8 (v := .bool m.opn) rfl
        have c9 := cell_blk J.out.1 9 (v := .int .i64 m.tx) rfl
        have c10 := cell_blk J.out.1 10 (v := .int .i64 m.ty) rfl
        obtain ⟨pt, hpt⟩ : ∃ pt, m.cl.part = pt := ⟨_, rfl⟩
        have CP : Hid (Calls Try.prog 45 #[.agg #[.int .i64 m.client, .int .i64 m.op, .bool m.put, .string m.key, .slice m.va m.vn m.vc, .int .i64 m.st, .int .i64 m.frm, .int .i64 m.to, .bool m.opn, .int .i64 m.tx, .int .i64 m.ty]] W fun o w' => o = .returned (.bool pt) ∧ Kept (fun _ => False) W w') := by
          rw [← hpt]
          exact hasPart m W
        have HP : Hid (m.cl.part = pt) := hpt
        clear hpt
        go_wp2_with fail
        refine CP.out.mono ?_
        rintro o w2 ⟨rfl, K2⟩
        have T : Hid (OS w w2 ms i p k c q k' c' ∧ w2.heap[B]? = some (.cells m.cs 38 (0, 0)) ∧ Kept (fun _ => False) W w2) := ⟨J.out.2.1.k0 K2, K2.get J.out.1 (fun z => z), K2⟩
        replace c0' := K2.cell c0' (fun z => z)
        replace c1 := K2.cell c1 (fun z => z)
        replace c2 := K2.cell c2 (fun z => z)
        replace c3 := K2.cell c3 (fun z => z)
        replace c4 := K2.cell c4 (fun z => z)
        replace c5 := K2.cell c5 (fun z => z)
        replace c6 := K2.cell c6 (fun z => z)
        replace c7 := K2.cell c7 (fun z => z)
        replace c8 := K2.cell c8 (fun z => z)
        replace c9 := K2.cell c9 (fun z => z)
        replace c10 := K2.cell c10 (fun z => z)
        clear K2 CP
        cases pt
        · go_wp2_with fail
          go_roundw
          case rel => exact ⟨i + 1, k, c, k', c', p, q, rfl, rfl, by go_num, by omega, J.out.2.1.skip J.out.2.2 HP.out T.out.2.2⟩
          case measure => simp [intOf] <;> omega
        · have BL : Hid ((k + 1 ≤ maxLen ∧ ((k + 1) + (k + 1) / 4 + 192) * 8 ≤ 281474976710656) ∧ (k' + 1 ≤ maxLen ∧ ((k' + 1) + (k' + 1) / 4 + 192) * 112 ≤ 281474976710656)) := by
            obtain ⟨h1, h2⟩ := parts_len ms i
            have h3 := T.out.1.nums.len
            have h4 := T.out.1.parts.len
            have h5 := H.out.2.1
            unfold maxLen
            exact ⟨⟨by omega, by omega⟩, ⟨by omega, by omega⟩⟩
          go_upto_region 10 with
            (first
              | (at_builtin; refine wpList_append_all _ rfl (.tmp 24) (.tmp 26) 22 3 22 _ 1 8 rfl Try.underlying22 Try.info3c rfl w.heap.size (.slice p k c) k (intsN (numsL ms i)) rfl (((Kept.refl (fun _ => False) w2).alloc _).owns T.out.1.nums.row (fun _ _ z => z)) _ 1 (intsN [i]) rfl (src_one (heap_alloc_new w2 _)) BL.out.1.1 BL.out.1.2 (Nat.le_trans T.out.1.kept.size ((Kept.refl (fun _ => False) w2).alloc _).size) ?_; intro p9 c9' w9 ho hg hn)
              | fail)
          have KG : Hid (Kept (fun j => blockOf p = some j) w2 w9) := ((Kept.refl (fun j => blockOf p = some j) w2).alloc _).grown hg.out (fun j _ z => by rw [blockOf_own] at z; exact z)
          have nB : ¬ blockOf p = some B := fun z => by
            obtain ⟨cs, hc⟩ := own_type T.out.1.nums.row B z
            rw [T.out.2.1] at hc
            simp at hc
          have B9 : Hid (w9.heap[B]? = some (.cells m.cs 38 (0, 0))) := KG.out.get T.out.2.1 nB
          have Q9 : Hid (w9.ownsRow w.heap.size 38 11 (.slice q k' c') k' (ccells (partsL ms i)) ∧ w.heap.size ≤ w9.heap.size) := by
            refine ⟨KG.out.owns T.out.1.parts.row (fun j hj z => ?_), Nat.le_trans T.out.1.kept.size KG.out.size⟩
            obtain ⟨cs, hc⟩ := own_type T.out.1.nums.row j z
            obtain ⟨cs', hc'⟩ := own_type T.out.1.parts.row j (by rw [← blockOf_own q k' c']; exact hj)
            rw [hc] at hc'
            simp at hc'
          clear c0' c1 c2 c3 c4 c5 c6 c7 c8 c9 c10
          have c0' := cell_blk B9.out 0 (v := .int .i64 m.client) rfl
          have c1 := cell_blk B9.out 1 (v := .int .i64 m.op) rfl
          have c2 := cell_blk B9.out 2 (v := .bool m.put) rfl
          have c3 := cell_blk B9.out 3 (v := .string m.key) rfl
          have c4 := cell_blk B9.out 4 (v := .slice m.va m.vn m.vc) rfl
          have c5 := cell_blk B9.out 5 (v := .int .i64 m.st) rfl
          have c6 := cell_blk B9.out 6 (v := .int .i64 m.frm) rfl
          have c7 := cell_blk B9.out 7 (v := .int .i64 m.to) rfl
          have c8 := cell_blk B9.out 8 (v := .bool m.opn) rfl
          have c9 := cell_blk B9.out 9 (v := .int .i64 m.tx) rfl
          have c10 := cell_blk B9.out 10 (v := .int .i64 m.ty) rfl
          go_upto_region 11 with
            (first
              | (at_builtin; refine wpList_append_all _ rfl (.tmp 28) (.tmp 30) 27 38 27 _ 11 112 rfl Try.underlying27 Try.info38c rfl w.heap.size (.slice q k' c') k' (ccells (partsL ms i)) rfl (((Kept.refl (fun _ => False) w9).alloc _).owns Q9.out.1 (fun _ _ z => z)) _ 1 (ccells [m]) rfl (src_call (heap_alloc_new w9 _)) BL.out.2.1 BL.out.2.2 (Nat.le_trans Q9.out.2 ((Kept.refl (fun _ => False) w9).alloc _).size) ?_; intro q8 c8' w8 ho' hg' hn')
              | fail)
          have T8 : Hid (OS w w8 ms (i + 1) p9 (k + 1) c9' q8 (k' + 1) c8') := T.out.1.both J.out.2.2 HP.out ho.out rfl hg.out ho'.out rfl hg'.out
          clear ho hg hn ho' hg' hn' c0' c1 c2 c3 c4 c5 c6 c7 c8 c9 c10
          go_wp2_with fail
          go_roundw
          case rel => exact ⟨i + 1, k + 1, c9', k' + 1, c8', p9, q8, rfl, rfl, by go_num, by omega, T8⟩
          case measure => simp [intOf] <;> omega
      · have i1 : ¬ (i : Int) < (n : Int) := by omega
        have ei : i = ms.length := by have := H.out.1.len; omega
        have T : Hid (OS w wo ms ms.length p k c q k' c') := by
          have := S.out
          rw [ei] at this
          exact this
        clear S ei
        have kl := T.out.parts.len
        have rq := own_room T.out.parts.row
        have rp := own_room T.out.nums.row
        unfold maxLen at rq rp
        obtain ⟨rq1, rq2⟩ := rq
        obtain ⟨rp1, rp2⟩ := rp
        by_cases hv : 24 < k'
        · have hv1 : (24 : Int) < (k' : Int) := by omega
          have G : Hid (OneQ ms w none 0 0 false 4 wo) := ⟨⟨[], one_heavy NB.out (by rw [kl]; exact hv), NRow.nil _ _⟩, by omega, T.out.kept⟩
          go_wp2_with fail
          go_ret3
          exact RetO.mk none 0 0 false 4 rfl G.out
        · have hv1 : ¬ (24 : Int) < (k' : Int) := by omega
          have CR : Hid (CRd wo q k' c' (partsL ms ms.length)) := T.out.parts.rd (fun m hm => by
            obtain ⟨x, hx, e⟩ := List.getElem_of_mem hm
            have hx2 : x < (numsL ms ms.length).length := by rw [(parts_len ms ms.length).1]; exact hx
            obtain ⟨a1, m2, a2, _⟩ := parts_at ms ms.length x _ (List.getElem?_eq_getElem hx2)
            rw [List.getElem?_eq_getElem hx, e, a2] at a1
            have a1 := Option.some.inj a1
            rw [a1]
            exact (H.out.1.k0 T.out.kept).rd m2 (List.mem_of_getElem? a2))
          go_wp2_with fail
          refine (newFinder CR.out (by omega)).mono ?_
          rintro o w3 ⟨fb, rfl, Q3⟩
          obtain ⟨vb, ab, bb, lb, mb, sf, im, lm⟩ := Q3.out.sf
          have F3 : Hid (SF w3 fb (fdOf (partsL ms ms.length)) (partsL ms ms.length) q c' vb ab bb lb mb ∧ IsM w3 mb (fun _ => none) ∧ wo.heap.size ≤ mb ∧ Kept (fun _ => False) wo w3) := ⟨sf, im, lm, Q3.out.k⟩
          clear sf im lm Q3
          go_wp2_with fail
          refine (first (fdOf_ok _) F3.out.1 F3.out.2.1 (fun k hk => absurd rfl hk)).mono ?_
          rintro o w4 ⟨p4, k4, c4, ok, rfl, Q4⟩
          have K4 : Hid (Kept (fun _ => False) w w4 ∧ NRow w.heap.size w4 p k c (numsL ms ms.length)) := by
            have K03 := T.out.kept.trans F3.out.2.2.2 (fun _ _ z => z)
            have lw := T.out.kept.size
            have lm := F3.out.2.2.1
            refine ⟨Kept.own K03 Q4.k (fun b z => by have z : b = mb := z; omega), (T.out.nums.k0 F3.out.2.2.2).off Q4.k ((T.out.nums.k0 F3.out.2.2.2).ne F3.out.2.1)⟩
          have FQ : Hid (FirstQ (fdOf (partsL ms ms.length)) mb w3 p4 k4 c4 ok w4) := Q4
          clear Q4
          cases ok
          · obtain ⟨rfl, rfl, rfl, no⟩ := FQ.out.no rfl
            have G : Hid (OneQ ms w none 0 0 false 0 w4) := ⟨⟨[], one_none NB.out no (by rw [kl]; omega), NRow.nil _ _⟩, by omega, K4.out.1⟩
            clear no
            go_wp2_with fail
            go_loopw [11, 12, 44] (fun _ _ u44 wr => u44 = .int .i64 0 ∧ wr = w4) (fun _ _ _ _ => 0)
            case atStart => exact ⟨rfl, rfl⟩
            case round =>
              obtain ⟨rfl, rfl⟩ := hrel
              go_wp2_with fail
              go_ret3
              exact RetO.mk none 0 0 false 0 rfl G.out
          · obtain ⟨R, nr, run, le⟩ := FQ.out.yes rfl
            have k24 : k4 ≤ 24 := by
              have h1 := run_len run
              rw [left_zero] at h1
              have h2 : (fdOf (partsL ms ms.length)).n = (partsL ms ms.length).length := rfl
              have := nr.len
              omega
            have g : Hid (∃ g : Nat → Nat, g = fun k => (numsL ms ms.length).getD k 0) := ⟨_, rfl⟩
            obtain ⟨g, hg⟩ := g.out
            have G : Hid ((∀ r ∈ R, r < k) ∧ OneS (ms.map Cm.cl) (R.map g) true 0 ∧ R.length = k4 ∧ g = fun k => (numsL ms ms.length).getD k 0) := by
              refine ⟨fun r hr => ?_, ?_, nr.len, hg⟩
              · have h1 := (Run.out run r hr).2
                have h2 : (fdOf (partsL ms ms.length)).n = (partsL ms ms.length).length := rfl
                have h3 := (parts_len ms ms.length).1
                have := T.out.nums.len
                omega
              · rw [hg]
                exact one_good NB.out run le (by rw [kl]; omega)
            have S0 : Hid (NRow w3.heap.size w4 p4 k4 c4 (mixed g R 0) ∧ NRow w.heap.size w4 p k c (numsL ms ms.length) ∧ Kept (fun _ => False) w w4) := ⟨nr, K4.out.2, K4.out.1⟩
            have LT : Hid (w.heap.size ≤ w3.heap.size ∧ ∀ j, blockOf p = some j → j < w3.heap.size) := ⟨Nat.le_trans T.out.kept.size F3.out.2.2.2.size, fun j hj => (own_lt (T.out.nums.k0 F3.out.2.2.2).row j hj).2⟩
            have r4 := own_room nr.row
            unfold maxLen at r4
            obtain ⟨r41, r42⟩ := r4
            clear nr run le hg K4 FQ F3 CR
            go_wp2_with fail
            go_loopw [11, 12, 44] (fun _ _ u44 wr => ∃ j : Nat, u44 = .int .i64 (j : Int) ∧ j ≤ k4 ∧ Hid (NRow w3.heap.size wr p4 k4 c4 (mixed g R j) ∧ NRow w.heap.size wr p k c (numsL ms ms.length) ∧ Kept (fun _ => False) w wr)) (fun _ _ u44 _ => k4 - (intOf u44).toNat)
            case atStart => exact ⟨0, rfl, Nat.zero_le _, S0⟩
            case round =>
              obtain ⟨j, rfl, hj, S⟩ := hrel
              clear S0
              by_cases hlt : j < k4
              · have j1 : (j : Int) < (k4 : Int) := by omega
                obtain ⟨g4, r, rfl, hr0, cr⟩ := S.out.1.at hlt
                have HR : Hid (R[j]? = some r ∧ r < k) := by
                  have hl : j < R.length := by rw [G.out.2.2.1]; exact hlt
                  have h1 := List.getElem?_eq_getElem hl
                  have h2 := (mixed_at (g := g) h1).1
                  rw [h2] at hr0
                  have h3 := Option.some.inj hr0
                  rw [h3] at h1
                  exact ⟨h1, G.out.1 r (List.mem_of_getElem? h1)⟩
                clear hr0
                obtain ⟨gn, x, rfl, hx, cx⟩ := S.out.2.1.at HR.out.2
                have HX : Hid (g r = x) := by
                  have := G.out.2.2.2
                  rw [this]
                  show (numsL ms ms.length).getD r 0 = x
                  rw [List.getD_eq_getElem?_getD, hx]
                  rfl
                have rk : (r : Int) < (k : Int) := by have := HR.out.2; omega
                have fz := S.out.1.row.frozenAt j
                clear hx
                go_wp2_with fail
                go_roundw
                case rel =>
                  have lo := (own_lt S.out.1.row g4 rfl).1
                  obtain ⟨q1, q2⟩ := S.out.1.store (i := x) (j := j) S.out.2.2 LT.out.1
                  refine ⟨j + 1, by go_num, by omega, ?_, ?_, q2⟩
                  · have := (mixed_at (g := g) HR.out.1).2
                    rw [← this, HX.out]
                    exact q1
                  · refine S.out.2.1.off (S := fun b => b = g4) ((Kept.refl (fun b => b = g4) _).setCell (p := ⟨g4, j, none⟩) (fun _ => rfl) _) (fun b hb z => ?_)
                    have := LT.out.2 b hb
                    omega
                case measure => simp [intOf] <;> omega
              · have j1 : ¬ (j : Int) < (k4 : Int) := by omega
                have GF : Hid (OneQ ms w p4 k4 c4 true 0 wr) := by
                  have ej : R.length = j := by have := G.out.2.2.1; omega
                  have h1 := S.out.1
                  rw [mixed_ge ej] at h1
                  exact ⟨⟨R.map g, G.out.2.1, ⟨h1.len, ⟨h1.row.1, h1.row.2.imp id (fun ⟨g, cap, cur, e1, e2, e3⟩ => ⟨g, cap, cur, e1, Nat.le_trans LT.out.1 e2, e3⟩)⟩⟩⟩, k24, S.out.2.2⟩
                go_wp2_with fail
                go_ret3
                exact RetO.mk p4 k4 c4 true 0 rfl GF.out
  · have G : Hid (OneQ ms w none 0 0 false 1 w1) := by
      have := H.out.2.2
      obtain ⟨m, hm, hb⟩ := List.any_eq_true.1 this.symm
      exact ⟨⟨[], one_bad (List.mem_map.2 ⟨m, hm, rfl⟩) hb, NRow.nil _ _⟩, by omega, K1.out⟩
    go_wp2_with fail
    go_ret3
    exact RetO.mk none 0 0 false 1 rfl G.out
end Go.Proofs.Ytodmakcklacbfaa
