import Derived.Test.YtodmakcklacbfaaVTopSJ
namespace Go.Proofs.Ytodmakcklacbfaa
open Go.RowKit Go.Shelf Go.Lib Go.Sort

set_option maxRecDepth 100000 in
set_option maxHeartbeats 8000000 in
theorem topW {w : World} {a : Option Addr} {n c : Nat} {ms : List Cm} (cr : CRd w a n c ms) (hb : n ≤ 1300000000000) (ck : ∀ m ∈ ms, KI m.client) (ct : ∀ m ∈ ms, KI m.ty) (cv : ∀ m ∈ ms, m.vn + 1 ≤ 140737488355328) {q : Option Addr} {k kc : Nat} {R : List Int} (ir : IRd w q k kc R) (hk : k ≤ 17592186044416) :
    Calls Try.prog 7 #[.slice a n c, .slice q k kc] w fun o w' => o = .returned (.bool true) ∧ Kept (fun _ => False) w w' := by
  have rm := cr.room
  have sm := cr.small
  unfold maxLen at sm
  have H : Hid (CRd w a n c ms ∧ (∀ m ∈ ms, KI m.client) ∧ (∀ m ∈ ms, KI m.ty) ∧ (∀ m ∈ ms, m.vn + 1 ≤ 140737488355328) ∧ IRd w q k kc R ∧ ms.take n = ms) := ⟨cr, ck, ct, cv, ir, List.take_of_length_le (by rw [cr.len]; exact Nat.le_refl _)⟩
  have r1 := ir.room
  have r2 := ir.small
  unfold maxLen at r2
  have mA : Hid (∀ W : World, (Instr.makeSlice 51 (.int .i64 (n : Int)) (.int .i64 (n : Int))).run Try.prog W = .ok (.slice (some ⟨W.heap.size, 0, none⟩) n n) (W.alloc (.cells (madeCells #[.bool false] n) 4))) := run_make_row' 51 4 (.bool false) 1 Try.underlying51 Try.info4c rfl .i64 .i64 n (by omega) (by omega)
  clear cr ck ct cv ir
  obtain ⟨W3, hW3⟩ : ∃ W3, W3 = ((w.alloc (Obj.cells #[.int .u8 1] 5)).alloc (Obj.cells #[.int .u8 1] 5)).alloc (Obj.cells #[.int .i64 0, .int .i64 0, .bool true, .string ⟨#[]⟩, .slice (some ⟨w.heap.size, 0, none⟩) 1 1, .int .i64 0, .int .i64 0, .int .i64 1, .bool false, .int .i64 1, .int .i64 1, .int .i64 0, .int .i64 0, .bool false, .string ⟨#[]⟩, .slice (some ⟨w.heap.size + 1, 0, none⟩) 1 1, .int .i64 0, .int .i64 2, .int .i64 3, .bool false, .int .i64 1, .int .i64 1] 38) := ⟨_, rfl⟩
  obtain ⟨B, hB⟩ : ∃ B, B = w.heap.size + 1 + 1 := ⟨_, rfl⟩
  have S3 : Hid (Kept (fun _ => False) w W3 ∧ ∃ g h, CRd W3 (some ⟨B, 0, none⟩) 2 2 (tpL g h)) := by
    have K : Kept (fun _ => False) w W3 := by rw [hW3]; exact (((Kept.refl _ _).alloc _).alloc _).alloc _
    refine ⟨K, w.heap.size, w.heap.size + 1, ?_⟩
    rw [hB, hW3]
    refine tp_crd (C := #[.int .i64 0, .int .i64 0, .bool true, .string ⟨#[]⟩, .slice (some ⟨w.heap.size, 0, none⟩) 1 1, .int .i64 0, .int .i64 0, .int .i64 1, .bool false, .int .i64 1, .int .i64 1, .int .i64 0, .int .i64 0, .bool false, .string ⟨#[]⟩, .slice (some ⟨w.heap.size + 1, 0, none⟩) 1 1, .int .i64 0, .int .i64 2, .int .i64 3, .bool false, .int .i64 1, .int .i64 1]) ?_ ?_ ?_ ?_
    · have := alloc_new ((w.alloc (Obj.cells #[.int .u8 1] 5)).alloc (Obj.cells #[.int .u8 1] 5))
      simp only [alloc_size] at this
      exact this _
    · intro k hk
      match k, hk with
      | 0, _ => exact ⟨rfl, rfl⟩
      | 1, _ => exact ⟨rfl, rfl⟩
      | 2, _ => exact ⟨rfl, rfl⟩
      | 3, _ => exact ⟨rfl, rfl⟩
      | 4, _ => exact ⟨rfl, rfl⟩
      | 5, _ => exact ⟨rfl, rfl⟩
      | 6, _ => exact ⟨rfl, rfl⟩
      | 7, _ => exact ⟨rfl, rfl⟩
      | 8, _ => exact ⟨rfl, rfl⟩
      | 9, _ => exact ⟨rfl, rfl⟩
      | 10, _ => exact ⟨rfl, rfl⟩
      | k + 11, hk => omega
    · refine ((Kept.refl (fun _ => False) _).alloc _).cell (((Kept.refl (fun _ => False) _).alloc _).cell (cell_blk (alloc_new _ _) 0 rfl) (fun z => z)) (fun z => z)
    · refine ((Kept.refl (fun _ => False) _).alloc _).cell ?_ (fun z => z)
      have := alloc_new (w.alloc (Obj.cells #[.int .u8 1] 5))
      simp only [alloc_size] at this
      exact cell_blk (this _) 0 rfl
  have E3 : Hid (W3 = ((w.alloc (Obj.cells #[.int .u8 1] 5)).alloc (Obj.cells #[.int .u8 1] 5)).alloc (Obj.cells #[.int .i64 0, .int .i64 0, .bool true, .string ⟨#[]⟩, .slice (some ⟨w.heap.size, 0, none⟩) 1 1, .int .i64 0, .int .i64 0, .int .i64 1, .bool false, .int .i64 1, .int .i64 1, .int .i64 0, .int .i64 0, .bool false, .string ⟨#[]⟩, .slice (some ⟨w.heap.size + 1, 0, none⟩) 1 1, .int .i64 0, .int .i64 2, .int .i64 3, .bool false, .int .i64 1, .int .i64 1] 38) ∧ B = w.heap.size + 1 + 1) := ⟨hW3, hB⟩
  clear hW3 hB
  go_enter Try.func7, Try.ntmps7
  go_upto_region 2 with fail
  rw [← E3.out.1, ← E3.out.2]
  clear E3
  obtain ⟨K3, g3, h3, crd3⟩ := S3.out
  have S4 : Hid (Kept (fun _ => False) w W3 ∧ CRd W3 (some ⟨B, 0, none⟩) 2 2 (tpL g3 h3)) := ⟨K3, crd3⟩
  clear S3 K3 crd3
  obtain ⟨W5, hW5⟩ : ∃ W5, W5 = W3.alloc (Obj.cells #[.int .i64 0, .int .i64 1] 3) := ⟨_, rfl⟩
  have K5 : Hid (Kept (fun _ => False) W3 W5) := by rw [hW5]; exact (Kept.refl _ _).alloc _
  have C5 : Hid (Calls Try.prog 11 #[.slice (some ⟨B, 0, none⟩) 2 2, .slice (some ⟨W3.heap.size, 0, none⟩) 2 2] W5 (RetC fun v w' => CkA (tpL g3 h3) [0, 1] v ∧ Kept (fun _ => False) W5 w')) := oCheck (S4.out.2.k0 K5.out) (by omega) (by rw [hW5]; exact ird_two (alloc_new _ _))
  have E5 : Hid (W5 = W3.alloc (Obj.cells #[.int .i64 0, .int .i64 1] 3)) := hW5
  clear hW5
  go_wp2_with fail
  rw [← E5.out]
  refine C5.out.mono ?_
  rintro o w6 ⟨v6, rfl, hv6, K6'⟩
  have e6 := ck_yes (tpL_fit _ _) (tpL_yes _ _) hv6
  subst e6
  have S6 : Hid (Kept (fun _ => False) w w6 ∧ CRd w6 (some ⟨B, 0, none⟩) 2 2 (tpL g3 h3)) := by
    have K := K5.out.trans K6' (fun _ _ z => z)
    exact ⟨S4.out.1.trans K (fun _ _ z => z), S4.out.2.k0 K⟩
  clear C5 hv6 K6' K5 E5 S4
  obtain ⟨W7, hW7⟩ : ∃ W7, W7 = w6.alloc (Obj.cells #[.int .i64 1, .int .i64 0] 3) := ⟨_, rfl⟩
  have K7 : Hid (Kept (fun _ => False) w6 W7) := by rw [hW7]; exact (Kept.refl _ _).alloc _
  have C7 : Hid (Calls Try.prog 11 #[.slice (some ⟨B, 0, none⟩) 2 2, .slice (some ⟨w6.heap.size, 0, none⟩) 2 2] W7 (RetC fun v w' => CkA (tpL g3 h3) [1, 0] v ∧ Kept (fun _ => False) W7 w')) := oCheck (S6.out.2.k0 K7.out) (by omega) (by rw [hW7]; exact ird_two (alloc_new _ _))
  have E7 : Hid (W7 = w6.alloc (Obj.cells #[.int .i64 1, .int .i64 0] 3)) := hW7
  clear hW7
  go_wp2_with fail
  rw [← E7.out]
  refine C7.out.mono ?_
  rintro o w8 ⟨v8, rfl, hv8, K8'⟩
  have e8 := ck_no (tpL_fit _ _) (tpL_no _ _) hv8
  subst e8
  have K8 : Hid (Kept (fun _ => False) w w8) := (S6.out.1.trans K7.out (fun _ _ z => z)).trans K8' (fun _ _ z => z)
  clear C7 hv8 K8' K7 E7 S6
  have C9 : Hid (Calls Try.prog 22 #[.slice a n c] w8 (RetW (fun p c' w' => OC w8 w' ms n p c') n)) := tOwnCalls (H.out.1.k0 K8.out) hb H.out.2.2.2.1
  go_wp2_with fail
  refine C9.out.mono ?_
  rintro o w9 ⟨p9, c9, rfl, O9'⟩
  obtain ⟨⟨L9, q9, e9⟩, k9⟩ := O9'
  have S9 : Hid (Kept (fun _ => False) w w9 ∧ CRd w9 p9 n c9 L9 ∧ L9.map er = ms.map er) := ⟨K8.out.trans k9 (fun _ _ z => z), q9.crd, by rw [e9, H.out.2.2.2.2.2]⟩
  clear C9 q9 e9 k9 K8
  have BL : Hid (0 + k ≤ maxLen ∧ ((0 + k) + (0 + k) / 4 + 192) * 8 ≤ 281474976710656) := by
    unfold maxLen
    exact ⟨by omega, by omega⟩
  go_wp2_with
    (first
      | (at_builtin; refine wpList_append_all _ rfl _ (.tmp 35) 22 3 22 _ 1 8 rfl Try.underlying22 Try.info3c rfl w9.heap.size (.slice none 0 0) 0 (intsI []) rfl (own_none3 _ _) _ k (intsI R) rfl (H.out.2.2.2.2.1.k0 S9.out.1).srcI BL.out.1 BL.out.2 (Nat.le_refl _) ?_; intro pa ca wa ho hg hn9; have Sa : Hid (Kept (fun _ => False) w9 wa ∧ IRd wa pa k ca R) := ⟨(Kept.refl (fun _ => False) w9).grown hg.out (fun k _ z => by cases z), own_irdI H.out.2.2.2.2.1.len (by have := ho.out; rw [Nat.zero_add] at this; exact this)⟩; clear ho hg hn9)
      | fail)
  have C10 : Hid (Calls Try.prog 11 #[.slice p9 n c9, .slice pa k ca] wa (RetC fun v w' => CkA L9 R v ∧ Kept (fun _ => False) wa w')) := oCheck (S9.out.2.1.k0 Sa.out.1) hb Sa.out.2
  go_wp2_with fail
  refine C10.out.mono ?_
  rintro o w10 ⟨e10, rfl, hv10, K10'⟩
  have S10 : Hid (Kept (fun _ => False) w w10 ∧ CkA ms R e10) := ⟨(S9.out.1.trans Sa.out.1 (fun _ _ z => z)).trans K10' (fun _ _ z => z), er_cka S9.out.2.2 hv10⟩
  clear C10 hv10 K10' Sa S9 BL
  have C11 : Hid (Calls Try.prog 22 #[.slice a n c] w10 (RetW (fun p c' w' => OC w10 w' ms n p c') n)) := tOwnCalls (H.out.1.k0 S10.out.1) hb H.out.2.2.2.1
  go_wp2_with fail
  refine C11.out.mono ?_
  rintro o w11 ⟨p11, c11, rfl, O11'⟩
  obtain ⟨⟨L11, q11, e11⟩, k11⟩ := O11'
  have S11 : Hid (Kept (fun _ => False) w w11 ∧ CRd w11 p11 n c11 L11 ∧ L11.map er = ms.map er) := ⟨S10.out.1.trans k11 (fun _ _ z => z), q11.crd, by rw [e11, H.out.2.2.2.2.2]⟩
  clear C11 q11 e11 k11
  have C12 : Hid (Calls Try.prog 10 #[.slice p11 n c11] w11 (RetY (ByQ w11 L11))) := oByTags S11.out.2.1 hb (er_ki S11.out.2.2 H.out.2.1 H.out.2.2.1).1 (er_ki S11.out.2.2 H.out.2.1 H.out.2.2.1).2
  go_wp2_with fail
  refine C12.out.mono ?_
  rintro o w12 ⟨qb, kb, cb, e12, rfl, ⟨L, hL, row⟩, K12'⟩
  have S12 : Hid (Kept (fun _ => False) w w12 ∧ NRow w.heap.size w12 qb kb cb L) := ⟨S11.out.1.trans K12' (fun _ _ z => z), row.mono S11.out.1.size⟩
  have BY : Hid ((e12 = 1 ∧ ¬ FitL ms ∧ L = []) ∨ (FitL ms ∧ e12 = 81 ∧ L = []) ∨ (FitL ms ∧ e12 = 0 ∧ TOk ms L)) := by_er S11.out.2.2 hL
  have CK : Hid (CkA ms R e10) := S10.out.2
  clear C12 hL row K12' S11 S10
  have C13 : Hid (Calls Try.prog 23 #[.slice a n c] w12 (RetB fun v w' => (v = true ↔ FitL ms) ∧ Kept (fun _ => False) w12 w')) := tFitL (H.out.1.k0 S12.out.1)
  go_wp2_with fail
  refine C13.out.mono ?_
  rintro o w13 ⟨v13, rfl, hv13, K13'⟩
  have S13 : Hid (Kept (fun _ => False) w w13 ∧ NRow w.heap.size w13 qb kb cb L) := ⟨S12.out.1.trans K13' (fun _ _ z => z), S12.out.2.k0 K13'⟩
  have F13 : Hid (v13 = true ↔ FitL ms) := hv13
  have rb : kb ≤ cb := (own_room S13.out.2.row).1
  have sb := (own_room S13.out.2.row).2
  unfold maxLen at sb
  clear C13 hv13 K13' S12
  cases v13
  · have NF : ¬ FitL ms := fun f => by have := F13.out.2 f; cases this
    have e1 : e10 = 1 := by
      rcases CK.out with z | z | z
      · exact z.1
      · exact absurd z.2.1 NF
      · exact absurd z.2.1 NF
    have e2 : e12 = 1 ∧ kb = 0 := by
      rcases BY.out with z | z | z
      · exact ⟨z.1, by rw [← S13.out.2.len, z.2.2]; rfl⟩
      · exact absurd z.1 NF
      · exact absurd z.1 NF
    obtain ⟨e2, e3⟩ := e2
    clear BY CK F13 NF
    have KE : Hid (Kept (fun _ => False) w w13) := S13.out.1
    clear S13
    subst e1
    subst e2
    subst e3
    go_wp2_with fail
    go_ret
    exact ⟨rfl, KE.out⟩
  · have F : Hid (FitL ms) := F13.out.1 rfl
    clear F13
    go_upto_region 8 with fail
    go_cut [71] from 58 to 70 (fun x4 wc => x4 = .bool false ∧ Hid (Kept (fun _ => False) w wc ∧ NRow w.heap.size wc qb kb cb L))
    case first =>
      have C14 : Hid (Calls Try.prog 24 #[.slice a n c, .slice q k kc] w13 (RetB fun v w' => (v = true ↔ Expl ms R) ∧ Kept (fun _ => False) w13 w')) := tExplainsF (H.out.1.k0 S13.out.1) hb F.out (H.out.2.2.2.2.1.k0 S13.out.1)
      go_wp2_with fail
      refine C14.out.mono ?_
      rintro o w14 ⟨v14, rfl, hv14, K14'⟩
      have S14 : Hid (Kept (fun _ => False) w w14 ∧ NRow w.heap.size w14 qb kb cb L) := ⟨S13.out.1.trans K14' (fun _ _ z => z), S13.out.2.k0 K14'⟩
      have E10 : (e10 = 0 ∧ v14 = true) ∨ (e10 = 81 ∧ v14 = false) := by
        rcases CK.out with z | z | z
        · exact absurd F.out z.2
        · exact .inl ⟨z.1, hv14.2 z.2.2⟩
        · refine .inr ⟨z.1, ?_⟩
          cases v14
          · rfl
          · exact absurd (hv14.1 rfl) z.2.2
      clear C14 hv14 K14' S13 CK
      rcases E10 with ⟨rfl, rfl⟩ | ⟨rfl, rfl⟩
      · go_wp2_with fail
        go_meet
        case rel => exact ⟨rfl, S14⟩
      · go_wp2_with fail
        go_meet
        case rel => exact ⟨rfl, S14⟩
    case rest =>
    obtain ⟨rfl, S15⟩ := hcut
    clear S13 CK
    obtain ⟨wn, hwn⟩ : ∃ wn, wn = wc := ⟨_, rfl⟩
    rw [← hwn] at S15 ⊢
    clear hwn
    by_cases z12 : e12 = 0
    · have T : Hid (TOk ms L) := by
        rcases BY.out with z | z | z
        · exact absurd F.out z.2.1
        · omega
        · exact z.2.2
      subst z12
      clear BY F
      obtain ⟨C, hC⟩ : ∃ C, C = madeCells #[.bool false] n := ⟨_, rfl⟩
      obtain ⟨g, hg⟩ : ∃ g, g = wn.heap.size := ⟨_, rfl⟩
      have mB := mA.out
      rw [← hC] at mB
      have S0 : Hid (TS w (wn.alloc (.cells C 4)) g n [] qb kb cb L) := by
        have K : Kept (fun _ => False) wn (wn.alloc (.cells C 4)) := (Kept.refl _ _).alloc _
        refine ⟨S15.out.1.trans K (fun _ _ z => z), ?_, S15.out.2.k0 K, by rw [hg]; exact S15.out.1.size⟩
        rw [hg]
        refine IS.start wn n (by unfold maxLen; omega) ?_
        rw [hC, vrow_made]
        unfold vrow boolsB
        simp
      have EG : Hid (g = wn.heap.size) := hg
      clear hC hg S15
      go_wp2_with fail
      rw [← EG.out]
      clear mA mB EG
      go_loopw [10, 12, 13, 86] (fun u10 _ _ u86 wy => ∃ x : Nat, u86 = .int .i64 (x : Int) ∧ u10 = .int .i64 (lastL ms (L.take x) (-1)) ∧ x ≤ kb ∧ Hid (TS w wy g n (L.take x) qb kb cb L)) (fun _ _ _ u86 _ => kb - (intOf u86).toNat)
      case atStart => exact ⟨0, rfl, rfl, Nat.zero_le _, S0⟩
      case round =>
        obtain ⟨x, rfl, rfl, hx, S⟩ := hrel
        clear S0
        obtain ⟨wo, hwo⟩ : ∃ wo, wo = wr := ⟨_, rfl⟩
        rw [← hwo] at S ⊢
        clear hwo
        obtain ⟨l, hl⟩ : ∃ l, l = lastL ms (L.take x) (-1) := ⟨_, rfl⟩
        rw [← hl]
        by_cases hlt : x < kb
        · have x1 : (x : Int) < (kb : Int) := by omega
          obtain ⟨gb, i, rfl, hi, ci⟩ := S.out.by_.at hlt
          obtain ⟨mp, hmp, hpt⟩ := T.out.pt i (List.mem_of_getElem? hi)
          have ilt : i < n := by
            have := (List.getElem?_eq_some_iff.1 hmp).1
            rw [H.out.1.len] at this
            exact this
          have i1 : (i : Int) < (n : Int) := by omega
          obtain ⟨b8, off8, m, rfl, hm, y0, y1, y2, y3, y4, y5, y6, y7, y8, y9, y10, _⟩ := (H.out.1.k0 S.out.kept).at ilt
          have em : mp = m := by rw [hmp] at hm; exact Option.some.inj hm
          subst em
          clear hmp
          have LI : Hid (l = -1 ∨ (0 ≤ l ∧ ∃ q, ms[l.toNat]? = some q)) := by
            have := lastL_is ms (L.take x) (-1) (.inl rfl)
            rw [← hl] at this
            exact this
          have HX : Hid (L[x]? = some i ∧ ms[i]? = some mp ∧ SCond ms i l ∧ lastL ms (L.take (x + 1)) (-1) = (if mp.put = true then (i : Int) else l)) := by
            refine ⟨hi, hm, ?_, ?_⟩
            · rw [hl]; exact sok_at ms T.out.seq x i hi
            · rw [hl]; exact lastL_succ hi hm
          have g1 := S.out.set.at ilt
          rw [decide_eq_false (tok_x T.out hi)] at g1
          obtain ⟨g1, _⟩ := g1
          obtain ⟨pd, hpd⟩ : ∃ pd, pd = mp.pn := ⟨_, rfl⟩
          have pd0 : (pd == 0) = false := by
            have : ¬ pd = 0 := fun z => by
              rw [hpd, pn_zero] at z
              rw [z] at hpt
              cases hpt
            simp [this]
          have RP : Hid (∀ V, Calls Try.prog 25 #[mp.agg] V fun o w' => o = .returned (.int .i64 pd) ∧ Kept (fun _ => False) V w') := fun V => by rw [hpd]; exact tPart mp V
          unfold Cm.agg at RP
          clear hl hi hm hpt hpd
          go_wp2_with fail
          refine (RP.out _).mono ?_
          rintro o w2 ⟨rfl, K2⟩
          have S2 : Hid (TS w w2 g n (L.take x) (some ⟨gb, 0, none⟩) kb cb L) := S.out.k0 K2
          clear K2 RP S g1 y0 y1 y2 y3 y4 y5 y6 y7 y8 y9 y10 ci
          obtain ⟨g1, g2⟩ := S2.out.set.at ilt
          obtain ⟨W3', hW3'⟩ : ∃ W3', W3' = w2.setCell ⟨g, i, none⟩ (.bool true) := ⟨_, rfl⟩
          have S3' : Hid (TS w W3' g n (L.take (x + 1)) (some ⟨gb, 0, none⟩) kb cb L) := by
            rw [hW3', List.take_add_one, HX.out.1]
            exact S2.out.put i
          have E3' : Hid (W3' = w2.setCell ⟨g, i, none⟩ (.bool true)) := hW3'
          clear hW3' S2
          go_upto_region 20 with fail
          rw [← E3'.out]
          clear E3' g1 g2
          obtain ⟨b9, off9, m9, e9, hm9, y0, y1, y2, y3, y4, y5, y6, y7, y8, y9, y10, _⟩ := (H.out.1.k0 S3'.out.kept).at ilt
          have e9 : b8 = b9 ∧ off8 = off9 := by simpa using e9
          obtain ⟨rfl, rfl⟩ := e9
          have em : mp = m9 := by have := HX.out.2.1; rw [hm9] at this; exact (Option.some.inj this).symm
          subst em
          clear hm9
          obtain ⟨W4, hW4⟩ : ∃ W4, W4 = W3'.alloc (.cells mp.cs 38) := ⟨_, rfl⟩
          obtain ⟨D, hD⟩ : ∃ D, D = W3'.heap.size := ⟨_, rfl⟩
          have S4 : Hid (TS w W4 g n (L.take (x + 1)) (some ⟨gb, 0, none⟩) kb cb L ∧ W4.heap[D]? = some (.cells mp.cs 38 (0, 0))) := by
            rw [hW4, hD]
            exact ⟨S3'.out.k0 ((Kept.refl _ _).alloc _), alloc_new _ _⟩
          have E4 : Hid (W4 = W3'.alloc (.cells #[.int .i64 mp.client, .int .i64 mp.op, .bool mp.put, .string mp.key, .slice mp.va mp.vn mp.vc, .int .i64 mp.st, .int .i64 mp.frm, .int .i64 mp.to, .bool mp.opn, .int .i64 mp.tx, .int .i64 mp.ty] 38) ∧ D = W3'.heap.size) := ⟨hW4, hD⟩
          clear hW4 hD S3'
          go_upto_region 21 with fail
          rw [← E4.out.1, ← E4.out.2]
          clear E4 y0 y1 y2 y3 y4 y5 y6 y7 y8 y9 y10
          have d2 := cell_blk S4.out.2 2 (v := .bool mp.put) rfl
          have d5 := cell_blk S4.out.2 5 (v := .int .i64 mp.st) rfl
          have d8 := cell_blk S4.out.2 8 (v := .bool mp.opn) rfl
          have d9 := cell_blk S4.out.2 9 (v := .int .i64 mp.tx) rfl
          have d10 := cell_blk S4.out.2 10 (v := .int .i64 mp.ty) rfl
          obtain ⟨pu, hpu⟩ : ∃ pu, mp.put = pu := ⟨_, rfl⟩
          obtain ⟨st, hst⟩ : ∃ st, mp.st = st := ⟨_, rfl⟩
          obtain ⟨op, hop⟩ : ∃ op, mp.opn = op := ⟨_, rfl⟩
          obtain ⟨tx, htx⟩ : ∃ tx, mp.tx = tx := ⟨_, rfl⟩
          obtain ⟨ty, hty⟩ : ∃ ty, mp.ty = ty := ⟨_, rfl⟩
          have HV : Hid (mp.put = pu ∧ mp.st = st ∧ mp.opn = op ∧ mp.tx = tx ∧ mp.ty = ty) := ⟨hpu, hst, hop, htx, hty⟩
          rw [hpu] at d2
          rw [hst] at d5
          rw [hop] at d8
          rw [htx] at d9
          rw [hty] at d10
          clear hpu hst hop htx hty
          have NX : Hid (∀ V, Kept (fun _ => False) W4 V → TS w V g n (L.take (x + 1)) (some ⟨gb, 0, none⟩) kb cb L) := fun V K => S4.out.1.k0 K
          have QL : Hid (∀ V, Kept (fun _ => False) W4 V → 0 ≤ l → ∃ (j : Nat) (q : Cm), l = (j : Int) ∧ j < n ∧ ms[l.toNat]? = some q ∧ V.cell? ⟨b8, off8 + j * 11 + 8, none⟩ = some (.bool q.opn) ∧ V.cell? ⟨b8, off8 + j * 11 + 9, none⟩ = some (.int .i64 q.tx) ∧ V.cell? ⟨b8, off8 + j * 11 + 10, none⟩ = some (.int .i64 q.ty)) := by
            intro V K l0
            rcases LI.out with z | ⟨_, q, hq⟩
            · omega
            · have jl : l.toNat < n := by
                have := (List.getElem?_eq_some_iff.1 hq).1
                rw [H.out.1.len] at this
                exact this
              obtain ⟨b7, off7, m7, e7, hm7, _, _, _, _, _, _, _, _, z8, z9, z10, _⟩ := (H.out.1.k0 (S4.out.1.k0 K).kept).at jl
              have e7 : b8 = b7 ∧ off8 = off7 := by simpa using e7
              obtain ⟨rfl, rfl⟩ := e7
              rw [hq] at hm7
              have em := Option.some.inj hm7
              subst em
              exact ⟨l.toNat, q, by omega, jl, hq, z8, z9, z10⟩
          cases pu
          · have NL : Hid (lastL ms (L.take (x + 1)) (-1) = l) := by
              have := HX.out.2.2.2
              rw [HV.out.1] at this
              exact this
            by_cases s76 : st = 76
            · have lneg : l < 0 := (HX.out.2.2.1 mp HX.out.2.1).2.1 HV.out.1 (by rw [HV.out.2.1]; exact s76)
              have lneg' : ¬ 0 ≤ l := by omega
              have ld : decide (0 ≤ l) = false := decide_eq_false lneg'
              subst s76
              go_wp2_with fail
              go_roundw
              case rel => exact ⟨x + 1, by go_num, by rw [NL.out], by omega, NX.out _ (Kept.refl _ _)⟩
              case measure => simp [intOf] <;> omega
            · obtain ⟨l0, hq3⟩ := (HX.out.2.2.1 mp HX.out.2.1).2.2 HV.out.1 (by rw [HV.out.2.1]; exact s76)
              obtain ⟨j, q, rfl, jn, hq, z8, z9, z10⟩ := QL.out W4 (Kept.refl _ _) l0
              have Q3 : Hid ((q.opn = false → q.tx = tx ∧ q.ty = ty) ∧ (q.opn = true → (q.tx = 0 ∧ q.ty = 0) ∨ (q.tx = tx ∧ q.ty = ty))) := by
                have := hq3 q hq
                rw [HV.out.2.2.2.1, HV.out.2.2.2.2] at this
                exact this
              have j1 : (j : Int) < (n : Int) := by omega
              have j0 : ¬ (j : Int) < 0 := by omega
              have s2 : (st == 76) = false := by simp [s76]
              obtain ⟨qo, hqo⟩ : ∃ qo, q.opn = qo := ⟨_, rfl⟩
              obtain ⟨qx, hqx⟩ : ∃ qx, q.tx = qx := ⟨_, rfl⟩
              obtain ⟨qy, hqy⟩ : ∃ qy, q.ty = qy := ⟨_, rfl⟩
              rw [hqo] at z8
              rw [hqx] at z9
              rw [hqy] at z10
              rw [hqo, hqx, hqy] at Q3
              clear hqo hqx hqy hq hq3
              go_upto_region 28 with fail
              cases qo
              · obtain ⟨rfl, rfl⟩ := Q3.out.1 rfl
                go_quiet (fail)
                go_wp2_with fail
                go_roundw
                case rel => exact ⟨x + 1, by go_num, by rw [NL.out], by omega, NX.out _ ((Kept.refl _ _).drewN _)⟩
                case measure => simp [intOf] <;> omega
              · rcases Q3.out.2 rfl with ⟨rfl, rfl⟩ | ⟨rfl, rfl⟩
                · go_quiet (fail)
                  go_wp2_with fail
                  go_roundw
                  case rel => exact ⟨x + 1, by go_num, by rw [NL.out], by omega, NX.out _ ((Kept.refl _ _).drewN _)⟩
                  case measure => simp [intOf] <;> omega
                · by_cases t0 : qx = 0
                  · subst t0
                    by_cases t1 : qy = 0
                    · subst t1
                      go_quiet (fail)
                      go_wp2_with fail
                      go_roundw
                      case rel => exact ⟨x + 1, by go_num, by rw [NL.out], by omega, NX.out _ ((Kept.refl _ _).drewN _)⟩
                      case measure => simp [intOf] <;> omega
                    · have t2 : (qy == 0) = false := by simp [t1]
                      go_quiet (fail)
                      go_wp2_with fail
                      go_roundw
                      case rel => exact ⟨x + 1, by go_num, by rw [NL.out], by omega, NX.out _ ((Kept.refl _ _).drewN _)⟩
                      case measure => simp [intOf] <;> omega
                  · have t2 : (qx == 0) = false := by simp [t0]
                    go_quiet (fail)
                    go_wp2_with fail
                    go_roundw
                    case rel => exact ⟨x + 1, by go_num, by rw [NL.out], by omega, NX.out _ ((Kept.refl _ _).drewN _)⟩
                    case measure => simp [intOf] <;> omega
          · have NL : Hid (lastL ms (L.take (x + 1)) (-1) = (i : Int)) := by
              have := HX.out.2.2.2
              rw [HV.out.1] at this
              exact this
            by_cases l0 : 0 ≤ l
            · obtain ⟨j, q, rfl, jn, hq, z8, z9, z10⟩ := QL.out W4 (Kept.refl _ _) l0
              have Q1 : Hid (q.opn = false → op = false → q.tx < tx ∨ (q.tx = tx ∧ q.ty < ty)) := fun o1 o2 => by
                have := (HX.out.2.2.1 mp HX.out.2.1).1 HV.out.1 l0 q hq o1 (by rw [HV.out.2.2.1]; exact o2)
                unfold tlt at this
                rw [HV.out.2.2.2.1, HV.out.2.2.2.2] at this
                exact this
              have j1 : (j : Int) < (n : Int) := by omega
              have ld : decide (0 ≤ (j : Int)) = true := decide_eq_true l0
              obtain ⟨qo, hqo⟩ : ∃ qo, q.opn = qo := ⟨_, rfl⟩
              obtain ⟨qx, hqx⟩ : ∃ qx, q.tx = qx := ⟨_, rfl⟩
              obtain ⟨qy, hqy⟩ : ∃ qy, q.ty = qy := ⟨_, rfl⟩
              rw [hqo] at z8
              rw [hqx] at z9
              rw [hqy] at z10
              rw [hqo, hqx, hqy] at Q1
              clear hqo hqx hqy hq
              cases qo
              · cases op
                · have RT : Hid (∀ V, Kept (fun _ => False) W4 V → Calls Try.prog 26 #[.agg #[.int .i64 qx, .int .i64 qy], .agg #[.int .i64 tx, .int .i64 ty]] V fun o w' => o = .returned (.bool true) ∧ Kept (fun _ => False) V w') := fun V _ => by
                    have := tBefore qx qy tx ty V
                    rw [decide_eq_true (Q1.out rfl rfl)] at this
                    exact this
                  have KP : Hid (∀ V, Kept (fun _ => False) W4 V → V.cell? ⟨b8, off8 + j * 11 + 8, none⟩ = some (.bool false) ∧ V.cell? ⟨b8, off8 + j * 11 + 9, none⟩ = some (.int .i64 qx) ∧ V.cell? ⟨b8, off8 + j * 11 + 10, none⟩ = some (.int .i64 qy) ∧ V.cell? ⟨D, 8, none⟩ = some (.bool false) ∧ V.cell? ⟨D, 9, none⟩ = some (.int .i64 tx) ∧ V.cell? ⟨D, 10, none⟩ = some (.int .i64 ty)) := fun V kv => ⟨kv.cell z8 (fun z => z), kv.cell z9 (fun z => z), kv.cell z10 (fun z => z), kv.cell d8 (fun z => z), kv.cell d9 (fun z => z), kv.cell d10 (fun z => z)⟩
                  have kd : Kept (fun _ => False) W4 W4.drew := (Kept.refl _ _).drew
                  go_upto_region 22 with fail
                  go_region_held3 (fun V => V.cell? ⟨b8, off8 + j * 11 + 8, none⟩ = some (.bool false) ∧ V.cell? ⟨b8, off8 + j * 11 + 9, none⟩ = some (.int .i64 qx) ∧ V.cell? ⟨b8, off8 + j * 11 + 10, none⟩ = some (.int .i64 qy) ∧ V.cell? ⟨D, 8, none⟩ = some (.bool false) ∧ V.cell? ⟨D, 9, none⟩ = some (.int .i64 tx) ∧ V.cell? ⟨D, 10, none⟩ = some (.int .i64 ty) ∧ Kept (fun _ => False) W4 V) (go_keep)
                    (first | (go_at_call 26; refine (RT.out _ (by assumption)).mono ?_; rintro o w5 ⟨rfl, K5'⟩; have K5 : Kept (fun _ => False) W4 w5 := Kept.trans (by assumption) K5' (fun _ _ z => z); obtain ⟨xy0, xy1, xy2, xy3, xy4, xy5⟩ := KP.out w5 K5; clear K5') | fail)
                  go_wp2_with fail
                  go_roundw
                  case rel => exact ⟨x + 1, by go_num, by rw [NL.out], by omega, NX.out _ (by assumption)⟩
                  case measure => simp [intOf] <;> omega
                · go_upto_region 22 with fail
                  go_quiet (fail)
                  go_wp2_with fail
                  go_roundw
                  case rel => exact ⟨x + 1, by go_num, by rw [NL.out], by omega, NX.out _ ((Kept.refl _ _).drewN _)⟩
                  case measure => simp [intOf] <;> omega
              · go_upto_region 22 with fail
                go_quiet (fail)
                go_wp2_with fail
                go_roundw
                case rel => exact ⟨x + 1, by go_num, by rw [NL.out], by omega, NX.out _ ((Kept.refl _ _).drewN _)⟩
                case measure => simp [intOf] <;> omega
            · have ld : decide (0 ≤ l) = false := decide_eq_false l0
              go_upto_region 22 with fail
              go_quiet (fail)
              go_wp2_with fail
              go_roundw
              case rel => exact ⟨x + 1, by go_num, by rw [NL.out], by omega, NX.out _ ((Kept.refl _ _).drewN _)⟩
              case measure => simp [intOf] <;> omega
        · have x1 : ¬ (x : Int) < (kb : Int) := by omega
          clear hl
          have ex : L.take x = L := List.take_of_length_le (by rw [S.out.by_.len]; omega)
          rw [ex] at S
          clear ex
          have S0 : Hid (TS w wo g n L qb kb cb L) := S
          clear S
          go_wp2_with fail
          go_loopw [14, 15, 205] (fun _ _ u205 wy => ∃ y : Nat, u205 = .int .i64 (y : Int) ∧ y ≤ n ∧ Hid (TS w wy g n L qb kb cb L)) (fun _ _ u205 _ => n - (intOf u205).toNat)
          case atStart => exact ⟨0, rfl, Nat.zero_le _, S0⟩
          case round =>
            obtain ⟨y, rfl, hy, S⟩ := hrel
            clear S0
            obtain ⟨wd, hwd⟩ : ∃ wd, wd = wr := ⟨_, rfl⟩
            rw [← hwd] at S ⊢
            clear hwd
            by_cases hyn : y < n
            · have yi : (y : Int) < (n : Int) := by omega
              obtain ⟨b8, off8, m, rfl, hm, y0, y1, y2, y3, y4, y5, y6, y7, y8, y9, y10, _⟩ := (H.out.1.k0 S.out.kept).at hyn
              obtain ⟨pd, hpd⟩ : ∃ pd, pd = m.pn := ⟨_, rfl⟩
              obtain ⟨W4, hW4⟩ : ∃ W4, W4 = wd.alloc (.cells m.cs 38) := ⟨_, rfl⟩
              obtain ⟨D, hD⟩ : ∃ D, D = wd.heap.size := ⟨_, rfl⟩
              have S4 : Hid (TS w W4 g n L qb kb cb L ∧ W4.heap[D]? = some (.cells m.cs 38 (0, 0))) := by
                rw [hW4, hD]
                exact ⟨S.out.k0 ((Kept.refl _ _).alloc _), alloc_new _ _⟩
              have E4 : Hid (W4 = wd.alloc (.cells #[.int .i64 m.client, .int .i64 m.op, .bool m.put, .string m.key, .slice m.va m.vn m.vc, .int .i64 m.st, .int .i64 m.frm, .int .i64 m.to, .bool m.opn, .int .i64 m.tx, .int .i64 m.ty] 38) ∧ D = wd.heap.size) := ⟨hW4, hD⟩
              have RP : Hid (∀ V, Calls Try.prog 25 #[m.agg] V fun o w' => o = .returned (.int .i64 pd) ∧ Kept (fun _ => False) V w') := fun V => by rw [hpd]; exact tPart m V
              unfold Cm.agg at RP
              have MU : Hid (pd = 2 → y ∈ L) := fun z => T.out.must y m hm (by rw [hpd] at z; exact pn_two.1 z)
              clear hW4 hD S hpd hm
              go_upto_region 34 with fail
              rw [← E4.out.1, ← E4.out.2]
              clear E4 y0 y1 y2 y3 y4 y5 y6 y7 y8 y9 y10
              have d0 := cell_blk S4.out.2 0 (v := .int .i64 m.client) rfl
              have d1 := cell_blk S4.out.2 1 (v := .int .i64 m.op) rfl
              have d2 := cell_blk S4.out.2 2 (v := .bool m.put) rfl
              have d3 := cell_blk S4.out.2 3 (v := .string m.key) rfl
              have d4 := cell_blk S4.out.2 4 (v := .slice m.va m.vn m.vc) rfl
              have d5 := cell_blk S4.out.2 5 (v := .int .i64 m.st) rfl
              have d6 := cell_blk S4.out.2 6 (v := .int .i64 m.frm) rfl
              have d7 := cell_blk S4.out.2 7 (v := .int .i64 m.to) rfl
              have d8 := cell_blk S4.out.2 8 (v := .bool m.opn) rfl
              have d9 := cell_blk S4.out.2 9 (v := .int .i64 m.tx) rfl
              have d10 := cell_blk S4.out.2 10 (v := .int .i64 m.ty) rfl
              go_wp2_with fail
              refine (RP.out _).mono ?_
              rintro o w5 ⟨rfl, K5⟩
              have S5 : Hid (TS w w5 g n L qb kb cb L) := S4.out.1.k0 K5
              clear K5 S4 RP d0 d1 d2 d3 d4 d5 d6 d7 d8 d9 d10
              by_cases p2 : pd = 2
              · have g1 := (S5.out.set.at hyn).1
                rw [decide_eq_true (MU.out p2)] at g1
                subst p2
                go_wp2_with fail
                go_roundw
                case rel => exact ⟨y + 1, by go_num, by omega, S5⟩
                case measure => simp [intOf] <;> omega
              · have p3 : (pd == 2) = false := by simp [p2]
                go_wp2_with fail
                go_roundw
                case rel => exact ⟨y + 1, by go_num, by omega, S5⟩
                case measure => simp [intOf] <;> omega
            · have yi : ¬ (y : Int) < (n : Int) := by omega
              have KE : Hid (Kept (fun _ => False) w wd) := S.out.kept
              go_wp2_with fail
              go_ret
              exact ⟨rfl, KE.out⟩
    · have e2 : e12 = 81 ∧ kb = 0 := by
        rcases BY.out with z | z | z
        · exact absurd F.out z.2.1
        · exact ⟨z.2.1, by rw [← S15.out.2.len, z.2.2]; rfl⟩
        · exact absurd z.2.1 z12
      obtain ⟨e2, e3⟩ := e2
      have KE : Hid (Kept (fun _ => False) w wn) := S15.out.1
      clear S15 BY
      subst e2
      subst e3
      go_wp2_with fail
      go_ret
      exact ⟨rfl, KE.out⟩
end Go.Proofs.Ytodmakcklacbfaa
