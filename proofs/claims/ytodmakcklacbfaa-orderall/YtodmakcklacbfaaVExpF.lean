import Derived.Test.YtodmakcklacbfaaVExpMJ
namespace Go.Proofs.Ytodmakcklacbfaa
open Go.RowKit 

theorem expl_run2 {ms : List Cm} {R : List Nat} (h : Expl ms (R.map fun r : Nat => (r : Int))) : XRun (ms.map Cm.cl) R [] none := by
  obtain ⟨Rn, e, x⟩ := h
  have := map_inj e
  subst this
  exact x
set_option maxRecDepth 100000 in
set_option maxHeartbeats 8000000 in
theorem tExplainsF {w : World} {p0 : Option Addr} {n c0 : Nat} {ms : List Cm} (cr : CRd w p0 n c0 ms) (hb : n ≤ 1300000000000) (fit : FitL ms) {q : Option Addr} {k kc : Nat} {RI : List Int} (ir : IRd w q k kc RI) : Calls Try.prog 24 #[.slice p0 n c0, .slice q k kc] w (RetB fun v w' => (v = true ↔ Expl ms RI) ∧ Kept (fun _ => False) w w') := by
  have rm := cr.room
  have sm := cr.small
  unfold maxLen at sm
  have rk1 := ir.room
  have rk2 := ir.small
  unfold maxLen at rk2
  have H : Hid (CRd w p0 n c0 ms ∧ IRd w q k kc RI ∧ FitL ms) := ⟨cr, ir, fit⟩
  have mA : ∀ W : World, (Instr.makeSlice 22 (.int .i64 (n : Int)) (.int .i64 (n : Int))).run Try.prog W = .ok (.slice (some ⟨W.heap.size, 0, none⟩) n n) (W.alloc (.cells (madeCells #[.int .i64 0] n) 3)) := run_make_row' 22 3 (.int .i64 0) 8 Try.underlying22 Try.info3c rfl .i64 .i64 n (by omega) (by omega)
  obtain ⟨C, hC⟩ : ∃ C, C = madeCells #[.int .i64 0] n := ⟨_, rfl⟩
  have HC : Hid (C.toList = posV n []) := by
    unfold Hid
    rw [hC, vrow_made]
    unfold vrow posV posL
    simp
  rw [← hC] at mA
  obtain ⟨g, hg⟩ : ∃ g, g = w.heap.size := ⟨_, rfl⟩
  have S0 : Hid (AT w (w.alloc (.cells C 3)) g n []) := by rw [hg]; exact AT.start w n (by unfold maxLen; omega) HC.out
  have EG : Hid (g = w.heap.size) := hg
  clear cr ir fit hC HC hg
  go_enter Try.func24, Try.ntmps24
  go_wp2_with fail
  rw [← EG.out]
  go_loopw [6, 7, 18] (fun _ _ u18 wy => ∃ (x : Nat) (R : List Nat), u18 = .int .i64 (x : Int) ∧ x ≤ k ∧ Hid (AT w wy g n R ∧ R.length = x ∧ RI.take x = R.map (fun r : Nat => (r : Int)) ∧ ExA (ms.map Cm.cl) R x)) (fun _ _ u18 _ => k - (intOf u18).toNat)
  case atStart => exact ⟨0, [], rfl, Nat.zero_le _, S0.out, rfl, rfl, fun m hm => absurd hm (by omega)⟩
  case round =>
    obtain ⟨x, R, rfl, hx, A⟩ := hrel
    clear S0 mA EG
    obtain ⟨wo, hwo⟩ : ∃ wo, wo = wr := ⟨_, rfl⟩
    rw [← hwo] at A ⊢
    clear hwo
    by_cases hlt : x < k
    · have x1 : (x : Int) < (k : Int) := by omega
      obtain ⟨gq, oq, z, rfl, hz, cq⟩ := (H.out.2.1.k0 A.out.1.kept).at hlt
      have HZ : Hid (RI[x]? = some z) := hz
      have KE : Hid (Kept (fun _ => False) w wo) := A.out.1.kept
      clear hz
      by_cases z0 : z < 0
      · have NO : Hid (¬ Expl ms RI) := fun h => by
          obtain ⟨i, e, _⟩ := expl_at H.out.2.2 h HZ.out
          omega
        go_wp2_with fail
        go_ret
        exact RetB.mk false rfl ⟨⟨fun y => (by cases y), fun y => absurd y NO.out⟩, KE.out⟩
      · by_cases zn : z < (n : Int)
        · obtain ⟨i, rfl⟩ : ∃ i : Nat, z = (i : Int) := ⟨z.toNat, by omega⟩
          have ilt : i < n := by omega
          obtain ⟨a1, a2⟩ := A.out.1.at ilt
          by_cases dup : i ∈ R
          · have NO : Hid (¬ Expl ms RI) := fun h => by
              obtain ⟨i', e, _, h3, _⟩ := expl_at H.out.2.2 h HZ.out
              have e : i = i' := by omega
              subst e
              exact h3 R A.out.2.2.1 dup
            obtain ⟨ai, hai⟩ : ∃ ai, ai = posL R i := ⟨_, rfl⟩
            have ag : 0 < ai := by rw [hai]; exact posL_in dup
            rw [← hai] at a1
            clear hai
            go_wp2_with fail
            go_ret
            exact RetB.mk false rfl ⟨⟨fun y => (by cases y), fun y => absurd y NO.out⟩, KE.out⟩
          · rw [posL_out dup] at a1
            obtain ⟨b8, off8, d, rfl, hd, y0, y1, y2, y3, y4, y5, y6, y7, y8, y9, y10, _⟩ := (H.out.1.k0 KE.out).at ilt
            obtain ⟨pd, hpd⟩ : ∃ pd, pd = d.pn := ⟨_, rfl⟩
            have RP : Hid (∀ V, Calls Try.prog 25 #[d.agg] V fun o w' => o = .returned (.int .i64 pd) ∧ Kept (fun _ => False) V w') := fun V => by rw [hpd]; exact tPart d V
            have HP : Hid (pd = d.pn ∧ ms[i]? = some d ∧ i ∉ R) := ⟨hpd, hd, dup⟩
            unfold Cm.agg at RP
            have wx : wrap64 ((x : Int) + 1) = (x : Int) + 1 := by unfold wrap64; omega
            clear hd hpd dup
            go_wp2_with fail
            refine (RP.out _).mono ?_
            rintro o w2 ⟨rfl, K2⟩
            have KE2 : Hid (Kept (fun _ => False) w w2) := KE.out.trans K2 (fun _ _ z => z)
            have A2 := A.out.1.k0 K2
            obtain ⟨a3, a4⟩ := A2.at ilt
            have P2 : Hid (AT w (w2.setCell ⟨g, i, none⟩ (.int .i64 ((x : Int) + 1))) g n (R ++ [i])) := by
              have := A2.put HP.out.2.2
              rw [A.out.2.1] at this
              exact this
            clear A2 K2 RP a1 a2 y0 y1 y2 y3 y4 y5 y6 y7 y8 y9 y10
            by_cases p0 : pd = 0
            · have NO : Hid (¬ Expl ms RI) := fun h => by
                obtain ⟨i', e, _, _, m, hm, hp⟩ := expl_at H.out.2.2 h HZ.out
                have e : i = i' := by omega
                subst e
                rw [HP.out.2.1] at hm
                rw [← Option.some.inj hm] at hp
                have := HP.out.1
                rw [p0] at this
                rw [pn_zero.1 this.symm] at hp
                cases hp
              subst p0
              go_wp2_with fail
              go_ret
              exact RetB.mk false rfl ⟨⟨fun y => (by cases y), fun y => absurd y NO.out⟩, KE2.out⟩
            · have pd0 : (pd == 0) = false := by simp [p0]
              have NX : Hid ((R ++ [i]).length = x + 1 ∧ RI.take (x + 1) = (R ++ [i]).map (fun r : Nat => (r : Int)) ∧ ExA (ms.map Cm.cl) (R ++ [i]) (x + 1)) := by
                refine ⟨by rw [List.length_append, A.out.2.1]; rfl, by rw [List.take_add_one, HZ.out, A.out.2.2.1, List.map_append]; rfl, fun m hm r hr => ?_⟩
                by_cases e : m = x
                · subst e
                  rw [List.getElem?_append_right (by rw [A.out.2.1]; exact Nat.le_refl _), A.out.2.1, Nat.sub_self] at hr
                  have e2 : i = r := by simpa using hr
                  subst e2
                  rw [List.take_left' A.out.2.1]
                  refine ⟨HP.out.2.2, d.cl, by rw [List.getElem?_map, HP.out.2.1]; rfl, ?_⟩
                  cases q : d.cl.part
                  · exact absurd (by rw [HP.out.1]; exact pn_zero.2 q) p0
                  · rfl
                · rw [List.getElem?_append_left (by rw [A.out.2.1]; omega)] at hr
                  rw [List.take_append_of_le_length (by rw [A.out.2.1]; omega)]
                  exact A.out.2.2.2 m (by omega) r hr
              clear A
              go_wp2_with fail
              go_roundw
              case rel => exact ⟨x + 1, R ++ [i], by go_num, by omega, P2.out, NX.out⟩
              case measure => simp [intOf] <;> omega
        · have NO : Hid (¬ Expl ms RI) := fun h => by
            obtain ⟨i, e, l, _⟩ := expl_at H.out.2.2 h HZ.out
            rw [H.out.1.len] at l
            omega
          have zn' : (n : Int) ≤ z := by omega
          go_wp2_with fail
          go_ret
          exact RetB.mk false rfl ⟨⟨fun y => (by cases y), fun y => absurd y NO.out⟩, KE.out⟩
    · have x1 : ¬ (x : Int) < (k : Int) := by omega
      have A2 : Hid (AT w wo g n R) := A.out.1
      have AE : Hid (R.length = k ∧ RI = R.map (fun r : Nat => (r : Int)) ∧ ExA (ms.map Cm.cl) R R.length ∧ (Expl ms RI ↔ ExB (ms.map Cm.cl) R (ms.map Cm.cl).length ∧ ExC (ms.map Cm.cl) R (ms.map Cm.cl).length ∧ ExD (ms.map Cm.cl) R R.length)) := by
        have ex : x = k := by omega
        have e1 : RI = R.map (fun r : Nat => (r : Int)) := by
          have := A.out.2.2.1
          rw [List.take_of_length_le (by rw [H.out.2.1.len]; omega)] at this
          exact this
        have e2 : ExA (ms.map Cm.cl) R R.length := by rw [A.out.2.1]; exact A.out.2.2.2
        refine ⟨by rw [A.out.2.1]; exact ex, e1, e2, ?_⟩
        rw [e1]
        constructor
        · intro h
          exact ((explain_iff H.out.2.2.nb).1 (expl_run2 h)).2
        · rintro ⟨h1, h2, h3⟩
          exact ⟨R, rfl, (explain_iff H.out.2.2.nb).2 ⟨e2, h1, h2, h3⟩⟩
      have LT : Hid (∀ x i : Nat, R[x]? = some i → i < n ∧ i ∉ R.take x ∧ ∃ m, ms[i]? = some m ∧ m.cl.part = true) := fun x i h => by
        obtain ⟨h1, c, h2, h3⟩ := AE.out.2.2.1 x (List.getElem?_eq_some_iff.1 h).1 i h
        rw [List.getElem?_map] at h2
        obtain ⟨m, hm, rfl⟩ := Option.map_eq_some_iff.1 h2
        have := (List.getElem?_eq_some_iff.1 hm).1
        rw [H.out.1.len] at this
        exact ⟨this, h1, m, hm, h3⟩
      have L0 : Hid (Kept (fun _ => False) wo wo ∧ C2 ms R 0 ∧ ExD (ms.map Cm.cl) R 0) := ⟨Kept.refl _ _, fun y i hy => absurd hy (by omega), fun y hy => absurd hy (by omega)⟩
      clear A
      go_wp2_with fail
      go_loopw [8, 10, 11, 54] (fun u8 _ _ u54 wy => ∃ x : Nat, u54 = .int .i64 (x : Int) ∧ u8 = .int .i64 (lastF (ms.map Cm.cl) (R.take x) (-1)) ∧ x ≤ k ∧ Hid (Kept (fun _ => False) wo wy ∧ C2 ms R x ∧ ExD (ms.map Cm.cl) R x)) (fun _ _ _ u54 _ => k - (intOf u54).toNat)
      case atStart => exact ⟨0, rfl, rfl, Nat.zero_le _, L0⟩
      case round =>
        obtain ⟨x, rfl, rfl, hx2, K⟩ := hrel
        clear L0
        obtain ⟨wb, hwb⟩ : ∃ wb, wb = wr := ⟨_, rfl⟩
        rw [← hwb] at K ⊢
        clear hwb
        have KW : Hid (Kept (fun _ => False) w wb) := A2.out.kept.trans K.out.1 (fun _ _ z => z)
        by_cases hlt : x < k
        · have x1 : (x : Int) < (k : Int) := by omega
          obtain ⟨gq, oq, z, rfl, hz, cq⟩ := (H.out.2.1.k0 KW.out).at hlt
          rw [AE.out.2.1, List.getElem?_map] at hz
          obtain ⟨i, hi, rfl⟩ := Option.map_eq_some_iff.1 hz
          obtain ⟨ilt, hni, mi, hmi, hpi⟩ := LT.out x i hi
          have i1 : (i : Int) < (n : Int) := by omega
          obtain ⟨l, hl⟩ : ∃ l, l = lastF (ms.map Cm.cl) (R.take x) (-1) := ⟨_, rfl⟩
          have lb : -1 ≤ l ∧ l < (n : Int) := by
            have := lastF_lt (cs := ms.map Cm.cl) (R.take x) (-1) (by omega) (by omega)
            rw [List.length_map, H.out.1.len, ← hl] at this
            exact ⟨this.2, this.1⟩
          have HI : Hid (R[x]? = some i ∧ ms[i]? = some mi ∧ mi.cl.part = true ∧ (i ∉ R.take x) ∧ lastF (ms.map Cm.cl) (R.take (x + 1)) (-1) = (if mi.put = true then (i : Int) else l) ∧ l = lastF (ms.map Cm.cl) (R.take x) (-1)) := by
            refine ⟨hi, hmi, hpi, hni, ?_, hl⟩
            rw [hl]
            exact lastF_succ hi (c := mi.cl) (by rw [List.getElem?_map, hmi]; rfl)
          rw [← hl]
          clear hl hi hmi hz hni hpi
          have L1 : Hid (Kept (fun _ => False) wo wb ∧ ∀ j', j' < 0 → ∀ d', ms[j']? = some d' → d'.cl.must = true → d'.cl.ahead mi.cl = true → posL R j' ≤ posL R i) := ⟨K.out.1, fun j' h => absurd h (by omega)⟩
          have KC : Hid (C2 ms R x ∧ ExD (ms.map Cm.cl) R x) := K.out.2
          clear K
          go_wp2_with fail
          go_loopw [11, 60] (fun _ u60 wy => ∃ j : Nat, u60 = .int .i64 (j : Int) ∧ j ≤ n ∧ Hid (Kept (fun _ => False) wo wy ∧ ∀ j', j' < j → ∀ d', ms[j']? = some d' → d'.cl.must = true → d'.cl.ahead mi.cl = true → posL R j' ≤ posL R i)) (fun _ u60 _ => n - (intOf u60).toNat)
          case atStart => exact ⟨0, rfl, Nat.zero_le _, L1⟩
          case round =>
            obtain ⟨j, rfl, hj, K3⟩ := hrel
            clear L1 cq
            obtain ⟨wd, hwd⟩ : ∃ wd, wd = wr := ⟨_, rfl⟩
            rw [← hwd] at K3 ⊢
            clear hwd
            have KD : Hid (Kept (fun _ => False) w wd) := A2.out.kept.trans K3.out.1 (fun _ _ z => z)
            by_cases hjn : j < n
            · have j1 : (j : Int) < (n : Int) := by omega
              obtain ⟨b8, off8, d, rfl, hd, y0, y1, y2, y3, y4, y5, y6, y7, y8, y9, y10, _⟩ := (H.out.1.k0 KD.out).at hjn
              obtain ⟨aj, haj⟩ : ∃ aj, aj = posL R j := ⟨_, rfl⟩
              obtain ⟨ai, hai⟩ : ∃ ai, ai = posL R i := ⟨_, rfl⟩
              have cj := ((A2.out.k0 K3.out.1).at hjn).1
              have ci := ((A2.out.k0 K3.out.1).at ilt).1
              rw [← haj] at cj
              rw [← hai] at ci
              obtain ⟨pd, hpd⟩ : ∃ pd, pd = d.pn := ⟨_, rfl⟩
              obtain ⟨ah, hah⟩ : ∃ ah, ah = (mi.cl.part && d.cl.ahead mi.cl) := ⟨_, rfl⟩
              have RP : Hid (∀ V, Kept (fun _ => False) wd V → Calls Try.prog 25 #[d.agg] V fun o w' => o = .returned (.int .i64 pd) ∧ Kept (fun _ => False) V w') := fun V _ => by rw [hpd]; exact tPart d V
              have RA : Hid (∀ V, Kept (fun _ => False) wd V → Calls Try.prog 58 #[.slice (some ⟨b8, off8, none⟩) n c0, .int .i64 (j : Int), .int .i64 (i : Int)] V fun o w' => o = .returned (.bool ah) ∧ Kept (fun _ => False) V w') := fun V kv => by rw [hah]; exact tAhead ((H.out.1.k0 KD.out).k0 kv) hd HI.out.2.1
              have GT : Hid (ms[j]? = some d ∧ pd = d.pn ∧ ah = (mi.cl.part && d.cl.ahead mi.cl) ∧ ai = posL R i ∧ aj = posL R j) := ⟨hd, hpd, hah, hai, haj⟩
              have NJ : Hid (¬ (pd = 2 ∧ ah = true ∧ ai < aj) → ∀ j', j' < j + 1 → ∀ d', ms[j']? = some d' → d'.cl.must = true → d'.cl.ahead mi.cl = true → posL R j' ≤ posL R i) := by
                intro hno j' hj' d' hd' h1 h2
                by_cases e : j' = j
                · subst e
                  rw [GT.out.1] at hd'
                  have ed := Option.some.inj hd'
                  subst ed
                  refine Int.not_lt.1 (fun h3 => hno ⟨?_, ?_, ?_⟩)
                  · rw [GT.out.2.1]; exact pn_two.2 h1
                  · rw [GT.out.2.2.1, HI.out.2.2.1, h2]; rfl
                  · rw [GT.out.2.2.2.1, GT.out.2.2.2.2]; exact h3
                · exact K3.out.2 j' (by omega) d' hd' h1 h2
              have KP : Hid (∀ V, Kept (fun _ => False) wd V → V.cell? ⟨b8, off8 + j * 11, none⟩ = some (.int .i64 d.client) ∧ V.cell? ⟨b8, off8 + j * 11 + 1, none⟩ = some (.int .i64 d.op) ∧ V.cell? ⟨b8, off8 + j * 11 + 2, none⟩ = some (.bool d.put) ∧ V.cell? ⟨b8, off8 + j * 11 + 3, none⟩ = some (.string d.key) ∧ V.cell? ⟨b8, off8 + j * 11 + 4, none⟩ = some (.slice d.va d.vn d.vc) ∧ V.cell? ⟨b8, off8 + j * 11 + 5, none⟩ = some (.int .i64 d.st) ∧ V.cell? ⟨b8, off8 + j * 11 + 6, none⟩ = some (.int .i64 d.frm) ∧ V.cell? ⟨b8, off8 + j * 11 + 7, none⟩ = some (.int .i64 d.to) ∧ V.cell? ⟨b8, off8 + j * 11 + 8, none⟩ = some (.bool d.opn) ∧ V.cell? ⟨b8, off8 + j * 11 + 9, none⟩ = some (.int .i64 d.tx) ∧ V.cell? ⟨b8, off8 + j * 11 + 10, none⟩ = some (.int .i64 d.ty) ∧ V.cell? ⟨g, j, none⟩ = some (.int .i64 aj) ∧ V.cell? ⟨g, i, none⟩ = some (.int .i64 ai)) := fun V kv => ⟨kv.cell y0 (fun z => z), kv.cell y1 (fun z => z), kv.cell y2 (fun z => z), kv.cell y3 (fun z => z), kv.cell y4 (fun z => z), kv.cell y5 (fun z => z), kv.cell y6 (fun z => z), kv.cell y7 (fun z => z), kv.cell y8 (fun z => z), kv.cell y9 (fun z => z), kv.cell y10 (fun z => z), kv.cell cj (fun z => z), kv.cell ci (fun z => z)⟩
              have kd : Kept (fun _ => False) wd wd.drew := (Kept.refl _ _).drew
              unfold Cm.agg at RP
              clear hd haj hai hpd hah
              by_cases p2 : pd = 2
              · subst p2
                cases ah
                · go_upto_region 16 with fail
                  have SH : Hid (∀ V, Kept (fun _ => False) wd V → V.cell? ⟨b8, off8 + j * 11, none⟩ = some (.int .i64 d.client) ∧ V.cell? ⟨b8, off8 + j * 11 + 1, none⟩ = some (.int .i64 d.op) ∧ V.cell? ⟨b8, off8 + j * 11 + 2, none⟩ = some (.bool d.put) ∧ V.cell? ⟨b8, off8 + j * 11 + 3, none⟩ = some (.string d.key) ∧ V.cell? ⟨b8, off8 + j * 11 + 4, none⟩ = some (.slice d.va d.vn d.vc) ∧ V.cell? ⟨b8, off8 + j * 11 + 5, none⟩ = some (.int .i64 d.st) ∧ V.cell? ⟨b8, off8 + j * 11 + 6, none⟩ = some (.int .i64 d.frm) ∧ V.cell? ⟨b8, off8 + j * 11 + 7, none⟩ = some (.int .i64 d.to) ∧ V.cell? ⟨b8, off8 + j * 11 + 8, none⟩ = some (.bool d.opn) ∧ V.cell? ⟨b8, off8 + j * 11 + 9, none⟩ = some (.int .i64 d.tx) ∧ V.cell? ⟨b8, off8 + j * 11 + 10, none⟩ = some (.int .i64 d.ty) ∧ V.cell? ⟨g, j, none⟩ = some (.int .i64 aj) ∧ V.cell? ⟨g, i, none⟩ = some (.int .i64 ai)) := KP
                  refine wp_region_held_drew (S := (fun V => V.cell? ⟨b8, off8 + j * 11, none⟩ = some (.int .i64 d.client) ∧ V.cell? ⟨b8, off8 + j * 11 + 1, none⟩ = some (.int .i64 d.op) ∧ V.cell? ⟨b8, off8 + j * 11 + 2, none⟩ = some (.bool d.put) ∧ V.cell? ⟨b8, off8 + j * 11 + 3, none⟩ = some (.string d.key) ∧ V.cell? ⟨b8, off8 + j * 11 + 4, none⟩ = some (.slice d.va d.vn d.vc) ∧ V.cell? ⟨b8, off8 + j * 11 + 5, none⟩ = some (.int .i64 d.st) ∧ V.cell? ⟨b8, off8 + j * 11 + 6, none⟩ = some (.int .i64 d.frm) ∧ V.cell? ⟨b8, off8 + j * 11 + 7, none⟩ = some (.int .i64 d.to) ∧ V.cell? ⟨b8, off8 + j * 11 + 8, none⟩ = some (.bool d.opn) ∧ V.cell? ⟨b8, off8 + j * 11 + 9, none⟩ = some (.int .i64 d.tx) ∧ V.cell? ⟨b8, off8 + j * 11 + 10, none⟩ = some (.int .i64 d.ty) ∧ V.cell? ⟨g, j, none⟩ = some (.int .i64 aj) ∧ V.cell? ⟨g, i, none⟩ = some (.int .i64 ai))) (by kernel_rfl) ?_ (fun hHeld => ?_)
                  · exact SH.out _ kd
                  refine wpAnyH_take (i := 0) (oi := { dst := some 63, op := Op.move (Operand.tmp 0), type := 27, pos := "judge.go:50", after := #[], guard := none }) (v := .slice (some ⟨b8, off8, none⟩) n c0) rfl (by kernel_rfl) (by kernel_rfl) (by kernel_rfl) (fun _ _ _ h => h) (Or.inl ⟨by rfl, ?_⟩) (by assumption) ?_
                  · intro w9 hSw
                    (try dsimp only at hSw)
                    go_simp
                  (try simp only [Act.put, List.setIfInBounds_toArray, List.set_cons_zero, List.set_cons_succ])
                  refine wpAnyH_take (i := 1) (oi := { dst := some 64, op := Op.move (Operand.tmp 11), type := 3, pos := "judge.go:50", after := #[], guard := none }) (v := .int .i64 (j : Int)) rfl (by kernel_rfl) (by kernel_rfl) (by kernel_rfl) (fun _ _ _ h => h) (Or.inl ⟨by rfl, ?_⟩) (by assumption) ?_
                  · intro w9 hSw
                    (try dsimp only at hSw)
                    go_simp
                  (try simp only [Act.put, List.setIfInBounds_toArray, List.set_cons_zero, List.set_cons_succ])
                  refine wpAnyH_take (i := 2) (oi := { dst := some 65, op := Op.indexAddr 27 (Operand.tmp 63) (Operand.tmp 64), type := 0, pos := "judge.go:50", after := #[{ on := 0, ground := Ground.data }, { on := 1, ground := Ground.data }], guard := none }) (v := .pointer (some ⟨b8, off8 + j * 11, none⟩)) rfl (by kernel_rfl) (by kernel_rfl) (by kernel_rfl) (fun _ _ _ h => h) (Or.inl ⟨by rfl, ?_⟩) (by assumption) ?_
                  · intro w9 hSw
                    (try dsimp only at hSw)
                    go_simp
                  (try simp only [Act.put, List.setIfInBounds_toArray, List.set_cons_zero, List.set_cons_succ])
                  refine wpAnyH_take (i := 3) (oi := { dst := some 66, op := Op.load 38 (Operand.tmp 65), type := 38, pos := "judge.go:50", after := #[{ on := 2, ground := Ground.data }], guard := none }) (v := .agg #[.int .i64 d.client, .int .i64 d.op, .bool d.put, .string d.key, .slice d.va d.vn d.vc, .int .i64 d.st, .int .i64 d.frm, .int .i64 d.to, .bool d.opn, .int .i64 d.tx, .int .i64 d.ty]) rfl (by kernel_rfl) (by kernel_rfl) (by kernel_rfl) (fun _ _ _ h => h) (Or.inl ⟨by rfl, ?_⟩) (by assumption) ?_
                  · intro w9 hSw
                    (try dsimp only at hSw)
                    go_simp
                  (try simp only [Act.put, List.setIfInBounds_toArray, List.set_cons_zero, List.set_cons_succ])
                  refine wpAnyH_ready (rs := [4]) (by kernel_rfl) (by simp) ?_
                  refine (AllReadyH.cons (o := { dst := some 67, op := Op.call { callee := Callee.value (Operand.func 25), args := #[Operand.tmp 66], argTypes := #[38] }, type := 3, pos := "judge.go:50", after := #[{ on := 3, ground := Ground.data }], guard := none }) rfl (fun K hK => ?_) AllReadyH.nil)
                  go_simp
                  refine (RP.out _ kd).mono ?_
                  rintro o w5 ⟨rfl, KX⟩
                  have K5 : Kept (fun _ => False) wd w5 := Kept.trans kd KX (fun _ _ z => z)
                  refine hK.out _ _ ?_ (fun hHeld => ?_)
                  · exact SH.out w5 K5
                  clear hK K KX
                  (try simp only [Act.put, List.setIfInBounds_toArray, List.set_cons_zero, List.set_cons_succ])
                  refine wpAnyH_take (i := 5) (oi := { dst := some 68, op := Op.binOp BinOp.eql 3 (Operand.tmp 67) (Operand.const (Value.int IntKind.i64 2)) 3, type := 4, pos := "judge.go:50", after := #[{ on := 4, ground := Ground.data }], guard := none }) (v := .bool true) rfl (by kernel_rfl) (by kernel_rfl) (by kernel_rfl) (fun _ _ _ h => h) (Or.inl ⟨by rfl, ?_⟩) (by assumption) ?_
                  · intro w9 hSw
                    (try dsimp only at hSw)
                    go_simp
                  (try simp only [Act.put, List.setIfInBounds_toArray, List.set_cons_zero, List.set_cons_succ])
                  refine wpAnyH_take (i := 6) (oi := { dst := some 69, op := Op.move (Operand.tmp 68), type := 4, pos := "judge.go:50", after := #[{ on := 5, ground := Ground.data }, { on := 4, ground := Ground.chain }], guard := none }) (v := .bool true) rfl (by kernel_rfl) (by kernel_rfl) (by kernel_rfl) (fun _ _ _ h => h) (Or.inl ⟨by rfl, ?_⟩) (by assumption) ?_
                  · intro w9 hSw
                    (try dsimp only at hSw)
                    go_simp
                  (try simp only [Act.put, List.setIfInBounds_toArray, List.set_cons_zero, List.set_cons_succ])
                  refine wpAnyH_take (i := 7) (oi := { dst := some 70, op := Op.move (Operand.tmp 0), type := 27, pos := "judge.go:50", after := #[{ on := 6, ground := Ground.guard }], guard := some (6, true) }) (v := .slice (some ⟨b8, off8, none⟩) n c0) rfl (by kernel_rfl) (by kernel_rfl) (by kernel_rfl) (fun _ _ _ h => h) (Or.inl ⟨by rfl, ?_⟩) (by assumption) ?_
                  · intro w9 hSw
                    (try dsimp only at hSw)
                    go_simp
                  (try simp only [Act.put, List.setIfInBounds_toArray, List.set_cons_zero, List.set_cons_succ])
                  refine wpAnyH_take (i := 8) (oi := { dst := some 71, op := Op.move (Operand.tmp 11), type := 3, pos := "judge.go:50", after := #[{ on := 6, ground := Ground.guard }], guard := some (6, true) }) (v := .int .i64 (j : Int)) rfl (by kernel_rfl) (by kernel_rfl) (by kernel_rfl) (fun _ _ _ h => h) (Or.inl ⟨by rfl, ?_⟩) (by assumption) ?_
                  · intro w9 hSw
                    (try dsimp only at hSw)
                    go_simp
                  (try simp only [Act.put, List.setIfInBounds_toArray, List.set_cons_zero, List.set_cons_succ])
                  refine wpAnyH_take (i := 9) (oi := { dst := some 72, op := Op.move (Operand.tmp 10), type := 3, pos := "judge.go:50", after := #[{ on := 6, ground := Ground.guard }], guard := some (6, true) }) (v := .int .i64 (i : Int)) rfl (by kernel_rfl) (by kernel_rfl) (by kernel_rfl) (fun _ _ _ h => h) (Or.inl ⟨by rfl, ?_⟩) (by assumption) ?_
                  · intro w9 hSw
                    (try dsimp only at hSw)
                    go_simp
                  (try simp only [Act.put, List.setIfInBounds_toArray, List.set_cons_zero, List.set_cons_succ])
                  refine wpAnyH_ready (rs := [10]) (by kernel_rfl) (by simp) ?_
                  refine (AllReadyH.cons (o := { dst := some 73, op := Op.call { callee := Callee.value (Operand.func 58), args := #[Operand.tmp 70, Operand.tmp 71, Operand.tmp 72], argTypes := #[27, 3, 3] }, type := 4, pos := "judge.go:50", after := #[{ on := 7, ground := Ground.data }, { on := 8, ground := Ground.data }, { on := 9, ground := Ground.data }, { on := 6, ground := Ground.chain }, { on := 6, ground := Ground.guard }], guard := some (6, true) }) rfl (fun K hK => ?_) AllReadyH.nil)
                  go_simp
                  refine (RA.out _ K5).mono ?_
                  rintro o w6 ⟨rfl, KX⟩
                  have K6 : Kept (fun _ => False) wd w6 := Kept.trans K5 KX (fun _ _ z => z)
                  refine hK.out _ _ ?_ (fun hHeld => ?_)
                  · exact SH.out w6 K6
                  clear hK K KX
                  (try simp only [Act.put, List.setIfInBounds_toArray, List.set_cons_zero, List.set_cons_succ])
                  refine wpAnyH_take (i := 11) (oi := { dst := some 74, op := Op.pick (Operand.tmp 69) (Operand.tmp 73) (Operand.const (Value.bool false)), type := 4, pos := "judge.go:50", after := #[{ on := 6, ground := Ground.data }, { on := 10, ground := Ground.data }], guard := none }) (v := .bool false) rfl (by kernel_rfl) (by kernel_rfl) (by kernel_rfl) (fun _ _ _ h => h) (Or.inl ⟨by rfl, ?_⟩) (by assumption) ?_
                  · intro w9 hSw
                    (try dsimp only at hSw)
                    go_simp
                  (try simp only [Act.put, List.setIfInBounds_toArray, List.set_cons_zero, List.set_cons_succ])
                  refine wpAnyH_take (i := 12) (oi := { dst := some 75, op := Op.move (Operand.tmp 74), type := 4, pos := "judge.go:50", after := #[{ on := 11, ground := Ground.data }, { on := 10, ground := Ground.chain }], guard := none }) (v := .bool false) rfl (by kernel_rfl) (by kernel_rfl) (by kernel_rfl) (fun _ _ _ h => h) (Or.inl ⟨by rfl, ?_⟩) (by assumption) ?_
                  · intro w9 hSw
                    (try dsimp only at hSw)
                    go_simp
                  (try simp only [Act.put, List.setIfInBounds_toArray, List.set_cons_zero, List.set_cons_succ])
                  refine wpAnyH_take (i := 13) (oi := { dst := some 76, op := Op.move (Operand.tmp 5), type := 22, pos := "judge.go:50", after := #[{ on := 12, ground := Ground.guard }], guard := some (12, true) }) (v := undef) rfl (by kernel_rfl) (by kernel_rfl) (by kernel_rfl) (fun _ _ _ h => h) (Or.inr ⟨by rfl, rfl⟩) (by assumption) ?_
                  (try simp only [Act.put, List.setIfInBounds_toArray, List.set_cons_zero, List.set_cons_succ])
                  refine wpAnyH_take (i := 14) (oi := { dst := some 77, op := Op.move (Operand.tmp 11), type := 3, pos := "judge.go:50", after := #[{ on := 12, ground := Ground.guard }], guard := some (12, true) }) (v := undef) rfl (by kernel_rfl) (by kernel_rfl) (by kernel_rfl) (fun _ _ _ h => h) (Or.inr ⟨by rfl, rfl⟩) (by assumption) ?_
                  (try simp only [Act.put, List.setIfInBounds_toArray, List.set_cons_zero, List.set_cons_succ])
                  refine wpAnyH_take (i := 15) (oi := { dst := some 78, op := Op.indexAddr 22 (Operand.tmp 76) (Operand.tmp 77), type := 0, pos := "judge.go:50", after := #[{ on := 13, ground := Ground.data }, { on := 14, ground := Ground.data }, { on := 12, ground := Ground.guard }], guard := some (12, true) }) (v := undef) rfl (by kernel_rfl) (by kernel_rfl) (by kernel_rfl) (fun _ _ _ h => h) (Or.inr ⟨by rfl, rfl⟩) (by assumption) ?_
                  (try simp only [Act.put, List.setIfInBounds_toArray, List.set_cons_zero, List.set_cons_succ])
                  refine wpAnyH_take (i := 16) (oi := { dst := some 79, op := Op.load 3 (Operand.tmp 78), type := 3, pos := "judge.go:50", after := #[{ on := 15, ground := Ground.data }, { on := 12, ground := Ground.guard }], guard := some (12, true) }) (v := undef) rfl (by kernel_rfl) (by kernel_rfl) (by kernel_rfl) (fun _ _ _ h => h) (Or.inr ⟨by rfl, rfl⟩) (by assumption) ?_
                  (try simp only [Act.put, List.setIfInBounds_toArray, List.set_cons_zero, List.set_cons_succ])
                  refine wpAnyH_take (i := 17) (oi := { dst := some 80, op := Op.move (Operand.tmp 5), type := 22, pos := "judge.go:50", after := #[{ on := 12, ground := Ground.guard }], guard := some (12, true) }) (v := undef) rfl (by kernel_rfl) (by kernel_rfl) (by kernel_rfl) (fun _ _ _ h => h) (Or.inr ⟨by rfl, rfl⟩) (by assumption) ?_
                  (try simp only [Act.put, List.setIfInBounds_toArray, List.set_cons_zero, List.set_cons_succ])
                  refine wpAnyH_take (i := 18) (oi := { dst := some 81, op := Op.move (Operand.tmp 10), type := 3, pos := "judge.go:50", after := #[{ on := 12, ground := Ground.guard }], guard := some (12, true) }) (v := undef) rfl (by kernel_rfl) (by kernel_rfl) (by kernel_rfl) (fun _ _ _ h => h) (Or.inr ⟨by rfl, rfl⟩) (by assumption) ?_
                  (try simp only [Act.put, List.setIfInBounds_toArray, List.set_cons_zero, List.set_cons_succ])
                  refine wpAnyH_take (i := 19) (oi := { dst := some 82, op := Op.indexAddr 22 (Operand.tmp 80) (Operand.tmp 81), type := 0, pos := "judge.go:50", after := #[{ on := 17, ground := Ground.data }, { on := 18, ground := Ground.data }, { on := 12, ground := Ground.guard }], guard := some (12, true) }) (v := undef) rfl (by kernel_rfl) (by kernel_rfl) (by kernel_rfl) (fun _ _ _ h => h) (Or.inr ⟨by rfl, rfl⟩) (by assumption) ?_
                  (try simp only [Act.put, List.setIfInBounds_toArray, List.set_cons_zero, List.set_cons_succ])
                  refine wpAnyH_take (i := 20) (oi := { dst := some 83, op := Op.load 3 (Operand.tmp 82), type := 3, pos := "judge.go:50", after := #[{ on := 19, ground := Ground.data }, { on := 12, ground := Ground.guard }], guard := some (12, true) }) (v := undef) rfl (by kernel_rfl) (by kernel_rfl) (by kernel_rfl) (fun _ _ _ h => h) (Or.inr ⟨by rfl, rfl⟩) (by assumption) ?_
                  (try simp only [Act.put, List.setIfInBounds_toArray, List.set_cons_zero, List.set_cons_succ])
                  refine wpAnyH_take (i := 21) (oi := { dst := some 84, op := Op.binOp BinOp.gtr 3 (Operand.tmp 79) (Operand.tmp 83) 3, type := 4, pos := "judge.go:50", after := #[{ on := 16, ground := Ground.data }, { on := 20, ground := Ground.data }, { on := 12, ground := Ground.guard }], guard := some (12, true) }) (v := undef) rfl (by kernel_rfl) (by kernel_rfl) (by kernel_rfl) (fun _ _ _ h => h) (Or.inr ⟨by rfl, rfl⟩) (by assumption) ?_
                  (try simp only [Act.put, List.setIfInBounds_toArray, List.set_cons_zero, List.set_cons_succ])
                  refine wpAnyH_take (i := 22) (oi := { dst := some 85, op := Op.pick (Operand.tmp 75) (Operand.tmp 84) (Operand.const (Value.bool false)), type := 4, pos := "judge.go:50", after := #[{ on := 12, ground := Ground.data }, { on := 21, ground := Ground.data }], guard := none }) (v := .bool false) rfl (by kernel_rfl) (by kernel_rfl) (by kernel_rfl) (fun _ _ _ h => h) (Or.inl ⟨by rfl, ?_⟩) (by assumption) ?_
                  · intro w9 hSw
                    (try dsimp only at hSw)
                    go_simp
                  (try simp only [Act.put, List.setIfInBounds_toArray, List.set_cons_zero, List.set_cons_succ])
                  refine wpAnyH_done (by kernel_rfl) ?_ _
                  go_wp2_with fail
                  go_roundw
                  case rel => exact ⟨j + 1, by go_num, by omega, K3.out.1.trans K6 (fun _ _ z => z), NJ.out (fun z => (by cases z.2.1))⟩
                  case measure => simp [intOf] <;> omega
                · by_cases lt : ai < aj
                  · have gt : decide (ai < aj) = true := decide_eq_true lt
                    have NO : Hid (¬ Expl ms RI) := fun h => by
                      obtain ⟨_, hC, _⟩ := AE.out.2.2.2.1 h
                      have h2 := GT.out.2.2.1.symm
                      rw [HI.out.2.2.1, Bool.true_and] at h2
                      refine exc_no AE.out.2.2.1 hC HI.out.1 GT.out.1 HI.out.2.1 h2 ?_
                      rw [← GT.out.2.2.2.1, ← GT.out.2.2.2.2]
                      exact lt
                    go_upto_region 16 with fail
                    go_region_held3 (fun V => V.cell? ⟨b8, off8 + j * 11, none⟩ = some (.int .i64 d.client) ∧ V.cell? ⟨b8, off8 + j * 11 + 1, none⟩ = some (.int .i64 d.op) ∧ V.cell? ⟨b8, off8 + j * 11 + 2, none⟩ = some (.bool d.put) ∧ V.cell? ⟨b8, off8 + j * 11 + 3, none⟩ = some (.string d.key) ∧ V.cell? ⟨b8, off8 + j * 11 + 4, none⟩ = some (.slice d.va d.vn d.vc) ∧ V.cell? ⟨b8, off8 + j * 11 + 5, none⟩ = some (.int .i64 d.st) ∧ V.cell? ⟨b8, off8 + j * 11 + 6, none⟩ = some (.int .i64 d.frm) ∧ V.cell? ⟨b8, off8 + j * 11 + 7, none⟩ = some (.int .i64 d.to) ∧ V.cell? ⟨b8, off8 + j * 11 + 8, none⟩ = some (.bool d.opn) ∧ V.cell? ⟨b8, off8 + j * 11 + 9, none⟩ = some (.int .i64 d.tx) ∧ V.cell? ⟨b8, off8 + j * 11 + 10, none⟩ = some (.int .i64 d.ty) ∧ V.cell? ⟨g, j, none⟩ = some (.int .i64 aj) ∧ V.cell? ⟨g, i, none⟩ = some (.int .i64 ai) ∧ Kept (fun _ => False) wd V) (go_keep)
                      (first | (go_at_call 25; refine (RP.out _ (by assumption)).mono ?_; rintro o w5 ⟨rfl, K5'⟩; have K5 : Kept (fun _ => False) wd w5 := Kept.trans (by assumption) K5' (fun _ _ z => z); obtain ⟨xy0, xy1, xy2, xy3, xy4, xy5, xy6, xy7, xy8, xy9, xy10, xcj, xci⟩ := KP.out w5 K5; clear K5') | (go_at_call 58; refine (RA.out _ (by assumption)).mono ?_; rintro o w6 ⟨rfl, K5'⟩; have K6 : Kept (fun _ => False) wd w6 := Kept.trans (by assumption) K5' (fun _ _ z => z); obtain ⟨zy0, zy1, zy2, zy3, zy4, zy5, zy6, zy7, zy8, zy9, zy10, zcj, zci⟩ := KP.out w6 K6; clear K5') | fail)
                    go_wp2_with fail
                    go_ret
                    exact RetB.mk false rfl ⟨⟨fun y => (by cases y), fun y => absurd y NO.out⟩, KD.out.trans K6 (fun _ _ z => z)⟩
                  · have gt : decide (ai < aj) = false := decide_eq_false lt
                    go_upto_region 16 with fail
                    go_region_held3 (fun V => V.cell? ⟨b8, off8 + j * 11, none⟩ = some (.int .i64 d.client) ∧ V.cell? ⟨b8, off8 + j * 11 + 1, none⟩ = some (.int .i64 d.op) ∧ V.cell? ⟨b8, off8 + j * 11 + 2, none⟩ = some (.bool d.put) ∧ V.cell? ⟨b8, off8 + j * 11 + 3, none⟩ = some (.string d.key) ∧ V.cell? ⟨b8, off8 + j * 11 + 4, none⟩ = some (.slice d.va d.vn d.vc) ∧ V.cell? ⟨b8, off8 + j * 11 + 5, none⟩ = some (.int .i64 d.st) ∧ V.cell? ⟨b8, off8 + j * 11 + 6, none⟩ = some (.int .i64 d.frm) ∧ V.cell? ⟨b8, off8 + j * 11 + 7, none⟩ = some (.int .i64 d.to) ∧ V.cell? ⟨b8, off8 + j * 11 + 8, none⟩ = some (.bool d.opn) ∧ V.cell? ⟨b8, off8 + j * 11 + 9, none⟩ = some (.int .i64 d.tx) ∧ V.cell? ⟨b8, off8 + j * 11 + 10, none⟩ = some (.int .i64 d.ty) ∧ V.cell? ⟨g, j, none⟩ = some (.int .i64 aj) ∧ V.cell? ⟨g, i, none⟩ = some (.int .i64 ai) ∧ Kept (fun _ => False) wd V) (go_keep)
                      (first | (go_at_call 25; refine (RP.out _ (by assumption)).mono ?_; rintro o w5 ⟨rfl, K5'⟩; have K5 : Kept (fun _ => False) wd w5 := Kept.trans (by assumption) K5' (fun _ _ z => z); obtain ⟨xy0, xy1, xy2, xy3, xy4, xy5, xy6, xy7, xy8, xy9, xy10, xcj, xci⟩ := KP.out w5 K5; clear K5') | (go_at_call 58; refine (RA.out _ (by assumption)).mono ?_; rintro o w6 ⟨rfl, K5'⟩; have K6 : Kept (fun _ => False) wd w6 := Kept.trans (by assumption) K5' (fun _ _ z => z); obtain ⟨zy0, zy1, zy2, zy3, zy4, zy5, zy6, zy7, zy8, zy9, zy10, zcj, zci⟩ := KP.out w6 K6; clear K5') | fail)
                    go_wp2_with fail
                    go_roundw
                    case rel => exact ⟨j + 1, by go_num, by omega, K3.out.1.trans K6 (fun _ _ z => z), NJ.out (fun z => (by omega))⟩
                    case measure => simp [intOf] <;> omega
              · have p2' : (pd == 2) = false := by simp [p2]
                go_upto_region 16 with fail
                have SH : Hid (∀ V, Kept (fun _ => False) wd V → V.cell? ⟨b8, off8 + j * 11, none⟩ = some (.int .i64 d.client) ∧ V.cell? ⟨b8, off8 + j * 11 + 1, none⟩ = some (.int .i64 d.op) ∧ V.cell? ⟨b8, off8 + j * 11 + 2, none⟩ = some (.bool d.put) ∧ V.cell? ⟨b8, off8 + j * 11 + 3, none⟩ = some (.string d.key) ∧ V.cell? ⟨b8, off8 + j * 11 + 4, none⟩ = some (.slice d.va d.vn d.vc) ∧ V.cell? ⟨b8, off8 + j * 11 + 5, none⟩ = some (.int .i64 d.st) ∧ V.cell? ⟨b8, off8 + j * 11 + 6, none⟩ = some (.int .i64 d.frm) ∧ V.cell? ⟨b8, off8 + j * 11 + 7, none⟩ = some (.int .i64 d.to) ∧ V.cell? ⟨b8, off8 + j * 11 + 8, none⟩ = some (.bool d.opn) ∧ V.cell? ⟨b8, off8 + j * 11 + 9, none⟩ = some (.int .i64 d.tx) ∧ V.cell? ⟨b8, off8 + j * 11 + 10, none⟩ = some (.int .i64 d.ty) ∧ V.cell? ⟨g, j, none⟩ = some (.int .i64 aj) ∧ V.cell? ⟨g, i, none⟩ = some (.int .i64 ai)) := KP
                refine wp_region_held_drew (S := (fun V => V.cell? ⟨b8, off8 + j * 11, none⟩ = some (.int .i64 d.client) ∧ V.cell? ⟨b8, off8 + j * 11 + 1, none⟩ = some (.int .i64 d.op) ∧ V.cell? ⟨b8, off8 + j * 11 + 2, none⟩ = some (.bool d.put) ∧ V.cell? ⟨b8, off8 + j * 11 + 3, none⟩ = some (.string d.key) ∧ V.cell? ⟨b8, off8 + j * 11 + 4, none⟩ = some (.slice d.va d.vn d.vc) ∧ V.cell? ⟨b8, off8 + j * 11 + 5, none⟩ = some (.int .i64 d.st) ∧ V.cell? ⟨b8, off8 + j * 11 + 6, none⟩ = some (.int .i64 d.frm) ∧ V.cell? ⟨b8, off8 + j * 11 + 7, none⟩ = some (.int .i64 d.to) ∧ V.cell? ⟨b8, off8 + j * 11 + 8, none⟩ = some (.bool d.opn) ∧ V.cell? ⟨b8, off8 + j * 11 + 9, none⟩ = some (.int .i64 d.tx) ∧ V.cell? ⟨b8, off8 + j * 11 + 10, none⟩ = some (.int .i64 d.ty) ∧ V.cell? ⟨g, j, none⟩ = some (.int .i64 aj) ∧ V.cell? ⟨g, i, none⟩ = some (.int .i64 ai))) (by kernel_rfl) ?_ (fun hHeld => ?_)
                · exact SH.out _ kd
                refine wpAnyH_take (i := 0) (oi := { dst := some 63, op := Op.move (Operand.tmp 0), type := 27, pos := "judge.go:50", after := #[], guard := none }) (v := .slice (some ⟨b8, off8, none⟩) n c0) rfl (by kernel_rfl) (by kernel_rfl) (by kernel_rfl) (fun _ _ _ h => h) (Or.inl ⟨by rfl, ?_⟩) (by assumption) ?_
                · intro w9 hSw
                  (try dsimp only at hSw)
                  go_simp
                (try simp only [Act.put, List.setIfInBounds_toArray, List.set_cons_zero, List.set_cons_succ])
                refine wpAnyH_take (i := 1) (oi := { dst := some 64, op := Op.move (Operand.tmp 11), type := 3, pos := "judge.go:50", after := #[], guard := none }) (v := .int .i64 (j : Int)) rfl (by kernel_rfl) (by kernel_rfl) (by kernel_rfl) (fun _ _ _ h => h) (Or.inl ⟨by rfl, ?_⟩) (by assumption) ?_
                · intro w9 hSw
                  (try dsimp only at hSw)
                  go_simp
                (try simp only [Act.put, List.setIfInBounds_toArray, List.set_cons_zero, List.set_cons_succ])
                refine wpAnyH_take (i := 2) (oi := { dst := some 65, op := Op.indexAddr 27 (Operand.tmp 63) (Operand.tmp 64), type := 0, pos := "judge.go:50", after := #[{ on := 0, ground := Ground.data }, { on := 1, ground := Ground.data }], guard := none }) (v := .pointer (some ⟨b8, off8 + j * 11, none⟩)) rfl (by kernel_rfl) (by kernel_rfl) (by kernel_rfl) (fun _ _ _ h => h) (Or.inl ⟨by rfl, ?_⟩) (by assumption) ?_
                · intro w9 hSw
                  (try dsimp only at hSw)
                  go_simp
                (try simp only [Act.put, List.setIfInBounds_toArray, List.set_cons_zero, List.set_cons_succ])
                refine wpAnyH_take (i := 3) (oi := { dst := some 66, op := Op.load 38 (Operand.tmp 65), type := 38, pos := "judge.go:50", after := #[{ on := 2, ground := Ground.data }], guard := none }) (v := .agg #[.int .i64 d.client, .int .i64 d.op, .bool d.put, .string d.key, .slice d.va d.vn d.vc, .int .i64 d.st, .int .i64 d.frm, .int .i64 d.to, .bool d.opn, .int .i64 d.tx, .int .i64 d.ty]) rfl (by kernel_rfl) (by kernel_rfl) (by kernel_rfl) (fun _ _ _ h => h) (Or.inl ⟨by rfl, ?_⟩) (by assumption) ?_
                · intro w9 hSw
                  (try dsimp only at hSw)
                  go_simp
                (try simp only [Act.put, List.setIfInBounds_toArray, List.set_cons_zero, List.set_cons_succ])
                refine wpAnyH_ready (rs := [4]) (by kernel_rfl) (by simp) ?_
                refine (AllReadyH.cons (o := { dst := some 67, op := Op.call { callee := Callee.value (Operand.func 25), args := #[Operand.tmp 66], argTypes := #[38] }, type := 3, pos := "judge.go:50", after := #[{ on := 3, ground := Ground.data }], guard := none }) rfl (fun K hK => ?_) AllReadyH.nil)
                go_simp
                refine (RP.out _ kd).mono ?_
                rintro o w5 ⟨rfl, KX⟩
                have K5 : Kept (fun _ => False) wd w5 := Kept.trans kd KX (fun _ _ z => z)
                refine hK.out _ _ ?_ (fun hHeld => ?_)
                · exact SH.out w5 K5
                clear hK K KX
                (try simp only [Act.put, List.setIfInBounds_toArray, List.set_cons_zero, List.set_cons_succ])
                refine wpAnyH_take (i := 5) (oi := { dst := some 68, op := Op.binOp BinOp.eql 3 (Operand.tmp 67) (Operand.const (Value.int IntKind.i64 2)) 3, type := 4, pos := "judge.go:50", after := #[{ on := 4, ground := Ground.data }], guard := none }) (v := .bool false) rfl (by kernel_rfl) (by kernel_rfl) (by kernel_rfl) (fun _ _ _ h => h) (Or.inl ⟨by rfl, ?_⟩) (by assumption) ?_
                · intro w9 hSw
                  (try dsimp only at hSw)
                  go_simp
                (try simp only [Act.put, List.setIfInBounds_toArray, List.set_cons_zero, List.set_cons_succ])
                refine wpAnyH_take (i := 6) (oi := { dst := some 69, op := Op.move (Operand.tmp 68), type := 4, pos := "judge.go:50", after := #[{ on := 5, ground := Ground.data }, { on := 4, ground := Ground.chain }], guard := none }) (v := .bool false) rfl (by kernel_rfl) (by kernel_rfl) (by kernel_rfl) (fun _ _ _ h => h) (Or.inl ⟨by rfl, ?_⟩) (by assumption) ?_
                · intro w9 hSw
                  (try dsimp only at hSw)
                  go_simp
                (try simp only [Act.put, List.setIfInBounds_toArray, List.set_cons_zero, List.set_cons_succ])
                refine wpAnyH_take (i := 7) (oi := { dst := some 70, op := Op.move (Operand.tmp 0), type := 27, pos := "judge.go:50", after := #[{ on := 6, ground := Ground.guard }], guard := some (6, true) }) (v := undef) rfl (by kernel_rfl) (by kernel_rfl) (by kernel_rfl) (fun _ _ _ h => h) (Or.inr ⟨by rfl, rfl⟩) (by assumption) ?_
                (try simp only [Act.put, List.setIfInBounds_toArray, List.set_cons_zero, List.set_cons_succ])
                refine wpAnyH_take (i := 8) (oi := { dst := some 71, op := Op.move (Operand.tmp 11), type := 3, pos := "judge.go:50", after := #[{ on := 6, ground := Ground.guard }], guard := some (6, true) }) (v := undef) rfl (by kernel_rfl) (by kernel_rfl) (by kernel_rfl) (fun _ _ _ h => h) (Or.inr ⟨by rfl, rfl⟩) (by assumption) ?_
                (try simp only [Act.put, List.setIfInBounds_toArray, List.set_cons_zero, List.set_cons_succ])
                refine wpAnyH_take (i := 9) (oi := { dst := some 72, op := Op.move (Operand.tmp 10), type := 3, pos := "judge.go:50", after := #[{ on := 6, ground := Ground.guard }], guard := some (6, true) }) (v := undef) rfl (by kernel_rfl) (by kernel_rfl) (by kernel_rfl) (fun _ _ _ h => h) (Or.inr ⟨by rfl, rfl⟩) (by assumption) ?_
                (try simp only [Act.put, List.setIfInBounds_toArray, List.set_cons_zero, List.set_cons_succ])
                refine wpAnyH_take (i := 10) (oi := { dst := some 73, op := Op.call { callee := Callee.value (Operand.func 58), args := #[Operand.tmp 70, Operand.tmp 71, Operand.tmp 72], argTypes := #[27, 3, 3] }, type := 4, pos := "judge.go:50", after := #[{ on := 7, ground := Ground.data }, { on := 8, ground := Ground.data }, { on := 9, ground := Ground.data }, { on := 6, ground := Ground.chain }, { on := 6, ground := Ground.guard }], guard := some (6, true) }) (v := undef) rfl (by kernel_rfl) (by kernel_rfl) (by kernel_rfl) (fun _ _ _ h => h) (Or.inr ⟨by rfl, rfl⟩) (by assumption) ?_
                (try simp only [Act.put, List.setIfInBounds_toArray, List.set_cons_zero, List.set_cons_succ])
                refine wpAnyH_take (i := 11) (oi := { dst := some 74, op := Op.pick (Operand.tmp 69) (Operand.tmp 73) (Operand.const (Value.bool false)), type := 4, pos := "judge.go:50", after := #[{ on := 6, ground := Ground.data }, { on := 10, ground := Ground.data }], guard := none }) (v := .bool false) rfl (by kernel_rfl) (by kernel_rfl) (by kernel_rfl) (fun _ _ _ h => h) (Or.inl ⟨by rfl, ?_⟩) (by assumption) ?_
                · intro w9 hSw
                  (try dsimp only at hSw)
                  go_simp
                (try simp only [Act.put, List.setIfInBounds_toArray, List.set_cons_zero, List.set_cons_succ])
                refine wpAnyH_take (i := 12) (oi := { dst := some 75, op := Op.move (Operand.tmp 74), type := 4, pos := "judge.go:50", after := #[{ on := 11, ground := Ground.data }, { on := 10, ground := Ground.chain }], guard := none }) (v := .bool false) rfl (by kernel_rfl) (by kernel_rfl) (by kernel_rfl) (fun _ _ _ h => h) (Or.inl ⟨by rfl, ?_⟩) (by assumption) ?_
                · intro w9 hSw
                  (try dsimp only at hSw)
                  go_simp
                (try simp only [Act.put, List.setIfInBounds_toArray, List.set_cons_zero, List.set_cons_succ])
                refine wpAnyH_take (i := 13) (oi := { dst := some 76, op := Op.move (Operand.tmp 5), type := 22, pos := "judge.go:50", after := #[{ on := 12, ground := Ground.guard }], guard := some (12, true) }) (v := undef) rfl (by kernel_rfl) (by kernel_rfl) (by kernel_rfl) (fun _ _ _ h => h) (Or.inr ⟨by rfl, rfl⟩) (by assumption) ?_
                (try simp only [Act.put, List.setIfInBounds_toArray, List.set_cons_zero, List.set_cons_succ])
                refine wpAnyH_take (i := 14) (oi := { dst := some 77, op := Op.move (Operand.tmp 11), type := 3, pos := "judge.go:50", after := #[{ on := 12, ground := Ground.guard }], guard := some (12, true) }) (v := undef) rfl (by kernel_rfl) (by kernel_rfl) (by kernel_rfl) (fun _ _ _ h => h) (Or.inr ⟨by rfl, rfl⟩) (by assumption) ?_
                (try simp only [Act.put, List.setIfInBounds_toArray, List.set_cons_zero, List.set_cons_succ])
                refine wpAnyH_take (i := 15) (oi := { dst := some 78, op := Op.indexAddr 22 (Operand.tmp 76) (Operand.tmp 77), type := 0, pos := "judge.go:50", after := #[{ on := 13, ground := Ground.data }, { on := 14, ground := Ground.data }, { on := 12, ground := Ground.guard }], guard := some (12, true) }) (v := undef) rfl (by kernel_rfl) (by kernel_rfl) (by kernel_rfl) (fun _ _ _ h => h) (Or.inr ⟨by rfl, rfl⟩) (by assumption) ?_
                (try simp only [Act.put, List.setIfInBounds_toArray, List.set_cons_zero, List.set_cons_succ])
                refine wpAnyH_take (i := 16) (oi := { dst := some 79, op := Op.load 3 (Operand.tmp 78), type := 3, pos := "judge.go:50", after := #[{ on := 15, ground := Ground.data }, { on := 12, ground := Ground.guard }], guard := some (12, true) }) (v := undef) rfl (by kernel_rfl) (by kernel_rfl) (by kernel_rfl) (fun _ _ _ h => h) (Or.inr ⟨by rfl, rfl⟩) (by assumption) ?_
                (try simp only [Act.put, List.setIfInBounds_toArray, List.set_cons_zero, List.set_cons_succ])
                refine wpAnyH_take (i := 17) (oi := { dst := some 80, op := Op.move (Operand.tmp 5), type := 22, pos := "judge.go:50", after := #[{ on := 12, ground := Ground.guard }], guard := some (12, true) }) (v := undef) rfl (by kernel_rfl) (by kernel_rfl) (by kernel_rfl) (fun _ _ _ h => h) (Or.inr ⟨by rfl, rfl⟩) (by assumption) ?_
                (try simp only [Act.put, List.setIfInBounds_toArray, List.set_cons_zero, List.set_cons_succ])
                refine wpAnyH_take (i := 18) (oi := { dst := some 81, op := Op.move (Operand.tmp 10), type := 3, pos := "judge.go:50", after := #[{ on := 12, ground := Ground.guard }], guard := some (12, true) }) (v := undef) rfl (by kernel_rfl) (by kernel_rfl) (by kernel_rfl) (fun _ _ _ h => h) (Or.inr ⟨by rfl, rfl⟩) (by assumption) ?_
                (try simp only [Act.put, List.setIfInBounds_toArray, List.set_cons_zero, List.set_cons_succ])
                refine wpAnyH_take (i := 19) (oi := { dst := some 82, op := Op.indexAddr 22 (Operand.tmp 80) (Operand.tmp 81), type := 0, pos := "judge.go:50", after := #[{ on := 17, ground := Ground.data }, { on := 18, ground := Ground.data }, { on := 12, ground := Ground.guard }], guard := some (12, true) }) (v := undef) rfl (by kernel_rfl) (by kernel_rfl) (by kernel_rfl) (fun _ _ _ h => h) (Or.inr ⟨by rfl, rfl⟩) (by assumption) ?_
                (try simp only [Act.put, List.setIfInBounds_toArray, List.set_cons_zero, List.set_cons_succ])
                refine wpAnyH_take (i := 20) (oi := { dst := some 83, op := Op.load 3 (Operand.tmp 82), type := 3, pos := "judge.go:50", after := #[{ on := 19, ground := Ground.data }, { on := 12, ground := Ground.guard }], guard := some (12, true) }) (v := undef) rfl (by kernel_rfl) (by kernel_rfl) (by kernel_rfl) (fun _ _ _ h => h) (Or.inr ⟨by rfl, rfl⟩) (by assumption) ?_
                (try simp only [Act.put, List.setIfInBounds_toArray, List.set_cons_zero, List.set_cons_succ])
                refine wpAnyH_take (i := 21) (oi := { dst := some 84, op := Op.binOp BinOp.gtr 3 (Operand.tmp 79) (Operand.tmp 83) 3, type := 4, pos := "judge.go:50", after := #[{ on := 16, ground := Ground.data }, { on := 20, ground := Ground.data }, { on := 12, ground := Ground.guard }], guard := some (12, true) }) (v := undef) rfl (by kernel_rfl) (by kernel_rfl) (by kernel_rfl) (fun _ _ _ h => h) (Or.inr ⟨by rfl, rfl⟩) (by assumption) ?_
                (try simp only [Act.put, List.setIfInBounds_toArray, List.set_cons_zero, List.set_cons_succ])
                refine wpAnyH_take (i := 22) (oi := { dst := some 85, op := Op.pick (Operand.tmp 75) (Operand.tmp 84) (Operand.const (Value.bool false)), type := 4, pos := "judge.go:50", after := #[{ on := 12, ground := Ground.data }, { on := 21, ground := Ground.data }], guard := none }) (v := .bool false) rfl (by kernel_rfl) (by kernel_rfl) (by kernel_rfl) (fun _ _ _ h => h) (Or.inl ⟨by rfl, ?_⟩) (by assumption) ?_
                · intro w9 hSw
                  (try dsimp only at hSw)
                  go_simp
                (try simp only [Act.put, List.setIfInBounds_toArray, List.set_cons_zero, List.set_cons_succ])
                refine wpAnyH_done (by kernel_rfl) ?_ _
                go_wp2_with fail
                go_roundw
                case rel => exact ⟨j + 1, by go_num, by omega, K3.out.1.trans K5 (fun _ _ z => z), NJ.out (fun z => p2 z.1)⟩
                case measure => simp [intOf] <;> omega
            · have j1 : ¬ (j : Int) < (n : Int) := by omega
              go_wp2_with fail
              refine (tFits (H.out.1.k0 KD.out) HI.out.2.1 HI.out.2.2.1 l lb).mono ?_
              rintro o w7 ⟨v, rfl, hv, K7⟩
              have D1 : Hid (v = true ↔ ExD1 (ms.map Cm.cl) R x mi.cl) := by
                refine hv.trans ?_
                rw [HI.out.2.2.2.2.2]
                refine d1_iff HI.out.2.2.1 ?_
                rw [← HI.out.2.2.2.2.2, List.length_map, H.out.1.len]
                exact lb.2
              have K8 : Hid (Kept (fun _ => False) wo w7) := K3.out.1.trans K7 (fun _ _ z => z)
              have KZ : Hid (Kept (fun _ => False) w w7) := KD.out.trans K7 (fun _ _ z => z)
              have hc : (ms.map Cm.cl)[i]? = some mi.cl := by rw [List.getElem?_map, HI.out.2.1]; rfl
              have hxR : x < R.length := by rw [AE.out.1]; exact hlt
              cases v
              · have NO : Hid (¬ Expl ms RI) := fun h => by
                  obtain ⟨_, _, hD⟩ := AE.out.2.2.2.1 h
                  have := D1.out.2 (hD x hxR i _ HI.out.1 hc)
                  cases this
                clear hv K7 hc
                go_wp2_with fail
                go_ret
                exact RetB.mk false rfl ⟨⟨fun y => (by cases y), fun y => absurd y NO.out⟩, KZ.out⟩
              · have NN : Hid (C2 ms R (x + 1) ∧ ExD (ms.map Cm.cl) R (x + 1)) := by
                  refine ⟨fun y i' hy hi' j' d' mi' hd' hmi' h1 h2 => ?_, fun y hy r c hr hc' => ?_⟩
                  · by_cases e : y = x
                    · subst e
                      rw [HI.out.1] at hi'
                      have ei := Option.some.inj hi'
                      subst ei
                      rw [HI.out.2.1] at hmi'
                      have em := Option.some.inj hmi'
                      subst em
                      have := (List.getElem?_eq_some_iff.1 hd').1
                      rw [H.out.1.len] at this
                      exact Int.not_lt.2 (K3.out.2 j' (by omega) d' hd' h1 h2)
                    · exact KC.out.1 y i' (by omega) hi' j' d' mi' hd' hmi' h1 h2
                  · by_cases e : y = x
                    · subst e
                      rw [HI.out.1] at hr
                      have ei := Option.some.inj hr
                      subst ei
                      rw [hc] at hc'
                      rw [← Option.some.inj hc']
                      exact D1.out.1 rfl
                    · exact KC.out.2 y (by omega) r c hr hc'
                obtain ⟨b8, off8, d, rfl, hd, _, _, y2, _⟩ := (H.out.1.k0 KZ.out).at ilt
                have ed : d = mi := by
                  have e := HI.out.2.1
                  rw [hd] at e
                  injection e
                subst ed
                obtain ⟨pu, hpu⟩ : ∃ pu, d.put = pu := ⟨_, rfl⟩
                rw [hpu] at y2
                have LN : Hid (lastF (ms.map Cm.cl) (R.take (x + 1)) (-1) = if pu = true then (i : Int) else l) := by
                  have := HI.out.2.2.2.2.1
                  rw [hpu] at this
                  exact this
                clear hv K7 hd hpu hc hxR
                cases pu
                · have LE : lastF (ms.map Cm.cl) (R.take (x + 1)) (-1) = l := LN.out
                  go_wp2_with fail
                  go_roundw
                  case rel => exact ⟨x + 1, by go_num, by rw [LE], by omega, K8.out, NN.out⟩
                  case measure => simp [intOf] <;> omega
                · have LE : lastF (ms.map Cm.cl) (R.take (x + 1)) (-1) = (i : Int) := LN.out
                  go_wp2_with fail
                  go_roundw
                  case rel => exact ⟨x + 1, by go_num, by rw [LE], by omega, K8.out, NN.out⟩
                  case measure => simp [intOf] <;> omega
        · have x1 : ¬ (x : Int) < (k : Int) := by omega
          have xk : x = R.length := by rw [AE.out.1]; omega
          have CD : Hid (ExC (ms.map Cm.cl) R (ms.map Cm.cl).length ∧ ExD (ms.map Cm.cl) R R.length) := by
            have h1 := K.out.2.1
            have h2 := K.out.2.2
            rw [xk] at h1 h2
            exact ⟨c2_exc AE.out.2.2.1 h1, h2⟩
          clear xk
          obtain ⟨l, hl⟩ : ∃ l, l = lastF (ms.map Cm.cl) (R.take x) (-1) := ⟨_, rfl⟩
          rw [← hl]
          clear hl
          have L4 : Hid (Kept (fun _ => False) wo wb ∧ ∀ j', j' < 0 → ∀ d', ms[j']? = some d' → d'.cl.must = true → j' ∈ R) := ⟨K.out.1, fun j' h => absurd h (by omega)⟩
          go_wp2_with fail
          go_loopw [12, 101] (fun _ u101 wy => ∃ j : Nat, u101 = .int .i64 (j : Int) ∧ j ≤ n ∧ Hid (Kept (fun _ => False) wo wy ∧ ∀ j', j' < j → ∀ d', ms[j']? = some d' → d'.cl.must = true → j' ∈ R)) (fun _ u101 _ => n - (intOf u101).toNat)
          case atStart => exact ⟨0, rfl, Nat.zero_le _, L4⟩
          case round =>
            obtain ⟨j, rfl, hj, K3⟩ := hrel
            clear L4
            obtain ⟨wd, hwd⟩ : ∃ wd, wd = wr := ⟨_, rfl⟩
            rw [← hwd] at K3 ⊢
            clear hwd
            have KD : Hid (Kept (fun _ => False) w wd) := A2.out.kept.trans K3.out.1 (fun _ _ z => z)
            by_cases hjn : j < n
            · have j1 : (j : Int) < (n : Int) := by omega
              obtain ⟨b8, off8, d, rfl, hd, y0, y1, y2, y3, y4, y5, y6, y7, y8, y9, y10, _⟩ := (H.out.1.k0 KD.out).at hjn
              obtain ⟨pd, hpd⟩ : ∃ pd, pd = d.pn := ⟨_, rfl⟩
              have RP : Hid (∀ V, Calls Try.prog 25 #[d.agg] V fun o w' => o = .returned (.int .i64 pd) ∧ Kept (fun _ => False) V w') := fun V => by rw [hpd]; exact tPart d V
              have HD : Hid (ms[j]? = some d ∧ pd = d.pn) := ⟨hd, hpd⟩
              have NJ : Hid (¬ (pd = 2 ∧ j ∉ R) → ∀ j', j' < j + 1 → ∀ d', ms[j']? = some d' → d'.cl.must = true → j' ∈ R) := by
                intro hno j' hj' d' hd' h1
                by_cases e : j' = j
                · subst e
                  rw [HD.out.1] at hd'
                  have ed := Option.some.inj hd'
                  subst ed
                  by_cases q : j' ∈ R
                  · exact q
                  · exact absurd ⟨by rw [HD.out.2]; exact pn_two.2 h1, q⟩ hno
                · exact K3.out.2 j' (by omega) d' hd' h1
              unfold Cm.agg at RP
              clear hd hpd
              go_wp2_with fail
              refine (RP.out _).mono ?_
              rintro o w5 ⟨rfl, K5⟩
              have K6 : Hid (Kept (fun _ => False) wo w5) := K3.out.1.trans K5 (fun _ _ z => z)
              have KZ : Hid (Kept (fun _ => False) w w5) := KD.out.trans K5 (fun _ _ z => z)
              clear RP K5 y0 y1 y2 y3 y4 y5 y6 y7 y8 y9 y10
              by_cases p2 : pd = 2
              · have HP2 : Hid (d.cl.must = true) := pn_two.1 (by rw [← HD.out.2]; exact p2)
                subst p2
                have cj := ((A2.out.k0 K6.out).at hjn).1
                by_cases inR : j ∈ R
                · obtain ⟨aj, haj⟩ : ∃ aj, aj = posL R j := ⟨_, rfl⟩
                  rw [← haj] at cj
                  have aj0 : (aj == 0) = false := by
                    have h1 := posL_in inR
                    rw [← haj] at h1
                    have : ¬ aj = 0 := by omega
                    simp [this]
                  have NX : Hid (∀ j', j' < j + 1 → ∀ d', ms[j']? = some d' → d'.cl.must = true → j' ∈ R) := NJ.out (fun z => z.2 inR)
                  clear haj inR
                  go_wp2_with fail
                  go_roundw
                  case rel => exact ⟨j + 1, by go_num, by omega, K6.out, NX.out⟩
                  case measure => simp [intOf] <;> omega
                · rw [posL_out inR] at cj
                  have NO : Hid (¬ Expl ms RI) := fun h => by
                    obtain ⟨hB, _, _⟩ := AE.out.2.2.2.1 h
                    exact inR (hB j (by rw [List.length_map]; exact (List.getElem?_eq_some_iff.1 HD.out.1).1) d.cl (by rw [List.getElem?_map, HD.out.1]; rfl) HP2.out)
                  clear inR
                  go_wp2_with fail
                  go_ret
                  exact RetB.mk false rfl ⟨⟨fun y => (by cases y), fun y => absurd y NO.out⟩, KZ.out⟩
              · have p2' : (pd == 2) = false := by simp [p2]
                have NX : Hid (∀ j', j' < j + 1 → ∀ d', ms[j']? = some d' → d'.cl.must = true → j' ∈ R) := NJ.out (fun z => p2 z.1)
                go_wp2_with fail
                go_roundw
                case rel => exact ⟨j + 1, by go_num, by omega, K6.out, NX.out⟩
                case measure => simp [intOf] <;> omega
            · have j1 : ¬ (j : Int) < (n : Int) := by omega
              have YE : Hid (Expl ms RI) := by
                refine AE.out.2.2.2.2 ⟨fun j' hj' c hc hm => ?_, CD.out⟩
                rw [List.getElem?_map] at hc
                obtain ⟨d', hd', rfl⟩ := Option.map_eq_some_iff.1 hc
                rw [List.length_map, H.out.1.len] at hj'
                exact K3.out.2 j' (by omega) d' hd' hm
              go_wp2_with fail
              go_ret
              exact RetB.mk true rfl ⟨⟨fun _ => YE.out, fun _ => rfl⟩, KD.out⟩
end Go.Proofs.Ytodmakcklacbfaa
