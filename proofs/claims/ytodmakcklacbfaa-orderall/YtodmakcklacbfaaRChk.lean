import Derived.Test.YtodmakcklacbfaaRChkMJ
import Derived.BigQuiet
namespace Go.Proofs.Ytodmakcklacbfaa
open Go.RowKit Go.Shelf Go.Lib Go.Sort

set_option maxRecDepth 100000 in
set_option maxHeartbeats 8000000 in
theorem dCheck {w : World} {p0 : Option Addr} {n c0 : Nat} {ms : List Cm} (cr : CRd w p0 n c0 ms) {q : Option Addr} {k kc : Nat} {R : List Int} (ir : IRd w q k kc R) : Calls Try.prog 18 #[.slice p0 n c0, .slice q k kc] w (RetC fun v w' => CkA ms R v ∧ Kept (fun _ => False) w w') := by
  have rm := cr.room
  have sm := cr.small
  unfold maxLen at sm
  have r1 := ir.room
  have r2 := ir.small
  unfold maxLen at r2
  have H : Hid (CRd w p0 n c0 ms ∧ IRd w q k kc R) := ⟨cr, ir⟩
  clear cr ir
  have C1 : Hid (Calls Try.prog 49 #[.slice p0 n c0] w (RetB fun v w' => (v = true ↔ FitL ms) ∧ Kept (fun _ => False) w w')) := dFit H.out.1
  go_enter Try.func18, Try.ntmps18
  go_wp2_with fail
  refine C1.out.mono ?_
  rintro o w1 ⟨v1, rfl, hv1, K1'⟩
  have K1 : Hid (Kept (fun _ => False) w w1) := K1'
  clear C1 K1'
  cases v1
  · have NF : Hid (¬ FitL ms) := fun f => by have := hv1.2 f; cases this
    clear hv1
    go_wp2_with fail
    go_ret
    exact RetC.mk 1 rfl ⟨.inl ⟨rfl, NF.out⟩, K1.out⟩
  · have F : Hid (FitL ms) := hv1.1 rfl
    clear hv1
    have C2 : Hid (Calls Try.prog 50 #[.slice p0 n c0, .slice q k kc] w1 (RetB fun v w' => (v = true ↔ Just (ms.map Cm.cl) R) ∧ Kept (fun _ => False) w1 w')) := dMembers (H.out.1.k0 K1.out) F.out (H.out.2.k0 K1.out)
    go_wp2_with fail
    refine C2.out.mono ?_
    rintro o w2 ⟨v2, rfl, hv2, K2'⟩
    have K2 : Hid (Kept (fun _ => False) w w2) := K1.out.trans K2' (fun _ _ z => z)
    clear C2 K2' K1
    cases v2
    · have NO : Hid (¬ Expl ms R) := fun x => by have := hv2.2 (expl_just F.out x); cases this
      clear hv2
      go_wp2_with fail
      go_ret
      have KW := K2.out
      exact RetC.mk 81 rfl ⟨.inr (.inr ⟨rfl, F.out, NO.out⟩), KW⟩
    · obtain ⟨Rn, eR, hA, hB⟩ := hv2.1 rfl
      have J : Hid (R = (Rn.map fun r : Nat => (r : Int)) ∧ ExA (ms.map Cm.cl) Rn Rn.length ∧ Rn.length = k ∧ (Expl ms R ↔ ∀ x, x < Rn.length → CkX ms Rn x)) := by
        refine ⟨eR, hA, ?_, ?_⟩
        · have := H.out.2.len
          rw [eR, List.length_map] at this
          exact this
        · rw [eR]
          exact ckx_iff F.out hA hB
      have AT : Hid (∀ (V : World) (x : Nat), Kept (fun _ => False) w V → x < k → ∃ (gq oq i : Nat) (m : Cm), q = some ⟨gq, oq, none⟩ ∧ V.cell? ⟨gq, oq + x, none⟩ = some (.int .i64 (i : Int)) ∧ Rn[x]? = some i ∧ ms[i]? = some m ∧ i < n ∧ m.cl.part = true) := by
        intro V x kv hx
        obtain ⟨gq, oq, z, e, hz, cq⟩ := (H.out.2.k0 kv).at hx
        rw [J.out.1, List.getElem?_map] at hz
        obtain ⟨i, hi, rfl⟩ := Option.map_eq_some_iff.1 hz
        obtain ⟨_, c, hc, hp⟩ := J.out.2.1 x (by rw [J.out.2.2.1]; exact hx) i hi
        rw [List.getElem?_map] at hc
        obtain ⟨m, hm, rfl⟩ := Option.map_eq_some_iff.1 hc
        have := (List.getElem?_eq_some_iff.1 hm).1
        rw [H.out.1.len] at this
        exact ⟨gq, oq, i, m, e, cq, hi, hm, this, hp⟩
      have L0 : Hid (Kept (fun _ => False) w w2 ∧ ∀ x', x' < 0 → CkX ms Rn x') := ⟨K2.out, fun x' h => absurd h (by omega)⟩
      clear hv2 eR hA hB K2
      go_wp2_with fail
      go_loopw [5, 6, 7, 8, 9, 10] (fun u5 _ _ _ _ _ wy => ∃ x : Nat, u5 = .int .i64 (x : Int) ∧ x ≤ k ∧ Hid (Kept (fun _ => False) w wy ∧ ∀ x', x' < x → CkX ms Rn x')) (fun u5 _ _ _ _ _ _ => k - (intOf u5).toNat)
      case atStart => exact ⟨0, rfl, Nat.zero_le _, L0⟩
      case round =>
        obtain ⟨x, rfl, hx, S⟩ := hrel
        clear L0
        obtain ⟨wo, hwo⟩ : ∃ wo, wo = wr := ⟨_, rfl⟩
        rw [← hwo] at S ⊢
        clear hwo
        by_cases hlt : x < k
        · have x1 : (x : Int) < (k : Int) := by omega
          obtain ⟨gq, oq, i, mc, rfl, cq, hi, hm, ilt, hp⟩ := AT.out wo x S.out.1 hlt
          have i1 : (i : Int) < (n : Int) := by omega
          obtain ⟨b8, off8, m9, rfl, hm9, y0, y1, y2, y3, y4, y5, y6, y7, y8, y9, y10, rdc⟩ := (H.out.1.k0 S.out.1).at ilt
          have em : mc = m9 := by rw [hm] at hm9; exact Option.some.inj hm9
          subst em
          obtain ⟨W4, hW4⟩ : ∃ W4, W4 = wo.alloc (.cells mc.cs 38) := ⟨_, rfl⟩
          obtain ⟨D, hD⟩ : ∃ D, D = wo.heap.size := ⟨_, rfl⟩
          have S4 : Hid (Kept (fun _ => False) w W4 ∧ W4.heap[D]? = some (.cells mc.cs 38 (0, 0)) ∧ Reads W4 mc.va mc.vn mc.vc mc.val) := by
            have K : Kept (fun _ => False) wo W4 := by rw [hW4]; exact (Kept.refl _ _).alloc _
            exact ⟨S.out.1.trans K (fun _ _ z => z), by rw [hW4, hD]; exact alloc_new _ _, Reads.kept K rdc (fun _ _ z => z)⟩
          have E4 : Hid (W4 = wo.alloc (.cells #[.int .i64 mc.client, .int .i64 mc.op, .bool mc.put, .string mc.key, .slice mc.va mc.vn mc.vc, .int .i64 mc.st, .int .i64 mc.frm, .int .i64 mc.to, .bool mc.opn, .int .i64 mc.tx, .int .i64 mc.ty] 38) ∧ D = wo.heap.size) := ⟨hW4, hD⟩
          have HX : Hid (Rn[x]? = some i ∧ ms[i]? = some mc ∧ mc.cl.part = true ∧ ∀ x', x' < x → CkX ms Rn x') := ⟨hi, hm, hp, S.out.2⟩
          have BAD : Hid (¬ (CkT ms Rn x mc ∧ ExD1 (ms.map Cm.cl) Rn x mc.cl) → ¬ Expl ms R) := fun h e => h (J.out.2.2.2.1 e x (by rw [J.out.2.2.1]; exact hlt) i mc HX.out.1 HX.out.2.1)
          have GOOD : Hid (CkT ms Rn x mc → ExD1 (ms.map Cm.cl) Rn x mc.cl → ∀ x', x' < x + 1 → CkX ms Rn x') := fun h1 h2 x' hx' => by
            by_cases e : x' = x
            · subst e
              intro i' a hi' ha
              rw [HX.out.1] at hi'
              have ei := Option.some.inj hi'
              subst ei
              rw [HX.out.2.1] at ha
              have ea := Option.some.inj ha
              subst ea
              exact ⟨h1, h2⟩
            · exact HX.out.2.2.2 x' (by omega)
          clear hW4 hD S hi hm hp hm9 rdc
          go_upto_region 9 with fail
          rw [← E4.out.1, ← E4.out.2]
          clear E4 y0 y1 y2 y3 y4 y5 y6 y7 y8 y9 y10 cq
          have L2 : Hid (Kept (fun _ => False) W4 W4 ∧ CkT ms Rn 0 mc) := ⟨Kept.refl _ _, fun y hy => absurd hy (by omega)⟩
          go_wp2_with fail
          go_loopw [7, 8] (fun u7 _ wy => ∃ y : Nat, u7 = .int .i64 (y : Int) ∧ y ≤ x ∧ Hid (Kept (fun _ => False) W4 wy ∧ CkT ms Rn y mc)) (fun u7 _ _ => x - (intOf u7).toNat)
          case atStart => exact ⟨0, rfl, Nat.zero_le _, L2⟩
          case round =>
            obtain ⟨y, rfl, hy, S2⟩ := hrel
            clear L2
            obtain ⟨wb, hwb⟩ : ∃ wb, wb = wr := ⟨_, rfl⟩
            rw [← hwb] at S2 ⊢
            clear hwb
            have KB : Hid (Kept (fun _ => False) w wb) := S4.out.1.trans S2.out.1 (fun _ _ z => z)
            by_cases hyx : y < x
            · have yx1 : (y : Int) < (x : Int) := by omega
              obtain ⟨gq2, oq2, j, mb, e2, cq, hj, hmj, jlt, _⟩ := AT.out wb y KB.out (by omega)
              have e2 : gq = gq2 ∧ oq = oq2 := by simpa using e2
              obtain ⟨rfl, rfl⟩ := e2
              have j1 : (j : Int) < (n : Int) := by omega
              have yk : (y : Int) < (k : Int) := by omega
              obtain ⟨b7, off7, m7, e7, hm7, y0, y1, y2, y3, y4, y5, y6, y7, y8, y9, y10, _⟩ := (H.out.1.k0 KB.out).at jlt
              have e7 : b8 = b7 ∧ off8 = off7 := by simpa using e7
              obtain ⟨rfl, rfl⟩ := e7
              have em : mb = m7 := by rw [hmj] at hm7; exact Option.some.inj hm7
              subst em
              obtain ⟨W5, hW5⟩ : ∃ W5, W5 = wb.alloc (.cells mb.cs 38) := ⟨_, rfl⟩
              obtain ⟨E, hE⟩ : ∃ E, E = wb.heap.size := ⟨_, rfl⟩
              have S5 : Hid (Kept (fun _ => False) W4 W5 ∧ W5.heap[E]? = some (.cells mb.cs 38 (0, 0)) ∧ W5.heap[D]? = some (.cells mc.cs 38 (0, 0))) := by
                have K : Kept (fun _ => False) W4 W5 := S2.out.1.trans (by rw [hW5]; exact (Kept.refl _ _).alloc _) (fun _ _ z => z)
                exact ⟨K, by rw [hW5, hE]; exact alloc_new _ _, K.get S4.out.2.1 (fun z => z)⟩
              have E5 : Hid (W5 = wb.alloc (.cells #[.int .i64 mb.client, .int .i64 mb.op, .bool mb.put, .string mb.key, .slice mb.va mb.vn mb.vc, .int .i64 mb.st, .int .i64 mb.frm, .int .i64 mb.to, .bool mb.opn, .int .i64 mb.tx, .int .i64 mb.ty] 38) ∧ E = wb.heap.size) := ⟨hW5, hE⟩
              have HJ : Hid (Rn[y]? = some j ∧ ms[j]? = some mb ∧ CkT ms Rn y mc) := ⟨hj, hmj, S2.out.2⟩
              clear hW5 hE S2 hj hmj hm7
              go_upto_region 13 with fail
              rw [← E5.out.1, ← E5.out.2]
              clear E5 y0 y1 y2 y3 y4 y5 y6 y7 y8 y9 y10 cq
              have d7 := cell_blk S5.out.2.2 7 (v := .int .i64 mc.to) rfl
              have d8 := cell_blk S5.out.2.2 8 (v := .bool mc.opn) rfl
              have f6 := cell_blk S5.out.2.1 6 (v := .int .i64 mb.frm) rfl
              obtain ⟨op, hop⟩ : ∃ op, mc.opn = op := ⟨_, rfl⟩
              have HO : Hid (mc.opn = op) := hop
              rw [hop] at d8
              clear hop
              have NY : Hid (¬ (mc.opn = false ∧ mc.to < mb.frm) → Kept (fun _ => False) W4 W5 ∧ CkT ms Rn (y + 1) mc) := fun h => by
                refine ⟨S5.out.1, fun y' hy' j' b hj' hb => ?_⟩
                by_cases e : y' = y
                · subst e
                  rw [HJ.out.1] at hj'
                  have ej := Option.some.inj hj'
                  subst ej
                  rw [HJ.out.2.1] at hb
                  have eb := Option.some.inj hb
                  subst eb
                  exact h
                · exact HJ.out.2.2 y' (by omega) j' b hj' hb
              cases op
              · by_cases lt : mc.to < mb.frm
                · have lt' : decide (mc.to < mb.frm) = true := decide_eq_true lt
                  have NO : Hid (¬ Expl ms R) := BAD.out (fun z => z.1 y hyx j mb HJ.out.1 HJ.out.2.1 ⟨HO.out, lt⟩)
                  go_wp2_with fail
                  go_ret
                  have KW := S4.out.1.trans S5.out.1 (fun _ _ z => z)
                  exact RetC.mk 81 rfl ⟨.inr (.inr ⟨rfl, F.out, NO.out⟩), KW⟩
                · have lt' : decide (mc.to < mb.frm) = false := decide_eq_false lt
                  have NX := NY.out (fun z => lt z.2)
                  go_wp2_with fail
                  go_roundw
                  case rel => exact ⟨y + 1, by go_num, by omega, NX⟩
                  case measure => simp [intOf] <;> omega
              · have NX : Hid (Kept (fun _ => False) W4 W5 ∧ CkT ms Rn (y + 1) mc) := NY.out (fun z => by have := HO.out; rw [z.1] at this; cases this)
                clear NY
                go_wp2_with fail
                go_roundw
                case rel => exact ⟨y + 1, by go_num, by omega, NX⟩
                case measure => simp [intOf] <;> omega
            · have yx1 : ¬ (y : Int) < (x : Int) := by omega
              have ey : y = x := by omega
              subst ey
              have CT : Hid (CkT ms Rn y mc) := S2.out.2
              have KD : Hid (Kept (fun _ => False) W4 wb ∧ wb.heap[D]? = some (.cells mc.cs 38 (0, 0))) := ⟨S2.out.1, S2.out.1.get S4.out.2.1 (fun z => z)⟩
              clear S2
              have d2 := cell_blk KD.out.2 2 (v := .bool mc.put) rfl
              obtain ⟨pu, hpu⟩ : ∃ pu, mc.put = pu := ⟨_, rfl⟩
              have HP : Hid (mc.put = pu) := hpu
              rw [hpu] at d2
              clear hpu
              cases pu
              · have L3 : Hid (Kept (fun _ => False) wb wb) := Kept.refl _ _
                go_wp2_with fail
                go_loopw [9, 10] (fun u9 u10 wy => ∃ z : Nat, u10 = .int .i64 (z : Int) ∧ u9 = .int .i64 (lastF (ms.map Cm.cl) (Rn.take z) (-1)) ∧ z ≤ y ∧ Hid (Kept (fun _ => False) wb wy)) (fun _ u10 _ => y - (intOf u10).toNat)
                case atStart => exact ⟨0, rfl, rfl, Nat.zero_le _, L3⟩
                case round =>
                  obtain ⟨z, rfl, rfl, hz, S3⟩ := hrel
                  clear L3 d2
                  obtain ⟨X, hX⟩ : ∃ X, X = wr := ⟨_, rfl⟩
                  rw [← hX] at S3 ⊢
                  clear hX
                  obtain ⟨l, hl⟩ : ∃ l, l = lastF (ms.map Cm.cl) (Rn.take z) (-1) := ⟨_, rfl⟩
                  rw [← hl]
                  have KX0 : Hid (Kept (fun _ => False) w X) := KB.out.trans S3.out (fun _ _ z => z)
                  by_cases hzx : z < y
                  · have zx1 : (z : Int) < (y : Int) := by omega
                    obtain ⟨gq2, oq2, j, mb, e2, cq, hj, hmj, jlt, _⟩ := AT.out X z KX0.out (by omega)
                    have e2 : gq = gq2 ∧ oq = oq2 := by simpa using e2
                    obtain ⟨rfl, rfl⟩ := e2
                    have j1 : (j : Int) < (n : Int) := by omega
                    have zk : (z : Int) < (k : Int) := by omega
                    obtain ⟨b7, off7, m7, e7, hm7, _, _, y2, _⟩ := (H.out.1.k0 KX0.out).at jlt
                    have e7 : b8 = b7 ∧ off8 = off7 := by simpa using e7
                    obtain ⟨rfl, rfl⟩ := e7
                    have em : mb = m7 := by rw [hmj] at hm7; exact Option.some.inj hm7
                    subst em
                    have HL : Hid (lastF (ms.map Cm.cl) (Rn.take (z + 1)) (-1) = (if mb.put = true then (j : Int) else l)) := by
                      rw [hl]
                      exact lastF_succ hj (c := mb.cl) (by rw [List.getElem?_map, hmj]; rfl)
                    obtain ⟨bp, hbp⟩ : ∃ bp, mb.put = bp := ⟨_, rfl⟩
                    rw [hbp] at y2 HL
                    clear hbp hl hj hmj hm7
                    cases bp
                    · have NL : Hid (lastF (ms.map Cm.cl) (Rn.take (z + 1)) (-1) = l) := HL.out
                      clear HL
                      go_wp2_with fail
                      go_roundw
                      case rel => exact ⟨z + 1, by go_num, by rw [NL.out], by omega, S3⟩
                      case measure => simp [intOf] <;> omega
                    · have NL : Hid (lastF (ms.map Cm.cl) (Rn.take (z + 1)) (-1) = (j : Int)) := HL.out
                      clear HL
                      go_wp2_with fail
                      go_roundw
                      case rel => exact ⟨z + 1, by go_num, by rw [NL.out], by omega, S3⟩
                      case measure => simp [intOf] <;> omega
                  · have zx1 : ¬ (z : Int) < (y : Int) := by omega
                    have ez : z = y := by omega
                    subst ez
                    have LL : Hid (l = lastF (ms.map Cm.cl) (Rn.take z) (-1) ∧ -1 ≤ l ∧ l < (n : Int)) := by
                      have := lastF_lt (cs := ms.map Cm.cl) (Rn.take z) (-1) (by omega) (by omega)
                      rw [List.length_map, H.out.1.len, ← hl] at this
                      exact ⟨hl, this.2, this.1⟩
                    have BX : Hid (X.heap[D]? = some (.cells mc.cs 38 (0, 0)) ∧ Reads X mc.va mc.vn mc.vc mc.val) := ⟨S3.out.get KD.out.2 (fun z => z), Reads.kept (KD.out.1.trans S3.out (fun _ _ z => z)) S4.out.2.2 (fun _ _ z => z)⟩
                    clear hl S3
                    have d0 := cell_blk BX.out.1 0 (v := .int .i64 mc.client) rfl
                    have d1 := cell_blk BX.out.1 1 (v := .int .i64 mc.op) rfl
                    have d2 := cell_blk BX.out.1 2 (v := .bool mc.put) rfl
                    have d3 := cell_blk BX.out.1 3 (v := .string mc.key) rfl
                    have d4 := cell_blk BX.out.1 4 (v := .slice mc.va mc.vn mc.vc) rfl
                    have d5 := cell_blk BX.out.1 5 (v := .int .i64 mc.st) rfl
                    have d6 := cell_blk BX.out.1 6 (v := .int .i64 mc.frm) rfl
                    have d7 := cell_blk BX.out.1 7 (v := .int .i64 mc.to) rfl
                    have d8 := cell_blk BX.out.1 8 (v := .bool mc.opn) rfl
                    have d9 := cell_blk BX.out.1 9 (v := .int .i64 mc.tx) rfl
                    have d10 := cell_blk BX.out.1 10 (v := .int .i64 mc.ty) rfl
                    obtain ⟨ab, hab⟩ : ∃ ab, ab = (!mc.put && decide (0 ≤ mc.to) && decide (mc.st = 76)) := ⟨_, rfl⟩
                    obtain ⟨rb, hrb⟩ : ∃ rb, rb = (!mc.put && decide (0 ≤ mc.to) && decide (mc.st = 0)) := ⟨_, rfl⟩
                    have RA : Hid (∀ V, Calls Try.prog 51 #[mc.agg] V fun o w' => o = .returned (.bool ab) ∧ Kept (fun _ => False) V w') := fun V => by rw [hab]; exact dAbsent mc V
                    have RR : Hid (∀ V, Calls Try.prog 52 #[mc.agg] V fun o w' => o = .returned (.bool rb) ∧ Kept (fun _ => False) V w') := fun V => by rw [hrb]; exact dRead mc V
                    unfold Cm.agg at RA RR
                    have HB : Hid ((ab = true ∧ rb = false ∧ mc.st = 76) ∨ (ab = false ∧ rb = true ∧ mc.st = 0)) := by
                      have hp := HX.out.2.2.1
                      unfold Cl.part at hp
                      have e0 : mc.cl.put = mc.put := rfl
                      have e1 : mc.cl.to = mc.to := rfl
                      have e2 : mc.cl.st = mc.st := rfl
                      rw [e0, e1, e2, HP.out] at hp
                      simp at hp
                      rw [HP.out, decide_eq_true hp.1] at hab hrb
                      rcases hp.2 with u | u
                      · exact .inr ⟨by rw [hab, u]; rfl, by rw [hrb, u]; rfl, u⟩
                      · exact .inl ⟨by rw [hab, u]; rfl, by rw [hrb, u]; rfl, u⟩
                    clear hab hrb
                    go_wp2_with fail
                    refine (RA.out _).mono ?_
                    rintro o X2 ⟨rfl, KX2⟩
                    have KW2 : Hid (Kept (fun _ => False) w X2) := KX0.out.trans KX2 (fun _ _ z => z)
                    have BX2 : Hid (X2.heap[D]? = some (.cells mc.cs 38 (0, 0)) ∧ Reads X2 mc.va mc.vn mc.vc mc.val) := ⟨KX2.get BX.out.1 (fun z => z), Reads.kept KX2 BX.out.2 (fun _ _ z => z)⟩
                    clear KX2 RA BX d0 d1 d2 d3 d4 d5 d6 d7 d8 d9 d10 KX0
                    rcases HB.out with ⟨rfl, rfl, st⟩ | ⟨rfl, rfl, st⟩
                    · have ST : Hid (mc.st = 76) := st
                      clear st HB
                      by_cases l0 : 0 ≤ l
                      · have ld : decide (0 ≤ l) = true := decide_eq_true l0
                        have NO : Hid (¬ Expl ms R) := BAD.out (fun t => by
                          rcases t.2 with u | u
                          · have e : mc.cl.put = mc.put := rfl
                            rw [e, HP.out] at u
                            cases u
                          · have := u.1 ST.out
                            rw [← LL.out.1] at this
                            omega)
                        go_wp2_with fail
                        go_ret
                        have KW := KW2.out
                        exact RetC.mk 81 rfl ⟨.inr (.inr ⟨rfl, F.out, NO.out⟩), KW⟩
                      · have ld : decide (0 ≤ l) = false := decide_eq_false l0
                        have NX : Hid (∀ x', x' < z + 1 → CkX ms Rn x') := GOOD.out CT.out (.inr ⟨fun _ => by rw [← LL.out.1]; omega, fun u => by have e : mc.cl.st = mc.st := rfl; rw [e, ST.out] at u; omega⟩)
                        go_upto_region 24 with fail
                        have SH : Hid (∀ V, Kept (fun _ => False) X2 V → V.cell? ⟨D, 0, none⟩ = some (.int .i64 mc.client) ∧ V.cell? ⟨D, 1, none⟩ = some (.int .i64 mc.op) ∧ V.cell? ⟨D, 2, none⟩ = some (.bool mc.put) ∧ V.cell? ⟨D, 3, none⟩ = some (.string mc.key) ∧ V.cell? ⟨D, 4, none⟩ = some (.slice mc.va mc.vn mc.vc) ∧ V.cell? ⟨D, 5, none⟩ = some (.int .i64 mc.st) ∧ V.cell? ⟨D, 6, none⟩ = some (.int .i64 mc.frm) ∧ V.cell? ⟨D, 7, none⟩ = some (.int .i64 mc.to) ∧ V.cell? ⟨D, 8, none⟩ = some (.bool mc.opn) ∧ V.cell? ⟨D, 9, none⟩ = some (.int .i64 mc.tx) ∧ V.cell? ⟨D, 10, none⟩ = some (.int .i64 mc.ty)) := fun V kv => ⟨cell_blk (kv.get BX2.out.1 (fun z => z)) 0 rfl, cell_blk (kv.get BX2.out.1 (fun z => z)) 1 rfl, cell_blk (kv.get BX2.out.1 (fun z => z)) 2 rfl, cell_blk (kv.get BX2.out.1 (fun z => z)) 3 rfl, cell_blk (kv.get BX2.out.1 (fun z => z)) 4 rfl, cell_blk (kv.get BX2.out.1 (fun z => z)) 5 rfl, cell_blk (kv.get BX2.out.1 (fun z => z)) 6 rfl, cell_blk (kv.get BX2.out.1 (fun z => z)) 7 rfl, cell_blk (kv.get BX2.out.1 (fun z => z)) 8 rfl, cell_blk (kv.get BX2.out.1 (fun z => z)) 9 rfl, cell_blk (kv.get BX2.out.1 (fun z => z)) 10 rfl⟩
                        have kd : Kept (fun _ => False) X2 X2.drew := (Kept.refl _ _).drew
                        refine wp_region_held_drew (S := (fun V => V.cell? ⟨D, 0, none⟩ = some (.int .i64 mc.client) ∧ V.cell? ⟨D, 1, none⟩ = some (.int .i64 mc.op) ∧ V.cell? ⟨D, 2, none⟩ = some (.bool mc.put) ∧ V.cell? ⟨D, 3, none⟩ = some (.string mc.key) ∧ V.cell? ⟨D, 4, none⟩ = some (.slice mc.va mc.vn mc.vc) ∧ V.cell? ⟨D, 5, none⟩ = some (.int .i64 mc.st) ∧ V.cell? ⟨D, 6, none⟩ = some (.int .i64 mc.frm) ∧ V.cell? ⟨D, 7, none⟩ = some (.int .i64 mc.to) ∧ V.cell? ⟨D, 8, none⟩ = some (.bool mc.opn) ∧ V.cell? ⟨D, 9, none⟩ = some (.int .i64 mc.tx) ∧ V.cell? ⟨D, 10, none⟩ = some (.int .i64 mc.ty))) (by kernel_rfl) ?_ (fun hHeld => ?_)
                        · exact SH.out _ kd
                        refine wpAnyH_take (i := 0) (oi := { dst := some 78, op := Go.Op.load 38 (Go.Operand.tmp 6), type := 38, pos := "ref.go:84", after := #[], guard := none }) (v := .agg #[.int .i64 mc.client, .int .i64 mc.op, .bool mc.put, .string mc.key, .slice mc.va mc.vn mc.vc, .int .i64 mc.st, .int .i64 mc.frm, .int .i64 mc.to, .bool mc.opn, .int .i64 mc.tx, .int .i64 mc.ty]) rfl (by kernel_rfl) (by kernel_rfl) (by kernel_rfl) (fun _ _ _ h => h) (Or.inl ⟨by rfl, ?_⟩) (by assumption) ?_
                        · intro w9 hSw
                          (try dsimp only at hSw)
                          go_simp
                        (try simp only [Act.put, List.setIfInBounds_toArray, List.set_cons_zero, List.set_cons_succ])
                        refine wpAnyH_ready (rs := [1]) (by kernel_rfl) (by simp) ?_
                        refine (AllReadyH.cons (o := { dst := some 79, op := Go.Op.call { callee := Go.Callee.value (Go.Operand.func 52), args := #[Go.Operand.tmp 78], argTypes := #[38] }, type := 4, pos := "ref.go:84", after := #[{ on := 0, ground := Go.Ground.data }], guard := none }) rfl (fun K hK => ?_) AllReadyH.nil)
                        go_simp
                        refine (RR.out _).mono ?_
                        rintro o w6 ⟨rfl, KX⟩
                        have K6 : Kept (fun _ => False) X2 w6 := Kept.trans kd KX (fun _ _ z => z)
                        clear KX
                        refine hK.out _ _ ?_ (fun hHeld => ?_)
                        · exact SH.out w6 K6
                        clear hK K
                        (try simp only [Act.put, List.setIfInBounds_toArray, List.set_cons_zero, List.set_cons_succ])
                        refine wpAnyH_take (i := 2) (oi := { dst := some 80, op := Go.Op.move (Go.Operand.tmp 79), type := 4, pos := "ref.go:84", after := #[{ on := 1, ground := Go.Ground.data }, { on := 1, ground := Go.Ground.chain }], guard := none }) (v := .bool false) rfl (by kernel_rfl) (by kernel_rfl) (by kernel_rfl) (fun _ _ _ h => h) (Or.inl ⟨by rfl, ?_⟩) (by assumption) ?_
                        · intro w9 hSw
                          (try dsimp only at hSw)
                          go_simp
                        (try simp only [Act.put, List.setIfInBounds_toArray, List.set_cons_zero, List.set_cons_succ])
                        refine wpAnyH_take (i := 3) (oi := { dst := some 81, op := Go.Op.move (Go.Operand.tmp 9), type := 3, pos := "ref.go:84", after := #[{ on := 2, ground := Go.Ground.guard }], guard := some (2, true) }) (v := undef) rfl (by kernel_rfl) (by kernel_rfl) (by kernel_rfl) (fun _ _ _ h => h) (Or.inr ⟨by rfl, rfl⟩) (by assumption) ?_
                        (try simp only [Act.put, List.setIfInBounds_toArray, List.set_cons_zero, List.set_cons_succ])
                        refine wpAnyH_take (i := 4) (oi := { dst := some 82, op := Go.Op.binOp Go.BinOp.lss 3 (Go.Operand.tmp 81) (Go.Operand.const (Go.Value.int Go.IntKind.i64 0)) 3, type := 4, pos := "ref.go:84", after := #[{ on := 3, ground := Go.Ground.data }, { on := 2, ground := Go.Ground.guard }], guard := some (2, true) }) (v := undef) rfl (by kernel_rfl) (by kernel_rfl) (by kernel_rfl) (fun _ _ _ h => h) (Or.inr ⟨by rfl, rfl⟩) (by assumption) ?_
                        (try simp only [Act.put, List.setIfInBounds_toArray, List.set_cons_zero, List.set_cons_succ])
                        refine wpAnyH_take (i := 5) (oi := { dst := some 83, op := Go.Op.move (Go.Operand.tmp 82), type := 4, pos := "ref.go:84", after := #[{ on := 4, ground := Go.Ground.data }, { on := 2, ground := Go.Ground.chain }, { on := 2, ground := Go.Ground.guard }], guard := some (2, true) }) (v := undef) rfl (by kernel_rfl) (by kernel_rfl) (by kernel_rfl) (fun _ _ _ h => h) (Or.inr ⟨by rfl, rfl⟩) (by assumption) ?_
                        (try simp only [Act.put, List.setIfInBounds_toArray, List.set_cons_zero, List.set_cons_succ])
                        refine wpAnyH_take (i := 6) (oi := { dst := some 84, op := Go.Op.move (Go.Operand.tmp 0), type := 27, pos := "ref.go:84", after := #[{ on := 5, ground := Go.Ground.guard }], guard := some (5, false) }) (v := undef) rfl (by kernel_rfl) (by kernel_rfl) (by kernel_rfl) (fun _ _ _ h => h) (Or.inr ⟨by rfl, rfl⟩) (by assumption) ?_
                        (try simp only [Act.put, List.setIfInBounds_toArray, List.set_cons_zero, List.set_cons_succ])
                        refine wpAnyH_take (i := 7) (oi := { dst := some 85, op := Go.Op.move (Go.Operand.tmp 9), type := 3, pos := "ref.go:84", after := #[{ on := 5, ground := Go.Ground.guard }], guard := some (5, false) }) (v := undef) rfl (by kernel_rfl) (by kernel_rfl) (by kernel_rfl) (fun _ _ _ h => h) (Or.inr ⟨by rfl, rfl⟩) (by assumption) ?_
                        (try simp only [Act.put, List.setIfInBounds_toArray, List.set_cons_zero, List.set_cons_succ])
                        refine wpAnyH_take (i := 8) (oi := { dst := some 86, op := Go.Op.indexAddr 27 (Go.Operand.tmp 84) (Go.Operand.tmp 85), type := 0, pos := "ref.go:84", after := #[{ on := 6, ground := Go.Ground.data }, { on := 7, ground := Go.Ground.data }, { on := 5, ground := Go.Ground.guard }], guard := some (5, false) }) (v := undef) rfl (by kernel_rfl) (by kernel_rfl) (by kernel_rfl) (fun _ _ _ h => h) (Or.inr ⟨by rfl, rfl⟩) (by assumption) ?_
                        (try simp only [Act.put, List.setIfInBounds_toArray, List.set_cons_zero, List.set_cons_succ])
                        refine wpAnyH_take (i := 9) (oi := { dst := some 87, op := Go.Op.fieldAddr 38 (Go.Operand.tmp 86) 4, type := 0, pos := "ref.go:84", after := #[{ on := 8, ground := Go.Ground.data }, { on := 5, ground := Go.Ground.guard }], guard := some (5, false) }) (v := undef) rfl (by kernel_rfl) (by kernel_rfl) (by kernel_rfl) (fun _ _ _ h => h) (Or.inr ⟨by rfl, rfl⟩) (by assumption) ?_
                        (try simp only [Act.put, List.setIfInBounds_toArray, List.set_cons_zero, List.set_cons_succ])
                        refine wpAnyH_take (i := 10) (oi := { dst := some 88, op := Go.Op.load 36 (Go.Operand.tmp 87), type := 36, pos := "ref.go:84", after := #[{ on := 9, ground := Go.Ground.data }, { on := 5, ground := Go.Ground.guard }], guard := some (5, false) }) (v := undef) rfl (by kernel_rfl) (by kernel_rfl) (by kernel_rfl) (fun _ _ _ h => h) (Or.inr ⟨by rfl, rfl⟩) (by assumption) ?_
                        (try simp only [Act.put, List.setIfInBounds_toArray, List.set_cons_zero, List.set_cons_succ])
                        refine wpAnyH_take (i := 11) (oi := { dst := some 89, op := Go.Op.convert 36 9 (Go.Operand.tmp 88), type := 9, pos := "ref.go:84", after := #[{ on := 10, ground := Go.Ground.data }, { on := 5, ground := Go.Ground.guard }], guard := some (5, false) }) (v := undef) rfl (by kernel_rfl) (by kernel_rfl) (by kernel_rfl) (fun _ _ _ h => h) (Or.inr ⟨by rfl, rfl⟩) (by assumption) ?_
                        (try simp only [Act.put, List.setIfInBounds_toArray, List.set_cons_zero, List.set_cons_succ])
                        refine wpAnyH_take (i := 12) (oi := { dst := some 90, op := Go.Op.fieldAddr 38 (Go.Operand.tmp 6) 4, type := 0, pos := "ref.go:84", after := #[{ on := 5, ground := Go.Ground.guard }], guard := some (5, false) }) (v := undef) rfl (by kernel_rfl) (by kernel_rfl) (by kernel_rfl) (fun _ _ _ h => h) (Or.inr ⟨by rfl, rfl⟩) (by assumption) ?_
                        (try simp only [Act.put, List.setIfInBounds_toArray, List.set_cons_zero, List.set_cons_succ])
                        refine wpAnyH_take (i := 13) (oi := { dst := some 91, op := Go.Op.load 36 (Go.Operand.tmp 90), type := 36, pos := "ref.go:84", after := #[{ on := 12, ground := Go.Ground.data }, { on := 5, ground := Go.Ground.guard }], guard := some (5, false) }) (v := undef) rfl (by kernel_rfl) (by kernel_rfl) (by kernel_rfl) (fun _ _ _ h => h) (Or.inr ⟨by rfl, rfl⟩) (by assumption) ?_
                        (try simp only [Act.put, List.setIfInBounds_toArray, List.set_cons_zero, List.set_cons_succ])
                        refine wpAnyH_take (i := 14) (oi := { dst := some 92, op := Go.Op.convert 36 9 (Go.Operand.tmp 91), type := 9, pos := "ref.go:84", after := #[{ on := 13, ground := Go.Ground.data }, { on := 5, ground := Go.Ground.guard }], guard := some (5, false) }) (v := undef) rfl (by kernel_rfl) (by kernel_rfl) (by kernel_rfl) (fun _ _ _ h => h) (Or.inr ⟨by rfl, rfl⟩) (by assumption) ?_
                        (try simp only [Act.put, List.setIfInBounds_toArray, List.set_cons_zero, List.set_cons_succ])
                        refine wpAnyH_take (i := 15) (oi := { dst := some 93, op := Go.Op.binOp Go.BinOp.neq 9 (Go.Operand.tmp 89) (Go.Operand.tmp 92) 9, type := 4, pos := "ref.go:84", after := #[{ on := 11, ground := Go.Ground.data }, { on := 14, ground := Go.Ground.data }, { on := 5, ground := Go.Ground.guard }], guard := some (5, false) }) (v := undef) rfl (by kernel_rfl) (by kernel_rfl) (by kernel_rfl) (fun _ _ _ h => h) (Or.inr ⟨by rfl, rfl⟩) (by assumption) ?_
                        (try simp only [Act.put, List.setIfInBounds_toArray, List.set_cons_zero, List.set_cons_succ])
                        refine wpAnyH_take (i := 16) (oi := { dst := some 94, op := Go.Op.pick (Go.Operand.tmp 83) (Go.Operand.const (Go.Value.bool true)) (Go.Operand.tmp 93), type := 4, pos := "ref.go:84", after := #[{ on := 5, ground := Go.Ground.data }, { on := 15, ground := Go.Ground.data }, { on := 2, ground := Go.Ground.guard }], guard := some (2, true) }) (v := undef) rfl (by kernel_rfl) (by kernel_rfl) (by kernel_rfl) (fun _ _ _ h => h) (Or.inr ⟨by rfl, rfl⟩) (by assumption) ?_
                        (try simp only [Act.put, List.setIfInBounds_toArray, List.set_cons_zero, List.set_cons_succ])
                        refine wpAnyH_take (i := 17) (oi := { dst := some 95, op := Go.Op.pick (Go.Operand.tmp 80) (Go.Operand.tmp 94) (Go.Operand.const (Go.Value.bool false)), type := 4, pos := "ref.go:84", after := #[{ on := 2, ground := Go.Ground.data }, { on := 16, ground := Go.Ground.data }], guard := none }) (v := .bool false) rfl (by kernel_rfl) (by kernel_rfl) (by kernel_rfl) (fun _ _ _ h => h) (Or.inl ⟨by rfl, ?_⟩) (by assumption) ?_
                        · intro w9 hSw
                          (try dsimp only at hSw)
                          go_simp
                        (try simp only [Act.put, List.setIfInBounds_toArray, List.set_cons_zero, List.set_cons_succ])
                        refine wpAnyH_done (by kernel_rfl) ?_ _
                        go_wp2_with fail
                        go_roundw
                        case rel => exact ⟨z + 1, by go_num, by omega, KW2.out.trans K6 (fun _ _ z => z), NX.out⟩
                        case measure => simp [intOf] <;> omega
                    · have ST : Hid (mc.st = 0) := st
                      clear st HB
                      by_cases l0 : l < 0
                      · have ld : decide (l < 0) = true := decide_eq_true l0
                        have NO : Hid (¬ Expl ms R) := BAD.out (fun t => by
                          rcases t.2 with u | u
                          · have e : mc.cl.put = mc.put := rfl
                            rw [e, HP.out] at u
                            cases u
                          · have := u.2 ST.out
                            rw [← LL.out.1] at this
                            unfold valOf' at this
                            rw [if_pos l0] at this
                            cases this)
                        go_upto_region 24 with fail
                        have SH : Hid (∀ V, Kept (fun _ => False) X2 V → V.cell? ⟨D, 0, none⟩ = some (.int .i64 mc.client) ∧ V.cell? ⟨D, 1, none⟩ = some (.int .i64 mc.op) ∧ V.cell? ⟨D, 2, none⟩ = some (.bool mc.put) ∧ V.cell? ⟨D, 3, none⟩ = some (.string mc.key) ∧ V.cell? ⟨D, 4, none⟩ = some (.slice mc.va mc.vn mc.vc) ∧ V.cell? ⟨D, 5, none⟩ = some (.int .i64 mc.st) ∧ V.cell? ⟨D, 6, none⟩ = some (.int .i64 mc.frm) ∧ V.cell? ⟨D, 7, none⟩ = some (.int .i64 mc.to) ∧ V.cell? ⟨D, 8, none⟩ = some (.bool mc.opn) ∧ V.cell? ⟨D, 9, none⟩ = some (.int .i64 mc.tx) ∧ V.cell? ⟨D, 10, none⟩ = some (.int .i64 mc.ty)) := fun V kv => ⟨cell_blk (kv.get BX2.out.1 (fun z => z)) 0 rfl, cell_blk (kv.get BX2.out.1 (fun z => z)) 1 rfl, cell_blk (kv.get BX2.out.1 (fun z => z)) 2 rfl, cell_blk (kv.get BX2.out.1 (fun z => z)) 3 rfl, cell_blk (kv.get BX2.out.1 (fun z => z)) 4 rfl, cell_blk (kv.get BX2.out.1 (fun z => z)) 5 rfl, cell_blk (kv.get BX2.out.1 (fun z => z)) 6 rfl, cell_blk (kv.get BX2.out.1 (fun z => z)) 7 rfl, cell_blk (kv.get BX2.out.1 (fun z => z)) 8 rfl, cell_blk (kv.get BX2.out.1 (fun z => z)) 9 rfl, cell_blk (kv.get BX2.out.1 (fun z => z)) 10 rfl⟩
                        have kd : Kept (fun _ => False) X2 X2.drew := (Kept.refl _ _).drew
                        refine wp_region_held_drew (S := (fun V => V.cell? ⟨D, 0, none⟩ = some (.int .i64 mc.client) ∧ V.cell? ⟨D, 1, none⟩ = some (.int .i64 mc.op) ∧ V.cell? ⟨D, 2, none⟩ = some (.bool mc.put) ∧ V.cell? ⟨D, 3, none⟩ = some (.string mc.key) ∧ V.cell? ⟨D, 4, none⟩ = some (.slice mc.va mc.vn mc.vc) ∧ V.cell? ⟨D, 5, none⟩ = some (.int .i64 mc.st) ∧ V.cell? ⟨D, 6, none⟩ = some (.int .i64 mc.frm) ∧ V.cell? ⟨D, 7, none⟩ = some (.int .i64 mc.to) ∧ V.cell? ⟨D, 8, none⟩ = some (.bool mc.opn) ∧ V.cell? ⟨D, 9, none⟩ = some (.int .i64 mc.tx) ∧ V.cell? ⟨D, 10, none⟩ = some (.int .i64 mc.ty))) (by kernel_rfl) ?_ (fun hHeld => ?_)
                        · exact SH.out _ kd
                        refine wpAnyH_take (i := 0) (oi := { dst := some 78, op := Go.Op.load 38 (Go.Operand.tmp 6), type := 38, pos := "ref.go:84", after := #[], guard := none }) (v := .agg #[.int .i64 mc.client, .int .i64 mc.op, .bool mc.put, .string mc.key, .slice mc.va mc.vn mc.vc, .int .i64 mc.st, .int .i64 mc.frm, .int .i64 mc.to, .bool mc.opn, .int .i64 mc.tx, .int .i64 mc.ty]) rfl (by kernel_rfl) (by kernel_rfl) (by kernel_rfl) (fun _ _ _ h => h) (Or.inl ⟨by rfl, ?_⟩) (by assumption) ?_
                        · intro w9 hSw
                          (try dsimp only at hSw)
                          go_simp
                        (try simp only [Act.put, List.setIfInBounds_toArray, List.set_cons_zero, List.set_cons_succ])
                        refine wpAnyH_ready (rs := [1]) (by kernel_rfl) (by simp) ?_
                        refine (AllReadyH.cons (o := { dst := some 79, op := Go.Op.call { callee := Go.Callee.value (Go.Operand.func 52), args := #[Go.Operand.tmp 78], argTypes := #[38] }, type := 4, pos := "ref.go:84", after := #[{ on := 0, ground := Go.Ground.data }], guard := none }) rfl (fun K hK => ?_) AllReadyH.nil)
                        go_simp
                        refine (RR.out _).mono ?_
                        rintro o w6 ⟨rfl, KX⟩
                        have K6 : Kept (fun _ => False) X2 w6 := Kept.trans kd KX (fun _ _ z => z)
                        clear KX
                        refine hK.out _ _ ?_ (fun hHeld => ?_)
                        · exact SH.out w6 K6
                        clear hK K
                        (try simp only [Act.put, List.setIfInBounds_toArray, List.set_cons_zero, List.set_cons_succ])
                        refine wpAnyH_take (i := 2) (oi := { dst := some 80, op := Go.Op.move (Go.Operand.tmp 79), type := 4, pos := "ref.go:84", after := #[{ on := 1, ground := Go.Ground.data }, { on := 1, ground := Go.Ground.chain }], guard := none }) (v := .bool true) rfl (by kernel_rfl) (by kernel_rfl) (by kernel_rfl) (fun _ _ _ h => h) (Or.inl ⟨by rfl, ?_⟩) (by assumption) ?_
                        · intro w9 hSw
                          (try dsimp only at hSw)
                          go_simp
                        (try simp only [Act.put, List.setIfInBounds_toArray, List.set_cons_zero, List.set_cons_succ])
                        refine wpAnyH_take (i := 3) (oi := { dst := some 81, op := Go.Op.move (Go.Operand.tmp 9), type := 3, pos := "ref.go:84", after := #[{ on := 2, ground := Go.Ground.guard }], guard := some (2, true) }) (v := .int .i64 l) rfl (by kernel_rfl) (by kernel_rfl) (by kernel_rfl) (fun _ _ _ h => h) (Or.inl ⟨by rfl, ?_⟩) (by assumption) ?_
                        · intro w9 hSw
                          (try dsimp only at hSw)
                          go_simp
                        (try simp only [Act.put, List.setIfInBounds_toArray, List.set_cons_zero, List.set_cons_succ])
                        refine wpAnyH_take (i := 4) (oi := { dst := some 82, op := Go.Op.binOp Go.BinOp.lss 3 (Go.Operand.tmp 81) (Go.Operand.const (Go.Value.int Go.IntKind.i64 0)) 3, type := 4, pos := "ref.go:84", after := #[{ on := 3, ground := Go.Ground.data }, { on := 2, ground := Go.Ground.guard }], guard := some (2, true) }) (v := .bool true) rfl (by kernel_rfl) (by kernel_rfl) (by kernel_rfl) (fun _ _ _ h => h) (Or.inl ⟨by rfl, ?_⟩) (by assumption) ?_
                        · intro w9 hSw
                          (try dsimp only at hSw)
                          go_simp
                        (try simp only [Act.put, List.setIfInBounds_toArray, List.set_cons_zero, List.set_cons_succ])
                        refine wpAnyH_take (i := 5) (oi := { dst := some 83, op := Go.Op.move (Go.Operand.tmp 82), type := 4, pos := "ref.go:84", after := #[{ on := 4, ground := Go.Ground.data }, { on := 2, ground := Go.Ground.chain }, { on := 2, ground := Go.Ground.guard }], guard := some (2, true) }) (v := .bool true) rfl (by kernel_rfl) (by kernel_rfl) (by kernel_rfl) (fun _ _ _ h => h) (Or.inl ⟨by rfl, ?_⟩) (by assumption) ?_
                        · intro w9 hSw
                          (try dsimp only at hSw)
                          go_simp
                        (try simp only [Act.put, List.setIfInBounds_toArray, List.set_cons_zero, List.set_cons_succ])
                        refine wpAnyH_take (i := 6) (oi := { dst := some 84, op := Go.Op.move (Go.Operand.tmp 0), type := 27, pos := "ref.go:84", after := #[{ on := 5, ground := Go.Ground.guard }], guard := some (5, false) }) (v := undef) rfl (by kernel_rfl) (by kernel_rfl) (by kernel_rfl) (fun _ _ _ h => h) (Or.inr ⟨by rfl, rfl⟩) (by assumption) ?_
                        (try simp only [Act.put, List.setIfInBounds_toArray, List.set_cons_zero, List.set_cons_succ])
                        refine wpAnyH_take (i := 7) (oi := { dst := some 85, op := Go.Op.move (Go.Operand.tmp 9), type := 3, pos := "ref.go:84", after := #[{ on := 5, ground := Go.Ground.guard }], guard := some (5, false) }) (v := undef) rfl (by kernel_rfl) (by kernel_rfl) (by kernel_rfl) (fun _ _ _ h => h) (Or.inr ⟨by rfl, rfl⟩) (by assumption) ?_
                        (try simp only [Act.put, List.setIfInBounds_toArray, List.set_cons_zero, List.set_cons_succ])
                        refine wpAnyH_take (i := 8) (oi := { dst := some 86, op := Go.Op.indexAddr 27 (Go.Operand.tmp 84) (Go.Operand.tmp 85), type := 0, pos := "ref.go:84", after := #[{ on := 6, ground := Go.Ground.data }, { on := 7, ground := Go.Ground.data }, { on := 5, ground := Go.Ground.guard }], guard := some (5, false) }) (v := undef) rfl (by kernel_rfl) (by kernel_rfl) (by kernel_rfl) (fun _ _ _ h => h) (Or.inr ⟨by rfl, rfl⟩) (by assumption) ?_
                        (try simp only [Act.put, List.setIfInBounds_toArray, List.set_cons_zero, List.set_cons_succ])
                        refine wpAnyH_take (i := 9) (oi := { dst := some 87, op := Go.Op.fieldAddr 38 (Go.Operand.tmp 86) 4, type := 0, pos := "ref.go:84", after := #[{ on := 8, ground := Go.Ground.data }, { on := 5, ground := Go.Ground.guard }], guard := some (5, false) }) (v := undef) rfl (by kernel_rfl) (by kernel_rfl) (by kernel_rfl) (fun _ _ _ h => h) (Or.inr ⟨by rfl, rfl⟩) (by assumption) ?_
                        (try simp only [Act.put, List.setIfInBounds_toArray, List.set_cons_zero, List.set_cons_succ])
                        refine wpAnyH_take (i := 10) (oi := { dst := some 88, op := Go.Op.load 36 (Go.Operand.tmp 87), type := 36, pos := "ref.go:84", after := #[{ on := 9, ground := Go.Ground.data }, { on := 5, ground := Go.Ground.guard }], guard := some (5, false) }) (v := undef) rfl (by kernel_rfl) (by kernel_rfl) (by kernel_rfl) (fun _ _ _ h => h) (Or.inr ⟨by rfl, rfl⟩) (by assumption) ?_
                        (try simp only [Act.put, List.setIfInBounds_toArray, List.set_cons_zero, List.set_cons_succ])
                        refine wpAnyH_take (i := 11) (oi := { dst := some 89, op := Go.Op.convert 36 9 (Go.Operand.tmp 88), type := 9, pos := "ref.go:84", after := #[{ on := 10, ground := Go.Ground.data }, { on := 5, ground := Go.Ground.guard }], guard := some (5, false) }) (v := undef) rfl (by kernel_rfl) (by kernel_rfl) (by kernel_rfl) (fun _ _ _ h => h) (Or.inr ⟨by rfl, rfl⟩) (by assumption) ?_
                        (try simp only [Act.put, List.setIfInBounds_toArray, List.set_cons_zero, List.set_cons_succ])
                        refine wpAnyH_take (i := 12) (oi := { dst := some 90, op := Go.Op.fieldAddr 38 (Go.Operand.tmp 6) 4, type := 0, pos := "ref.go:84", after := #[{ on := 5, ground := Go.Ground.guard }], guard := some (5, false) }) (v := undef) rfl (by kernel_rfl) (by kernel_rfl) (by kernel_rfl) (fun _ _ _ h => h) (Or.inr ⟨by rfl, rfl⟩) (by assumption) ?_
                        (try simp only [Act.put, List.setIfInBounds_toArray, List.set_cons_zero, List.set_cons_succ])
                        refine wpAnyH_take (i := 13) (oi := { dst := some 91, op := Go.Op.load 36 (Go.Operand.tmp 90), type := 36, pos := "ref.go:84", after := #[{ on := 12, ground := Go.Ground.data }, { on := 5, ground := Go.Ground.guard }], guard := some (5, false) }) (v := undef) rfl (by kernel_rfl) (by kernel_rfl) (by kernel_rfl) (fun _ _ _ h => h) (Or.inr ⟨by rfl, rfl⟩) (by assumption) ?_
                        (try simp only [Act.put, List.setIfInBounds_toArray, List.set_cons_zero, List.set_cons_succ])
                        refine wpAnyH_take (i := 14) (oi := { dst := some 92, op := Go.Op.convert 36 9 (Go.Operand.tmp 91), type := 9, pos := "ref.go:84", after := #[{ on := 13, ground := Go.Ground.data }, { on := 5, ground := Go.Ground.guard }], guard := some (5, false) }) (v := undef) rfl (by kernel_rfl) (by kernel_rfl) (by kernel_rfl) (fun _ _ _ h => h) (Or.inr ⟨by rfl, rfl⟩) (by assumption) ?_
                        (try simp only [Act.put, List.setIfInBounds_toArray, List.set_cons_zero, List.set_cons_succ])
                        refine wpAnyH_take (i := 15) (oi := { dst := some 93, op := Go.Op.binOp Go.BinOp.neq 9 (Go.Operand.tmp 89) (Go.Operand.tmp 92) 9, type := 4, pos := "ref.go:84", after := #[{ on := 11, ground := Go.Ground.data }, { on := 14, ground := Go.Ground.data }, { on := 5, ground := Go.Ground.guard }], guard := some (5, false) }) (v := undef) rfl (by kernel_rfl) (by kernel_rfl) (by kernel_rfl) (fun _ _ _ h => h) (Or.inr ⟨by rfl, rfl⟩) (by assumption) ?_
                        (try simp only [Act.put, List.setIfInBounds_toArray, List.set_cons_zero, List.set_cons_succ])
                        refine wpAnyH_take (i := 16) (oi := { dst := some 94, op := Go.Op.pick (Go.Operand.tmp 83) (Go.Operand.const (Go.Value.bool true)) (Go.Operand.tmp 93), type := 4, pos := "ref.go:84", after := #[{ on := 5, ground := Go.Ground.data }, { on := 15, ground := Go.Ground.data }, { on := 2, ground := Go.Ground.guard }], guard := some (2, true) }) (v := .bool true) rfl (by kernel_rfl) (by kernel_rfl) (by kernel_rfl) (fun _ _ _ h => h) (Or.inl ⟨by rfl, ?_⟩) (by assumption) ?_
                        · intro w9 hSw
                          (try dsimp only at hSw)
                          go_simp
                        (try simp only [Act.put, List.setIfInBounds_toArray, List.set_cons_zero, List.set_cons_succ])
                        refine wpAnyH_take (i := 17) (oi := { dst := some 95, op := Go.Op.pick (Go.Operand.tmp 80) (Go.Operand.tmp 94) (Go.Operand.const (Go.Value.bool false)), type := 4, pos := "ref.go:84", after := #[{ on := 2, ground := Go.Ground.data }, { on := 16, ground := Go.Ground.data }], guard := none }) (v := .bool true) rfl (by kernel_rfl) (by kernel_rfl) (by kernel_rfl) (fun _ _ _ h => h) (Or.inl ⟨by rfl, ?_⟩) (by assumption) ?_
                        · intro w9 hSw
                          (try dsimp only at hSw)
                          go_simp
                        (try simp only [Act.put, List.setIfInBounds_toArray, List.set_cons_zero, List.set_cons_succ])
                        refine wpAnyH_done (by kernel_rfl) ?_ _
                        go_wp2_with fail
                        go_ret
                        have KW := KW2.out.trans K6 (fun _ _ z => z)
                        exact RetC.mk 81 rfl ⟨.inr (.inr ⟨rfl, F.out, NO.out⟩), KW⟩
                      · obtain ⟨ln, rfl⟩ : ∃ ln : Nat, l = (ln : Int) := ⟨l.toNat, by omega⟩
                        have ln1 : ln < n := by have := LL.out.2.2; omega
                        have ln2 : (ln : Int) < (n : Int) := by omega
                        have ld : decide ((ln : Int) < 0) = false := decide_eq_false l0
                        obtain ⟨b9, off9, ml, e9, hml, _, _, _, _, y4, _, _, _, _, _, _, rdl⟩ := (H.out.1.k0 KW2.out).at ln1
                        have e9 : b8 = b9 ∧ off8 = off9 := by simpa using e9
                        obtain ⟨rfl, rfl⟩ := e9
                        have RL : Hid (Reads X2 ml.va ml.vn ml.vc ml.val) := rdl
                        obtain ⟨qe, hq⟩ : ∃ qe, qe = decide (ml.val = mc.val) := ⟨_, rfl⟩
                        have eq : ((str ml.val).toList == (str mc.val).toList) = qe := by rw [hq]; exact str_eq rdl.bytes BX2.out.2.bytes
                        have HQ : Hid (qe = decide (ml.val = mc.val) ∧ valOf' (ms.map Cm.cl) (ln : Int) = some ml.val) := by
                          refine ⟨hq, ?_⟩
                          unfold valOf'
                          rw [if_neg (by omega), Int.toNat_natCast, List.getElem?_map, hml]
                          rfl
                        clear hq hml rdl
                        cases qe
                        · have NO : Hid (¬ Expl ms R) := BAD.out (fun t => by
                            rcases t.2 with u | u
                            · have e : mc.cl.put = mc.put := rfl
                              rw [e, HP.out] at u
                              cases u
                            · have h1 := u.2 ST.out
                              rw [← LL.out.1, HQ.out.2] at h1
                              have h2 := HQ.out.1
                              have h3 : ml.val = mc.val := Option.some.inj h1
                              rw [h3] at h2
                              simp at h2)
                          go_upto_region 24 with fail
                          have SH : Hid (∀ V, Kept (fun _ => False) X2 V → V.cell? ⟨D, 0, none⟩ = some (.int .i64 mc.client) ∧ V.cell? ⟨D, 1, none⟩ = some (.int .i64 mc.op) ∧ V.cell? ⟨D, 2, none⟩ = some (.bool mc.put) ∧ V.cell? ⟨D, 3, none⟩ = some (.string mc.key) ∧ V.cell? ⟨D, 4, none⟩ = some (.slice mc.va mc.vn mc.vc) ∧ V.cell? ⟨D, 5, none⟩ = some (.int .i64 mc.st) ∧ V.cell? ⟨D, 6, none⟩ = some (.int .i64 mc.frm) ∧ V.cell? ⟨D, 7, none⟩ = some (.int .i64 mc.to) ∧ V.cell? ⟨D, 8, none⟩ = some (.bool mc.opn) ∧ V.cell? ⟨D, 9, none⟩ = some (.int .i64 mc.tx) ∧ V.cell? ⟨D, 10, none⟩ = some (.int .i64 mc.ty) ∧ V.cell? ⟨b8, off8 + ln * 11 + 4, none⟩ = some (.slice ml.va ml.vn ml.vc) ∧ (convert 36 9 (.slice ml.va ml.vn ml.vc)).run Try.prog V = .ok (.string (str ml.val)) V ∧ (convert 36 9 (.slice mc.va mc.vn mc.vc)).run Try.prog V = .ok (.string (str mc.val)) V) := fun V kv => ⟨cell_blk (kv.get BX2.out.1 (fun z => z)) 0 rfl, cell_blk (kv.get BX2.out.1 (fun z => z)) 1 rfl, cell_blk (kv.get BX2.out.1 (fun z => z)) 2 rfl, cell_blk (kv.get BX2.out.1 (fun z => z)) 3 rfl, cell_blk (kv.get BX2.out.1 (fun z => z)) 4 rfl, cell_blk (kv.get BX2.out.1 (fun z => z)) 5 rfl, cell_blk (kv.get BX2.out.1 (fun z => z)) 6 rfl, cell_blk (kv.get BX2.out.1 (fun z => z)) 7 rfl, cell_blk (kv.get BX2.out.1 (fun z => z)) 8 rfl, cell_blk (kv.get BX2.out.1 (fun z => z)) 9 rfl, cell_blk (kv.get BX2.out.1 (fun z => z)) 10 rfl, kv.cell y4 (fun z => z), (Reads.kept kv RL.out (fun _ _ z => z)).string, (Reads.kept kv BX2.out.2 (fun _ _ z => z)).string⟩
                          have kd : Kept (fun _ => False) X2 X2.drew := (Kept.refl _ _).drew
                          refine wp_region_held_drew (S := (fun V => V.cell? ⟨D, 0, none⟩ = some (.int .i64 mc.client) ∧ V.cell? ⟨D, 1, none⟩ = some (.int .i64 mc.op) ∧ V.cell? ⟨D, 2, none⟩ = some (.bool mc.put) ∧ V.cell? ⟨D, 3, none⟩ = some (.string mc.key) ∧ V.cell? ⟨D, 4, none⟩ = some (.slice mc.va mc.vn mc.vc) ∧ V.cell? ⟨D, 5, none⟩ = some (.int .i64 mc.st) ∧ V.cell? ⟨D, 6, none⟩ = some (.int .i64 mc.frm) ∧ V.cell? ⟨D, 7, none⟩ = some (.int .i64 mc.to) ∧ V.cell? ⟨D, 8, none⟩ = some (.bool mc.opn) ∧ V.cell? ⟨D, 9, none⟩ = some (.int .i64 mc.tx) ∧ V.cell? ⟨D, 10, none⟩ = some (.int .i64 mc.ty) ∧ V.cell? ⟨b8, off8 + ln * 11 + 4, none⟩ = some (.slice ml.va ml.vn ml.vc) ∧ (convert 36 9 (.slice ml.va ml.vn ml.vc)).run Try.prog V = .ok (.string (str ml.val)) V ∧ (convert 36 9 (.slice mc.va mc.vn mc.vc)).run Try.prog V = .ok (.string (str mc.val)) V)) (by kernel_rfl) ?_ (fun hHeld => ?_)
                          · exact SH.out _ kd
                          refine wpAnyH_take (i := 0) (oi := { dst := some 78, op := Go.Op.load 38 (Go.Operand.tmp 6), type := 38, pos := "ref.go:84", after := #[], guard := none }) (v := .agg #[.int .i64 mc.client, .int .i64 mc.op, .bool mc.put, .string mc.key, .slice mc.va mc.vn mc.vc, .int .i64 mc.st, .int .i64 mc.frm, .int .i64 mc.to, .bool mc.opn, .int .i64 mc.tx, .int .i64 mc.ty]) rfl (by kernel_rfl) (by kernel_rfl) (by kernel_rfl) (fun _ _ _ h => h) (Or.inl ⟨by rfl, ?_⟩) (by assumption) ?_
                          · intro w9 hSw
                            (try dsimp only at hSw)
                            go_simp
                          (try simp only [Act.put, List.setIfInBounds_toArray, List.set_cons_zero, List.set_cons_succ])
                          refine wpAnyH_ready (rs := [1]) (by kernel_rfl) (by simp) ?_
                          refine (AllReadyH.cons (o := { dst := some 79, op := Go.Op.call { callee := Go.Callee.value (Go.Operand.func 52), args := #[Go.Operand.tmp 78], argTypes := #[38] }, type := 4, pos := "ref.go:84", after := #[{ on := 0, ground := Go.Ground.data }], guard := none }) rfl (fun K hK => ?_) AllReadyH.nil)
                          go_simp
                          refine (RR.out _).mono ?_
                          rintro o w6 ⟨rfl, KX⟩
                          have K6 : Kept (fun _ => False) X2 w6 := Kept.trans kd KX (fun _ _ z => z)
                          clear KX
                          refine hK.out _ _ ?_ (fun hHeld => ?_)
                          · exact SH.out w6 K6
                          clear hK K
                          (try simp only [Act.put, List.setIfInBounds_toArray, List.set_cons_zero, List.set_cons_succ])
                          refine wpAnyH_take (i := 2) (oi := { dst := some 80, op := Go.Op.move (Go.Operand.tmp 79), type := 4, pos := "ref.go:84", after := #[{ on := 1, ground := Go.Ground.data }, { on := 1, ground := Go.Ground.chain }], guard := none }) (v := .bool true) rfl (by kernel_rfl) (by kernel_rfl) (by kernel_rfl) (fun _ _ _ h => h) (Or.inl ⟨by rfl, ?_⟩) (by assumption) ?_
                          · intro w9 hSw
                            (try dsimp only at hSw)
                            go_simp
                          (try simp only [Act.put, List.setIfInBounds_toArray, List.set_cons_zero, List.set_cons_succ])
                          refine wpAnyH_take (i := 3) (oi := { dst := some 81, op := Go.Op.move (Go.Operand.tmp 9), type := 3, pos := "ref.go:84", after := #[{ on := 2, ground := Go.Ground.guard }], guard := some (2, true) }) (v := .int .i64 (ln : Int)) rfl (by kernel_rfl) (by kernel_rfl) (by kernel_rfl) (fun _ _ _ h => h) (Or.inl ⟨by rfl, ?_⟩) (by assumption) ?_
                          · intro w9 hSw
                            (try dsimp only at hSw)
                            go_simp
                          (try simp only [Act.put, List.setIfInBounds_toArray, List.set_cons_zero, List.set_cons_succ])
                          refine wpAnyH_take (i := 4) (oi := { dst := some 82, op := Go.Op.binOp Go.BinOp.lss 3 (Go.Operand.tmp 81) (Go.Operand.const (Go.Value.int Go.IntKind.i64 0)) 3, type := 4, pos := "ref.go:84", after := #[{ on := 3, ground := Go.Ground.data }, { on := 2, ground := Go.Ground.guard }], guard := some (2, true) }) (v := .bool false) rfl (by kernel_rfl) (by kernel_rfl) (by kernel_rfl) (fun _ _ _ h => h) (Or.inl ⟨by rfl, ?_⟩) (by assumption) ?_
                          · intro w9 hSw
                            (try dsimp only at hSw)
                            go_simp
                          (try simp only [Act.put, List.setIfInBounds_toArray, List.set_cons_zero, List.set_cons_succ])
                          refine wpAnyH_take (i := 5) (oi := { dst := some 83, op := Go.Op.move (Go.Operand.tmp 82), type := 4, pos := "ref.go:84", after := #[{ on := 4, ground := Go.Ground.data }, { on := 2, ground := Go.Ground.chain }, { on := 2, ground := Go.Ground.guard }], guard := some (2, true) }) (v := .bool false) rfl (by kernel_rfl) (by kernel_rfl) (by kernel_rfl) (fun _ _ _ h => h) (Or.inl ⟨by rfl, ?_⟩) (by assumption) ?_
                          · intro w9 hSw
                            (try dsimp only at hSw)
                            go_simp
                          (try simp only [Act.put, List.setIfInBounds_toArray, List.set_cons_zero, List.set_cons_succ])
                          refine wpAnyH_take (i := 6) (oi := { dst := some 84, op := Go.Op.move (Go.Operand.tmp 0), type := 27, pos := "ref.go:84", after := #[{ on := 5, ground := Go.Ground.guard }], guard := some (5, false) }) (v := .slice (some ⟨b8, off8, none⟩) n c0) rfl (by kernel_rfl) (by kernel_rfl) (by kernel_rfl) (fun _ _ _ h => h) (Or.inl ⟨by rfl, ?_⟩) (by assumption) ?_
                          · intro w9 hSw
                            (try dsimp only at hSw)
                            go_simp
                          (try simp only [Act.put, List.setIfInBounds_toArray, List.set_cons_zero, List.set_cons_succ])
                          refine wpAnyH_take (i := 7) (oi := { dst := some 85, op := Go.Op.move (Go.Operand.tmp 9), type := 3, pos := "ref.go:84", after := #[{ on := 5, ground := Go.Ground.guard }], guard := some (5, false) }) (v := .int .i64 (ln : Int)) rfl (by kernel_rfl) (by kernel_rfl) (by kernel_rfl) (fun _ _ _ h => h) (Or.inl ⟨by rfl, ?_⟩) (by assumption) ?_
                          · intro w9 hSw
                            (try dsimp only at hSw)
                            go_simp
                          (try simp only [Act.put, List.setIfInBounds_toArray, List.set_cons_zero, List.set_cons_succ])
                          refine wpAnyH_take (i := 8) (oi := { dst := some 86, op := Go.Op.indexAddr 27 (Go.Operand.tmp 84) (Go.Operand.tmp 85), type := 0, pos := "ref.go:84", after := #[{ on := 6, ground := Go.Ground.data }, { on := 7, ground := Go.Ground.data }, { on := 5, ground := Go.Ground.guard }], guard := some (5, false) }) (v := .pointer (some ⟨b8, off8 + ln * 11, none⟩)) rfl (by kernel_rfl) (by kernel_rfl) (by kernel_rfl) (fun _ _ _ h => h) (Or.inl ⟨by rfl, ?_⟩) (by assumption) ?_
                          · intro w9 hSw
                            (try dsimp only at hSw)
                            go_simp
                          (try simp only [Act.put, List.setIfInBounds_toArray, List.set_cons_zero, List.set_cons_succ])
                          refine wpAnyH_take (i := 9) (oi := { dst := some 87, op := Go.Op.fieldAddr 38 (Go.Operand.tmp 86) 4, type := 0, pos := "ref.go:84", after := #[{ on := 8, ground := Go.Ground.data }, { on := 5, ground := Go.Ground.guard }], guard := some (5, false) }) (v := .pointer (some ⟨b8, off8 + ln * 11 + 4, none⟩)) rfl (by kernel_rfl) (by kernel_rfl) (by kernel_rfl) (fun _ _ _ h => h) (Or.inl ⟨by rfl, ?_⟩) (by assumption) ?_
                          · intro w9 hSw
                            (try dsimp only at hSw)
                            go_simp
                          (try simp only [Act.put, List.setIfInBounds_toArray, List.set_cons_zero, List.set_cons_succ])
                          refine wpAnyH_take (i := 10) (oi := { dst := some 88, op := Go.Op.load 36 (Go.Operand.tmp 87), type := 36, pos := "ref.go:84", after := #[{ on := 9, ground := Go.Ground.data }, { on := 5, ground := Go.Ground.guard }], guard := some (5, false) }) (v := .slice ml.va ml.vn ml.vc) rfl (by kernel_rfl) (by kernel_rfl) (by kernel_rfl) (fun _ _ _ h => h) (Or.inl ⟨by rfl, ?_⟩) (by assumption) ?_
                          · intro w9 hSw
                            (try dsimp only at hSw)
                            go_simp
                          (try simp only [Act.put, List.setIfInBounds_toArray, List.set_cons_zero, List.set_cons_succ])
                          refine wpAnyH_take (i := 11) (oi := { dst := some 89, op := Go.Op.convert 36 9 (Go.Operand.tmp 88), type := 9, pos := "ref.go:84", after := #[{ on := 10, ground := Go.Ground.data }, { on := 5, ground := Go.Ground.guard }], guard := some (5, false) }) (v := .string (str ml.val)) rfl (by kernel_rfl) (by kernel_rfl) (by kernel_rfl) (fun _ _ _ h => h) (Or.inl ⟨by rfl, ?_⟩) (by assumption) ?_
                          · intro w9 hSw
                            (try dsimp only at hSw)
                            go_simp
                          (try simp only [Act.put, List.setIfInBounds_toArray, List.set_cons_zero, List.set_cons_succ])
                          refine wpAnyH_take (i := 12) (oi := { dst := some 90, op := Go.Op.fieldAddr 38 (Go.Operand.tmp 6) 4, type := 0, pos := "ref.go:84", after := #[{ on := 5, ground := Go.Ground.guard }], guard := some (5, false) }) (v := .pointer (some ⟨D, 4, none⟩)) rfl (by kernel_rfl) (by kernel_rfl) (by kernel_rfl) (fun _ _ _ h => h) (Or.inl ⟨by rfl, ?_⟩) (by assumption) ?_
                          · intro w9 hSw
                            (try dsimp only at hSw)
                            go_simp
                          (try simp only [Act.put, List.setIfInBounds_toArray, List.set_cons_zero, List.set_cons_succ])
                          refine wpAnyH_take (i := 13) (oi := { dst := some 91, op := Go.Op.load 36 (Go.Operand.tmp 90), type := 36, pos := "ref.go:84", after := #[{ on := 12, ground := Go.Ground.data }, { on := 5, ground := Go.Ground.guard }], guard := some (5, false) }) (v := .slice mc.va mc.vn mc.vc) rfl (by kernel_rfl) (by kernel_rfl) (by kernel_rfl) (fun _ _ _ h => h) (Or.inl ⟨by rfl, ?_⟩) (by assumption) ?_
                          · intro w9 hSw
                            (try dsimp only at hSw)
                            go_simp
                          (try simp only [Act.put, List.setIfInBounds_toArray, List.set_cons_zero, List.set_cons_succ])
                          refine wpAnyH_take (i := 14) (oi := { dst := some 92, op := Go.Op.convert 36 9 (Go.Operand.tmp 91), type := 9, pos := "ref.go:84", after := #[{ on := 13, ground := Go.Ground.data }, { on := 5, ground := Go.Ground.guard }], guard := some (5, false) }) (v := .string (str mc.val)) rfl (by kernel_rfl) (by kernel_rfl) (by kernel_rfl) (fun _ _ _ h => h) (Or.inl ⟨by rfl, ?_⟩) (by assumption) ?_
                          · intro w9 hSw
                            (try dsimp only at hSw)
                            go_simp
                          (try simp only [Act.put, List.setIfInBounds_toArray, List.set_cons_zero, List.set_cons_succ])
                          refine wpAnyH_take (i := 15) (oi := { dst := some 93, op := Go.Op.binOp Go.BinOp.neq 9 (Go.Operand.tmp 89) (Go.Operand.tmp 92) 9, type := 4, pos := "ref.go:84", after := #[{ on := 11, ground := Go.Ground.data }, { on := 14, ground := Go.Ground.data }, { on := 5, ground := Go.Ground.guard }], guard := some (5, false) }) (v := .bool true) rfl (by kernel_rfl) (by kernel_rfl) (by kernel_rfl) (fun _ _ _ h => h) (Or.inl ⟨by rfl, ?_⟩) (by assumption) ?_
                          · intro w9 hSw
                            (try dsimp only at hSw)
                            go_simp
                          (try simp only [Act.put, List.setIfInBounds_toArray, List.set_cons_zero, List.set_cons_succ])
                          refine wpAnyH_take (i := 16) (oi := { dst := some 94, op := Go.Op.pick (Go.Operand.tmp 83) (Go.Operand.const (Go.Value.bool true)) (Go.Operand.tmp 93), type := 4, pos := "ref.go:84", after := #[{ on := 5, ground := Go.Ground.data }, { on := 15, ground := Go.Ground.data }, { on := 2, ground := Go.Ground.guard }], guard := some (2, true) }) (v := .bool true) rfl (by kernel_rfl) (by kernel_rfl) (by kernel_rfl) (fun _ _ _ h => h) (Or.inl ⟨by rfl, ?_⟩) (by assumption) ?_
                          · intro w9 hSw
                            (try dsimp only at hSw)
                            go_simp
                          (try simp only [Act.put, List.setIfInBounds_toArray, List.set_cons_zero, List.set_cons_succ])
                          refine wpAnyH_take (i := 17) (oi := { dst := some 95, op := Go.Op.pick (Go.Operand.tmp 80) (Go.Operand.tmp 94) (Go.Operand.const (Go.Value.bool false)), type := 4, pos := "ref.go:84", after := #[{ on := 2, ground := Go.Ground.data }, { on := 16, ground := Go.Ground.data }], guard := none }) (v := .bool true) rfl (by kernel_rfl) (by kernel_rfl) (by kernel_rfl) (fun _ _ _ h => h) (Or.inl ⟨by rfl, ?_⟩) (by assumption) ?_
                          · intro w9 hSw
                            (try dsimp only at hSw)
                            go_simp
                          (try simp only [Act.put, List.setIfInBounds_toArray, List.set_cons_zero, List.set_cons_succ])
                          refine wpAnyH_done (by kernel_rfl) ?_ _
                          go_wp2_with fail
                          go_ret
                          have KW := KW2.out.trans K6 (fun _ _ z => z)
                          exact RetC.mk 81 rfl ⟨.inr (.inr ⟨rfl, F.out, NO.out⟩), KW⟩
                        · have NX : Hid (∀ x', x' < z + 1 → CkX ms Rn x') := GOOD.out CT.out (.inr ⟨fun u => by have e : mc.cl.st = mc.st := rfl; rw [e, ST.out] at u; omega, fun _ => by
                            rw [← LL.out.1, HQ.out.2]
                            have := of_decide_eq_true HQ.out.1.symm
                            show some ml.val = some mc.val
                            rw [this]⟩)
                          go_upto_region 24 with fail
                          have SH : Hid (∀ V, Kept (fun _ => False) X2 V → V.cell? ⟨D, 0, none⟩ = some (.int .i64 mc.client) ∧ V.cell? ⟨D, 1, none⟩ = some (.int .i64 mc.op) ∧ V.cell? ⟨D, 2, none⟩ = some (.bool mc.put) ∧ V.cell? ⟨D, 3, none⟩ = some (.string mc.key) ∧ V.cell? ⟨D, 4, none⟩ = some (.slice mc.va mc.vn mc.vc) ∧ V.cell? ⟨D, 5, none⟩ = some (.int .i64 mc.st) ∧ V.cell? ⟨D, 6, none⟩ = some (.int .i64 mc.frm) ∧ V.cell? ⟨D, 7, none⟩ = some (.int .i64 mc.to) ∧ V.cell? ⟨D, 8, none⟩ = some (.bool mc.opn) ∧ V.cell? ⟨D, 9, none⟩ = some (.int .i64 mc.tx) ∧ V.cell? ⟨D, 10, none⟩ = some (.int .i64 mc.ty) ∧ V.cell? ⟨b8, off8 + ln * 11 + 4, none⟩ = some (.slice ml.va ml.vn ml.vc) ∧ (convert 36 9 (.slice ml.va ml.vn ml.vc)).run Try.prog V = .ok (.string (str ml.val)) V ∧ (convert 36 9 (.slice mc.va mc.vn mc.vc)).run Try.prog V = .ok (.string (str mc.val)) V) := fun V kv => ⟨cell_blk (kv.get BX2.out.1 (fun z => z)) 0 rfl, cell_blk (kv.get BX2.out.1 (fun z => z)) 1 rfl, cell_blk (kv.get BX2.out.1 (fun z => z)) 2 rfl, cell_blk (kv.get BX2.out.1 (fun z => z)) 3 rfl, cell_blk (kv.get BX2.out.1 (fun z => z)) 4 rfl, cell_blk (kv.get BX2.out.1 (fun z => z)) 5 rfl, cell_blk (kv.get BX2.out.1 (fun z => z)) 6 rfl, cell_blk (kv.get BX2.out.1 (fun z => z)) 7 rfl, cell_blk (kv.get BX2.out.1 (fun z => z)) 8 rfl, cell_blk (kv.get BX2.out.1 (fun z => z)) 9 rfl, cell_blk (kv.get BX2.out.1 (fun z => z)) 10 rfl, kv.cell y4 (fun z => z), (Reads.kept kv RL.out (fun _ _ z => z)).string, (Reads.kept kv BX2.out.2 (fun _ _ z => z)).string⟩
                          have kd : Kept (fun _ => False) X2 X2.drew := (Kept.refl _ _).drew
                          refine wp_region_held_drew (S := (fun V => V.cell? ⟨D, 0, none⟩ = some (.int .i64 mc.client) ∧ V.cell? ⟨D, 1, none⟩ = some (.int .i64 mc.op) ∧ V.cell? ⟨D, 2, none⟩ = some (.bool mc.put) ∧ V.cell? ⟨D, 3, none⟩ = some (.string mc.key) ∧ V.cell? ⟨D, 4, none⟩ = some (.slice mc.va mc.vn mc.vc) ∧ V.cell? ⟨D, 5, none⟩ = some (.int .i64 mc.st) ∧ V.cell? ⟨D, 6, none⟩ = some (.int .i64 mc.frm) ∧ V.cell? ⟨D, 7, none⟩ = some (.int .i64 mc.to) ∧ V.cell? ⟨D, 8, none⟩ = some (.bool mc.opn) ∧ V.cell? ⟨D, 9, none⟩ = some (.int .i64 mc.tx) ∧ V.cell? ⟨D, 10, none⟩ = some (.int .i64 mc.ty) ∧ V.cell? ⟨b8, off8 + ln * 11 + 4, none⟩ = some (.slice ml.va ml.vn ml.vc) ∧ (convert 36 9 (.slice ml.va ml.vn ml.vc)).run Try.prog V = .ok (.string (str ml.val)) V ∧ (convert 36 9 (.slice mc.va mc.vn mc.vc)).run Try.prog V = .ok (.string (str mc.val)) V)) (by kernel_rfl) ?_ (fun hHeld => ?_)
                          · exact SH.out _ kd
                          refine wpAnyH_take (i := 0) (oi := { dst := some 78, op := Go.Op.load 38 (Go.Operand.tmp 6), type := 38, pos := "ref.go:84", after := #[], guard := none }) (v := .agg #[.int .i64 mc.client, .int .i64 mc.op, .bool mc.put, .string mc.key, .slice mc.va mc.vn mc.vc, .int .i64 mc.st, .int .i64 mc.frm, .int .i64 mc.to, .bool mc.opn, .int .i64 mc.tx, .int .i64 mc.ty]) rfl (by kernel_rfl) (by kernel_rfl) (by kernel_rfl) (fun _ _ _ h => h) (Or.inl ⟨by rfl, ?_⟩) (by assumption) ?_
                          · intro w9 hSw
                            (try dsimp only at hSw)
                            go_simp
                          (try simp only [Act.put, List.setIfInBounds_toArray, List.set_cons_zero, List.set_cons_succ])
                          refine wpAnyH_ready (rs := [1]) (by kernel_rfl) (by simp) ?_
                          refine (AllReadyH.cons (o := { dst := some 79, op := Go.Op.call { callee := Go.Callee.value (Go.Operand.func 52), args := #[Go.Operand.tmp 78], argTypes := #[38] }, type := 4, pos := "ref.go:84", after := #[{ on := 0, ground := Go.Ground.data }], guard := none }) rfl (fun K hK => ?_) AllReadyH.nil)
                          go_simp
                          refine (RR.out _).mono ?_
                          rintro o w6 ⟨rfl, KX⟩
                          have K6 : Kept (fun _ => False) X2 w6 := Kept.trans kd KX (fun _ _ z => z)
                          clear KX
                          refine hK.out _ _ ?_ (fun hHeld => ?_)
                          · exact SH.out w6 K6
                          clear hK K
                          (try simp only [Act.put, List.setIfInBounds_toArray, List.set_cons_zero, List.set_cons_succ])
                          refine wpAnyH_take (i := 2) (oi := { dst := some 80, op := Go.Op.move (Go.Operand.tmp 79), type := 4, pos := "ref.go:84", after := #[{ on := 1, ground := Go.Ground.data }, { on := 1, ground := Go.Ground.chain }], guard := none }) (v := .bool true) rfl (by kernel_rfl) (by kernel_rfl) (by kernel_rfl) (fun _ _ _ h => h) (Or.inl ⟨by rfl, ?_⟩) (by assumption) ?_
                          · intro w9 hSw
                            (try dsimp only at hSw)
                            go_simp
                          (try simp only [Act.put, List.setIfInBounds_toArray, List.set_cons_zero, List.set_cons_succ])
                          refine wpAnyH_take (i := 3) (oi := { dst := some 81, op := Go.Op.move (Go.Operand.tmp 9), type := 3, pos := "ref.go:84", after := #[{ on := 2, ground := Go.Ground.guard }], guard := some (2, true) }) (v := .int .i64 (ln : Int)) rfl (by kernel_rfl) (by kernel_rfl) (by kernel_rfl) (fun _ _ _ h => h) (Or.inl ⟨by rfl, ?_⟩) (by assumption) ?_
                          · intro w9 hSw
                            (try dsimp only at hSw)
                            go_simp
                          (try simp only [Act.put, List.setIfInBounds_toArray, List.set_cons_zero, List.set_cons_succ])
                          refine wpAnyH_take (i := 4) (oi := { dst := some 82, op := Go.Op.binOp Go.BinOp.lss 3 (Go.Operand.tmp 81) (Go.Operand.const (Go.Value.int Go.IntKind.i64 0)) 3, type := 4, pos := "ref.go:84", after := #[{ on := 3, ground := Go.Ground.data }, { on := 2, ground := Go.Ground.guard }], guard := some (2, true) }) (v := .bool false) rfl (by kernel_rfl) (by kernel_rfl) (by kernel_rfl) (fun _ _ _ h => h) (Or.inl ⟨by rfl, ?_⟩) (by assumption) ?_
                          · intro w9 hSw
                            (try dsimp only at hSw)
                            go_simp
                          (try simp only [Act.put, List.setIfInBounds_toArray, List.set_cons_zero, List.set_cons_succ])
                          refine wpAnyH_take (i := 5) (oi := { dst := some 83, op := Go.Op.move (Go.Operand.tmp 82), type := 4, pos := "ref.go:84", after := #[{ on := 4, ground := Go.Ground.data }, { on := 2, ground := Go.Ground.chain }, { on := 2, ground := Go.Ground.guard }], guard := some (2, true) }) (v := .bool false) rfl (by kernel_rfl) (by kernel_rfl) (by kernel_rfl) (fun _ _ _ h => h) (Or.inl ⟨by rfl, ?_⟩) (by assumption) ?_
                          · intro w9 hSw
                            (try dsimp only at hSw)
                            go_simp
                          (try simp only [Act.put, List.setIfInBounds_toArray, List.set_cons_zero, List.set_cons_succ])
                          refine wpAnyH_take (i := 6) (oi := { dst := some 84, op := Go.Op.move (Go.Operand.tmp 0), type := 27, pos := "ref.go:84", after := #[{ on := 5, ground := Go.Ground.guard }], guard := some (5, false) }) (v := .slice (some ⟨b8, off8, none⟩) n c0) rfl (by kernel_rfl) (by kernel_rfl) (by kernel_rfl) (fun _ _ _ h => h) (Or.inl ⟨by rfl, ?_⟩) (by assumption) ?_
                          · intro w9 hSw
                            (try dsimp only at hSw)
                            go_simp
                          (try simp only [Act.put, List.setIfInBounds_toArray, List.set_cons_zero, List.set_cons_succ])
                          refine wpAnyH_take (i := 7) (oi := { dst := some 85, op := Go.Op.move (Go.Operand.tmp 9), type := 3, pos := "ref.go:84", after := #[{ on := 5, ground := Go.Ground.guard }], guard := some (5, false) }) (v := .int .i64 (ln : Int)) rfl (by kernel_rfl) (by kernel_rfl) (by kernel_rfl) (fun _ _ _ h => h) (Or.inl ⟨by rfl, ?_⟩) (by assumption) ?_
                          · intro w9 hSw
                            (try dsimp only at hSw)
                            go_simp
                          (try simp only [Act.put, List.setIfInBounds_toArray, List.set_cons_zero, List.set_cons_succ])
                          refine wpAnyH_take (i := 8) (oi := { dst := some 86, op := Go.Op.indexAddr 27 (Go.Operand.tmp 84) (Go.Operand.tmp 85), type := 0, pos := "ref.go:84", after := #[{ on := 6, ground := Go.Ground.data }, { on := 7, ground := Go.Ground.data }, { on := 5, ground := Go.Ground.guard }], guard := some (5, false) }) (v := .pointer (some ⟨b8, off8 + ln * 11, none⟩)) rfl (by kernel_rfl) (by kernel_rfl) (by kernel_rfl) (fun _ _ _ h => h) (Or.inl ⟨by rfl, ?_⟩) (by assumption) ?_
                          · intro w9 hSw
                            (try dsimp only at hSw)
                            go_simp
                          (try simp only [Act.put, List.setIfInBounds_toArray, List.set_cons_zero, List.set_cons_succ])
                          refine wpAnyH_take (i := 9) (oi := { dst := some 87, op := Go.Op.fieldAddr 38 (Go.Operand.tmp 86) 4, type := 0, pos := "ref.go:84", after := #[{ on := 8, ground := Go.Ground.data }, { on := 5, ground := Go.Ground.guard }], guard := some (5, false) }) (v := .pointer (some ⟨b8, off8 + ln * 11 + 4, none⟩)) rfl (by kernel_rfl) (by kernel_rfl) (by kernel_rfl) (fun _ _ _ h => h) (Or.inl ⟨by rfl, ?_⟩) (by assumption) ?_
                          · intro w9 hSw
                            (try dsimp only at hSw)
                            go_simp
                          (try simp only [Act.put, List.setIfInBounds_toArray, List.set_cons_zero, List.set_cons_succ])
                          refine wpAnyH_take (i := 10) (oi := { dst := some 88, op := Go.Op.load 36 (Go.Operand.tmp 87), type := 36, pos := "ref.go:84", after := #[{ on := 9, ground := Go.Ground.data }, { on := 5, ground := Go.Ground.guard }], guard := some (5, false) }) (v := .slice ml.va ml.vn ml.vc) rfl (by kernel_rfl) (by kernel_rfl) (by kernel_rfl) (fun _ _ _ h => h) (Or.inl ⟨by rfl, ?_⟩) (by assumption) ?_
                          · intro w9 hSw
                            (try dsimp only at hSw)
                            go_simp
                          (try simp only [Act.put, List.setIfInBounds_toArray, List.set_cons_zero, List.set_cons_succ])
                          refine wpAnyH_take (i := 11) (oi := { dst := some 89, op := Go.Op.convert 36 9 (Go.Operand.tmp 88), type := 9, pos := "ref.go:84", after := #[{ on := 10, ground := Go.Ground.data }, { on := 5, ground := Go.Ground.guard }], guard := some (5, false) }) (v := .string (str ml.val)) rfl (by kernel_rfl) (by kernel_rfl) (by kernel_rfl) (fun _ _ _ h => h) (Or.inl ⟨by rfl, ?_⟩) (by assumption) ?_
                          · intro w9 hSw
                            (try dsimp only at hSw)
                            go_simp
                          (try simp only [Act.put, List.setIfInBounds_toArray, List.set_cons_zero, List.set_cons_succ])
                          refine wpAnyH_take (i := 12) (oi := { dst := some 90, op := Go.Op.fieldAddr 38 (Go.Operand.tmp 6) 4, type := 0, pos := "ref.go:84", after := #[{ on := 5, ground := Go.Ground.guard }], guard := some (5, false) }) (v := .pointer (some ⟨D, 4, none⟩)) rfl (by kernel_rfl) (by kernel_rfl) (by kernel_rfl) (fun _ _ _ h => h) (Or.inl ⟨by rfl, ?_⟩) (by assumption) ?_
                          · intro w9 hSw
                            (try dsimp only at hSw)
                            go_simp
                          (try simp only [Act.put, List.setIfInBounds_toArray, List.set_cons_zero, List.set_cons_succ])
                          refine wpAnyH_take (i := 13) (oi := { dst := some 91, op := Go.Op.load 36 (Go.Operand.tmp 90), type := 36, pos := "ref.go:84", after := #[{ on := 12, ground := Go.Ground.data }, { on := 5, ground := Go.Ground.guard }], guard := some (5, false) }) (v := .slice mc.va mc.vn mc.vc) rfl (by kernel_rfl) (by kernel_rfl) (by kernel_rfl) (fun _ _ _ h => h) (Or.inl ⟨by rfl, ?_⟩) (by assumption) ?_
                          · intro w9 hSw
                            (try dsimp only at hSw)
                            go_simp
                          (try simp only [Act.put, List.setIfInBounds_toArray, List.set_cons_zero, List.set_cons_succ])
                          refine wpAnyH_take (i := 14) (oi := { dst := some 92, op := Go.Op.convert 36 9 (Go.Operand.tmp 91), type := 9, pos := "ref.go:84", after := #[{ on := 13, ground := Go.Ground.data }, { on := 5, ground := Go.Ground.guard }], guard := some (5, false) }) (v := .string (str mc.val)) rfl (by kernel_rfl) (by kernel_rfl) (by kernel_rfl) (fun _ _ _ h => h) (Or.inl ⟨by rfl, ?_⟩) (by assumption) ?_
                          · intro w9 hSw
                            (try dsimp only at hSw)
                            go_simp
                          (try simp only [Act.put, List.setIfInBounds_toArray, List.set_cons_zero, List.set_cons_succ])
                          refine wpAnyH_take (i := 15) (oi := { dst := some 93, op := Go.Op.binOp Go.BinOp.neq 9 (Go.Operand.tmp 89) (Go.Operand.tmp 92) 9, type := 4, pos := "ref.go:84", after := #[{ on := 11, ground := Go.Ground.data }, { on := 14, ground := Go.Ground.data }, { on := 5, ground := Go.Ground.guard }], guard := some (5, false) }) (v := .bool false) rfl (by kernel_rfl) (by kernel_rfl) (by kernel_rfl) (fun _ _ _ h => h) (Or.inl ⟨by rfl, ?_⟩) (by assumption) ?_
                          · intro w9 hSw
                            (try dsimp only at hSw)
                            go_simp
                          (try simp only [Act.put, List.setIfInBounds_toArray, List.set_cons_zero, List.set_cons_succ])
                          refine wpAnyH_take (i := 16) (oi := { dst := some 94, op := Go.Op.pick (Go.Operand.tmp 83) (Go.Operand.const (Go.Value.bool true)) (Go.Operand.tmp 93), type := 4, pos := "ref.go:84", after := #[{ on := 5, ground := Go.Ground.data }, { on := 15, ground := Go.Ground.data }, { on := 2, ground := Go.Ground.guard }], guard := some (2, true) }) (v := .bool false) rfl (by kernel_rfl) (by kernel_rfl) (by kernel_rfl) (fun _ _ _ h => h) (Or.inl ⟨by rfl, ?_⟩) (by assumption) ?_
                          · intro w9 hSw
                            (try dsimp only at hSw)
                            go_simp
                          (try simp only [Act.put, List.setIfInBounds_toArray, List.set_cons_zero, List.set_cons_succ])
                          refine wpAnyH_take (i := 17) (oi := { dst := some 95, op := Go.Op.pick (Go.Operand.tmp 80) (Go.Operand.tmp 94) (Go.Operand.const (Go.Value.bool false)), type := 4, pos := "ref.go:84", after := #[{ on := 2, ground := Go.Ground.data }, { on := 16, ground := Go.Ground.data }], guard := none }) (v := .bool false) rfl (by kernel_rfl) (by kernel_rfl) (by kernel_rfl) (fun _ _ _ h => h) (Or.inl ⟨by rfl, ?_⟩) (by assumption) ?_
                          · intro w9 hSw
                            (try dsimp only at hSw)
                            go_simp
                          (try simp only [Act.put, List.setIfInBounds_toArray, List.set_cons_zero, List.set_cons_succ])
                          refine wpAnyH_done (by kernel_rfl) ?_ _
                          go_wp2_with fail
                          go_roundw
                          case rel => exact ⟨z + 1, by go_num, by omega, KW2.out.trans K6 (fun _ _ z => z), NX.out⟩
                          case measure => simp [intOf] <;> omega
              · have NX : Hid (Kept (fun _ => False) w wb ∧ ∀ x', x' < y + 1 → CkX ms Rn x') := ⟨KB.out, GOOD.out CT.out (.inl HP.out)⟩
                go_wp2_with fail
                go_roundw
                case rel => exact ⟨y + 1, by go_num, by omega, NX⟩
                case measure => simp [intOf] <;> omega
        · have x1 : ¬ (x : Int) < (k : Int) := by omega
          have YES : Hid (Expl ms R) := J.out.2.2.2.2 (fun x' hx' => S.out.2 x' (by rw [J.out.2.2.1] at hx'; omega))
          have KW := S.out.1
          clear S
          go_wp2_with fail
          go_ret
          exact RetC.mk 0 rfl ⟨.inr (.inl ⟨rfl, F.out, YES.out⟩), KW⟩
end Go.Proofs.Ytodmakcklacbfaa
