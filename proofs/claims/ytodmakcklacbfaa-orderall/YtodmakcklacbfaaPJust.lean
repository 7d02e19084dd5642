import Derived.Test.YtodmakcklacbfaaPExJ
import Derived.Test.YtodmakcklacbfaaNNew
namespace Go.Proofs.Ytodmakcklacbfaa
open Go.RowKit 

/-- The numbers of an order that are read so far, and that each is a part, once. -/
structure JQ (cs : List Cl) (R : List Int) (x : Nat) (Rn : List Nat) : Prop where
  eq : R.take x = Rn.map fun r : Nat => (r : Int)
  len : Rn.length = x
  a : ExA cs Rn x
theorem JQ.nil (cs : List Cl) (R : List Int) : JQ cs R 0 [] := ⟨rfl, rfl, fun _ hn => absurd hn (Nat.not_lt_zero _)⟩
theorem JQ.add {cs : List Cl} {R : List Int} {x : Nat} {Rn : List Nat} (h : JQ cs R x Rn) {i : Nat} {c : Cl} (hi : R[x]? = some (i : Int)) (hn : i ∉ Rn) (hc : cs[i]? = some c) (hp : c.part = true) : JQ cs R (x + 1) (Rn ++ [i]) := by
  refine ⟨?_, by rw [List.length_append, h.len]; rfl, fun n hn' r hr => ?_⟩
  · rw [List.take_add_one, hi, h.eq, List.map_append]
    rfl
  · rcases Nat.lt_succ_iff_lt_or_eq.1 hn' with z | z
    · rw [List.getElem?_append_left (by rw [h.len]; exact z)] at hr
      rw [List.take_append_of_le_length (by rw [h.len]; omega)]
      exact h.a n z r hr
    · rw [z, List.getElem?_append_right (by rw [h.len]; exact Nat.le_refl _), h.len, Nat.sub_self] at hr
      have e : i = r := by simpa using hr
      rw [z, List.take_append_of_le_length (by rw [h.len]; exact Nat.le_refl _), List.take_of_length_le (by rw [h.len]; exact Nat.le_refl _), ← e]
      exact ⟨hn, c, hc, hp⟩
/-- Just those that must be in, and may. -/
def Just (cs : List Cl) (R : List Int) : Prop := ∃ Rn : List Nat, (R = Rn.map fun r : Nat => (r : Int)) ∧ ExA cs Rn Rn.length ∧ ExB cs Rn cs.length
theorem map_inj {a b : List Nat} (h : (a.map fun r : Nat => (r : Int)) = b.map fun r : Nat => (r : Int)) : a = b := by
  have : ∀ l : List Nat, (l.map fun r : Nat => (r : Int)).map Int.toNat = l := fun l => by
    rw [List.map_map]
    conv => rhs; rw [← List.map_id l]
    rfl
  rw [← this a, ← this b, h]
/-- What stands at a place of an order that is just so. -/
theorem Just.at {cs : List Cl} {R : List Int} (j : Just cs R) {x : Nat} {Rn : List Nat} (q : JQ cs R x Rn) {z : Int} (hz : R[x]? = some z) : ∃ i c, z = ((i : Nat) : Int) ∧ i ∉ Rn ∧ cs[i]? = some c ∧ c.part = true := by
  obtain ⟨Sn, e, hA, _⟩ := j
  have hx : x < Sn.length := by
    have := (List.getElem?_eq_some_iff.1 hz).1
    rw [e, List.length_map] at this
    exact this
  have e2 : Rn = Sn.take x := by
    have h1 := q.eq
    rw [e, ← List.map_take] at h1
    exact (map_inj h1).symm
  obtain ⟨h1, c, h2, h3⟩ := hA x hx Sn[x] (List.getElem?_eq_getElem hx)
  refine ⟨Sn[x], c, ?_, by rw [e2]; exact h1, h2, h3⟩
  rw [e, List.getElem?_map, List.getElem?_eq_getElem hx] at hz
  exact (Option.some.inj hz).symm
set_option maxRecDepth 100000 in
set_option maxHeartbeats 8000000 in
theorem oJust {w : World} {p0 : Option Addr} {n c0 : Nat} {ms : List Cm} (cr : CRd w p0 n c0 ms) (hb : n ≤ 1300000000000) (fit : FitL ms) {q : Option Addr} {k kc : Nat} {R : List Int} (ir : IRd w q k kc R) : Calls Try.prog 39 #[.slice p0 n c0, .slice q k kc] w (RetB fun v w' => (v = true ↔ Just (ms.map Cm.cl) R) ∧ Kept (fun _ => False) w w') := by
  have rm := cr.room
  have sm := cr.small
  have rk := ir.room
  have sk := ir.small
  unfold maxLen at sm sk
  have H : Hid (CRd w p0 n c0 ms ∧ FitL ms ∧ IRd w q k kc R ∧ (ms.map Cm.cl).length = n) := ⟨cr, fit, ir, by rw [List.length_map]; exact cr.len⟩
  have mB : ∀ W : World, (Instr.makeSlice 51 (.int .i64 (n : Int)) (.int .i64 (n : Int))).run Try.prog W = .ok (.slice (some ⟨W.heap.size, 0, none⟩) n n) (W.alloc (.cells (madeCells #[.bool false] n) 4)) := run_make_row' 51 4 (.bool false) 1 Try.underlying51 Try.info4c rfl .i64 .i64 n (by omega) (by omega)
  obtain ⟨C, hC⟩ : ∃ C, C = madeCells #[.bool false] n := ⟨_, rfl⟩
  have HC : C.toList = boolsB n [] := by
    rw [hC, vrow_made]
    unfold vrow boolsB
    simp
  rw [← hC] at mB
  obtain ⟨g, hg⟩ : ∃ g, g = w.heap.size := ⟨_, rfl⟩
  have S0 : Hid (∃ Rn, JQ (ms.map Cm.cl) R 0 Rn ∧ IS w.heap.size (w.alloc (.cells C 4)) g n Rn ∧ Kept (fun _ => False) w (w.alloc (.cells C 4))) := ⟨[], JQ.nil _ _, by rw [hg]; exact IS.start w n (by unfold maxLen; omega) HC, (Kept.refl _ _).alloc _⟩
  have EG : Hid (g = w.heap.size) := hg
  clear cr fit ir hC HC hg
  go_enter Try.func39, Try.ntmps39
  go_wp2_with fail
  rw [← EG.out]
  go_loopw [7, 15] (fun _ u15 wy => ∃ x : Nat, u15 = .int .i64 (x : Int) ∧ x ≤ k ∧ Hid (∃ Rn, JQ (ms.map Cm.cl) R x Rn ∧ IS w.heap.size wy g n Rn ∧ Kept (fun _ => False) w wy)) (fun _ u15 _ => k - (intOf u15).toNat)
  case atStart => exact ⟨0, rfl, Nat.zero_le _, S0⟩
  case round =>
    obtain ⟨x, rfl, hx, SH⟩ := hrel
    clear S0 mB
    obtain ⟨Rn, jq, is, kp⟩ := SH.out
    have S : Hid (JQ (ms.map Cm.cl) R x Rn ∧ IS w.heap.size wr g n Rn ∧ Kept (fun _ => False) w wr) := ⟨jq, is, kp⟩
    clear SH jq is kp
    obtain ⟨wo, hwo⟩ : ∃ wo, wo = wr := ⟨_, rfl⟩
    rw [← hwo] at S ⊢
    clear hwo
    by_cases hlt : x < k
    · have x1 : (x : Int) < (k : Int) := by omega
      obtain ⟨bq, oq, z, rfl, hz, cz⟩ := (H.out.2.2.1.k0 S.out.2.2).at hlt
      have NO : Hid ((∀ i c, z = ((i : Nat) : Int) → i ∉ Rn → (ms.map Cm.cl)[i]? = some c → c.part = true → False) → ¬ Just (ms.map Cm.cl) R) := fun h j => by
        obtain ⟨i, c, h1, h2, h3, h4⟩ := j.at S.out.1 hz
        exact h i c h1 h2 h3 h4
      have HZ : Hid (R[x]? = some z) := hz
      clear hz
      by_cases hneg : z < 0
      · have h1 : decide (z < 0) = true := decide_eq_true hneg
        have NJ : Hid (¬ Just (ms.map Cm.cl) R) := NO.out (fun i c e _ _ _ => by omega)
        go_wp2_with fail
        go_ret
        exact RetB.mk false rfl ⟨⟨fun z => (by cases z), fun z => absurd z NJ.out⟩, S.out.2.2⟩
      · obtain ⟨i, rfl⟩ : ∃ i : Nat, z = (i : Int) := ⟨z.toNat, by omega⟩
        by_cases hin : i < n
        · have i1 : (i : Int) < (n : Int) := by omega
          have i2 : ¬ (n : Int) ≤ (i : Int) := by omega
          obtain ⟨gi, gf⟩ := S.out.2.1.at hin
          obtain ⟨b8, off8, m, rfl, hm, y0, y1, y2, y3, y4, y5, y6, y7, y8, y9, y10, _⟩ := (H.out.1.k0 S.out.2.2).at hin
          have HM : Hid (ms[i]? = some m ∧ (ms.map Cm.cl)[i]? = some m.cl ∧ (m.opn || m.cl.must) = m.cl.part) := ⟨hm, by rw [List.getElem?_map, hm]; rfl, fit_part (H.out.2.1 m (List.mem_of_getElem? hm)).2⟩
          clear hm
          by_cases ib : i ∈ Rn
          · rw [decide_eq_true ib] at gi
            have NJ : Hid (¬ Just (ms.map Cm.cl) R) := NO.out (fun i' c e h _ _ => h (by have : i = i' := by omega
                                                                                         rw [← this]; exact ib))
            go_wp2_with fail
            go_ret
            exact RetB.mk false rfl ⟨⟨fun z => (by cases z), fun z => absurd z NJ.out⟩, S.out.2.2⟩
          · rw [decide_eq_false ib] at gi
            obtain ⟨on, hon⟩ : ∃ on, m.opn = on := ⟨_, rfl⟩
            rw [hon] at y8
            have HON : Hid (m.opn = on) := hon
            clear hon
            cases on
            · obtain ⟨mu, hmu⟩ : ∃ mu, mu = m.cl.must := ⟨_, rfl⟩
              have RD : Hid (∀ V, Calls Try.prog 69 #[m.agg] V fun o w' => o = .returned (.bool mu) ∧ Kept (fun _ => False) V w') := fun V => by rw [hmu]; exact oDue m V
              have HMU : Hid (mu = m.cl.part) := by
                unfold Hid
                rw [hmu, ← HM.out.2.2, HON.out]
                rfl
              unfold Cm.agg at RD
              rw [HON.out] at RD
              clear hmu
              go_wp2_with fail
              refine (RD.out _).mono ?_
              rintro o w2 ⟨rfl, K2⟩
              have S2 : Hid (IS w.heap.size w2 g n Rn ∧ Kept (fun _ => False) w w2) := ⟨S.out.2.1.k0 K2, S.out.2.2.trans K2 (fun _ _ z => z)⟩
              clear RD K2 y0 y1 y2 y3 y4 y5 y6 y7 y8 y9 y10 gi gf
              obtain ⟨gi, gf⟩ := S2.out.1.at hin
              cases mu
              · have NJ : Hid (¬ Just (ms.map Cm.cl) R) := NO.out (fun i' c e _ h hp => by
                  have e : i = i' := by omega
                  rw [← e, HM.out.2.1] at h
                  injection h with h
                  rw [← h, ← HMU.out] at hp
                  cases hp)
                go_wp2_with fail
                go_ret
                exact RetB.mk false rfl ⟨⟨fun z => (by cases z), fun z => absurd z NJ.out⟩, S2.out.2⟩
              · have S3 : Hid (∃ Rn, JQ (ms.map Cm.cl) R (x + 1) Rn ∧ IS w.heap.size (w2.setCell ⟨g, i, none⟩ (.bool true)) g n Rn ∧ Kept (fun _ => False) w (w2.setCell ⟨g, i, none⟩ (.bool true))) := ⟨_, S.out.1.add HZ.out ib HM.out.2.1 HMU.out.symm, S2.out.1.on i, kept_set S2.out.2 (by rw [EG.out]; exact Nat.le_refl _) _ _⟩
                go_wp2_with fail
                go_roundw
                case rel => exact ⟨x + 1, by go_num, by omega, S3⟩
                case measure => simp [intOf] <;> omega
            · have S3 : Hid (∃ Rn, JQ (ms.map Cm.cl) R (x + 1) Rn ∧ IS w.heap.size (wo.setCell ⟨g, i, none⟩ (.bool true)) g n Rn ∧ Kept (fun _ => False) w (wo.setCell ⟨g, i, none⟩ (.bool true))) := ⟨_, S.out.1.add HZ.out ib HM.out.2.1 (by rw [← HM.out.2.2, HON.out]; rfl), S.out.2.1.on i, kept_set S.out.2.2 (by rw [EG.out]; exact Nat.le_refl _) _ _⟩
              go_wp2_with fail
              go_roundw
              case rel => exact ⟨x + 1, by go_num, by omega, S3⟩
              case measure => simp [intOf] <;> omega
        · have i1 : ¬ (i : Int) < (n : Int) := by omega
          have i2 : (n : Int) ≤ (i : Int) := by omega
          have NJ : Hid (¬ Just (ms.map Cm.cl) R) := NO.out (fun i' c e _ h _ => by
            have := (List.getElem?_eq_some_iff.1 h).1
            rw [H.out.2.2.2] at this
            omega)
          go_wp2_with fail
          go_ret
          exact RetB.mk false rfl ⟨⟨fun z => (by cases z), fun z => absurd z NJ.out⟩, S.out.2.2⟩
    · have x1 : ¬ (x : Int) < (k : Int) := by omega
      have HR : Hid (R = (Rn.map fun r : Nat => (r : Int)) ∧ ExA (ms.map Cm.cl) Rn Rn.length) := by
        have h1 := S.out.1.eq
        rw [List.take_of_length_le (by rw [H.out.2.2.1.len]; omega)] at h1
        refine ⟨h1, ?_⟩
        rw [S.out.1.len]
        exact S.out.1.a
      have L0 : Hid (IS w.heap.size wo g n Rn ∧ Kept (fun _ => False) w wo ∧ ExB (ms.map Cm.cl) Rn 0) := ⟨S.out.2.1, S.out.2.2, fun i hi => absurd hi (Nat.not_lt_zero _)⟩
      clear S
      go_wp2_with fail
      go_loopw [8, 9, 55] (fun _ _ u55 wy => ∃ j : Nat, u55 = .int .i64 (j : Int) ∧ j ≤ n ∧ Hid (IS w.heap.size wy g n Rn ∧ Kept (fun _ => False) w wy ∧ ExB (ms.map Cm.cl) Rn j)) (fun _ _ u55 _ => n - (intOf u55).toNat)
      case atStart => exact ⟨0, rfl, Nat.zero_le _, L0⟩
      case round =>
        obtain ⟨j, rfl, hj, L⟩ := hrel
        clear L0
        obtain ⟨wb, hwb⟩ : ∃ wb, wb = wr := ⟨_, rfl⟩
        rw [← hwb] at L ⊢
        clear hwb
        by_cases hjn : j < n
        · have j1 : (j : Int) < (n : Int) := by omega
          obtain ⟨b8, off8, m, rfl, hm, y0, y1, y2, y3, y4, y5, y6, y7, y8, y9, y10, _⟩ := (H.out.1.k0 L.out.2.1).at hjn
          obtain ⟨mu, hmu⟩ : ∃ mu, mu = m.cl.must := ⟨_, rfl⟩
          have RD : Hid (∀ V, Calls Try.prog 69 #[m.agg] V fun o w' => o = .returned (.bool mu) ∧ Kept (fun _ => False) V w') := fun V => by rw [hmu]; exact oDue m V
          have HM : Hid ((ms.map Cm.cl)[j]? = some m.cl ∧ mu = m.cl.must) := ⟨by rw [List.getElem?_map, hm]; rfl, hmu⟩
          have NX : Hid ((m.cl.must = true → j ∈ Rn) → ExB (ms.map Cm.cl) Rn (j + 1)) := fun h j' hj' c hc hcm => by
            rcases Nat.lt_succ_iff_lt_or_eq.1 hj' with y | y
            · exact L.out.2.2 j' y c hc hcm
            · rw [y, HM.out.1] at hc
              injection hc with hc
              rw [← hc] at hcm
              rw [y]
              exact h hcm
          unfold Cm.agg at RD
          clear hm hmu
          go_wp2_with fail
          refine (RD.out _).mono ?_
          rintro o w2 ⟨rfl, K2⟩
          have L2 : Hid (IS w.heap.size w2 g n Rn ∧ Kept (fun _ => False) w w2) := by
            have A : Kept (fun _ => False) wb _ := (Kept.refl (fun _ => False) wb).alloc (.cells m.cs 38)
            exact ⟨(L.out.1.k0 A).k0 K2, (L.out.2.1.alloc _).trans K2 (fun _ _ z => z)⟩
          clear RD K2 y0 y1 y2 y3 y4 y5 y6 y7 y8 y9 y10
          cases mu
          · have E2 : Hid (ExB (ms.map Cm.cl) Rn (j + 1)) := NX.out (fun z => by rw [← HM.out.2] at z; cases z)
            go_wp2_with fail
            go_roundw
            case rel => exact ⟨j + 1, by go_num, by omega, L2.out.1, L2.out.2, E2.out⟩
            case measure => simp [intOf] <;> omega
          · have gj := (L2.out.1.at hjn).1
            by_cases jb : j ∈ Rn
            · rw [decide_eq_true jb] at gj
              have E2 : Hid (ExB (ms.map Cm.cl) Rn (j + 1)) := NX.out (fun _ => jb)
              go_wp2_with fail
              go_roundw
              case rel => exact ⟨j + 1, by go_num, by omega, L2.out.1, L2.out.2, E2.out⟩
              case measure => simp [intOf] <;> omega
            · rw [decide_eq_false jb] at gj
              have NJ : Hid (¬ Just (ms.map Cm.cl) R) := fun ⟨Sn, e, _, hB⟩ => by
                have e2 : Sn = Rn := map_inj (e.symm.trans HR.out.1)
                rw [e2] at hB
                exact jb (hB j (by rw [H.out.2.2.2]; exact hjn) m.cl HM.out.1 HM.out.2.symm)
              go_wp2_with fail
              go_ret
              exact RetB.mk false rfl ⟨⟨fun z => (by cases z), fun z => absurd z NJ.out⟩, L2.out.2⟩
        · have j1 : ¬ (j : Int) < (n : Int) := by omega
          have YES : Hid (Just (ms.map Cm.cl) R) := by
            refine ⟨Rn, HR.out.1, HR.out.2, ?_⟩
            have ej : (ms.map Cm.cl).length = j := by rw [H.out.2.2.2]; omega
            rw [ej]
            exact L.out.2.2
          go_wp2_with fail
          go_ret
          exact RetB.mk true rfl ⟨⟨fun _ => YES.out, fun _ => rfl⟩, L.out.2.1⟩
end Go.Proofs.Ytodmakcklacbfaa
