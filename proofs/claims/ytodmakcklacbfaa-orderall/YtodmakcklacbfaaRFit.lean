import Derived.Test.YtodmakcklacbfaaRIntsJ
import Derived.Test.YtodmakcklacbfaaPFit
import Derived.Test.YtodmakcklacbfaaVSmallJ
import Derived.BigQuiet
namespace Go.Proofs.Ytodmakcklacbfaa
open Go.RowKit 

set_option maxRecDepth 100000 in
set_option maxHeartbeats 4000000 in
theorem dFit {w : World} {p0 : Option Addr} {n c0 : Nat} {ms : List Cm} (cr : CRd w p0 n c0 ms) : Calls Try.prog 49 #[.slice p0 n c0] w (RetB fun v w' => (v = true ↔ FitL ms) ∧ Kept (fun _ => False) w w') := by
  have rm := cr.room
  have sm := cr.small
  unfold maxLen at sm
  have H : Hid (CRd w p0 n c0 ms) := cr
  have L0 : Hid (Kept (fun _ => False) w w ∧ ∀ m ∈ ms.take 0, (∀ m0, ms[0]? = some m0 → m.key = m0.key) ∧ m.fit = true) := ⟨Kept.refl _ _, fun m hm => absurd hm (by simp)⟩
  clear cr
  go_enter Try.func49, Try.ntmps49
  go_wp2_with fail
  go_loopw [3, 4, 5] (fun u3 _ _ wy => ∃ i : Nat, u3 = .int .i64 (i : Int) ∧ i ≤ n ∧ Hid (Kept (fun _ => False) w wy ∧ ∀ m ∈ ms.take i, (∀ m0, ms[0]? = some m0 → m.key = m0.key) ∧ m.fit = true)) (fun u3 _ _ _ => n - (intOf u3).toNat)
  case atStart => exact ⟨0, rfl, Nat.zero_le _, L0⟩
  case round =>
    obtain ⟨i, rfl, hi, S⟩ := hrel
    clear L0
    obtain ⟨wo, hwo⟩ : ∃ wo, wo = wr := ⟨_, rfl⟩
    rw [← hwo] at S ⊢
    clear hwo
    by_cases hlt : i < n
    · have i1 : (i : Int) < (n : Int) := by omega
      have z1 : (0 : Int) < (n : Int) := by omega
      have n0 : ¬ n = 0 := by omega
      obtain ⟨b8, off8, m, rfl, hm, y0, y1, y2, y3, y4, y5, y6, y7, y8, y9, y10, _⟩ := (H.out.k0 S.out.1).at hlt
      obtain ⟨b7, off7, m0, e7, hm0, _, _, _, z3, _⟩ := (H.out.k0 S.out.1).at (show 0 < n by omega)
      have e7 : b8 = b7 ∧ off8 = off7 := by simpa using e7
      obtain ⟨rfl, rfl⟩ := e7
      rw [Nat.zero_mul, Nat.add_zero] at z3
      obtain ⟨wd, hW⟩ : ∃ wd, wd = wo.alloc (.cells m.cs 38) := ⟨_, rfl⟩
      obtain ⟨D, hD⟩ : ∃ D, D = wo.heap.size := ⟨_, rfl⟩
      have KW : Kept (fun _ => False) wo wd := by rw [hW]; exact (Kept.refl _ _).alloc _
      have T : Hid (wd.heap[D]? = some (.cells m.cs 38 (0, 0)) ∧ Kept (fun _ => False) w wd ∧ wd.cell? ⟨b8, off8 + 3, none⟩ = some (.string m0.key)) := ⟨by rw [hW, hD]; exact alloc_new _ _, S.out.1.trans KW (fun _ _ z => z), KW.cell z3 (fun z => z)⟩
      have EWH : Hid (wd = wo.alloc (.cells #[.int .i64 m.client, .int .i64 m.op, .bool m.put, .string m.key, .slice m.va m.vn m.vc, .int .i64 m.st, .int .i64 m.frm, .int .i64 m.to, .bool m.opn, .int .i64 m.tx, .int .i64 m.ty] 38) ∧ D = wo.heap.size) := ⟨hW, hD⟩
      have HM : Hid (ms[i]? = some m ∧ ms[0]? = some m0) := ⟨hm, hm0⟩
      clear hW hD KW hm hm0
      go_upto_region 5 with fail
      rw [← EWH.out.1, ← EWH.out.2]
      clear EWH y0 y1 y2 y3 y4 y5 y6 y7 y8 y9 y10 z3
      have KE : Hid (Kept (fun _ => False) w wd) := T.out.2.1
      have d2 := cell_blk T.out.1 2 (v := .bool m.put) rfl
      have d3 := cell_blk T.out.1 3 (v := .string m.key) rfl
      have d5 := cell_blk T.out.1 5 (v := .int .i64 m.st) rfl
      have d6 := cell_blk T.out.1 6 (v := .int .i64 m.frm) rfl
      have d7 := cell_blk T.out.1 7 (v := .int .i64 m.to) rfl
      have d8 := cell_blk T.out.1 8 (v := .bool m.opn) rfl
      have dk := T.out.2.2
      obtain ⟨fr, hfr⟩ : ∃ fr, m.frm = fr := ⟨_, rfl⟩
      obtain ⟨tt, htt⟩ : ∃ tt, m.to = tt := ⟨_, rfl⟩
      obtain ⟨st, hst⟩ : ∃ st, m.st = st := ⟨_, rfl⟩
      obtain ⟨pu, hpu⟩ : ∃ pu, m.put = pu := ⟨_, rfl⟩
      obtain ⟨op, hop⟩ : ∃ op, m.opn = op := ⟨_, rfl⟩
      obtain ⟨ob, hob⟩ : ∃ ob, (pu && (decide (tt = -1) || !decide (st = 0))) = ob := ⟨_, rfl⟩
      have HF : Hid (m.fit = (decide (0 ≤ fr) && (decide (tt = -1) || decide (fr < tt)) && (op == ob) && (!ob || decide (tt = -1)))) := by
        show m.fit = _
        unfold Cm.fit Cm.opb
        rw [hfr, htt, hst, hpu, hop, hob]
      have HB : Hid ((pu && (decide (tt = -1) || !decide (st = 0))) = ob) := hob
      rw [hpu] at d2
      rw [hst] at d5
      rw [hfr] at d6
      rw [htt] at d7
      rw [hop] at d8
      clear hfr htt hst hpu hop hob
      have YES : Hid (m.key = m0.key → m.fit = true → ∀ m' ∈ ms.take (i + 1), (∀ m0, ms[0]? = some m0 → m'.key = m0.key) ∧ m'.fit = true) := fun h1 h2 m' hm' => by
        rw [List.take_add_one, HM.out.1] at hm'
        rcases List.mem_append.1 hm' with z | z
        · exact S.out.2 m' z
        · have e : m' = m := by simpa using z
          subst e
          refine ⟨fun q hq => ?_, h2⟩
          rw [HM.out.2] at hq
          rw [← Option.some.inj hq]
          exact h1
      have NOF : Hid (¬ (m.key = m0.key ∧ m.fit = true) → ¬ FitL ms) := fun h1 f => by
        have := f m (List.mem_of_getElem? HM.out.1)
        exact h1 ⟨this.1 m0 HM.out.2, this.2⟩
      clear S
      go_cut [5] from 16 to 27 (fun x5 wc => x5 = .bool ob ∧ wc = wd)
      case first =>
        cases pu
        · have e : ob = false := by rw [← HB.out]; rfl
          subst e
          go_wp2_with fail
          go_meet
          case rel => exact ⟨rfl, rfl⟩
        · by_cases t1 : tt = -1
          · have e : ob = true := by rw [← HB.out, t1]; rfl
            subst e
            subst t1
            go_wp2_with fail
            go_meet
            case rel => exact ⟨rfl, rfl⟩
          · have t2 : (tt == -1) = false := by simp [t1]
            by_cases s0 : st = 0
            · have e : ob = false := by rw [← HB.out, s0]; simp [t1]
              subst e
              subst s0
              go_wp2_with fail
              go_meet
              case rel => exact ⟨rfl, rfl⟩
            · have s2 : (st == 0) = false := by simp [s0]
              have e : ob = true := by rw [← HB.out]; simp [t1, s0]
              subst e
              go_wp2_with fail
              go_meet
              case rel => exact ⟨by simp [s0], rfl⟩
      case rest =>
      obtain ⟨rfl, hw⟩ := hcut
      rw [hw]
      clear hw d2 d5 HB
      by_cases hk : m.key = m0.key
      · have hk1 : (m.key.toList == m0.key.toList) = true := by rw [hk]; simp
        have HK : Hid (m.key = m0.key) := hk
        clear hk
        by_cases f0 : fr < 0
        · have f1 : decide (fr < 0) = true := decide_eq_true f0
          have NO : Hid (¬ FitL ms) := NOF.out (fun z => (by have h := z.2; rw [HF.out] at h; simp at h; omega))
          go_upto_region 6 with fail
          go_quiet (fail)
          go_wp2_with fail
          go_ret
          exact RetB.mk false rfl ⟨⟨fun y => (by cases y), fun y => absurd y NO.out⟩, (KE.out.drewN _)⟩
        · have f1 : decide (fr < 0) = false := decide_eq_false f0
          by_cases t1 : tt = -1
          · subst t1
            cases op
            · cases ob
              · have F1 : Hid (m.fit = true) := by
                  show m.fit = true
                  have a1 : decide (0 ≤ fr) = true := decide_eq_true (by omega)
                  rw [HF.out, a1]
                  first | rfl | (simp; done)
                have NX : Hid (∀ m' ∈ ms.take (i + 1), (∀ m0, ms[0]? = some m0 → m'.key = m0.key) ∧ m'.fit = true) := YES.out HK.out F1.out
                go_upto_region 6 with fail
                go_quiet (fail)
                go_wp2_with fail
                go_roundw
                case rel => exact ⟨i + 1, by go_num, by omega, (KE.out.drewN _), NX.out⟩
                case measure => simp [intOf] <;> omega
              · have NO : Hid (¬ FitL ms) := NOF.out (fun z => (by have h := z.2; rw [HF.out] at h; simp at h))
                go_upto_region 6 with fail
                go_quiet (fail)
                go_wp2_with fail
                go_ret
                exact RetB.mk false rfl ⟨⟨fun y => (by cases y), fun y => absurd y NO.out⟩, (KE.out.drewN _)⟩
            · cases ob
              · have NO : Hid (¬ FitL ms) := NOF.out (fun z => (by have h := z.2; rw [HF.out] at h; simp at h))
                go_upto_region 6 with fail
                go_quiet (fail)
                go_wp2_with fail
                go_ret
                exact RetB.mk false rfl ⟨⟨fun y => (by cases y), fun y => absurd y NO.out⟩, (KE.out.drewN _)⟩
              · have F1 : Hid (m.fit = true) := by
                  show m.fit = true
                  have a1 : decide (0 ≤ fr) = true := decide_eq_true (by omega)
                  rw [HF.out, a1]
                  first | rfl | (simp; done)
                have NX : Hid (∀ m' ∈ ms.take (i + 1), (∀ m0, ms[0]? = some m0 → m'.key = m0.key) ∧ m'.fit = true) := YES.out HK.out F1.out
                go_upto_region 6 with fail
                go_quiet (fail)
                go_wp2_with fail
                go_roundw
                case rel => exact ⟨i + 1, by go_num, by omega, (KE.out.drewN _), NX.out⟩
                case measure => simp [intOf] <;> omega
          · have t2 : (tt == -1) = false := by simp [t1]
            have t3 : (tt != -1) = true := by simp [t1]
            by_cases le : tt ≤ fr
            · have l1 : decide (tt ≤ fr) = true := decide_eq_true le
              have NO : Hid (¬ FitL ms) := NOF.out (fun z => (by have h := z.2; rw [HF.out] at h; simp at h; omega))
              go_upto_region 6 with fail
              go_quiet (fail)
              go_wp2_with fail
              go_ret
              exact RetB.mk false rfl ⟨⟨fun y => (by cases y), fun y => absurd y NO.out⟩, (KE.out.drewN _)⟩
            · have l1 : decide (tt ≤ fr) = false := decide_eq_false le
              cases op
              · cases ob
                · have F1 : Hid (m.fit = true) := by
                    show m.fit = true
                    have a1 : decide (0 ≤ fr) = true := decide_eq_true (by omega)
                    have a2 : decide (fr < tt) = true := decide_eq_true (by omega)
                    rw [HF.out, a1, a2]
                    first | rfl | (simp; done)
                  have NX : Hid (∀ m' ∈ ms.take (i + 1), (∀ m0, ms[0]? = some m0 → m'.key = m0.key) ∧ m'.fit = true) := YES.out HK.out F1.out
                  go_upto_region 6 with fail
                  go_quiet (fail)
                  go_wp2_with fail
                  go_roundw
                  case rel => exact ⟨i + 1, by go_num, by omega, (KE.out.drewN _), NX.out⟩
                  case measure => simp [intOf] <;> omega
                · have NO : Hid (¬ FitL ms) := NOF.out (fun z => (by have h := z.2; rw [HF.out] at h; simp at h))
                  go_upto_region 6 with fail
                  go_quiet (fail)
                  go_wp2_with fail
                  go_ret
                  exact RetB.mk false rfl ⟨⟨fun y => (by cases y), fun y => absurd y NO.out⟩, (KE.out.drewN _)⟩
              · cases ob
                · have NO : Hid (¬ FitL ms) := NOF.out (fun z => (by have h := z.2; rw [HF.out] at h; simp at h))
                  go_upto_region 6 with fail
                  go_quiet (fail)
                  go_wp2_with fail
                  go_ret
                  exact RetB.mk false rfl ⟨⟨fun y => (by cases y), fun y => absurd y NO.out⟩, (KE.out.drewN _)⟩
                · have NO : Hid (¬ FitL ms) := NOF.out (fun z => (by have h := z.2; rw [HF.out] at h; simp at h; omega))
                  go_upto_region 6 with fail
                  go_quiet (fail)
                  go_wp2_with fail
                  go_ret
                  exact RetB.mk false rfl ⟨⟨fun y => (by cases y), fun y => absurd y NO.out⟩, (KE.out.drewN _)⟩
      · have hk1 : (m.key.toList == m0.key.toList) = false := by
          have := ba_ne hk
          simp [this]
        have NO : Hid (¬ FitL ms) := NOF.out (fun z => hk z.1)
        go_upto_region 6 with fail
        go_quiet (fail)
        go_wp2_with fail
        go_ret
        exact RetB.mk false rfl ⟨⟨fun y => (by cases y), fun y => absurd y NO.out⟩, (KE.out.drewN _)⟩
    · have i1 : ¬ (i : Int) < (n : Int) := by omega
      have F : Hid (FitL ms) := by
        have h := S.out.2
        rw [List.take_of_length_le (by rw [H.out.len]; omega)] at h
        exact h
      have KE : Hid (Kept (fun _ => False) w wo) := S.out.1
      go_wp2_with fail
      go_ret
      exact RetB.mk true rfl ⟨⟨fun _ => F.out, fun _ => rfl⟩, KE.out⟩
end Go.Proofs.Ytodmakcklacbfaa
