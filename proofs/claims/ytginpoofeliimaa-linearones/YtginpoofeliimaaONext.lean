import Derived.Test.YtginpoofeliimaaOMem
import Derived.Test.YtginpoofeliimaaNSmall
namespace Go.Proofs.Ytginpoofeliimaa
open Go.RowKit 

set_option maxRecDepth 100000 in
set_option maxHeartbeats 8000000 in
theorem rNext {w0 wa : World} {sb : Nat} {p0 : Option Addr} {n c0 : Nat} {q : Option Addr} {k kc : Nat} {b : List Nat} {r : Option Addr} {rc : Nat} {ms : List Cm} (cr : CRd w0 p0 n c0 ms) (nb : ∀ c ∈ ms.map Cm.cl, c.bad = false) (h : SS w0 wa sb p0 n c0 q k kc b r rc) (lt : ∀ x ∈ b, x < n) (kb : k ≤ 24) {i : Nat} (hi : i < n) : Calls Try.prog 36 #[.pointer (some ⟨sb, 0, none⟩), .int .i64 (i : Int)] wa (RetB fun v w' => (v = true ↔ ∃ c, XMay (ms.map Cm.cl) b (valV (ms.map Cm.cl) b none) i c) ∧ Kept (fun _ => False) wa w') := by
  have H : Hid (CRd w0 p0 n c0 ms ∧ SS w0 wa sb p0 n c0 q k kc b r rc ∧ (∀ x ∈ b, x < n) ∧ (∀ c ∈ ms.map Cm.cl, c.bad = false)) := ⟨cr, h, lt, nb⟩
  have rr := own_room h.inn
  unfold maxLen at rr
  have rn1 := cr.room
  have rn2 := cr.small
  unfold maxLen at rn2
  have i1 : (i : Int) < (n : Int) := by omega
  obtain ⟨b9, off9, m, rfl, hm, y0, y1, y2, y3, y4, y5, y6, y7, y8, y9, y10, rd⟩ := (cr.k0 h.kept).at hi
  have s0 := cell_blk h.blk 0 (v := .slice (some ⟨b9, off9, none⟩) n c0) rfl
  obtain ⟨g, rfl, gi, _, _⟩ := h.inAt hi
  have s2 := cell_blk h.blk 2 (v := .slice (some ⟨g, 0, none⟩) n rc) rfl
  have HM : Hid ((ms.map Cm.cl)[i]? = some m.cl ∧ m.cl.bad = false) := by
    have e : (ms.map Cm.cl)[i]? = some m.cl := by rw [List.getElem?_map, hm]; rfl
    exact ⟨e, nb _ (List.mem_of_getElem? e)⟩
  have only : Hid (∀ c, XMay (ms.map Cm.cl) b (valV (ms.map Cm.cl) b none) i c → c = m.cl) := fun c x => by
    have := x.1
    rw [HM.out.1] at this
    injection this with this
    exact this.symm
  obtain ⟨W, hW⟩ : ∃ W, W = wa.alloc (.cells m.cs 33) := ⟨_, rfl⟩
  obtain ⟨E, hE⟩ : ∃ E, E = wa.heap.size := ⟨_, rfl⟩
  have T : Hid (W.heap[E]? = some (.cells m.cs 33 (0, 0)) ∧ Kept (fun _ => False) wa W ∧ Reads W m.va m.vn m.vc m.val) := ⟨by rw [hW, hE]; exact alloc_new _ _, by rw [hW]; exact (Kept.refl _ _).alloc _, by rw [hW]; exact Reads.kept ((Kept.refl (fun _ => False) wa).alloc _) rd (fun _ _ z => z)⟩
  have EWH : Hid (W = wa.alloc (.cells #[.int .i64 m.client, .int .i64 m.op, .bool m.put, .string m.key, .slice m.va m.vn m.vc, .int .i64 m.st, .int .i64 m.frm, .int .i64 m.to, .bool m.opn, .int .i64 m.tx, .int .i64 m.ty] 33) ∧ E = wa.heap.size) := ⟨hW, hE⟩
  have gi2 : W.cell? ⟨g, i, none⟩ = some (.bool (decide (i ∈ b))) := T.out.2.1.cell gi (fun z => z)
  have s22 := T.out.2.1.cell s2 (fun z => z)
  clear cr nb h lt hm rd hW hE gi s2
  go_enter Try.func36, Try.ntmps36
  go_upto_region 2 with fail
  rw [← EWH.out.1, ← EWH.out.2]
  clear EWH y0 y1 y2 y3 y4 y5 y6 y7 y8 y9 y10 s0
  by_cases ib : i ∈ b
  · rw [decide_eq_true ib] at gi2
    have G : Hid (Kept (fun _ => False) wa W) := T.out.2.1
    go_wp2_with fail
    go_ret
    exact RetB.mk false rfl ⟨⟨fun z => (by cases z), fun ⟨c, x⟩ => absurd ib x.2.2.1⟩, G.out⟩
  · rw [decide_eq_false ib] at gi2
    have d0 := cell_blk T.out.1 0 (v := .int .i64 m.client) rfl
    have d1 := cell_blk T.out.1 1 (v := .int .i64 m.op) rfl
    have d2 := cell_blk T.out.1 2 (v := .bool m.put) rfl
    have d3 := cell_blk T.out.1 3 (v := .string m.key) rfl
    have d4 := cell_blk T.out.1 4 (v := .slice m.va m.vn m.vc) rfl
    have d5 := cell_blk T.out.1 5 (v := .int .i64 m.st) rfl
    have d6 := cell_blk T.out.1 6 (v := .int .i64 m.frm) rfl
    have d7 := cell_blk T.out.1 7 (v := .int .i64 m.to) rfl
    have d8 := cell_blk T.out.1 8 (v := .bool m.opn) rfl
    have d9 := cell_blk T.out.1 9 (v := .int .i64 m.tx) rfl
    have d10 := cell_blk T.out.1 10 (v := .int .i64 m.ty) rfl
    obtain ⟨pa, hpa⟩ : ∃ pa, m.cl.part = pa := ⟨_, rfl⟩
    have RP : Hid (∀ V, Calls Try.prog 27 #[m.agg] V fun o w' => o = .returned (.bool pa) ∧ Kept (fun _ => False) V w') := fun V => by rw [← hpa]; exact rPart m V
    have HPA : Hid (m.cl.part = pa) := hpa
    unfold Cm.agg at RP
    clear hpa
    go_wp2_with fail
    refine (RP.out _).mono ?_
    rintro o w2 ⟨rfl, K2⟩
    have T2 : Hid (w2.heap[E]? = some (.cells m.cs 33 (0, 0)) ∧ Kept (fun _ => False) wa w2 ∧ Reads w2 m.va m.vn m.vc m.val) := ⟨K2.get T.out.1 (fun z => z), T.out.2.1.trans K2 (fun _ _ z => z), Reads.kept K2 T.out.2.2 (fun _ _ z => z)⟩
    clear K2 RP d0 d1 d2 d3 d4 d5 d6 d7 d8 d9 d10 gi2 s22
    cases pa
    · go_wp2_with fail
      go_ret
      refine RetB.mk false rfl ⟨⟨fun z => (by cases z), fun ⟨c, x⟩ => ?_⟩, T2.out.2.1⟩
      have h1 := x.2.1
      rw [only.out c x, HPA.out] at h1
      cases h1
    · have t0 := cell_blk ((H.out.2.1.k0 T2.out.2.1).blk) 0 (v := .slice (some ⟨b9, off9, none⟩) n c0) rfl
      have L0 : Hid (∀ j, j < 0 → ∀ a, (ms.map Cm.cl)[j]? = some a → j ≠ i → a.part = true → a.ahead m.cl = true → j ∈ b) := fun j hj => absurd hj (Nat.not_lt_zero _)
      go_wp2_with fail
      go_loopw [6, 7, 33] (fun _ _ u33 wy => ∃ j : Nat, u33 = .int .i64 (j : Int) ∧ j ≤ n ∧ Hid (wy.heap[E]? = some (.cells m.cs 33 (0, 0)) ∧ Kept (fun _ => False) wa wy ∧ Reads wy m.va m.vn m.vc m.val) ∧ Hid (∀ j', j' < j → ∀ a, (ms.map Cm.cl)[j']? = some a → j' ≠ i → a.part = true → a.ahead m.cl = true → j' ∈ b)) (fun _ _ u33 _ => n - (intOf u33).toNat)
      case atStart => exact ⟨0, rfl, Nat.zero_le _, T2, L0⟩
      case round =>
        obtain ⟨j, rfl, hj, S, L⟩ := hrel
        clear L0 t0 T2 T
        obtain ⟨wo, hwo⟩ : ∃ wo, wo = wr := ⟨_, rfl⟩
        rw [← hwo] at S ⊢
        clear hwo
        by_cases hlt : j < n
        · have j1 : (j : Int) < (n : Int) := by omega
          obtain ⟨b8, off8, d, e8, hd, y0, y1, y2, y3, y4, y5, y6, y7, y8, y9, y10, _⟩ := (H.out.1.k0 (H.out.2.1.kept.trans S.out.2.1 (fun _ _ z => z))).at hlt
          have e8 : b9 = b8 ∧ off9 = off8 := by simpa using e8
          obtain ⟨rfl, rfl⟩ := e8
          obtain ⟨W3, hW3⟩ : ∃ W3, W3 = wo.alloc (.cells d.cs 33) := ⟨_, rfl⟩
          obtain ⟨D, hD⟩ : ∃ D, D = wo.heap.size := ⟨_, rfl⟩
          have K3 : Kept (fun _ => False) wo W3 := by rw [hW3]; exact (Kept.refl _ _).alloc _
          have S3 : Hid (W3.heap[D]? = some (.cells d.cs 33 (0, 0)) ∧ W3.heap[E]? = some (.cells m.cs 33 (0, 0)) ∧ Kept (fun _ => False) wa W3 ∧ Reads W3 m.va m.vn m.vc m.val) := ⟨by rw [hW3, hD]; exact alloc_new _ _, K3.get S.out.1 (fun z => z), S.out.2.1.trans K3 (fun _ _ z => z), Reads.kept K3 S.out.2.2 (fun _ _ z => z)⟩
          have EW3 : Hid (W3 = wo.alloc (.cells #[.int .i64 d.client, .int .i64 d.op, .bool d.put, .string d.key, .slice d.va d.vn d.vc, .int .i64 d.st, .int .i64 d.frm, .int .i64 d.to, .bool d.opn, .int .i64 d.tx, .int .i64 d.ty] 33) ∧ D = wo.heap.size) := ⟨hW3, hD⟩
          have HD : Hid ((ms.map Cm.cl)[j]? = some d.cl) := by unfold Hid; rw [List.getElem?_map, hd]; rfl
          have NXT : Hid ((j ∈ b ∨ j = i ∨ d.cl.part = false ∨ d.cl.ahead m.cl = false) → ∀ j', j' < j + 1 → ∀ a, (ms.map Cm.cl)[j']? = some a → j' ≠ i → a.part = true → a.ahead m.cl = true → j' ∈ b) := fun hh j' hj' a ha hne hap haa => by
            rcases Nat.lt_succ_iff_lt_or_eq.1 hj' with z | z
            · exact L.out j' z a ha hne hap haa
            · subst z
              rw [HD.out] at ha
              injection ha with ha
              subst ha
              rcases hh with z | z | z | z
              · exact z
              · exact absurd z hne
              · rw [z] at hap; cases hap
              · rw [z] at haa; cases haa
          clear hW3 hD hd K3 S L
          go_upto_region 7 with fail
          rw [← EW3.out.1, ← EW3.out.2]
          clear EW3 y0 y1 y2 y3 y4 y5 y6 y7 y8 y9 y10
          obtain ⟨g', eg, gj, _, _⟩ := (H.out.2.1.k0 S3.out.2.2.1).inAt hlt
          have eg : g = g' := by simpa using eg
          subst eg
          have t2 := cell_blk ((H.out.2.1.k0 S3.out.2.2.1).blk) 2 (v := .slice (some ⟨g, 0, none⟩) n rc) rfl
          by_cases jb : j ∈ b
          · rw [decide_eq_true jb] at gj
            go_wp2_with fail
            go_roundw
            case rel => exact ⟨j + 1, by go_num, by omega, S3.out.2, NXT.out (.inl jb)⟩
            case measure => simp [intOf] <;> omega
          · rw [decide_eq_false jb] at gj
            by_cases ji : j = i
            · subst ji
              go_wp2_with fail
              go_roundw
              case rel => exact ⟨j + 1, by go_num, by omega, S3.out.2, NXT.out (.inr (.inl rfl))⟩
              case measure => simp [intOf] <;> omega
            · have ji1 : ((j : Int) == (i : Int)) = false := by simp; omega
              have ji2 : ¬ (j : Int) = (i : Int) := by omega
              have f0 := cell_blk S3.out.1 0 (v := .int .i64 d.client) rfl
              have f1 := cell_blk S3.out.1 1 (v := .int .i64 d.op) rfl
              have f2 := cell_blk S3.out.1 2 (v := .bool d.put) rfl
              have f3 := cell_blk S3.out.1 3 (v := .string d.key) rfl
              have f4 := cell_blk S3.out.1 4 (v := .slice d.va d.vn d.vc) rfl
              have f5 := cell_blk S3.out.1 5 (v := .int .i64 d.st) rfl
              have f6 := cell_blk S3.out.1 6 (v := .int .i64 d.frm) rfl
              have f7 := cell_blk S3.out.1 7 (v := .int .i64 d.to) rfl
              have f8 := cell_blk S3.out.1 8 (v := .bool d.opn) rfl
              have f9 := cell_blk S3.out.1 9 (v := .int .i64 d.tx) rfl
              have f10 := cell_blk S3.out.1 10 (v := .int .i64 d.ty) rfl
              obtain ⟨pd, hpd⟩ : ∃ pd, d.cl.part = pd := ⟨_, rfl⟩
              have RD : Hid (∀ V, Calls Try.prog 27 #[d.agg] V fun o w' => o = .returned (.bool pd) ∧ Kept (fun _ => False) V w') := fun V => by rw [← hpd]; exact rPart d V
              have HPD : Hid (d.cl.part = pd) := hpd
              unfold Cm.agg at RD
              clear hpd
              go_wp2_with fail
              refine (RD.out _).mono ?_
              rintro o w4 ⟨rfl, K4⟩
              have S4 : Hid (w4.heap[D]? = some (.cells d.cs 33 (0, 0)) ∧ w4.heap[E]? = some (.cells m.cs 33 (0, 0)) ∧ Kept (fun _ => False) wa w4 ∧ Reads w4 m.va m.vn m.vc m.val) := ⟨K4.get S3.out.1 (fun z => z), K4.get S3.out.2.1 (fun z => z), S3.out.2.2.1.trans K4 (fun _ _ z => z), Reads.kept K4 S3.out.2.2.2 (fun _ _ z => z)⟩
              clear K4 RD S3 f0 f1 f2 f3 f4 f5 f6 f7 f8 f9 f10 gj t2
              cases pd
              · go_wp2_with fail
                go_roundw
                case rel => exact ⟨j + 1, by go_num, by omega, S4.out.2, NXT.out (.inr (.inr (.inl HPD.out)))⟩
                case measure => simp [intOf] <;> omega
              · have f0 := cell_blk S4.out.1 0 (v := .int .i64 d.client) rfl
                have f1 := cell_blk S4.out.1 1 (v := .int .i64 d.op) rfl
                have f2 := cell_blk S4.out.1 2 (v := .bool d.put) rfl
                have f3 := cell_blk S4.out.1 3 (v := .string d.key) rfl
                have f4 := cell_blk S4.out.1 4 (v := .slice d.va d.vn d.vc) rfl
                have f5 := cell_blk S4.out.1 5 (v := .int .i64 d.st) rfl
                have f6 := cell_blk S4.out.1 6 (v := .int .i64 d.frm) rfl
                have f7 := cell_blk S4.out.1 7 (v := .int .i64 d.to) rfl
                have f8 := cell_blk S4.out.1 8 (v := .bool d.opn) rfl
                have f9 := cell_blk S4.out.1 9 (v := .int .i64 d.tx) rfl
                have f10 := cell_blk S4.out.1 10 (v := .int .i64 d.ty) rfl
                have d0 := cell_blk S4.out.2.1 0 (v := .int .i64 m.client) rfl
                have d1 := cell_blk S4.out.2.1 1 (v := .int .i64 m.op) rfl
                have d2 := cell_blk S4.out.2.1 2 (v := .bool m.put) rfl
                have d3 := cell_blk S4.out.2.1 3 (v := .string m.key) rfl
                have d4 := cell_blk S4.out.2.1 4 (v := .slice m.va m.vn m.vc) rfl
                have d5 := cell_blk S4.out.2.1 5 (v := .int .i64 m.st) rfl
                have d6 := cell_blk S4.out.2.1 6 (v := .int .i64 m.frm) rfl
                have d7 := cell_blk S4.out.2.1 7 (v := .int .i64 m.to) rfl
                have d8 := cell_blk S4.out.2.1 8 (v := .bool m.opn) rfl
                have d9 := cell_blk S4.out.2.1 9 (v := .int .i64 m.tx) rfl
                have d10 := cell_blk S4.out.2.1 10 (v := .int .i64 m.ty) rfl
                obtain ⟨ah, hah⟩ : ∃ ah, d.cl.ahead m.cl = ah := ⟨_, rfl⟩
                have RA : Hid (∀ V, Calls Try.prog 41 #[d.agg, m.agg] V fun o w' => o = .returned (.bool ah) ∧ Kept (fun _ => False) V w') := fun V => by rw [← hah]; exact rAhead d m V
                have HAH : Hid (d.cl.ahead m.cl = ah) := hah
                unfold Cm.agg at RA
                clear hah
                go_wp2_with fail
                refine (RA.out _).mono ?_
                rintro o w5 ⟨rfl, K5⟩
                have S5 : Hid (w5.heap[E]? = some (.cells m.cs 33 (0, 0)) ∧ Kept (fun _ => False) wa w5 ∧ Reads w5 m.va m.vn m.vc m.val) := ⟨K5.get S4.out.2.1 (fun z => z), S4.out.2.2.1.trans K5 (fun _ _ z => z), Reads.kept K5 S4.out.2.2.2 (fun _ _ z => z)⟩
                clear K5 RA S4 f0 f1 f2 f3 f4 f5 f6 f7 f8 f9 f10 d0 d1 d2 d3 d4 d5 d6 d7 d8 d9 d10
                cases ah
                · go_wp2_with fail
                  go_roundw
                  case rel => exact ⟨j + 1, by go_num, by omega, S5, NXT.out (.inr (.inr (.inr HAH.out)))⟩
                  case measure => simp [intOf] <;> omega
                · go_wp2_with fail
                  go_ret
                  refine RetB.mk false rfl ⟨⟨fun z => (by cases z), fun ⟨c, x⟩ => ?_⟩, S5.out.2.1⟩
                  have e := only.out c x
                  subst e
                  exact absurd (x.2.2.2.2 j d.cl HD.out HPD.out HAH.out) jb
        · have j1 : ¬ (j : Int) < (n : Int) := by omega
          have MAY : Hid ((m.put = true ∨ m.cl.told = valV (ms.map Cm.cl) b none) ↔ ∃ c, XMay (ms.map Cm.cl) b (valV (ms.map Cm.cl) b none) i c) := by
            constructor
            · intro hv
              refine ⟨m.cl, XMay.self HM.out.1 HM.out.2 HPA.out ib hv (fun j' a ha hne hap haa => L.out j' ?_ a ha hne hap haa)⟩
              have := (List.getElem?_eq_some_iff.1 ha).1
              rw [List.length_map, H.out.1.len] at this
              omega
            · rintro ⟨c, x⟩
              have e := only.out c x
              subst e
              exact x.2.2.2.1
          have LV : Hid (valV (ms.map Cm.cl) b none = valOf' (ms.map Cm.cl) (lastF (ms.map Cm.cl) b (-1)) ∧ lastF (ms.map Cm.cl) b (-1) < (n : Int)) := by
            have hl := (lastF_lt (cs := ms.map Cm.cl) b (-1) (by omega) (by omega)).1
            rw [List.length_map, H.out.1.len] at hl
            exact ⟨valV_last b none (-1) rfl, hl⟩
          have d2 := cell_blk S.out.1 2 (v := .bool m.put) rfl
          obtain ⟨pu, hpu⟩ : ∃ pu, m.put = pu := ⟨_, rfl⟩
          rw [hpu] at d2
          have HPU : Hid (m.put = pu) := hpu
          clear hpu L
          cases pu
          · obtain ⟨l, hl⟩ : ∃ l, l = lastF (ms.map Cm.cl) b (-1) := ⟨_, rfl⟩
            have RL : Hid (Calls Try.prog 42 #[.pointer (some ⟨sb, 0, none⟩)] wo fun o w' => o = .returned (.int .i64 l) ∧ Kept (fun _ => False) wo w') := by
              rw [hl]
              exact rLast H.out.1 (H.out.2.1.k0 S.out.2.1) H.out.2.2.1 kb
            have HL : Hid (l = lastF (ms.map Cm.cl) b (-1)) := hl
            clear hl
            go_wp2_with fail
            refine RL.out.mono ?_
            rintro o w5 ⟨rfl, K5⟩
            have S5 : Hid (w5.heap[E]? = some (.cells m.cs 33 (0, 0)) ∧ Kept (fun _ => False) wa w5 ∧ Reads w5 m.va m.vn m.vc m.val) := ⟨K5.get S.out.1 (fun z => z), S.out.2.1.trans K5 (fun _ _ z => z), Reads.kept K5 S.out.2.2 (fun _ _ z => z)⟩
            have d5 := cell_blk S5.out.1 5 (v := .int .i64 m.st) rfl
            have d4 := cell_blk S5.out.1 4 (v := .slice m.va m.vn m.vc) rfl
            clear K5 RL S d2
            by_cases h76 : m.st = 76
            · rw [h76] at d5
              go_wp2_with fail
              go_ret
              refine RetB.mk (decide (l < 0)) rfl ⟨?_, S5.out.2.1⟩
              rw [← MAY.out, decide_eq_true_iff, HPU.out, LV.out.1, ← HL.out]
              have ht : m.cl.told = none := by unfold Cl.told; rw [if_pos (show m.cl.st = 76 from h76)]
              rw [ht]
              have hn := valOf'_none (cs := ms.map Cm.cl) (l := l) (by rw [List.length_map, H.out.1.len, HL.out]; exact LV.out.2)
              constructor
              · intro z
                exact .inr (hn.2 z).symm
              · rintro (z | z)
                · cases z
                · exact hn.1 z.symm
            · have h0 : m.st = 0 := by
                have hp := HPA.out
                have hq := HPU.out
                unfold Cl.part Cm.cl at hp
                simp only [hq] at hp
                simp at hp
                rcases hp.2 with z | z
                · exact z
                · exact absurd z h76
              have ht : m.cl.told = some m.val := by unfold Cl.told; rw [if_neg (show ¬ m.cl.st = 76 from h76)]; rfl
              rw [h0] at d5
              by_cases hln : l < 0
              · have l1 : ¬ 0 ≤ l := by omega
                have l2 : decide (0 ≤ l) = false := decide_eq_false l1
                go_upto_region 15 with fail
                go_quiet (fail)
                go_wp2_with fail
                go_ret
                refine RetB.mk false rfl ⟨⟨fun z => (by cases z), fun z => ?_⟩, S5.out.2.1.drewN _⟩
                rcases MAY.out.2 z with y | y
                · rw [HPU.out] at y; cases y
                · rw [ht, LV.out.1, ← HL.out] at y
                  unfold valOf' at y
                  rw [if_pos hln] at y
                  cases y
              · obtain ⟨ln, hle⟩ : ∃ ln : Nat, l = (ln : Int) := ⟨l.toNat, by omega⟩
                subst hle
                have ln1 : ln < n := by have h1 := LV.out.2; have h2 := HL.out; omega
                have ln2 : (ln : Int) < (n : Int) := by omega
                obtain ⟨b8, off8, ml, e8, hml, _, _, _, _, y4, _, _, _, _, _, _, rdl⟩ := (H.out.1.k0 (H.out.2.1.kept.trans S5.out.2.1 (fun _ _ z => z))).at ln1
                have e8 : b9 = b8 ∧ off9 = off8 := by simpa using e8
                obtain ⟨rfl, rfl⟩ := e8
                have t0 := cell_blk ((H.out.2.1.k0 S5.out.2.1).blk) 0 (v := .slice (some ⟨b9, off9, none⟩) n c0) rfl
                obtain ⟨qq, hq⟩ : ∃ qq, qq = decide (ml.val = m.val) := ⟨_, rfl⟩
                have eq : ((str ml.val).toList == (str m.val).toList) = qq := by rw [hq]; exact str_eq rdl.bytes S5.out.2.2.bytes
                have HQ : Hid (qq = decide (ml.val = m.val) ∧ valOf' (ms.map Cm.cl) (ln : Int) = some ml.val) := by
                  refine ⟨hq, ?_⟩
                  unfold valOf'
                  rw [if_neg (by omega), Int.toNat_natCast, List.getElem?_map, hml]
                  rfl
                have sr1 : (convert 29 9 (.slice ml.va ml.vn ml.vc)).run Try.prog w5 = .ok (.string (str ml.val)) w5 := rdl.string
                have sr2 : (convert 29 9 (.slice m.va m.vn m.vc)).run Try.prog w5 = .ok (.string (str m.val)) w5 := S5.out.2.2.string
                have sd1 : (convert 29 9 (.slice ml.va ml.vn ml.vc)).run Try.prog w5.drew = .ok (.string (str ml.val)) w5.drew := (Reads.kept ((Kept.refl (fun _ => False) w5).drew) rdl (fun _ _ z => z)).string
                have sd2 : (convert 29 9 (.slice m.va m.vn m.vc)).run Try.prog w5.drew = .ok (.string (str m.val)) w5.drew := (Reads.kept ((Kept.refl (fun _ => False) w5).drew) S5.out.2.2 (fun _ _ z => z)).string
                clear hq hml rdl
                go_upto_region 15 with fail
                go_region_held3 (fun V => V.cell? ⟨sb, 0, none⟩ = some (.slice (some ⟨b9, off9, none⟩) n c0) ∧ V.cell? ⟨E, 4, none⟩ = some (.slice m.va m.vn m.vc) ∧ V.cell? ⟨b9, off9 + ln * 11 + 4, none⟩ = some (.slice ml.va ml.vn ml.vc) ∧ (convert 29 9 (.slice ml.va ml.vn ml.vc)).run Try.prog V = .ok (.string (str ml.val)) V ∧ (convert 29 9 (.slice m.va m.vn m.vc)).run Try.prog V = .ok (.string (str m.val)) V) (go_keep) (fail)
                go_wp2_with fail
                go_ret
                refine RetB.mk qq rfl ⟨?_, S5.out.2.1.drewN _⟩
                rw [← MAY.out, HPU.out, ht, LV.out.1, ← HL.out, HQ.out.2, HQ.out.1, decide_eq_true_iff]
                constructor
                · intro z
                  rw [z]
                  exact .inr rfl
                · rintro (z | z)
                  · cases z
                  · injection z with z
                    exact z.symm
          · go_wp2_with fail
            go_ret
            exact RetB.mk true rfl ⟨⟨fun _ => MAY.out.1 (.inl HPU.out), fun _ => rfl⟩, S.out.2.1⟩
end Go.Proofs.Ytginpoofeliimaa
