import Derived.Test.YtginpoofeliimabVOwn
import Derived.Test.YtginpoofeliimabVAll
namespace Go.Proofs.Ytginpoofeliimab
open Go.RowKit 

theorem pn_pos {m : Cm} : 0 < m.pn ↔ m.cl.part = true := by
  unfold Cm.pn
  cases m.cl.part <;> cases m.cl.open_ <;> simp
/-- How many parts are among the first. -/
def pcnt (ms : List Cm) (i : Nat) : Nat := (((ms.map Cm.cl).take i).filter Cl.part).length
theorem pcnt_le (ms : List Cm) (i : Nat) : pcnt ms i ≤ i := by
  unfold pcnt
  have := List.length_filter_le Cl.part ((ms.map Cm.cl).take i)
  rw [List.length_take] at this
  omega
theorem pcnt_succ {ms : List Cm} {i : Nat} {m : Cm} (h : ms[i]? = some m) : pcnt ms (i + 1) = pcnt ms i + (if m.cl.part = true then 1 else 0) := by
  unfold pcnt
  have e : (ms.map Cm.cl)[i]? = some m.cl := by rw [List.getElem?_map, h]; rfl
  rw [List.take_add_one, e, List.filter_append, List.length_append]
  congr 1
  show (List.filter Cl.part [m.cl]).length = _
  by_cases q : m.cl.part = true
  · simp [q]
  · simp [q]
theorem pcnt_all (ms : List Cm) : pcnt ms ms.length = ((ms.map Cm.cl).filter Cl.part).length := by
  unfold pcnt
  rw [List.take_of_length_le (by rw [List.length_map]; exact Nat.le_refl _)]
theorem litA (w : World) : ∃ m1 m2 : Cm, CRd (((w.alloc (.cells #[.int .u8 1] 5)).alloc (.cells #[.int .u8 1] 5)).alloc (.cells #[.int .i64 0, .int .i64 0, .bool true, .string (ByteArray.mk #[]), .slice (some ⟨w.heap.size, 0, none⟩) 1 1, .int .i64 0, .int .i64 0, .int .i64 1, .bool false, .int .i64 0, .int .i64 0, .int .i64 0, .int .i64 0, .bool false, .string (ByteArray.mk #[]), .slice (some ⟨w.heap.size + 1, 0, none⟩) 1 1, .int .i64 0, .int .i64 2, .int .i64 3, .bool false, .int .i64 0, .int .i64 0] 28)) (some ⟨w.heap.size + 2, 0, none⟩) 2 2 [m1, m2] ∧ [m1, m2].map Cm.cl = clA := by
  refine ⟨⟨0, 0, true, ⟨#[]⟩, some ⟨w.heap.size, 0, none⟩, 1, 1, 0, 0, 1, false, 0, 0, [1]⟩, ⟨0, 0, false, ⟨#[]⟩, some ⟨w.heap.size + 1, 0, none⟩, 1, 1, 0, 2, 3, false, 0, 0, [1]⟩, ?_, rfl⟩
  have hz : ((w.alloc (.cells #[.int .u8 1] 5)).alloc (.cells #[.int .u8 1] 5)).heap.size = w.heap.size + 2 := by rw [alloc_size, alloc_size]
  have rb : ∀ (W : World) (b : Nat), W.heap[b]? = some (.cells #[.int .u8 1] 5 (0, 0)) → Reads W (some ⟨b, 0, none⟩) 1 1 [1] := fun W b h => by
    refine ⟨rfl, Nat.le_refl _, by unfold maxLen; omega, fun c hc => by rw [List.mem_singleton.1 hc]; omega, fun _ => ⟨b, 0, rfl, fun i hi => ?_⟩⟩
    have : i = 0 := by omega
    subst this
    exact cell_blk h 0 rfl
  refine CRow.rd (b0 := 0) ⟨rfl, ⟨rfl, .inr ⟨w.heap.size + 2, 2, _, rfl, Nat.zero_le _, by rw [← hz]; exact heap_alloc_new _ _, Nat.le_refl _, by unfold maxLen; omega, rfl, rfl⟩⟩⟩ (fun m hm => ?_)
  simp at hm
  rcases hm with rfl | rfl
  · exact rb _ _ (alloc_old _ (alloc_old _ (alloc_new _ _)))
  · exact rb _ _ (alloc_old _ (alloc_new2 _ _ _ _))
set_option maxRecDepth 100000 in
set_option maxHeartbeats 8000000 in
theorem searchW {w : World} {p0 : Option Addr} {n c0 : Nat} {ms : List Cm} (cr : CRd w p0 n c0 ms) (hb : n ≤ 1300000000000) (hv : ∀ m ∈ ms, m.vn + 1 ≤ 140737488355328) : Calls Try.prog 3 #[.slice p0 n c0] w fun o w' => o = .returned (.bool true) ∧ Kept (fun _ => False) w w' := by
  have rm := cr.room
  have sm := cr.small
  unfold maxLen at sm
  have hn : ms.length = n := cr.len
  have H : Hid (CRd w p0 n c0 ms ∧ ∀ m ∈ ms, m.vn + 1 ≤ 140737488355328) := ⟨cr, hv⟩
  obtain ⟨m1, m2, cA, eA⟩ := litA w
  have HA : Hid (CRd (((w.alloc (.cells #[.int .u8 1] 5)).alloc (.cells #[.int .u8 1] 5)).alloc (.cells #[.int .i64 0, .int .i64 0, .bool true, .string (ByteArray.mk #[]), .slice (some ⟨w.heap.size, 0, none⟩) 1 1, .int .i64 0, .int .i64 0, .int .i64 1, .bool false, .int .i64 0, .int .i64 0, .int .i64 0, .int .i64 0, .bool false, .string (ByteArray.mk #[]), .slice (some ⟨w.heap.size + 1, 0, none⟩) 1 1, .int .i64 0, .int .i64 2, .int .i64 3, .bool false, .int .i64 0, .int .i64 0] 28)) (some ⟨w.heap.size + 2, 0, none⟩) 2 2 [m1, m2] ∧ [m1, m2].map Cm.cl = clA) := ⟨cA, eA⟩
  clear cr hv cA eA
  go_enter Try.func3, Try.ntmps3
  go_wp2_with fail
  refine (one HA.out.1 (by omega)).mono ?_
  rintro o w1 ⟨q1, k1, c1, ok1, er1, rfl, Q1⟩
  obtain ⟨R1, os1, nr1⟩ := Q1.ans
  rw [HA.out.2] at os1
  obtain ⟨rfl, rfl, rfl⟩ := takenA os1
  have ek : k1 = 2 := nr1.len.symm
  subst ek
  have K1 : Hid (Kept (fun _ => False) w w1) := ((((Kept.refl _ _).alloc _).alloc _).alloc _).trans Q1.k (fun _ _ z => z)
  obtain ⟨g1, x1, rfl, hx1, cx1⟩ := nr1.at (show 0 < 2 by omega)
  have ex1 : x1 = 0 := by simpa using hx1.symm
  subst ex1
  clear Q1 os1 nr1 HA hx1
  go_wp2_with fail
  refine (tOwnCalls (H.out.1.k0 K1.out) hb H.out.2).mono ?_
  rintro o w2 ⟨p2, c2, rfl, OC2⟩
  obtain ⟨L, ql, el⟩ := OC2.ok
  have Q2 : Hid (QR w1.heap.size w2 p2 n c2 L ∧ L.map Cm.cl = ms.map Cm.cl ∧ Kept (fun _ => False) w w2) := ⟨ql, by rw [el, List.take_of_length_le (by omega)], K1.out.trans OC2.kept (fun _ _ z => z)⟩
  clear OC2 ql el cx1
  go_wp2_with fail
  refine (one Q2.out.1.crd hb).mono ?_
  rintro o w3 ⟨q3, k3, c3, ok, er, rfl, Q3⟩
  obtain ⟨R, os, nr⟩ := Q3.ans
  rw [Q2.out.2.1] at os
  have HO : Hid (OneS (ms.map Cm.cl) R ok er ∧ NRow w2.heap.size w3 q3 k3 c3 R ∧ k3 ≤ 24) := ⟨os, nr, Q3.few⟩
  have S0 : Hid (Kept (fun _ => False) w w3 ∧ ∀ c ∈ (ms.map Cm.cl).take 0, c.bad = false) := ⟨Q2.out.2.2.trans Q3.k (fun _ _ z => z), fun c hc => absurd hc (by simp)⟩
  clear Q3 os nr Q2
  have rk3 := own_room HO.out.2.1.row
  unfold maxLen at rk3
  go_wp2_with fail
  go_loopw [10, 12, 50] (fun u10 _ u50 wy => ∃ i : Nat, u50 = .int .i64 (i : Int) ∧ u10 = .int .i64 (pcnt ms i : Int) ∧ i ≤ n ∧ Hid (Kept (fun _ => False) w3 wy ∧ ∀ c ∈ (ms.map Cm.cl).take i, c.bad = false)) (fun _ _ u50 _ => n - (intOf u50).toNat)
  case atStart => exact ⟨0, rfl, rfl, Nat.zero_le _, Kept.refl _ _, S0.out.2⟩
  case round =>
    obtain ⟨i, rfl, rfl, hi, S⟩ := hrel
    obtain ⟨wo, hwo⟩ : ∃ wo, wo = wr := ⟨_, rfl⟩
    rw [← hwo] at S ⊢
    clear hwo
    have pl := pcnt_le ms i
    have KO : Hid (Kept (fun _ => False) w wo) := S0.out.1.trans S.out.1 (fun _ _ z => z)
    by_cases hlt : i < n
    · have i1 : (i : Int) < (n : Int) := by omega
      obtain ⟨b9, off9, m, rfl, hm, y0, y1, y2, y3, y4, y5, y6, y7, y8, y9, y10, _⟩ := (H.out.1.k0 KO.out).at hlt
      obtain ⟨W, hW⟩ : ∃ W, W = wo.alloc (.cells m.cs 28) := ⟨_, rfl⟩
      obtain ⟨E, hE⟩ : ∃ E, E = wo.heap.size := ⟨_, rfl⟩
      have T : Hid (W.heap[E]? = some (.cells m.cs 28 (0, 0)) ∧ Kept (fun _ => False) w3 W ∧ Kept (fun _ => False) w W) := ⟨by rw [hW, hE]; exact alloc_new _ _, by rw [hW]; exact S.out.1.alloc _, by rw [hW]; exact KO.out.alloc _⟩
      have EWH : Hid (W = wo.alloc (.cells #[.int .i64 m.client, .int .i64 m.op, .bool m.put, .string m.key, .slice m.va m.vn m.vc, .int .i64 m.st, .int .i64 m.frm, .int .i64 m.to, .bool m.opn, .int .i64 m.tx, .int .i64 m.ty] 28) ∧ E = wo.heap.size) := ⟨hW, hE⟩
      have HM : Hid (ms[i]? = some m ∧ (ms.map Cm.cl)[i]? = some m.cl) := ⟨hm, by rw [List.getElem?_map, hm]; rfl⟩
      clear hW hE hm
      go_upto_region 10 with fail
      rw [← EWH.out.1, ← EWH.out.2]
      clear EWH y0 y1 y2 y3 y4 y5 y6 y7 y8 y9 y10
      have d0 := cell_blk T.out.1 0 (v := .int .i64 m.client) rfl
      have d1 := cell_blk T.out.1 1 (v := .int .i64 m.op) rfl
      have d2 := cell_blk T.out.1 2 (v := .bool m.put) rfl
      have d3 := cell_blk T.out.1 3 (v := .string m.key) rfl
      have d4 := cell_blk T.out.1 4 (v := .slice m.va m.vn m.vc) rfl
      have d5 := cell_blk T.out.1 5 (v := .int .i64 m.st) rfl
      have d6 := cell_blk T.out.1 6 (v := .int .i64 m.frm) rfl
      have d7 := cell_blk T.out.1 7 (v := .int .i64 m.to) rfl
      have d8 := cell_blk T.out.1 8 (v := .bool m.opn) rfl
      have d9 := cell_blk T.out.1 9 (v := .int .i64 m.tx) rfl
      have d10 := cell_blk T.out.1 10 (v := .int .i64 m.ty) rfl
      have BAD : Hid (m.cl.bad = true → R = [] ∧ ok = false ∧ er = 1 ∧ k3 = 0) := fun z => by
        obtain ⟨e1, e2, e3⟩ := HO.out.1.bad ⟨m.cl, List.mem_of_getElem? HM.out.2, z⟩
        refine ⟨e1, e2, e3, ?_⟩
        have := HO.out.2.1.len
        rw [e1] at this
        exact this.symm
      have GOOD : Hid (m.cl.bad = false → ∀ c ∈ (ms.map Cm.cl).take (i + 1), c.bad = false) := fun z c hc => by
        rw [List.take_add_one, HM.out.2] at hc
        rcases List.mem_append.1 hc with y | y
        · exact S.out.2 c y
        · have : c = m.cl := by simpa using y
          rw [this]
          exact z
      obtain ⟨pa, hpa⟩ : ∃ pa, pa = m.pn := ⟨_, rfl⟩
      have RP : Hid (∀ V, Calls Try.prog 6 #[m.agg] V fun o w' => o = .returned (.int .i64 pa) ∧ Kept (fun _ => False) V w') := fun V => by rw [hpa]; exact tPart m V
      have PC : Hid ((0 < pa → pcnt ms (i + 1) = pcnt ms i + 1) ∧ (¬ 0 < pa → pcnt ms (i + 1) = pcnt ms i)) := by
        rw [hpa]
        have := pcnt_succ HM.out.1
        refine ⟨fun z => ?_, fun z => ?_⟩
        · rw [if_pos (pn_pos.1 z)] at this
          exact this
        · rw [if_neg (fun y => z (pn_pos.2 y))] at this
          exact this
      unfold Cm.agg at RP
      obtain ⟨pc, hpc⟩ : ∃ pc, pc = pcnt ms i := ⟨_, rfl⟩
      rw [← hpc] at pl PC ⊢
      have wp1 : wrap64 ((pc : Int) + 1) = (pc : Int) + 1 := by unfold wrap64; omega
      clear hpa hpc
      by_cases hf : m.frm < 0
      · have f1 : decide (m.frm < 0) = true := decide_eq_true hf
        obtain ⟨rfl, rfl, rfl, rfl⟩ := BAD.out (by unfold Cl.bad; rw [show decide (m.cl.frm < 0) = true from f1]; rfl)
        go_wp2_with fail
        go_ret
        exact ⟨by first | rfl | simp, T.out.2.2⟩
      · have f1 : decide (m.frm < 0) = false := decide_eq_false hf
        by_cases ht : m.to = -1
        · rw [ht] at d7 RP
          have NBD : m.cl.bad = false := by unfold Cl.bad; rw [show decide (m.cl.frm < 0) = false from f1, show m.cl.to = -1 from ht]; rfl
          have GD : Hid (∀ c ∈ (ms.map Cm.cl).take (i + 1), c.bad = false) := GOOD.out NBD
          clear NBD GOOD BAD ht
          go_wp2_with fail
          refine (RP.out _).mono ?_
          rintro o w5 ⟨rfl, K5⟩
          have K6 : Hid (Kept (fun _ => False) w3 w5) := T.out.2.1.trans K5 (fun _ _ z => z)
          clear K5 RP d0 d1 d2 d3 d4 d5 d6 d7 d8 d9 d10
          by_cases ps : 0 < pa
          · have ps' : decide (0 < pa) = true := decide_eq_true ps
            have PE : pcnt ms (i + 1) = pc + 1 := PC.out.1 ps
            go_wp2_with fail
            go_roundw
            case rel => exact ⟨i + 1, by go_num, by rw [PE]; go_num, by omega, K6.out, GD.out⟩
            case measure => simp [intOf] <;> omega
          · have ps' : decide (0 < pa) = false := decide_eq_false ps
            have PE : pcnt ms (i + 1) = pc := PC.out.2 (by first | exact ps | omega)
            go_wp2_with fail
            go_roundw
            case rel => exact ⟨i + 1, by go_num, by rw [PE], by omega, K6.out, GD.out⟩
            case measure => simp [intOf] <;> omega
        · have e7 : (m.to == -1) = false := by simp [ht]
          have e7' : decide (m.to = -1) = false := decide_eq_false ht
          by_cases hle : m.to ≤ m.frm
          · have l1 : decide (m.to ≤ m.frm) = true := decide_eq_true hle
            obtain ⟨rfl, rfl, rfl, rfl⟩ := BAD.out (by unfold Cl.bad; rw [show decide (m.cl.to = -1) = false from e7', show decide (m.cl.to ≤ m.cl.frm) = true from l1]; simp)
            go_wp2_with fail
            go_ret
            exact ⟨by first | rfl | simp, T.out.2.2⟩
          · have l1 : decide (m.to ≤ m.frm) = false := decide_eq_false hle
            have NBD : m.cl.bad = false := by unfold Cl.bad; rw [show decide (m.cl.frm < 0) = false from f1, show decide (m.cl.to ≤ m.cl.frm) = false from l1]; simp
            have GD : Hid (∀ c ∈ (ms.map Cm.cl).take (i + 1), c.bad = false) := GOOD.out NBD
            clear NBD GOOD BAD
            go_wp2_with fail
            refine (RP.out _).mono ?_
            rintro o w5 ⟨rfl, K5⟩
            have K6 : Hid (Kept (fun _ => False) w3 w5) := T.out.2.1.trans K5 (fun _ _ z => z)
            clear K5 RP d0 d1 d2 d3 d4 d5 d6 d7 d8 d9 d10
            by_cases ps : 0 < pa
            · have ps' : decide (0 < pa) = true := decide_eq_true ps
              have PE : pcnt ms (i + 1) = pc + 1 := PC.out.1 ps
              go_wp2_with fail
              go_roundw
              case rel => exact ⟨i + 1, by go_num, by rw [PE]; go_num, by omega, K6.out, GD.out⟩
              case measure => simp [intOf] <;> omega
            · have ps' : decide (0 < pa) = false := decide_eq_false ps
              have PE : pcnt ms (i + 1) = pc := PC.out.2 (by first | exact ps | omega)
              go_wp2_with fail
              go_roundw
              case rel => exact ⟨i + 1, by go_num, by rw [PE], by omega, K6.out, GD.out⟩
              case measure => simp [intOf] <;> omega
    · have i1 : ¬ (i : Int) < (n : Int) := by omega
      have ei : i = ms.length := by omega
      have NB : Hid (∀ c ∈ ms.map Cm.cl, c.bad = false) := by
        have := S.out.2
        rw [ei, List.take_of_length_le (by rw [List.length_map]; exact Nat.le_refl _)] at this
        exact this
      obtain ⟨pc, hpc⟩ : ∃ pc, pc = pcnt ms i := ⟨_, rfl⟩
      have PF : Hid (pc = ((ms.map Cm.cl).filter Cl.part).length) := by
        unfold Hid
        rw [hpc, ei, pcnt_all]
      rw [← hpc] at pl ⊢
      clear hpc ei
      by_cases hh : 24 < pc
      · have h1 : (24 : Int) < (pc : Int) := by omega
        obtain ⟨e1, rfl, rfl⟩ := HO.out.1.heavy NB.out (by rw [← PF.out]; exact hh)
        have e3 : k3 = 0 := by
          have := HO.out.2.1.len
          rw [e1] at this
          exact this.symm
        subst e3
        go_wp2_with fail
        go_ret
        exact ⟨by first | rfl | simp, KO.out⟩
      · have h1 : ¬ (24 : Int) < (pc : Int) := by omega
        obtain ⟨rfl, gy, gn⟩ := HO.out.1.good NB.out (by rw [← PF.out]; omega)
        have GY : Hid ((ok = true → XRun (ms.map Cm.cl) R [] none) ∧ (ok = false → R = [] ∧ ∀ o', ¬ XRun (ms.map Cm.cl) o' [] none)) := ⟨fun z => (gy z).1, gn⟩
        clear gy gn
        go_wp2_with fail
        refine (tExplained (H.out.1.k0 KO.out) hb H.out.2 NB.out (by rw [← PF.out]; omega)).mono ?_
        rintro o w5 ⟨v, rfl, hv', K5⟩
        have ev : v = ok := by
          rw [Bool.eq_iff_iff, hv']
          constructor
          · rintro ⟨o', r⟩
            cases q : ok
            · exact absurd r ((GY.out.2 q).2 o')
            · rfl
          · intro z
            exact ⟨R, GY.out.1 z⟩
        subst ev
        have K6 : Hid (Kept (fun _ => False) w w5 ∧ Kept (fun _ => False) w3 w5) := ⟨KO.out.trans K5 (fun _ _ z => z), S.out.1.trans K5 (fun _ _ z => z)⟩
        clear hv' K5
        cases v
        · have e3 : k3 = 0 := by
            have := HO.out.2.1.len
            rw [(GY.out.2 rfl).1] at this
            exact this.symm
          subst e3
          go_wp2_with fail
          go_ret
          exact ⟨by first | rfl | simp, K6.out.1⟩
        · have RUN : Hid (XRun (ms.map Cm.cl) R [] none) := GY.out.1 rfl
          go_wp2_with fail
          refine (tExplains (H.out.1.k0 K6.out.1) hb (HO.out.2.1.k0 K6.out.2) RUN.out HO.out.2.2).mono ?_
          rintro o w7 ⟨rfl, K7⟩
          have K8 : Hid (Kept (fun _ => False) w w7) := K6.out.1.trans K7 (fun _ _ z => z)
          clear K7
          go_wp2_with fail
          go_ret
          exact ⟨by first | rfl | simp, K8.out⟩
end Go.Proofs.Ytginpoofeliimab
