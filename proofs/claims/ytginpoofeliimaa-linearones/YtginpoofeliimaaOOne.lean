import Derived.Test.YtginpoofeliimaaODown
import Derived.Test.YtginpoofeliimaaNOne
import Derived.Test.YtginpoofeliimaaNRows
namespace Go.Proofs.Ytginpoofeliimaa
open Go.RowKit 

theorem Try.info4c : (Try.prog.info? 4).map (fun i => (i.zero, i.size, i.bytes)) = some (some (.bool false), 1, 1) := by kernel_rfl
theorem Try.underlying60b : Try.prog.underlying 60 = some (.slice 4) := by kernel_rfl
/-- How many parts are among the first. -/
def pcnt (ms : List Cm) (i : Nat) : Nat := (((ms.map Cm.cl).take i).filter Cl.part).length
theorem pcnt_le (ms : List Cm) (i : Nat) : pcnt ms i ≤ i := by
  unfold pcnt
  have := List.length_filter_le Cl.part ((ms.map Cm.cl).take i)
  rw [List.length_take] at this
  omega
theorem pcnt_succ {ms : List Cm} {i : Nat} {m : Cm} (h : ms[i]? = some m) : pcnt ms (i + 1) = pcnt ms i + (if m.cl.part = true then 1 else 0) := by
  unfold pcnt
  have e : (ms.map Cm.cl)[i]? = some m.cl := by rw [List.getElem?_map, h]; rfl
  rw [List.take_add_one, e, List.filter_append, List.length_append]
  congr 1
  show (List.filter Cl.part [m.cl]).length = _
  by_cases q : m.cl.part = true
  · simp [q]
  · simp [q]
theorem pcnt_all (ms : List Cm) : pcnt ms ms.length = ((ms.map Cm.cl).filter Cl.part).length := by
  unfold pcnt
  rw [List.take_of_length_le (by rw [List.length_map]; exact Nat.le_refl _)]
theorem one_heavy2 {cs : List Cl} (nb : ∀ c ∈ cs, c.bad = false) (many : 24 < (cs.filter Cl.part).length) : OneS cs [] false 4 :=
  ⟨fun ⟨c, hc, z⟩ => (by rw [nb c hc] at z; cases z), fun _ _ => ⟨rfl, rfl, rfl⟩, fun _ z => (by omega)⟩
theorem SS.start {w0 w1 : World} {p0 : Option Addr} {n c0 : Nat} (hk : Kept (fun _ => False) w0 w1) (hn : n ≤ maxLen) {C : Array Value} (hC : C.toList = boolsB n []) : SS w0 ((w1.alloc (.cells C 4)).alloc (.cells #[.slice p0 n c0, .slice none 0 0, .slice (some ⟨w1.heap.size, 0, none⟩) n n] 62)) (w1.heap.size + 1) p0 n c0 none 0 0 [] (some ⟨w1.heap.size, 0, none⟩) n := by
  refine ⟨(hk.alloc _).alloc _, by have := hk.size; omega, alloc_new2 _ _ _ _, NRow.nil _ _, ?_⟩
  have hl : C.size = n := by rw [← Array.length_toList, hC]; simp [boolsB]
  refine ⟨by simp [boolsB], .inr ⟨w1.heap.size, n, C, rfl, hk.size, alloc_old _ (alloc_new _ _), Nat.le_refl _, hn, by rw [hl, Nat.mul_one], ?_⟩⟩
  rw [hC, List.take_of_length_le (by simp [boolsB])]
set_option maxRecDepth 100000 in
set_option maxHeartbeats 8000000 in
theorem rOne {w : World} {p0 : Option Addr} {n c0 : Nat} {ms : List Cm} (cr : CRd w p0 n c0 ms) (hb : n ≤ 1300000000000) : Calls Try.prog 17 #[.slice p0 n c0] w (RetO (OneQ ms w)) := by
  have rm := cr.room
  have sm := cr.small
  unfold maxLen at sm
  have hn : ms.length = n := cr.len
  have H : Hid (CRd w p0 n c0 ms) := cr
  have L0 : Hid (Kept (fun _ => False) w w ∧ ∀ c ∈ (ms.map Cm.cl).take 0, c.bad = false) := ⟨Kept.refl _ _, fun c hc => absurd hc (by simp)⟩
  have mB : ∀ W : World, (Instr.makeSlice 60 (.int .i64 (n : Int)) (.int .i64 (n : Int))).run Try.prog W = .ok (.slice (some ⟨W.heap.size, 0, none⟩) n n) (W.alloc (.cells (madeCells #[.bool false] n) 4)) := run_make_row' 60 4 (.bool false) 1 Try.underlying60b Try.info4c rfl .i64 .i64 n (by omega) (by omega)
  obtain ⟨C, hC⟩ : ∃ C, C = madeCells #[.bool false] n := ⟨_, rfl⟩
  have HC : Hid (C.toList = boolsB n []) := by
    unfold Hid
    rw [hC, vrow_made]
    unfold vrow boolsB
    simp
  rw [← hC] at mB
  clear cr hC
  go_enter Try.func17, Try.ntmps17
  go_wp2_with fail
  go_loopw [5, 7, 11] (fun u5 _ u11 wy => ∃ i : Nat, u11 = .int .i64 (i : Int) ∧ u5 = .int .i64 (pcnt ms i : Int) ∧ i ≤ n ∧ Hid (Kept (fun _ => False) w wy ∧ ∀ c ∈ (ms.map Cm.cl).take i, c.bad = false)) (fun _ _ u11 _ => n - (intOf u11).toNat)
  case atStart => exact ⟨0, rfl, rfl, Nat.zero_le _, L0⟩
  case round =>
    obtain ⟨i, rfl, rfl, hi, S⟩ := hrel
    clear L0
    obtain ⟨wo, hwo⟩ : ∃ wo, wo = wr := ⟨_, rfl⟩
    rw [← hwo] at S ⊢
    clear hwo
    have pl := pcnt_le ms i
    by_cases hlt : i < n
    · have i1 : (i : Int) < (n : Int) := by omega
      obtain ⟨b9, off9, m, rfl, hm, y0, y1, y2, y3, y4, y5, y6, y7, y8, y9, y10, _⟩ := (H.out.k0 S.out.1).at hlt
      obtain ⟨W, hW⟩ : ∃ W, W = wo.alloc (.cells m.cs 33) := ⟨_, rfl⟩
      obtain ⟨E, hE⟩ : ∃ E, E = wo.heap.size := ⟨_, rfl⟩
      have T : Hid (W.heap[E]? = some (.cells m.cs 33 (0, 0)) ∧ Kept (fun _ => False) w W) := ⟨by rw [hW, hE]; exact alloc_new _ _, by rw [hW]; exact S.out.1.alloc _⟩
      have EWH : Hid (W = wo.alloc (.cells #[.int .i64 m.client, .int .i64 m.op, .bool m.put, .string m.key, .slice m.va m.vn m.vc, .int .i64 m.st, .int .i64 m.frm, .int .i64 m.to, .bool m.opn, .int .i64 m.tx, .int .i64 m.ty] 33) ∧ E = wo.heap.size) := ⟨hW, hE⟩
      have HM : Hid (ms[i]? = some m ∧ (ms.map Cm.cl)[i]? = some m.cl) := ⟨hm, by rw [List.getElem?_map, hm]; rfl⟩
      clear hW hE hm
      go_upto_region 5 with fail
      rw [← EWH.out.1, ← EWH.out.2]
      clear EWH y0 y1 y2 y3 y4 y5 y6 y7 y8 y9 y10
      have d0 := cell_blk T.out.1 0 (v := .int .i64 m.client) rfl
      have d1 := cell_blk T.out.1 1 (v := .int .i64 m.op) rfl
      have d2 := cell_blk T.out.1 2 (v := .bool m.put) rfl
      have d3 := cell_blk T.out.1 3 (v := .string m.key) rfl
      have d4 := cell_blk T.out.1 4 (v := .slice m.va m.vn m.vc) rfl
      have d5 := cell_blk T.out.1 5 (v := .int .i64 m.st) rfl
      have d6 := cell_blk T.out.1 6 (v := .int .i64 m.frm) rfl
      have d7 := cell_blk T.out.1 7 (v := .int .i64 m.to) rfl
      have d8 := cell_blk T.out.1 8 (v := .bool m.opn) rfl
      have d9 := cell_blk T.out.1 9 (v := .int .i64 m.tx) rfl
      have d10 := cell_blk T.out.1 10 (v := .int .i64 m.ty) rfl
      have BAD : Hid (m.cl.bad = true → OneQ ms w none 0 0 false 1 W) := fun z => ⟨⟨[], one_bad (List.mem_of_getElem? HM.out.2) z, NRow.nil _ _⟩, by omega, T.out.2⟩
      have GOOD : Hid (m.cl.bad = false → ∀ c ∈ (ms.map Cm.cl).take (i + 1), c.bad = false) := fun z c hc => by
        rw [List.take_add_one, HM.out.2] at hc
        rcases List.mem_append.1 hc with y | y
        · exact S.out.2 c y
        · have : c = m.cl := by simpa using y
          rw [this]
          exact z
      obtain ⟨pa, hpa⟩ : ∃ pa, m.cl.part = pa := ⟨_, rfl⟩
      have RP : Hid (∀ V, Calls Try.prog 27 #[m.agg] V fun o w' => o = .returned (.bool pa) ∧ Kept (fun _ => False) V w') := fun V => by rw [← hpa]; exact rPart m V
      have PC : Hid (pcnt ms (i + 1) = pcnt ms i + (if pa = true then 1 else 0)) := by rw [← hpa]; exact pcnt_succ HM.out.1
      unfold Cm.agg at RP
      have wp1 : wrap64 ((pcnt ms i : Int) + 1) = (pcnt ms i : Int) + 1 := by unfold wrap64; omega
      clear hpa
      obtain ⟨pc, hpc⟩ : ∃ pc, pc = pcnt ms i := ⟨_, rfl⟩
      rw [← hpc] at pl wp1 PC ⊢
      clear hpc
      by_cases hf : m.frm < 0
      · have f1 : decide (m.frm < 0) = true := decide_eq_true hf
        go_wp2_with fail
        go_ret3
        exact RetO.mk none 0 0 false 1 rfl (BAD.out (by unfold Cl.bad; rw [show decide (m.cl.frm < 0) = true from f1]; rfl))
      · have f1 : decide (m.frm < 0) = false := decide_eq_false hf
        by_cases ht : m.to = -1
        · rw [ht] at d7 RP
          have NBD : m.cl.bad = false := by unfold Cl.bad; rw [show decide (m.cl.frm < 0) = false from f1, show m.cl.to = -1 from ht]; rfl
          have GD : Hid (∀ c ∈ (ms.map Cm.cl).take (i + 1), c.bad = false) := GOOD.out NBD
          clear NBD GOOD BAD ht
          go_wp2_with fail
          refine (RP.out _).mono ?_
          rintro o w2 ⟨rfl, K2⟩
          have K3 : Hid (Kept (fun _ => False) w w2) := T.out.2.trans K2 (fun _ _ z => z)
          clear K2 RP d0 d1 d2 d3 d4 d5 d6 d7 d8 d9 d10
          cases pa
          · have PE : pcnt ms (i + 1) = pc := PC.out
            go_wp2_with fail
            go_roundw
            case rel => exact ⟨i + 1, by go_num, by rw [PE], by omega, K3.out, GD.out⟩
            case measure => simp [intOf] <;> omega
          · have PE : pcnt ms (i + 1) = pc + 1 := PC.out
            go_wp2_with fail
            go_roundw
            case rel => exact ⟨i + 1, by go_num, by rw [PE]; go_num, by omega, K3.out, GD.out⟩
            case measure => simp [intOf] <;> omega
        · have e7 : (m.to == -1) = false := by simp [ht]
          have e7' : decide (m.to = -1) = false := decide_eq_false ht
          by_cases hle : m.to ≤ m.frm
          · have l1 : decide (m.to ≤ m.frm) = true := decide_eq_true hle
            go_wp2_with fail
            go_ret3
            exact RetO.mk none 0 0 false 1 rfl (BAD.out (by unfold Cl.bad; rw [show decide (m.cl.to = -1) = false from decide_eq_false ht, show decide (m.cl.to ≤ m.cl.frm) = true from l1]; simp))
          · have l1 : decide (m.to ≤ m.frm) = false := decide_eq_false hle
            have NBD : m.cl.bad = false := by unfold Cl.bad; rw [show decide (m.cl.frm < 0) = false from f1, show decide (m.cl.to ≤ m.cl.frm) = false from l1]; simp
            have GD : Hid (∀ c ∈ (ms.map Cm.cl).take (i + 1), c.bad = false) := GOOD.out NBD
            clear NBD GOOD BAD
            go_wp2_with fail
            refine (RP.out _).mono ?_
            rintro o w2 ⟨rfl, K2⟩
            have K3 : Hid (Kept (fun _ => False) w w2) := T.out.2.trans K2 (fun _ _ z => z)
            clear K2 RP d0 d1 d2 d3 d4 d5 d6 d7 d8 d9 d10
            cases pa
            · have PE : pcnt ms (i + 1) = pc := PC.out
              go_wp2_with fail
              go_roundw
              case rel => exact ⟨i + 1, by go_num, by rw [PE], by omega, K3.out, GD.out⟩
              case measure => simp [intOf] <;> omega
            · have PE : pcnt ms (i + 1) = pc + 1 := PC.out
              go_wp2_with fail
              go_roundw
              case rel => exact ⟨i + 1, by go_num, by rw [PE]; go_num, by omega, K3.out, GD.out⟩
              case measure => simp [intOf] <;> omega
    · have i1 : ¬ (i : Int) < (n : Int) := by omega
      have ei : i = ms.length := by omega
      have NB : Hid (∀ c ∈ ms.map Cm.cl, c.bad = false) := by
        have := S.out.2
        rw [ei, List.take_of_length_le (by rw [List.length_map]; exact Nat.le_refl _)] at this
        exact this
      obtain ⟨pc, hpc⟩ : ∃ pc, pc = pcnt ms i := ⟨_, rfl⟩
      have PF : Hid (pc = ((ms.map Cm.cl).filter Cl.part).length) := by
        unfold Hid
        rw [hpc, ei, pcnt_all]
      rw [← hpc] at pl ⊢
      clear hpc ei
      by_cases hv : 24 < pc
      · have h1 : (24 : Int) < (pc : Int) := by omega
        have G : Hid (OneQ ms w none 0 0 false 4 wo) := ⟨⟨[], one_heavy2 NB.out (by rw [← PF.out]; exact hv), NRow.nil _ _⟩, by omega, S.out.1⟩
        go_wp2_with fail
        go_ret3
        exact RetO.mk none 0 0 false 4 rfl G.out
      · have h1 : ¬ (24 : Int) < (pc : Int) := by omega
        have ST : Hid (SS w ((wo.alloc (.cells C 4)).alloc (.cells #[.slice p0 n c0, .slice none 0 0, .slice (some ⟨wo.heap.size, 0, none⟩) n n] 62)) (wo.heap.size + 1) p0 n c0 none 0 0 [] (some ⟨wo.heap.size, 0, none⟩) n) := SS.start S.out.1 (by unfold maxLen; omega) HC.out
        go_wp2_with fail
        refine (rDown H.out NB.out (left2 (ms.map Cm.cl) []) ST.out (XPre.nil _) (Nat.le_refl _) (by rw [left2_nil, ← PF.out]; omega)).mono ?_
        rintro o w5 ⟨ok, rfl, D5⟩
        obtain ⟨q5, k5, kc5, R5, lq, s5, k524⟩ := D5.ans
        have OS : Hid (OneS (ms.map Cm.cl) R5 ok 0) := lq.ones NB.out (by rw [← PF.out]; omega)
        cases ok
        · have eR : R5 = [] := (lq.no rfl).1
          subst eR
          have G : Hid (OneQ ms w none 0 0 false 0 w5) := ⟨⟨[], OS.out, NRow.nil _ _⟩, by omega, s5.kept⟩
          clear lq s5 D5
          go_wp2_with fail
          go_ret3
          exact RetO.mk none 0 0 false 0 rfl G.out
        · have s5 : SS w w5 (wo.heap.size + 1) p0 n c0 q5 k5 kc5 R5 (some ⟨wo.heap.size, 0, none⟩) n := s5
          have G : Hid (OneQ ms w q5 k5 kc5 true 0 w5) := ⟨⟨R5, OS.out, s5.ord⟩, k524, s5.kept⟩
          have z1 := cell_blk s5.blk 1 (v := .slice q5 k5 kc5) rfl
          clear lq s5 D5
          go_wp2_with fail
          go_ret3
          exact RetO.mk q5 k5 kc5 true 0 rfl G.out
end Go.Proofs.Ytginpoofeliimaa
