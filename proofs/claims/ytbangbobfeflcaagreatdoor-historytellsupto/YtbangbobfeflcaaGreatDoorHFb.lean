import Derived.Test.YtbangbobfeflcaaGreatDoorHFaJ
import Derived.BigQuiet
namespace Go.Proofs.YtbangbobfeflcaaGreatDoor
open Go.RowKit 

set_option maxRecDepth 100000 in
set_option maxHeartbeats 1000000 in
theorem hTag (e : Ev) (w : World) : Calls Tryz.prog 58 #[e.agg] w fun o w' => o = .returned (.bool (tagE e)) ∧ Kept (fun _ => False) w w' := by
  have CF : Hid (∀ V, Calls Tryz.prog 55 #[e.agg] V fun o w' => o = .returned (.int .i64 (formE e)) ∧ Kept (fun _ => False) V w') := fun V => hForm e V
  obtain ⟨v, hv⟩ : ∃ v, v = tagE e := ⟨_, rfl⟩
  obtain ⟨f, hf⟩ : ∃ f, formE e = f := ⟨_, rfl⟩
  have HV : Hid (v = if f = 0 ∨ f = 1 then kIsZero e.tx e.ty else (kIsZero e.tx e.ty || kIsProper e.tx e.ty) && !(decide (e.kind = 2) && decide (e.st = 0) && kIsZero e.tx e.ty)) := by rw [hv, ← hf]; rfl
  rw [hf] at CF
  rw [← hv]
  clear hv hf
  obtain ⟨ki, cl, op, pu, ke, va, vn, vc, st, tx, ty, vl⟩ := e
  unfold Ev.agg at CF ⊢
  dsimp only at CF HV ⊢
  have CZ : Hid (∀ V, Calls Tryz.prog 87 #[.agg #[.int .i64 tx, .int .i64 ty]] V fun x w' => x = .returned (.bool (kIsZero tx ty)) ∧ Kept (fun _ => False) V w') := fun V => hZero tx ty V
  have CV : Hid (∀ V, Calls Tryz.prog 88 #[.agg #[.int .i64 tx, .int .i64 ty]] V fun x w' => x = .returned (.bool (kIsZero tx ty || kIsProper tx ty)) ∧ Kept (fun _ => False) V w') := fun V => hValid tx ty V
  obtain ⟨zb, hz⟩ : ∃ zb, kIsZero tx ty = zb := ⟨_, rfl⟩
  obtain ⟨pb, hp⟩ : ∃ pb, (zb || kIsProper tx ty) = pb := ⟨_, rfl⟩
  rw [hz] at CZ CV HV
  rw [hp] at CV HV
  clear hz hp
  obtain ⟨kb, ek⟩ : ∃ t, (ki == 2) = t := ⟨_, rfl⟩
  obtain ⟨sb, es⟩ : ∃ t, (st == 0) = t := ⟨_, rfl⟩
  have E1 : Hid (decide (ki = 2) = kb) := by rw [← ek]; rfl
  have E2 : Hid (decide (st = 0) = sb) := by rw [← es]; rfl
  rw [E1.out, E2.out] at HV
  clear E1 E2
  have K0 : Kept (fun _ => False) w (w.alloc (Obj.cells #[.int .i64 ki, .int .i64 cl, .int .i64 op, .bool pu, .string ke, .slice va vn vc, .int .i64 st, .int .i64 tx, .int .i64 ty] 39)) := (Kept.refl _ _).alloc _
  have BB := alloc_new w (Obj.cells #[.int .i64 ki, .int .i64 cl, .int .i64 op, .bool pu, .string ke, .slice va vn vc, .int .i64 st, .int .i64 tx, .int .i64 ty] 39)
  go_enter Tryz.func58, Tryz.ntmps58
  go_wp2_with fail
  refine (CF.out _).mono ?_
  rintro o w1 ⟨rfl, KX⟩
  have K1 : Kept (fun _ => False) w w1 := K0.trans KX (fun _ _ z => z)
  have bb : w1.heap[w.heap.size]? = some (.cells #[.int .i64 ki, .int .i64 cl, .int .i64 op, .bool pu, .string ke, .slice va vn vc, .int .i64 st, .int .i64 tx, .int .i64 ty] 39 (0, 0)) := KX.get BB (fun z => z)
  clear KX BB
  have BB := bb
  have d0 := cell_blk bb 0 (v := .int .i64 ki) rfl
  have d6 := cell_blk bb 6 (v := .int .i64 st) rfl
  have d7 := cell_blk bb 7 (v := .int .i64 tx) rfl
  have d8 := cell_blk bb 8 (v := .int .i64 ty) rfl
  clear bb CF K0
  by_cases h0 : f = 0
  · subst h0
    have A : v = zb := by rw [HV.out]; simp
    subst A
    clear HV
    go_wp2_with fail
    refine (CZ.out _).mono ?_
    rintro o w2 ⟨rfl, K2⟩
    have KE := K1.trans K2 (fun _ _ z => z)
    clear K2 BB
    go_wp2_with fail
    go_ret
    exact ⟨by first | rfl | simp, KE⟩
  · have q0 : (f == 0) = false := by simp [h0]
    by_cases h1 : f = 1
    · subst h1
      have A : v = zb := by rw [HV.out]; simp
      subst A
      clear HV
      go_wp2_with fail
      refine (CZ.out _).mono ?_
      rintro o w2 ⟨rfl, K2⟩
      have KE := K1.trans K2 (fun _ _ z => z)
      clear K2 BB
      go_wp2_with fail
      go_ret
      exact ⟨by first | rfl | simp, KE⟩
    · have q1 : (f == 1) = false := by simp [h1]
      have A : v = (pb && !(kb && sb && zb)) := by
        rw [HV.out]
        simp [h0, h1]
      clear HV
      subst A
      cases kb
      · go_wp2_with fail
        refine (CV.out _).mono ?_
        rintro o w2 ⟨rfl, KX⟩
        have K2 : Kept (fun _ => False) w w2 := K1.trans KX (fun _ _ z => z)
        have bb : w2.heap[w.heap.size]? = some (.cells #[.int .i64 ki, .int .i64 cl, .int .i64 op, .bool pu, .string ke, .slice va vn vc, .int .i64 st, .int .i64 tx, .int .i64 ty] 39 (0, 0)) := KX.get BB (fun z => z)
        clear KX BB
        have BB := bb
        have d7 := cell_blk bb 7 (v := .int .i64 tx) rfl
        have d8 := cell_blk bb 8 (v := .int .i64 ty) rfl
        clear bb
        cases pb
        · go_wp2_with fail
          go_ret
          exact ⟨by first | rfl | simp, K2⟩
        · go_wp2_with fail
          go_ret
          exact ⟨by first | rfl | simp, K2⟩
      · cases sb
        · go_wp2_with fail
          refine (CV.out _).mono ?_
          rintro o w2 ⟨rfl, KX⟩
          have K2 : Kept (fun _ => False) w w2 := K1.trans KX (fun _ _ z => z)
          have bb : w2.heap[w.heap.size]? = some (.cells #[.int .i64 ki, .int .i64 cl, .int .i64 op, .bool pu, .string ke, .slice va vn vc, .int .i64 st, .int .i64 tx, .int .i64 ty] 39 (0, 0)) := KX.get BB (fun z => z)
          clear KX BB
          have BB := bb
          have d7 := cell_blk bb 7 (v := .int .i64 tx) rfl
          have d8 := cell_blk bb 8 (v := .int .i64 ty) rfl
          clear bb
          cases pb
          · go_wp2_with fail
            go_ret
            exact ⟨by first | rfl | simp, K2⟩
          · go_wp2_with fail
            go_ret
            exact ⟨by first | rfl | simp, K2⟩
        · go_wp2_with fail
          refine (CV.out _).mono ?_
          rintro o w2 ⟨rfl, KX⟩
          have K2 : Kept (fun _ => False) w w2 := K1.trans KX (fun _ _ z => z)
          have bb : w2.heap[w.heap.size]? = some (.cells #[.int .i64 ki, .int .i64 cl, .int .i64 op, .bool pu, .string ke, .slice va vn vc, .int .i64 st, .int .i64 tx, .int .i64 ty] 39 (0, 0)) := KX.get BB (fun z => z)
          clear KX BB
          have BB := bb
          clear d0 d6 d7 d8
          have d7 := cell_blk bb 7 (v := .int .i64 tx) rfl
          have d8 := cell_blk bb 8 (v := .int .i64 ty) rfl
          clear bb
          cases pb
          · go_wp2_with fail
            go_ret
            exact ⟨by first | rfl | simp, K2⟩
          · go_wp2_with fail
            refine (CZ.out _).mono ?_
            rintro o w3 ⟨rfl, K3⟩
            have KE := K2.trans K3 (fun _ _ z => z)
            clear K3 BB
            go_wp2_with fail
            go_ret
            exact ⟨by first | rfl | simp, KE⟩
def faultB (kd t1 t2 t3 t4 b1 b2 t5 t6 b3 : Bool) : Int := if kd = false then 32 else if (t1 || t2) = true then 51 else if (t3 || t4) = true then 74 else if b1 = false then 75 else if b2 = false then 41 else if (t5 || (t6 || !b3)) = true then 80 else 0
theorem fault_b (e : Ev) : faultE e = faultB (decide (e.kind = 1 ∨ e.kind = 2 ∨ e.kind = 3)) (decide (e.client < 1)) (decide (65535 < e.client)) (decide (e.key.size < 1)) (decide (64 < e.key.size)) (valueE e) (tagE e) (decide (e.op < 1)) (decide (4611686018427387903 < e.op)) (statusE e) := by
  unfold faultE faultB
  simp
set_option maxRecDepth 100000 in
set_option maxHeartbeats 4000000 in
theorem hFault (e : Ev) (hn : e.vn ≤ 9223372036854775807) (w : World) : Calls Tryz.prog 31 #[e.agg] w fun o w' => o = .returned (.int .i64 (faultE e)) ∧ Kept (fun _ => False) w w' := by
  have C1 : Hid (∀ V, Calls Tryz.prog 57 #[e.agg] V fun o w' => o = .returned (.bool (valueE e)) ∧ Kept (fun _ => False) V w') := fun V => hValue e hn V
  have C2 : Hid (∀ V, Calls Tryz.prog 58 #[e.agg] V fun o w' => o = .returned (.bool (tagE e)) ∧ Kept (fun _ => False) V w') := fun V => hTag e V
  have C3 : Hid (∀ V, Calls Tryz.prog 59 #[e.agg] V fun o w' => o = .returned (.bool (statusE e)) ∧ Kept (fun _ => False) V w') := fun V => hStatus e V
  obtain ⟨v, hv⟩ : ∃ v, v = faultE e := ⟨_, rfl⟩
  have HV : Hid (v = faultE e) := hv
  rw [← hv]
  clear hv
  rw [fault_b] at HV
  obtain ⟨b1, h1⟩ : ∃ b, valueE e = b := ⟨_, rfl⟩
  obtain ⟨b2, h2⟩ : ∃ b, tagE e = b := ⟨_, rfl⟩
  obtain ⟨b3, h3⟩ : ∃ b, statusE e = b := ⟨_, rfl⟩
  rw [h1] at C1 HV
  rw [h2] at C2 HV
  rw [h3] at C3 HV
  clear h1 h2 h3
  obtain ⟨ki, cl, op, pu, ke, va, vn, vc, st, tx, ty, vl⟩ := e
  unfold Ev.agg at C1 C2 C3 ⊢
  dsimp only at C1 C2 C3 HV hn ⊢
  have K0 : Kept (fun _ => False) w (w.alloc (Obj.cells #[.int .i64 ki, .int .i64 cl, .int .i64 op, .bool pu, .string ke, .slice va vn vc, .int .i64 st, .int .i64 tx, .int .i64 ty] 39)) := (Kept.refl _ _).alloc _
  have BB := alloc_new w (Obj.cells #[.int .i64 ki, .int .i64 cl, .int .i64 op, .bool pu, .string ke, .slice va vn vc, .int .i64 st, .int .i64 tx, .int .i64 ty] 39)
  obtain ⟨t1, e1⟩ : ∃ t, decide (cl < 1) = t := ⟨_, rfl⟩
  obtain ⟨t2, e2⟩ : ∃ t, decide (65535 < cl) = t := ⟨_, rfl⟩
  obtain ⟨t3, e3⟩ : ∃ t, decide ((ke.size : Int) < 1) = t := ⟨_, rfl⟩
  obtain ⟨t4, e4⟩ : ∃ t, decide (64 < (ke.size : Int)) = t := ⟨_, rfl⟩
  obtain ⟨t5, e5⟩ : ∃ t, decide (op < 1) = t := ⟨_, rfl⟩
  obtain ⟨t6, e6⟩ : ∃ t, decide (4611686018427387903 < op) = t := ⟨_, rfl⟩
  have E3 : Hid (decide (ke.size < 1) = t3) := by rw [← e3]; exact decide_eq_decide.2 (by omega)
  have E4 : Hid (decide (64 < ke.size) = t4) := by rw [← e4]; exact decide_eq_decide.2 (by omega)
  rw [e1, e2, E3.out, E4.out, e5, e6] at HV
  clear E3 E4
  go_enter Tryz.func31, Tryz.ntmps31
  by_cases k1 : ki = 1
  · subst k1
    cases t1
    · cases t2
      · cases t3
        · cases t4
          · go_wp2_with fail
            refine (C1.out _).mono ?_
            rintro o w1 ⟨rfl, KX⟩
            have K1 : Kept (fun _ => False) w w1 := K0.trans KX (fun _ _ z => z)
            have bb : w1.heap[w.heap.size]? = some (.cells #[.int .i64 1, .int .i64 cl, .int .i64 op, .bool pu, .string ke, .slice va vn vc, .int .i64 st, .int .i64 tx, .int .i64 ty] 39 (0, 0)) := KX.get BB (fun z => z)
            clear KX BB
            have BB := bb
            have d0 := cell_blk bb 0 (v := .int .i64 1) rfl
            have d1 := cell_blk bb 1 (v := .int .i64 cl) rfl
            have d2 := cell_blk bb 2 (v := .int .i64 op) rfl
            have d3 := cell_blk bb 3 (v := .bool pu) rfl
            have d4 := cell_blk bb 4 (v := .string ke) rfl
            have d5 := cell_blk bb 5 (v := .slice va vn vc) rfl
            have d6 := cell_blk bb 6 (v := .int .i64 st) rfl
            have d7 := cell_blk bb 7 (v := .int .i64 tx) rfl
            have d8 := cell_blk bb 8 (v := .int .i64 ty) rfl
            clear bb
            cases b1
            · have A : v = 75 := by rw [HV.out]; unfold faultB; simp
              subst A
              clear HV
              go_wp2_with fail
              go_ret
              exact ⟨by first | rfl | simp, K1⟩
            · go_wp2_with fail
              refine (C2.out _).mono ?_
              rintro o w2 ⟨rfl, KX⟩
              have K2 : Kept (fun _ => False) w w2 := K1.trans KX (fun _ _ z => z)
              have bb : w2.heap[w.heap.size]? = some (.cells #[.int .i64 1, .int .i64 cl, .int .i64 op, .bool pu, .string ke, .slice va vn vc, .int .i64 st, .int .i64 tx, .int .i64 ty] 39 (0, 0)) := KX.get BB (fun z => z)
              clear KX BB
              have BB := bb
              clear d0 d1 d2 d3 d4 d5 d6 d7 d8
              have d0 := cell_blk bb 0 (v := .int .i64 1) rfl
              have d1 := cell_blk bb 1 (v := .int .i64 cl) rfl
              have d2 := cell_blk bb 2 (v := .int .i64 op) rfl
              have d3 := cell_blk bb 3 (v := .bool pu) rfl
              have d4 := cell_blk bb 4 (v := .string ke) rfl
              have d5 := cell_blk bb 5 (v := .slice va vn vc) rfl
              have d6 := cell_blk bb 6 (v := .int .i64 st) rfl
              have d7 := cell_blk bb 7 (v := .int .i64 tx) rfl
              have d8 := cell_blk bb 8 (v := .int .i64 ty) rfl
              clear bb
              cases b2
              · have A : v = 41 := by rw [HV.out]; unfold faultB; simp
                subst A
                clear HV
                go_wp2_with fail
                go_ret
                exact ⟨by first | rfl | simp, K2⟩
              · cases t5
                · cases t6
                  · go_wp2_with fail
                    refine (C3.out _).mono ?_
                    rintro o w3 ⟨rfl, KX⟩
                    have K3 : Kept (fun _ => False) w w3 := K2.trans KX (fun _ _ z => z)
                    have bb : w3.heap[w.heap.size]? = some (.cells #[.int .i64 1, .int .i64 cl, .int .i64 op, .bool pu, .string ke, .slice va vn vc, .int .i64 st, .int .i64 tx, .int .i64 ty] 39 (0, 0)) := KX.get BB (fun z => z)
                    clear KX BB
                    have BB := bb
                    clear bb
                    cases b3
                    · have A : v = 80 := by rw [HV.out]; unfold faultB; simp
                      subst A
                      clear HV
                      go_wp2_with fail
                      go_ret
                      exact ⟨by first | rfl | simp, K3⟩
                    · have A : v = 0 := by rw [HV.out]; unfold faultB; simp
                      subst A
                      clear HV
                      go_wp2_with fail
                      go_ret
                      exact ⟨by first | rfl | simp, K3⟩
                  · have A : v = 80 := by rw [HV.out]; unfold faultB; simp
                    subst A
                    clear HV
                    go_wp2_with fail
                    go_ret
                    exact ⟨by first | rfl | simp, K2⟩
                · have A : v = 80 := by rw [HV.out]; unfold faultB; simp
                  subst A
                  clear HV
                  go_wp2_with fail
                  go_ret
                  exact ⟨by first | rfl | simp, K2⟩
          · have A : v = 74 := by rw [HV.out]; unfold faultB; simp
            subst A
            clear HV
            go_wp2_with fail
            go_ret
            exact ⟨by first | rfl | simp, K0⟩
        · have A : v = 74 := by rw [HV.out]; unfold faultB; simp
          subst A
          clear HV
          go_wp2_with fail
          go_ret
          exact ⟨by first | rfl | simp, K0⟩
      · have A : v = 51 := by rw [HV.out]; unfold faultB; simp
        subst A
        clear HV
        go_wp2_with fail
        go_ret
        exact ⟨by first | rfl | simp, K0⟩
    · have A : v = 51 := by rw [HV.out]; unfold faultB; simp
      subst A
      clear HV
      go_wp2_with fail
      go_ret
      exact ⟨by first | rfl | simp, K0⟩
  · have p1 : (ki != 1) = true := by simp [k1]
    by_cases k2 : ki = 2
    · subst k2
      cases t1
      · cases t2
        · cases t3
          · cases t4
            · go_wp2_with fail
              refine (C1.out _).mono ?_
              rintro o w1 ⟨rfl, KX⟩
              have K1 : Kept (fun _ => False) w w1 := K0.trans KX (fun _ _ z => z)
              have bb : w1.heap[w.heap.size]? = some (.cells #[.int .i64 2, .int .i64 cl, .int .i64 op, .bool pu, .string ke, .slice va vn vc, .int .i64 st, .int .i64 tx, .int .i64 ty] 39 (0, 0)) := KX.get BB (fun z => z)
              clear KX BB
              have BB := bb
              have d0 := cell_blk bb 0 (v := .int .i64 2) rfl
              have d1 := cell_blk bb 1 (v := .int .i64 cl) rfl
              have d2 := cell_blk bb 2 (v := .int .i64 op) rfl
              have d3 := cell_blk bb 3 (v := .bool pu) rfl
              have d4 := cell_blk bb 4 (v := .string ke) rfl
              have d5 := cell_blk bb 5 (v := .slice va vn vc) rfl
              have d6 := cell_blk bb 6 (v := .int .i64 st) rfl
              have d7 := cell_blk bb 7 (v := .int .i64 tx) rfl
              have d8 := cell_blk bb 8 (v := .int .i64 ty) rfl
              clear bb
              cases b1
              · have A : v = 75 := by rw [HV.out]; unfold faultB; simp
                subst A
                clear HV
                go_wp2_with fail
                go_ret
                exact ⟨by first | rfl | simp, K1⟩
              · go_wp2_with fail
                refine (C2.out _).mono ?_
                rintro o w2 ⟨rfl, KX⟩
                have K2 : Kept (fun _ => False) w w2 := K1.trans KX (fun _ _ z => z)
                have bb : w2.heap[w.heap.size]? = some (.cells #[.int .i64 2, .int .i64 cl, .int .i64 op, .bool pu, .string ke, .slice va vn vc, .int .i64 st, .int .i64 tx, .int .i64 ty] 39 (0, 0)) := KX.get BB (fun z => z)
                clear KX BB
                have BB := bb
                clear d0 d1 d2 d3 d4 d5 d6 d7 d8
                have d0 := cell_blk bb 0 (v := .int .i64 2) rfl
                have d1 := cell_blk bb 1 (v := .int .i64 cl) rfl
                have d2 := cell_blk bb 2 (v := .int .i64 op) rfl
                have d3 := cell_blk bb 3 (v := .bool pu) rfl
                have d4 := cell_blk bb 4 (v := .string ke) rfl
                have d5 := cell_blk bb 5 (v := .slice va vn vc) rfl
                have d6 := cell_blk bb 6 (v := .int .i64 st) rfl
                have d7 := cell_blk bb 7 (v := .int .i64 tx) rfl
                have d8 := cell_blk bb 8 (v := .int .i64 ty) rfl
                clear bb
                cases b2
                · have A : v = 41 := by rw [HV.out]; unfold faultB; simp
                  subst A
                  clear HV
                  go_wp2_with fail
                  go_ret
                  exact ⟨by first | rfl | simp, K2⟩
                · cases t5
                  · cases t6
                    · go_wp2_with fail
                      refine (C3.out _).mono ?_
                      rintro o w3 ⟨rfl, KX⟩
                      have K3 : Kept (fun _ => False) w w3 := K2.trans KX (fun _ _ z => z)
                      have bb : w3.heap[w.heap.size]? = some (.cells #[.int .i64 2, .int .i64 cl, .int .i64 op, .bool pu, .string ke, .slice va vn vc, .int .i64 st, .int .i64 tx, .int .i64 ty] 39 (0, 0)) := KX.get BB (fun z => z)
                      clear KX BB
                      have BB := bb
                      clear bb
                      cases b3
                      · have A : v = 80 := by rw [HV.out]; unfold faultB; simp
                        subst A
                        clear HV
                        go_wp2_with fail
                        go_ret
                        exact ⟨by first | rfl | simp, K3⟩
                      · have A : v = 0 := by rw [HV.out]; unfold faultB; simp
                        subst A
                        clear HV
                        go_wp2_with fail
                        go_ret
                        exact ⟨by first | rfl | simp, K3⟩
                    · have A : v = 80 := by rw [HV.out]; unfold faultB; simp
                      subst A
                      clear HV
                      go_wp2_with fail
                      go_ret
                      exact ⟨by first | rfl | simp, K2⟩
                  · have A : v = 80 := by rw [HV.out]; unfold faultB; simp
                    subst A
                    clear HV
                    go_wp2_with fail
                    go_ret
                    exact ⟨by first | rfl | simp, K2⟩
            · have A : v = 74 := by rw [HV.out]; unfold faultB; simp
              subst A
              clear HV
              go_wp2_with fail
              go_ret
              exact ⟨by first | rfl | simp, K0⟩
          · have A : v = 74 := by rw [HV.out]; unfold faultB; simp
            subst A
            clear HV
            go_wp2_with fail
            go_ret
            exact ⟨by first | rfl | simp, K0⟩
        · have A : v = 51 := by rw [HV.out]; unfold faultB; simp
          subst A
          clear HV
          go_wp2_with fail
          go_ret
          exact ⟨by first | rfl | simp, K0⟩
      · have A : v = 51 := by rw [HV.out]; unfold faultB; simp
        subst A
        clear HV
        go_wp2_with fail
        go_ret
        exact ⟨by first | rfl | simp, K0⟩
    · have p2 : (ki != 2) = true := by simp [k2]
      by_cases k3 : ki = 3
      · subst k3
        cases t1
        · cases t2
          · cases t3
            · cases t4
              · go_wp2_with fail
                refine (C1.out _).mono ?_
                rintro o w1 ⟨rfl, KX⟩
                have K1 : Kept (fun _ => False) w w1 := K0.trans KX (fun _ _ z => z)
                have bb : w1.heap[w.heap.size]? = some (.cells #[.int .i64 3, .int .i64 cl, .int .i64 op, .bool pu, .string ke, .slice va vn vc, .int .i64 st, .int .i64 tx, .int .i64 ty] 39 (0, 0)) := KX.get BB (fun z => z)
                clear KX BB
                have BB := bb
                have d0 := cell_blk bb 0 (v := .int .i64 3) rfl
                have d1 := cell_blk bb 1 (v := .int .i64 cl) rfl
                have d2 := cell_blk bb 2 (v := .int .i64 op) rfl
                have d3 := cell_blk bb 3 (v := .bool pu) rfl
                have d4 := cell_blk bb 4 (v := .string ke) rfl
                have d5 := cell_blk bb 5 (v := .slice va vn vc) rfl
                have d6 := cell_blk bb 6 (v := .int .i64 st) rfl
                have d7 := cell_blk bb 7 (v := .int .i64 tx) rfl
                have d8 := cell_blk bb 8 (v := .int .i64 ty) rfl
                clear bb
                cases b1
                · have A : v = 75 := by rw [HV.out]; unfold faultB; simp
                  subst A
                  clear HV
                  go_wp2_with fail
                  go_ret
                  exact ⟨by first | rfl | simp, K1⟩
                · go_wp2_with fail
                  refine (C2.out _).mono ?_
                  rintro o w2 ⟨rfl, KX⟩
                  have K2 : Kept (fun _ => False) w w2 := K1.trans KX (fun _ _ z => z)
                  have bb : w2.heap[w.heap.size]? = some (.cells #[.int .i64 3, .int .i64 cl, .int .i64 op, .bool pu, .string ke, .slice va vn vc, .int .i64 st, .int .i64 tx, .int .i64 ty] 39 (0, 0)) := KX.get BB (fun z => z)
                  clear KX BB
                  have BB := bb
                  clear d0 d1 d2 d3 d4 d5 d6 d7 d8
                  have d0 := cell_blk bb 0 (v := .int .i64 3) rfl
                  have d1 := cell_blk bb 1 (v := .int .i64 cl) rfl
                  have d2 := cell_blk bb 2 (v := .int .i64 op) rfl
                  have d3 := cell_blk bb 3 (v := .bool pu) rfl
                  have d4 := cell_blk bb 4 (v := .string ke) rfl
                  have d5 := cell_blk bb 5 (v := .slice va vn vc) rfl
                  have d6 := cell_blk bb 6 (v := .int .i64 st) rfl
                  have d7 := cell_blk bb 7 (v := .int .i64 tx) rfl
                  have d8 := cell_blk bb 8 (v := .int .i64 ty) rfl
                  clear bb
                  cases b2
                  · have A : v = 41 := by rw [HV.out]; unfold faultB; simp
                    subst A
                    clear HV
                    go_wp2_with fail
                    go_ret
                    exact ⟨by first | rfl | simp, K2⟩
                  · cases t5
                    · cases t6
                      · go_wp2_with fail
                        refine (C3.out _).mono ?_
                        rintro o w3 ⟨rfl, KX⟩
                        have K3 : Kept (fun _ => False) w w3 := K2.trans KX (fun _ _ z => z)
                        have bb : w3.heap[w.heap.size]? = some (.cells #[.int .i64 3, .int .i64 cl, .int .i64 op, .bool pu, .string ke, .slice va vn vc, .int .i64 st, .int .i64 tx, .int .i64 ty] 39 (0, 0)) := KX.get BB (fun z => z)
                        clear KX BB
                        have BB := bb
                        clear bb
                        cases b3
                        · have A : v = 80 := by rw [HV.out]; unfold faultB; simp
                          subst A
                          clear HV
                          go_wp2_with fail
                          go_ret
                          exact ⟨by first | rfl | simp, K3⟩
                        · have A : v = 0 := by rw [HV.out]; unfold faultB; simp
                          subst A
                          clear HV
                          go_wp2_with fail
                          go_ret
                          exact ⟨by first | rfl | simp, K3⟩
                      · have A : v = 80 := by rw [HV.out]; unfold faultB; simp
                        subst A
                        clear HV
                        go_wp2_with fail
                        go_ret
                        exact ⟨by first | rfl | simp, K2⟩
                    · have A : v = 80 := by rw [HV.out]; unfold faultB; simp
                      subst A
                      clear HV
                      go_wp2_with fail
                      go_ret
                      exact ⟨by first | rfl | simp, K2⟩
              · have A : v = 74 := by rw [HV.out]; unfold faultB; simp
                subst A
                clear HV
                go_wp2_with fail
                go_ret
                exact ⟨by first | rfl | simp, K0⟩
            · have A : v = 74 := by rw [HV.out]; unfold faultB; simp
              subst A
              clear HV
              go_wp2_with fail
              go_ret
              exact ⟨by first | rfl | simp, K0⟩
          · have A : v = 51 := by rw [HV.out]; unfold faultB; simp
            subst A
            clear HV
            go_wp2_with fail
            go_ret
            exact ⟨by first | rfl | simp, K0⟩
        · have A : v = 51 := by rw [HV.out]; unfold faultB; simp
          subst A
          clear HV
          go_wp2_with fail
          go_ret
          exact ⟨by first | rfl | simp, K0⟩
      · have p3 : (ki != 3) = true := by simp [k3]
        have A : v = 32 := by rw [HV.out]; unfold faultB; simp [k1, k2, k3]
        subst A
        clear HV
        go_wp2_with fail
        go_ret
        exact ⟨by first | rfl | simp, K0⟩
end Go.Proofs.YtbangbobfeflcaaGreatDoor
