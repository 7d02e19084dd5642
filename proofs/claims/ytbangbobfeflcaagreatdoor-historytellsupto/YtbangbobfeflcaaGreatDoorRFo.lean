import Derived.Test.YtbangbobfeflcaaGreatDoorRTg
namespace Go.Proofs.YtbangbobfeflcaaGreatDoor
open Go.RowKit 

theorem fe32 {e : Ev} (h : ¬ (e.kind = 1 ∨ e.kind = 2 ∨ e.kind = 3)) : faultE e = 32 := by unfold faultE; rw [if_pos h]
theorem fe51 {e : Ev} (h : e.kind = 1 ∨ e.kind = 2 ∨ e.kind = 3) (h1 : e.client < 1 ∨ 65535 < e.client) : faultE e = 51 := by unfold faultE; rw [if_neg (fun z => z h), if_pos h1]
theorem fe74 {e : Ev} (h : e.kind = 1 ∨ e.kind = 2 ∨ e.kind = 3) (h1 : ¬ (e.client < 1 ∨ 65535 < e.client)) (h2 : e.key.size < 1 ∨ 64 < e.key.size) : faultE e = 74 := by unfold faultE; rw [if_neg (fun z => z h), if_neg h1, if_pos h2]
theorem fe75 {e : Ev} (h : e.kind = 1 ∨ e.kind = 2 ∨ e.kind = 3) (h1 : ¬ (e.client < 1 ∨ 65535 < e.client)) (h2 : ¬ (e.key.size < 1 ∨ 64 < e.key.size)) (h3 : valueE e = false) : faultE e = 75 := by unfold faultE; rw [if_neg (fun z => z h), if_neg h1, if_neg h2, if_pos h3]
theorem fe41 {e : Ev} (h : e.kind = 1 ∨ e.kind = 2 ∨ e.kind = 3) (h1 : ¬ (e.client < 1 ∨ 65535 < e.client)) (h2 : ¬ (e.key.size < 1 ∨ 64 < e.key.size)) (h3 : valueE e = true) (h4 : tagE e = false) : faultE e = 41 := by unfold faultE; rw [if_neg (fun z => z h), if_neg h1, if_neg h2, if_neg (by rw [h3]; decide), if_pos h4]
theorem fe80 {e : Ev} (h : e.kind = 1 ∨ e.kind = 2 ∨ e.kind = 3) (h1 : ¬ (e.client < 1 ∨ 65535 < e.client)) (h2 : ¬ (e.key.size < 1 ∨ 64 < e.key.size)) (h3 : valueE e = true) (h4 : tagE e = true) (h5 : e.op < 1 ∨ 4611686018427387903 < e.op ∨ statusE e = false) : faultE e = 80 := by unfold faultE; rw [if_neg (fun z => z h), if_neg h1, if_neg h2, if_neg (by rw [h3]; decide), if_neg (by rw [h4]; decide), if_pos h5]
theorem fe0 {e : Ev} (h : e.kind = 1 ∨ e.kind = 2 ∨ e.kind = 3) (h1 : ¬ (e.client < 1 ∨ 65535 < e.client)) (h2 : ¬ (e.key.size < 1 ∨ 64 < e.key.size)) (h3 : valueE e = true) (h4 : tagE e = true) (h5 : ¬ (e.op < 1 ∨ 4611686018427387903 < e.op ∨ statusE e = false)) : faultE e = 0 := by unfold faultE; rw [if_neg (fun z => z h), if_neg h1, if_neg h2, if_neg (by rw [h3]; decide), if_neg (by rw [h4]; decide), if_neg h5]
theorem ve_big {e : Ev} (h : 65536 < e.vn) : valueE e = false := by
  unfold valueE
  split
  · exact decide_eq_false (by omega)
  · exact decide_eq_false (by omega)
theorem ve_none {e : Ev} (h : e.vn = 0) : valueE e = true := by
  unfold valueE
  split
  · exact decide_eq_true (by omega)
  · exact decide_eq_true h
theorem ve_may {e : Ev} (h0 : e.vn ≤ 65536) (h1 : 0 < e.vn) : valueE e = decide (formE e = 1 ∨ formE e = 3) := by
  unfold valueE
  split
  · next h => rw [decide_eq_true h0, decide_eq_true h]
  · next h => rw [decide_eq_false (show ¬ e.vn = 0 by omega), decide_eq_false h]
set_option maxRecDepth 100000 in
set_option maxHeartbeats 2000000 in
theorem hRForm (e : Ev) (hn : e.vn ≤ 9223372036854775807) (w : World) : Calls Tryz.prog 34 #[e.agg] w fun o w' => o = .returned (.int .i64 (faultE e)) ∧ Kept (fun _ => False) w w' := by
  have CA : Hid (∀ V, Calls Tryz.prog 71 #[e.agg] V fun o w' => o = .returned (.bool (decide (formE e = 1 ∨ formE e = 3))) ∧ Kept (fun _ => False) V w') := fun V => hValued e V
  have CB : Hid ((e.kind = 1 ∨ e.kind = 2 ∨ e.kind = 3) → ∀ V, Calls Tryz.prog 72 #[e.agg] V fun o w' => o = .returned (.bool (tagE e)) ∧ Kept (fun _ => False) V w') := fun h V => hTagged e h V
  have CC : Hid (∀ V, Calls Tryz.prog 73 #[e.agg] V fun o w' => o = .returned (.bool (statusE e)) ∧ Kept (fun _ => False) V w') := fun V => hStated e V
  obtain ⟨va1, ea⟩ : ∃ t, decide (formE e = 1 ∨ formE e = 3) = t := ⟨_, rfl⟩
  obtain ⟨tb, et⟩ : ∃ t, tagE e = t := ⟨_, rfl⟩
  obtain ⟨sb, es⟩ : ∃ t, statusE e = t := ⟨_, rfl⟩
  have HA : Hid (decide (formE e = 1 ∨ formE e = 3) = va1 ∧ tagE e = tb ∧ statusE e = sb) := ⟨ea, et, es⟩
  rw [ea] at CA
  rw [et] at CB
  rw [es] at CC
  clear ea et es
  obtain ⟨ki, cl, op, pu, ke, va, vn, vc, st, tx, ty, vl⟩ := e
  unfold Ev.agg at CA CB CC ⊢
  dsimp only at CA CB CC hn ⊢
  have K0 : Hid (Kept (fun _ => False) w (w.alloc (Obj.cells #[.int .i64 ki, .int .i64 cl, .int .i64 op, .bool pu, .string ke, .slice va vn vc, .int .i64 st, .int .i64 tx, .int .i64 ty] 39))) := (Kept.refl _ _).alloc _
  have B0 : Hid ((w.alloc (Obj.cells #[.int .i64 ki, .int .i64 cl, .int .i64 op, .bool pu, .string ke, .slice va vn vc, .int .i64 st, .int .i64 tx, .int .i64 ty] 39)).heap[w.heap.size]? = some (.cells #[.int .i64 ki, .int .i64 cl, .int .i64 op, .bool pu, .string ke, .slice va vn vc, .int .i64 st, .int .i64 tx, .int .i64 ty] 39 (0, 0))) := alloc_new _ _
  obtain ⟨kz, hkz⟩ : ∃ kz, ke.size = kz := ⟨_, rfl⟩
  have HKZ : Hid (ke.size = kz) := hkz
  have ksz : (ke.size : Int) = (kz : Int) := by rw [hkz]
  clear hkz
  go_enter Tryz.func34, Tryz.ntmps34
  by_cases a1 : ki < 1
  · go_wp2_with fail
    go_ret
    exact ⟨by rw [show faultE ⟨ki, cl, op, pu, ke, va, vn, vc, st, tx, ty, vl⟩ = 32 from fe32 (by show ¬ (ki = 1 ∨ ki = 2 ∨ ki = 3); omega)]; first | rfl | simp, K0.out⟩
  · by_cases a2 : 3 < ki
    · have a2b : ki > 3 := a2
      go_wp2_with fail
      go_ret
      exact ⟨by rw [show faultE ⟨ki, cl, op, pu, ke, va, vn, vc, st, tx, ty, vl⟩ = 32 from fe32 (by show ¬ (ki = 1 ∨ ki = 2 ∨ ki = 3); omega)]; first | rfl | simp, K0.out⟩
    · have a2b : ¬ ki > 3 := a2
      have hk : Hid (ki = 1 ∨ ki = 2 ∨ ki = 3) := by show ki = 1 ∨ ki = 2 ∨ ki = 3; omega
      by_cases c1 : cl < 1
      · go_wp2_with fail
        go_ret
        exact ⟨by rw [show faultE ⟨ki, cl, op, pu, ke, va, vn, vc, st, tx, ty, vl⟩ = 51 from fe51 hk.out (.inl c1)]; first | rfl | simp, K0.out⟩
      · by_cases c2 : 65535 < cl
        · have c2b : cl > 65535 := c2
          go_wp2_with fail
          go_ret
          exact ⟨by rw [show faultE ⟨ki, cl, op, pu, ke, va, vn, vc, st, tx, ty, vl⟩ = 51 from fe51 hk.out (.inr c2)]; first | rfl | simp, K0.out⟩
        · have c2b : ¬ cl > 65535 := c2
          have hc : Hid (¬ (cl < 1 ∨ 65535 < cl)) := by show ¬ (cl < 1 ∨ 65535 < cl); omega
          by_cases k1 : kz < 1
          · have k1b : (kz : Int) < 1 := by omega
            go_wp2_with fail
            go_ret
            exact ⟨by rw [show faultE ⟨ki, cl, op, pu, ke, va, vn, vc, st, tx, ty, vl⟩ = 74 from fe74 hk.out hc.out (.inl (by show ke.size < 1; rw [HKZ.out]; exact k1))]; first | rfl | simp, K0.out⟩
          · have k1b : ¬ (kz : Int) < 1 := by omega
            by_cases k2 : 64 < kz
            · have k2b : (64 : Int) < (kz : Int) := by omega
              have k2c : (kz : Int) > 64 := by omega
              go_wp2_with fail
              go_ret
              exact ⟨by rw [show faultE ⟨ki, cl, op, pu, ke, va, vn, vc, st, tx, ty, vl⟩ = 74 from fe74 hk.out hc.out (.inr (by show 64 < ke.size; rw [HKZ.out]; exact k2))]; first | rfl | simp, K0.out⟩
            · have k2b : ¬ (64 : Int) < (kz : Int) := by omega
              have k2c : ¬ (kz : Int) > 64 := by omega
              have hs : Hid (¬ (ke.size < 1 ∨ 64 < ke.size)) := by show ¬ (ke.size < 1 ∨ 64 < ke.size); rw [HKZ.out]; omega
              by_cases v1 : 65536 < vn
              · have v1b : (65536 : Int) < (vn : Int) := by omega
                have v1c : (vn : Int) > 65536 := by omega
                go_wp2_with fail
                go_ret
                exact ⟨by rw [show faultE ⟨ki, cl, op, pu, ke, va, vn, vc, st, tx, ty, vl⟩ = 75 from fe75 hk.out hc.out hs.out (ve_big (e := ⟨ki, cl, op, pu, ke, va, vn, vc, st, tx, ty, vl⟩) v1)]; first | rfl | simp, K0.out⟩
              · have v1b : ¬ (65536 : Int) < (vn : Int) := by omega
                have v1c : ¬ (vn : Int) > 65536 := by omega
                by_cases v2 : vn = 0
                · subst v2
                  go_wp2_with fail
                  refine (CB.out hk.out _).mono ?_
                  rintro o w5 ⟨rfl, K5'⟩
                  have K5 : Hid (Kept (fun _ => False) w w5) := K0.out.trans K5' (fun _ _ z => z)
                  have B5 : Hid (w5.heap[w.heap.size]? = some (.cells #[.int .i64 ki, .int .i64 cl, .int .i64 op, .bool pu, .string ke, .slice va 0 vc, .int .i64 st, .int .i64 tx, .int .i64 ty] 39 (0, 0))) := K5'.get B0.out (fun z => z)
                  clear K5'
                  have d0 := cell_blk B5.out 0 (v := .int .i64 ki) rfl
                  have d1 := cell_blk B5.out 1 (v := .int .i64 cl) rfl
                  have d2 := cell_blk B5.out 2 (v := .int .i64 op) rfl
                  have d3 := cell_blk B5.out 3 (v := .bool pu) rfl
                  have d4 := cell_blk B5.out 4 (v := .string ke) rfl
                  have d5 := cell_blk B5.out 5 (v := .slice va 0 vc) rfl
                  have d6 := cell_blk B5.out 6 (v := .int .i64 st) rfl
                  have d7 := cell_blk B5.out 7 (v := .int .i64 tx) rfl
                  have d8 := cell_blk B5.out 8 (v := .int .i64 ty) rfl
                  cases tb
                  · go_wp2_with fail
                    go_ret
                    exact ⟨by rw [show faultE ⟨ki, cl, op, pu, ke, va, 0, vc, st, tx, ty, vl⟩ = 41 from fe41 hk.out hc.out hs.out (ve_none (e := ⟨ki, cl, op, pu, ke, va, 0, vc, st, tx, ty, vl⟩) rfl) HA.out.2.1]; first | rfl | simp, K5.out⟩
                  · by_cases o1 : op < 1
                    · go_wp2_with fail
                      go_ret
                      exact ⟨by rw [show faultE ⟨ki, cl, op, pu, ke, va, 0, vc, st, tx, ty, vl⟩ = 80 from fe80 hk.out hc.out hs.out (ve_none (e := ⟨ki, cl, op, pu, ke, va, 0, vc, st, tx, ty, vl⟩) rfl) HA.out.2.1 (.inl o1)]; first | rfl | simp, K5.out⟩
                    · by_cases o2 : 4611686018427387903 < op
                      · have o2b : op > 4611686018427387903 := o2
                        go_wp2_with fail
                        go_ret
                        exact ⟨by rw [show faultE ⟨ki, cl, op, pu, ke, va, 0, vc, st, tx, ty, vl⟩ = 80 from fe80 hk.out hc.out hs.out (ve_none (e := ⟨ki, cl, op, pu, ke, va, 0, vc, st, tx, ty, vl⟩) rfl) HA.out.2.1 (.inr (.inl o2))]; first | rfl | simp, K5.out⟩
                      · have o2b : ¬ op > 4611686018427387903 := o2
                        go_wp2_with fail
                        refine (CC.out _).mono ?_
                        rintro o w6 ⟨rfl, K6'⟩
                        have K6 : Hid (Kept (fun _ => False) w w6) := K5.out.trans K6' (fun _ _ z => z)
                        clear K6'
                        cases sb
                        · go_wp2_with fail
                          go_ret
                          exact ⟨by rw [show faultE ⟨ki, cl, op, pu, ke, va, 0, vc, st, tx, ty, vl⟩ = 80 from fe80 hk.out hc.out hs.out (ve_none (e := ⟨ki, cl, op, pu, ke, va, 0, vc, st, tx, ty, vl⟩) rfl) HA.out.2.1 (.inr (.inr HA.out.2.2))]; first | rfl | simp, K6.out⟩
                        · go_wp2_with fail
                          go_ret
                          exact ⟨by rw [show faultE ⟨ki, cl, op, pu, ke, va, 0, vc, st, tx, ty, vl⟩ = 0 from fe0 hk.out hc.out hs.out (ve_none (e := ⟨ki, cl, op, pu, ke, va, 0, vc, st, tx, ty, vl⟩) rfl) HA.out.2.1 (by show ¬ (op < 1 ∨ 4611686018427387903 < op ∨ _); rintro (z | z | z); omega; omega; (rw [HA.out.2.2] at z; cases z))]; first | rfl | simp, K6.out⟩
                · have v2b : (0 : Int) < (vn : Int) := by omega
                  have v2c : (vn : Int) > 0 := by omega
                  go_wp2_with fail
                  refine (CA.out _).mono ?_
                  rintro o w4 ⟨rfl, K4'⟩
                  have K4 : Hid (Kept (fun _ => False) w w4) := K0.out.trans K4' (fun _ _ z => z)
                  have B4 : Hid (w4.heap[w.heap.size]? = some (.cells #[.int .i64 ki, .int .i64 cl, .int .i64 op, .bool pu, .string ke, .slice va vn vc, .int .i64 st, .int .i64 tx, .int .i64 ty] 39 (0, 0))) := K4'.get B0.out (fun z => z)
                  clear K4'
                  have d0 := cell_blk B4.out 0 (v := .int .i64 ki) rfl
                  have d1 := cell_blk B4.out 1 (v := .int .i64 cl) rfl
                  have d2 := cell_blk B4.out 2 (v := .int .i64 op) rfl
                  have d3 := cell_blk B4.out 3 (v := .bool pu) rfl
                  have d4 := cell_blk B4.out 4 (v := .string ke) rfl
                  have d5 := cell_blk B4.out 5 (v := .slice va vn vc) rfl
                  have d6 := cell_blk B4.out 6 (v := .int .i64 st) rfl
                  have d7 := cell_blk B4.out 7 (v := .int .i64 tx) rfl
                  have d8 := cell_blk B4.out 8 (v := .int .i64 ty) rfl
                  have VE : Hid (valueE ⟨ki, cl, op, pu, ke, va, vn, vc, st, tx, ty, vl⟩ = va1) := by
                    show valueE ⟨ki, cl, op, pu, ke, va, vn, vc, st, tx, ty, vl⟩ = va1
                    rw [ve_may (e := ⟨ki, cl, op, pu, ke, va, vn, vc, st, tx, ty, vl⟩) (show vn ≤ 65536 by omega) (show 0 < vn by omega)]
                    exact HA.out.1
                  cases va1
                  · go_wp2_with fail
                    go_ret
                    exact ⟨by rw [show faultE ⟨ki, cl, op, pu, ke, va, vn, vc, st, tx, ty, vl⟩ = 75 from fe75 hk.out hc.out hs.out VE.out]; first | rfl | simp, K4.out⟩
                  · go_wp2_with fail
                    refine (CB.out hk.out _).mono ?_
                    clear d0 d1 d2 d3 d4 d5 d6 d7 d8
                    rintro o w5 ⟨rfl, K5'⟩
                    have K5 : Hid (Kept (fun _ => False) w w5) := K4.out.trans K5' (fun _ _ z => z)
                    have B5 : Hid (w5.heap[w.heap.size]? = some (.cells #[.int .i64 ki, .int .i64 cl, .int .i64 op, .bool pu, .string ke, .slice va vn vc, .int .i64 st, .int .i64 tx, .int .i64 ty] 39 (0, 0))) := K5'.get B4.out (fun z => z)
                    clear K5'
                    have d0 := cell_blk B5.out 0 (v := .int .i64 ki) rfl
                    have d1 := cell_blk B5.out 1 (v := .int .i64 cl) rfl
                    have d2 := cell_blk B5.out 2 (v := .int .i64 op) rfl
                    have d3 := cell_blk B5.out 3 (v := .bool pu) rfl
                    have d4 := cell_blk B5.out 4 (v := .string ke) rfl
                    have d5 := cell_blk B5.out 5 (v := .slice va vn vc) rfl
                    have d6 := cell_blk B5.out 6 (v := .int .i64 st) rfl
                    have d7 := cell_blk B5.out 7 (v := .int .i64 tx) rfl
                    have d8 := cell_blk B5.out 8 (v := .int .i64 ty) rfl
                    cases tb
                    · go_wp2_with fail
                      go_ret
                      exact ⟨by rw [show faultE ⟨ki, cl, op, pu, ke, va, vn, vc, st, tx, ty, vl⟩ = 41 from fe41 hk.out hc.out hs.out VE.out HA.out.2.1]; first | rfl | simp, K5.out⟩
                    · by_cases o1 : op < 1
                      · go_wp2_with fail
                        go_ret
                        exact ⟨by rw [show faultE ⟨ki, cl, op, pu, ke, va, vn, vc, st, tx, ty, vl⟩ = 80 from fe80 hk.out hc.out hs.out VE.out HA.out.2.1 (.inl o1)]; first | rfl | simp, K5.out⟩
                      · by_cases o2 : 4611686018427387903 < op
                        · have o2b : op > 4611686018427387903 := o2
                          go_wp2_with fail
                          go_ret
                          exact ⟨by rw [show faultE ⟨ki, cl, op, pu, ke, va, vn, vc, st, tx, ty, vl⟩ = 80 from fe80 hk.out hc.out hs.out VE.out HA.out.2.1 (.inr (.inl o2))]; first | rfl | simp, K5.out⟩
                        · have o2b : ¬ op > 4611686018427387903 := o2
                          go_wp2_with fail
                          refine (CC.out _).mono ?_
                          rintro o w6 ⟨rfl, K6'⟩
                          have K6 : Hid (Kept (fun _ => False) w w6) := K5.out.trans K6' (fun _ _ z => z)
                          clear K6'
                          cases sb
                          · go_wp2_with fail
                            go_ret
                            exact ⟨by rw [show faultE ⟨ki, cl, op, pu, ke, va, vn, vc, st, tx, ty, vl⟩ = 80 from fe80 hk.out hc.out hs.out VE.out HA.out.2.1 (.inr (.inr HA.out.2.2))]; first | rfl | simp, K6.out⟩
                          · go_wp2_with fail
                            go_ret
                            exact ⟨by rw [show faultE ⟨ki, cl, op, pu, ke, va, vn, vc, st, tx, ty, vl⟩ = 0 from fe0 hk.out hc.out hs.out VE.out HA.out.2.1 (by show ¬ (op < 1 ∨ 4611686018427387903 < op ∨ _); rintro (z | z | z); omega; omega; (rw [HA.out.2.2] at z; cases z))]; first | rfl | simp, K6.out⟩
end Go.Proofs.YtbangbobfeflcaaGreatDoor
