import Derived.Test.YtbangbobfeflcaaGreatDoorRFmJ
namespace Go.Proofs.YtbangbobfeflcaaGreatDoor
open Go.RowKit 

theorem tagged_b (ki st : Int) (pu : Bool) (zb pb : Bool) (e : Ev) (hk : ki = 1 ∨ ki = 2 ∨ ki = 3) (h1 : e.kind = ki) (h2 : e.st = st) (h3 : e.put = pu) (hz : kIsZero e.tx e.ty = zb) (hp : kIsProper e.tx e.ty = pb) : tagE e = (if (zb || pb) = false then false else if ((ki == 1) || ((ki == 3) && !pu) || ((ki == 2) && ((st == 76) || (st == 42)))) = true then zb else (!zb || !(ki == 2) || !(st == 0))) := by
  unfold tagE formE formR
  rw [h1, h2, h3, hz, hp]
  rcases hk with rfl | rfl | rfl
  · cases pu <;> cases zb <;> cases pb <;> simp
  · by_cases s0 : st = 0
    · subst s0
      cases pu <;> cases zb <;> cases pb <;> simp
    · by_cases s1 : st = 76
      · subst s1
        cases pu <;> cases zb <;> cases pb <;> simp
      · by_cases s2 : st = 42
        · subst s2
          cases pu <;> cases zb <;> cases pb <;> simp
        · cases pu <;> cases zb <;> cases pb <;> simp [s0, s1, s2]
  · cases pu <;> cases zb <;> cases pb <;> simp
set_option maxRecDepth 100000 in
set_option maxHeartbeats 1000000 in
theorem hTagged (e : Ev) (hk : e.kind = 1 ∨ e.kind = 2 ∨ e.kind = 3) (w : World) : Calls Tryz.prog 72 #[e.agg] w fun o w' => o = .returned (.bool (tagE e)) ∧ Kept (fun _ => False) w w' := by
  obtain ⟨zb, hz⟩ : ∃ zb, kIsZero e.tx e.ty = zb := ⟨_, rfl⟩
  obtain ⟨pb, hp⟩ : ∃ pb, kIsProper e.tx e.ty = pb := ⟨_, rfl⟩
  rw [tagged_b e.kind e.st e.put zb pb e hk rfl rfl rfl hz hp]
  clear hk
  obtain ⟨ki, cl, op, pu, ke, va, vn, vc, st, tx, ty, vl⟩ := e
  unfold Ev.agg
  dsimp only at *
  have K : Hid (Kept (fun _ => False) w (w.alloc (Obj.cells #[.int .i64 ki, .int .i64 cl, .int .i64 op, .bool pu, .string ke, .slice va vn vc, .int .i64 st, .int .i64 tx, .int .i64 ty] 39))) := (Kept.refl _ _).alloc _
  have CV : Hid (∀ V, Calls Tryz.prog 95 #[.agg #[.int .i64 tx, .int .i64 ty]] V fun x w' => x = .returned (.bool (zb || pb)) ∧ Kept (fun _ => False) V w') := fun V => by rw [← hz, ← hp]; exact hRValid tx ty V
  obtain ⟨b1, e1⟩ : ∃ t, (ki == 1) = t := ⟨_, rfl⟩
  obtain ⟨b2, e2⟩ : ∃ t, (ki == 2) = t := ⟨_, rfl⟩
  obtain ⟨b8, e8⟩ : ∃ t, (ki == 3) = t := ⟨_, rfl⟩
  obtain ⟨b3, e3⟩ : ∃ t, (st == 0) = t := ⟨_, rfl⟩
  obtain ⟨b4, e4⟩ : ∃ t, (st == 42) = t := ⟨_, rfl⟩
  obtain ⟨b5, e5⟩ : ∃ t, (st == 76) = t := ⟨_, rfl⟩
  have n2 : (ki != 2) = !b2 := by rw [← e2]; rfl
  have n3 : (st != 0) = !b3 := by rw [← e3]; rfl
  obtain ⟨x0, ex⟩ : ∃ t, (tx == 0) = t := ⟨_, rfl⟩
  obtain ⟨y0, ey⟩ : ∃ t, (ty == 0) = t := ⟨_, rfl⟩
  have Z1 : Hid (zb = (x0 && y0)) := by
    show zb = _
    rw [← hz, ← ex, ← ey]
    unfold kIsZero
    rw [Bool.eq_iff_iff]
    simp
  rw [e1, e2, e8, e3, e4, e5]
  clear hz hp
  have B0 : Hid ((w.alloc (Obj.cells #[.int .i64 ki, .int .i64 cl, .int .i64 op, .bool pu, .string ke, .slice va vn vc, .int .i64 st, .int .i64 tx, .int .i64 ty] 39)).heap[w.heap.size]? = some (.cells #[.int .i64 ki, .int .i64 cl, .int .i64 op, .bool pu, .string ke, .slice va vn vc, .int .i64 st, .int .i64 tx, .int .i64 ty] 39 (0, 0))) := alloc_new _ _
  go_enter Tryz.func72, Tryz.ntmps72
  cases x0
  · have zz : zb = false := by rw [Z1.out]; rfl
    subst zz
    go_wp2_with fail
    refine (CV.out _).mono ?_
    rintro o w1 ⟨rfl, K1⟩
    have b0 := K1.get B0.out (fun z => z)
    have HK : Hid (Kept (fun _ => False) w w1) := K.out.trans K1 (fun _ _ z => z)
    have d0 := cell_blk b0 0 (v := .int .i64 ki) rfl
    have d3 := cell_blk b0 3 (v := .bool pu) rfl
    have d6 := cell_blk b0 6 (v := .int .i64 st) rfl
    clear K1 b0 CV B0 K
    cases pb
    · go_wp2_with fail
      go_ret
      exact ⟨by first | rfl | simp, HK.out⟩
    · cases b1
      · cases b8
        · cases b2
          · go_wp2_with fail
            go_ret
            exact ⟨by first | rfl | simp, HK.out⟩
          · cases b5
            · cases b4
              · cases b3
                · go_wp2_with fail
                  go_ret
                  exact ⟨by first | rfl | simp, HK.out⟩
                · go_wp2_with fail
                  go_ret
                  exact ⟨by first | rfl | simp, HK.out⟩
              · go_wp2_with fail
                go_ret
                exact ⟨by first | rfl | simp, HK.out⟩
            · go_wp2_with fail
              go_ret
              exact ⟨by first | rfl | simp, HK.out⟩
        · cases pu
          · go_wp2_with fail
            go_ret
            exact ⟨by first | rfl | simp, HK.out⟩
          · cases b2
            · go_wp2_with fail
              go_ret
              exact ⟨by first | rfl | simp, HK.out⟩
            · cases b5
              · cases b4
                · cases b3
                  · go_wp2_with fail
                    go_ret
                    exact ⟨by first | rfl | simp, HK.out⟩
                  · go_wp2_with fail
                    go_ret
                    exact ⟨by first | rfl | simp, HK.out⟩
                · go_wp2_with fail
                  go_ret
                  exact ⟨by first | rfl | simp, HK.out⟩
              · go_wp2_with fail
                go_ret
                exact ⟨by first | rfl | simp, HK.out⟩
      · go_wp2_with fail
        go_ret
        exact ⟨by first | rfl | simp, HK.out⟩
  · cases y0
    · have zz : zb = false := by rw [Z1.out]; rfl
      subst zz
      go_wp2_with fail
      refine (CV.out _).mono ?_
      rintro o w1 ⟨rfl, K1⟩
      have b0 := K1.get B0.out (fun z => z)
      have HK : Hid (Kept (fun _ => False) w w1) := K.out.trans K1 (fun _ _ z => z)
      have d0 := cell_blk b0 0 (v := .int .i64 ki) rfl
      have d3 := cell_blk b0 3 (v := .bool pu) rfl
      have d6 := cell_blk b0 6 (v := .int .i64 st) rfl
      clear K1 b0 CV B0 K
      cases pb
      · go_wp2_with fail
        go_ret
        exact ⟨by first | rfl | simp, HK.out⟩
      · cases b1
        · cases b8
          · cases b2
            · go_wp2_with fail
              go_ret
              exact ⟨by first | rfl | simp, HK.out⟩
            · cases b5
              · cases b4
                · cases b3
                  · go_wp2_with fail
                    go_ret
                    exact ⟨by first | rfl | simp, HK.out⟩
                  · go_wp2_with fail
                    go_ret
                    exact ⟨by first | rfl | simp, HK.out⟩
                · go_wp2_with fail
                  go_ret
                  exact ⟨by first | rfl | simp, HK.out⟩
              · go_wp2_with fail
                go_ret
                exact ⟨by first | rfl | simp, HK.out⟩
          · cases pu
            · go_wp2_with fail
              go_ret
              exact ⟨by first | rfl | simp, HK.out⟩
            · cases b2
              · go_wp2_with fail
                go_ret
                exact ⟨by first | rfl | simp, HK.out⟩
              · cases b5
                · cases b4
                  · cases b3
                    · go_wp2_with fail
                      go_ret
                      exact ⟨by first | rfl | simp, HK.out⟩
                    · go_wp2_with fail
                      go_ret
                      exact ⟨by first | rfl | simp, HK.out⟩
                  · go_wp2_with fail
                    go_ret
                    exact ⟨by first | rfl | simp, HK.out⟩
                · go_wp2_with fail
                  go_ret
                  exact ⟨by first | rfl | simp, HK.out⟩
        · go_wp2_with fail
          go_ret
          exact ⟨by first | rfl | simp, HK.out⟩
    · have zz : zb = true := by rw [Z1.out]; rfl
      subst zz
      go_wp2_with fail
      refine (CV.out _).mono ?_
      rintro o w1 ⟨rfl, K1⟩
      have b0 := K1.get B0.out (fun z => z)
      have HK : Hid (Kept (fun _ => False) w w1) := K.out.trans K1 (fun _ _ z => z)
      have d0 := cell_blk b0 0 (v := .int .i64 ki) rfl
      have d3 := cell_blk b0 3 (v := .bool pu) rfl
      have d6 := cell_blk b0 6 (v := .int .i64 st) rfl
      clear K1 b0 CV B0 K
      cases b1
      · cases b8
        · cases b2
          · go_wp2_with fail
            go_ret
            exact ⟨by first | rfl | simp, HK.out⟩
          · cases b5
            · cases b4
              · cases b3
                · go_wp2_with fail
                  go_ret
                  exact ⟨by first | rfl | simp, HK.out⟩
                · go_wp2_with fail
                  go_ret
                  exact ⟨by first | rfl | simp, HK.out⟩
              · go_wp2_with fail
                go_ret
                exact ⟨by first | rfl | simp, HK.out⟩
            · go_wp2_with fail
              go_ret
              exact ⟨by first | rfl | simp, HK.out⟩
        · cases pu
          · go_wp2_with fail
            go_ret
            exact ⟨by first | rfl | simp, HK.out⟩
          · cases b2
            · go_wp2_with fail
              go_ret
              exact ⟨by first | rfl | simp, HK.out⟩
            · cases b5
              · cases b4
                · cases b3
                  · go_wp2_with fail
                    go_ret
                    exact ⟨by first | rfl | simp, HK.out⟩
                  · go_wp2_with fail
                    go_ret
                    exact ⟨by first | rfl | simp, HK.out⟩
                · go_wp2_with fail
                  go_ret
                  exact ⟨by first | rfl | simp, HK.out⟩
              · go_wp2_with fail
                go_ret
                exact ⟨by first | rfl | simp, HK.out⟩
      · go_wp2_with fail
        go_ret
        exact ⟨by first | rfl | simp, HK.out⟩
end Go.Proofs.YtbangbobfeflcaaGreatDoor
