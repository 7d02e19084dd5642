import Derived.Test.YtginpoofeliimaaOMem
namespace Go.Proofs.Ytginpoofeliimaa
open Go.RowKit 

theorem lastF_put {cs : List Cl} {o : List Nat} {i : Nat} {c : Cl} (hc : cs[i]? = some c) (hp : c.put = true) : lastF cs (o ++ [i]) (-1) = (i : Int) := by
  rw [lastF_add, hc]
  show (if c.put = true then (i : Int) else lastF cs o (-1)) = _
  rw [if_pos hp]
theorem lastF_get {cs : List Cl} {o : List Nat} {i : Nat} {c : Cl} (hc : cs[i]? = some c) (hp : c.put = false) : lastF cs (o ++ [i]) (-1) = lastF cs o (-1) := by
  rw [lastF_add, hc]
  show (if c.put = true then (i : Int) else lastF cs o (-1)) = _
  rw [if_neg (by rw [hp]; simp)]
set_option maxRecDepth 100000 in
set_option maxHeartbeats 4000000 in
theorem rLast {w0 wr : World} {sb : Nat} {p0 : Option Addr} {n c0 : Nat} {q : Option Addr} {k kc : Nat} {b : List Nat} {r : Option Addr} {rc : Nat} {ms : List Cm} (cr : CRd w0 p0 n c0 ms) (h : SS w0 wr sb p0 n c0 q k kc b r rc) (lt : ∀ i ∈ b, i < n) (kb : k ≤ 24) : Calls Try.prog 42 #[.pointer (some ⟨sb, 0, none⟩)] wr fun o w' => o = .returned (.int .i64 (lastF (ms.map Cm.cl) b (-1))) ∧ Kept (fun _ => False) wr w' := by
  obtain ⟨l, hl⟩ : ∃ l, l = lastF (ms.map Cm.cl) b (-1) := ⟨_, rfl⟩
  rw [← hl]
  have H : Hid (CRd w0 p0 n c0 ms ∧ SS w0 wr sb p0 n c0 q k kc b r rc ∧ (∀ i ∈ b, i < n)) := ⟨cr, h, lt⟩
  have L0 : Hid (l = lastF (ms.map Cm.cl) (b.take k) (-1)) := by
    unfold Hid
    rw [List.take_of_length_le (by rw [h.ord.len]; exact Nat.le_refl _)]
    exact hl
  have rk := own_room h.ord.row
  unfold maxLen at rk
  have rn1 := cr.room
  have rn2 := cr.small
  unfold maxLen at rn2
  have s1 := cell_blk h.blk 1 (v := .slice q k kc) rfl
  have wk : wrap64 ((k : Int) - 1) = (k : Int) - 1 := by unfold wrap64; omega
  clear cr h lt hl
  go_enter Try.func42, Try.ntmps42
  go_wp2_with fail
  go_loopw [3] (fun u3 wx => ∃ j : Nat, u3 = .int .i64 ((j : Int) - 1) ∧ j ≤ k ∧ Hid (Kept (fun _ => False) wr wx) ∧ Hid (l = lastF (ms.map Cm.cl) (b.take j) (-1))) (fun u3 _ => (intOf u3 + 1).toNat)
  case atStart => exact ⟨k, rfl, Nat.le_refl _, Kept.refl _ _, L0⟩
  case round =>
    rename_i wx _
    obtain ⟨j, rfl, hj, K, L⟩ := hrel
    clear L0 s1
    cases j with
    | zero =>
      have e0 : ((0 : Nat) : Int) - 1 = -1 := by omega
      rw [e0]
      have hl : l = -1 := L.out
      subst hl
      go_wp2_with fail
      go_ret
      exact ⟨rfl, K.out⟩
    | succ j =>
      have e0 : ((j + 1 : Nat) : Int) - 1 = (j : Int) := by omega
      rw [e0]
      obtain ⟨g, x, rfl, hx, cx⟩ := (H.out.2.1.ord.k0 K.out).at (show j < k by omega)
      have xn : x < n := H.out.2.2 x (List.mem_of_getElem? hx)
      obtain ⟨b9, off9, m, rfl, hm, _, _, y2, _⟩ := (H.out.1.k0 (H.out.2.1.kept.trans K.out (fun _ _ z => z))).at xn
      have t0 := cell_blk ((H.out.2.1.k0 K.out).blk) 0 (v := .slice (some ⟨b9, off9, none⟩) n c0) rfl
      have t1 := cell_blk ((H.out.2.1.k0 K.out).blk) 1 (v := .slice (some ⟨g, 0, none⟩) k kc) rfl
      have j1 : (j : Int) < (k : Int) := by omega
      have x1 : (x : Int) < (n : Int) := by omega
      have wj : wrap64 ((j : Int) - 1) = (j : Int) - 1 := by unfold wrap64; omega
      have et : b.take (j + 1) = b.take j ++ [x] := by rw [List.take_add_one, hx]; rfl
      have hc : (ms.map Cm.cl)[x]? = some m.cl := by rw [List.getElem?_map, hm]; rfl
      obtain ⟨pu, hpu⟩ : ∃ pu, m.put = pu := ⟨_, rfl⟩
      rw [hpu] at y2
      cases pu
      · have LN : Hid (l = lastF (ms.map Cm.cl) (b.take j) (-1)) := by
          have := L.out
          rw [et, lastF_get hc hpu] at this
          exact this
        clear hx hm et hc hpu
        go_upto_region 4 with fail
        go_quiet (fail)
        go_wp2_with fail
        go_roundw
        case rel => exact ⟨j, rfl, by omega, K.out.drewN _, LN⟩
        case measure => simp [intOf] <;> omega
      · have LN : l = (x : Int) := by
          have := L.out
          rw [et, lastF_put hc hpu] at this
          exact this
        subst LN
        clear hx hm et hc hpu
        go_upto_region 4 with fail
        go_quiet (fail)
        go_wp2_with fail
        go_ret
        exact ⟨rfl, K.out.drewN _⟩
end Go.Proofs.Ytginpoofeliimaa
