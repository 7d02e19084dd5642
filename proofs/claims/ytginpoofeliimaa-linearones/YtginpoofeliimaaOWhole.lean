import Derived.Test.YtginpoofeliimaaOMem
namespace Go.Proofs.Ytginpoofeliimaa
open Go.RowKit 

set_option maxRecDepth 100000 in
set_option maxHeartbeats 4000000 in
theorem rWhole {w0 wa : World} {sb : Nat} {p0 : Option Addr} {n c0 : Nat} {q : Option Addr} {k kc : Nat} {b : List Nat} {r : Option Addr} {rc : Nat} {ms : List Cm} (cr : CRd w0 p0 n c0 ms) (h : SS w0 wa sb p0 n c0 q k kc b r rc) : Calls Try.prog 35 #[.pointer (some ⟨sb, 0, none⟩)] wa (RetB fun v w' => (v = true ↔ XWhole (ms.map Cm.cl) b) ∧ Kept (fun _ => False) wa w') := by
  have H : Hid (CRd w0 p0 n c0 ms ∧ SS w0 wa sb p0 n c0 q k kc b r rc) := ⟨cr, h⟩
  have rr := own_room h.inn
  unfold maxLen at rr
  have rn1 := cr.room
  have rn2 := cr.small
  unfold maxLen at rn2
  have s0 := cell_blk h.blk 0 (v := .slice p0 n c0) rfl
  have L0 : Hid (∀ i, i < 0 → ∀ c, (ms.map Cm.cl)[i]? = some c → c.must = true → i ∈ b) := fun i hi => absurd hi (Nat.not_lt_zero _)
  clear cr h
  go_enter Try.func35, Try.ntmps35
  go_wp2_with fail
  go_loopw [3, 4, 10] (fun _ _ u10 wy => ∃ i : Nat, u10 = .int .i64 (i : Int) ∧ i ≤ n ∧ Hid (Kept (fun _ => False) wa wy) ∧ Hid (∀ j, j < i → ∀ c, (ms.map Cm.cl)[j]? = some c → c.must = true → j ∈ b)) (fun _ _ u10 _ => n - (intOf u10).toNat)
  case atStart => exact ⟨0, rfl, Nat.zero_le _, Kept.refl _ _, L0⟩
  case round =>
    obtain ⟨i, rfl, hi, K, L⟩ := hrel
    clear L0 s0
    obtain ⟨wo, hwo⟩ : ∃ wo, wo = wr := ⟨_, rfl⟩
    rw [← hwo] at K ⊢
    clear hwo
    by_cases hlt : i < n
    · have i1 : (i : Int) < (n : Int) := by omega
      obtain ⟨b9, off9, m, rfl, hm, y0, y1, y2, y3, y4, y5, y6, y7, y8, y9, y10, rd⟩ := (H.out.1.k0 (H.out.2.kept.trans K.out (fun _ _ z => z))).at hlt
      obtain ⟨mu, hmu⟩ : ∃ mu, m.cl.must = mu := ⟨_, rfl⟩
      have RM : Hid (∀ V, Calls Try.prog 34 #[m.agg] V fun o w' => o = .returned (.bool mu) ∧ Kept (fun _ => False) V w') := fun V => by rw [← hmu]; exact rMust m V
      have HM : Hid ((ms.map Cm.cl)[i]? = some m.cl ∧ m.cl.must = mu) := ⟨by rw [List.getElem?_map, hm]; rfl, hmu⟩
      unfold Cm.agg at RM
      clear hm hmu rd
      go_wp2_with fail
      refine (RM.out _).mono ?_
      rintro o w2 ⟨rfl, K2⟩
      have K3 : Hid (Kept (fun _ => False) wa w2) := (K.out.alloc _).trans K2 (fun _ _ z => z)
      clear K2 RM y0 y1 y2 y3 y4 y5 y6 y7 y8 y9 y10
      cases mu
      · have LN : Hid (∀ j, j < i + 1 → ∀ c, (ms.map Cm.cl)[j]? = some c → c.must = true → j ∈ b) := fun j hj c hc hm => by
          rcases Nat.lt_succ_iff_lt_or_eq.1 hj with z | z
          · exact L.out j z c hc hm
          · subst z
            rw [HM.out.1] at hc
            injection hc with hc
            rw [← hc, HM.out.2] at hm
            cases hm
        go_wp2_with fail
        go_roundw
        case rel => exact ⟨i + 1, by go_num, by omega, K3, LN⟩
        case measure => simp [intOf] <;> omega
      · obtain ⟨g, rfl, gi, _, _⟩ := (H.out.2.k0 K3.out).inAt hlt
        have t2 := cell_blk ((H.out.2.k0 K3.out).blk) 2 (v := .slice (some ⟨g, 0, none⟩) n rc) rfl
        by_cases ib : i ∈ b
        · rw [decide_eq_true ib] at gi
          have LN : Hid (∀ j, j < i + 1 → ∀ c, (ms.map Cm.cl)[j]? = some c → c.must = true → j ∈ b) := fun j hj c hc hm => by
            rcases Nat.lt_succ_iff_lt_or_eq.1 hj with z | z
            · exact L.out j z c hc hm
            · rw [z]; exact ib
          go_wp2_with fail
          go_roundw
          case rel => exact ⟨i + 1, by go_num, by omega, K3, LN⟩
          case measure => simp [intOf] <;> omega
        · rw [decide_eq_false ib] at gi
          go_wp2_with fail
          go_ret
          exact RetB.mk false rfl ⟨⟨fun z => (by cases z), fun z => absurd (z i _ HM.out.1 HM.out.2) ib⟩, K3.out⟩
    · have i1 : ¬ (i : Int) < (n : Int) := by omega
      go_wp2_with fail
      go_ret
      refine RetB.mk true rfl ⟨⟨fun _ j c hc hm => L.out j ?_ c hc hm, fun _ => rfl⟩, K.out⟩
      have := (List.getElem?_eq_some_iff.1 hc).1
      rw [List.length_map, H.out.1.len] at this
      omega
end Go.Proofs.Ytginpoofeliimaa
