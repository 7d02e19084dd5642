import Derived.Test.YtginpoofeliimaaHMath
namespace Go.Proofs.Ytginpoofeliimaa
open Go.RowKit 

set_option maxRecDepth 100000 in
theorem sameInts {w : World} {p q : Option Addr} {k c k' c' b0 b1 : Nat} {R S : List Nat} (h1 : NRow b0 w p k c R) (h2 : NRow b1 w q k' c' S) : Calls Try.prog 16 #[.slice p k c, .slice q k' c'] w fun o w' => o = .returned (.bool (decide (R = S))) ∧ Kept (fun _ => False) w w' := by
  obtain ⟨v, hv⟩ : ∃ v, v = decide (R = S) := ⟨_, rfl⟩
  rw [← hv]
  have H : Hid (v = decide (R = S) ∧ NRow b0 w p k c R ∧ NRow b1 w q k' c' S) := ⟨hv, h1, h2⟩
  have r1 := own_room h1.row
  have r2 := own_room h2.row
  unfold maxLen at r1 r2
  obtain ⟨r11, r12⟩ := r1
  obtain ⟨r21, r22⟩ := r2
  clear h1 h2 hv
  go_enter Try.func16, Try.ntmps16
  by_cases hk : k = k'
  · subst hk
    have P0 : Hid (∀ j, j < 0 → R[j]? = S[j]?) := fun j hj => absurd hj (Nat.not_lt_zero _)
    go_wp2_with fail
    go_loopw [5, 13] (fun _ u13 wr => ∃ i : Nat, u13 = .int .i64 (i : Int) ∧ i ≤ k ∧ Hid (Kept (fun _ => False) w wr) ∧ Hid (∀ j, j < i → R[j]? = S[j]?)) (fun _ u13 _ => k - (intOf u13).toNat)
    case atStart => exact ⟨0, rfl, Nat.zero_le _, Kept.refl _ _, P0⟩
    case round =>
      obtain ⟨i, rfl, hi, K, P⟩ := hrel
      clear P0
      by_cases hlt : i < k
      · have i1 : (i : Int) < (k : Int) := by omega
        obtain ⟨g, r, rfl, hr, cr⟩ := (H.out.2.1.k0 K.out).at hlt
        obtain ⟨g', s, rfl, hs, cs⟩ := (H.out.2.2.k0 K.out).at hlt
        have HR : Hid (R[i]? = some r ∧ S[i]? = some s) := ⟨hr, hs⟩
        clear hr hs
        go_upto_region 6 with fail
        by_cases e : r = s
        · subst e
          go_quiet (fail)
          go_wp2_with fail
          go_roundw
          case rel =>
            refine ⟨i + 1, by go_num, by omega, K.out.drewN _, fun j hj => ?_⟩
            rcases Nat.lt_succ_iff_lt_or_eq.1 hj with z | z
            · exact P.out j z
            · rw [z, HR.out.1, HR.out.2]
          case measure => simp [intOf] <;> omega
        · have e1 : ((r : Int) == (s : Int)) = false := by simp; omega
          have hvF : v = false := by
            rw [H.out.1]
            refine decide_eq_false (fun z => e ?_)
            have := HR.out.1
            rw [z, HR.out.2] at this
            exact (Option.some.inj this).symm
          subst hvF
          go_quiet (fail)
          go_wp2_with fail
          go_ret
          exact ⟨rfl, K.out.drewN _⟩
      · have i1 : ¬ (i : Int) < (k : Int) := by omega
        have hvT : v = true := by
          rw [H.out.1]
          refine decide_eq_true (List.ext_getElem? (fun j => ?_))
          by_cases hj : j < i
          · exact P.out j hj
          · rw [List.getElem?_eq_none (by have := H.out.2.1.len; omega), List.getElem?_eq_none (by have := H.out.2.2.len; omega)]
        subst hvT
        go_wp2_with fail
        go_ret
        exact ⟨rfl, K.out⟩
  · have hk2 : ((k : Int) == (k' : Int)) = false := by simp; omega
    have hvF : v = false := by
      rw [H.out.1]
      refine decide_eq_false (fun z => hk ?_)
      have h1 := H.out.2.1.len
      have h2 := H.out.2.2.len
      rw [z] at h1
      omega
    subst hvF
    go_wp2_with fail
    go_ret
    exact ⟨rfl, Kept.refl _ _⟩
end Go.Proofs.Ytginpoofeliimaa
