import Derived.Test.YtonfefhegghapaaDoorTNm
namespace Go.Proofs.YtonfefhegghapaaDoor
open Go.RowKit 

def isPat : List Int → Bool
  | [z] => decide (0 ≤ z) && decide (z ≤ 4294967295)
  | _ => false
set_option maxRecDepth 100000 in
set_option maxHeartbeats 1000000 in
theorem hPat {w : World} {p : Option Addr} {n c : Nat} {zs : List Int} (R : IRd w p n c zs) : Calls Tryd.prog 33 #[.slice p n c] w fun o w' => o = .returned (.bool (isPat zs)) ∧ w' = w := by
  have hn : n ≤ 9223372036854775807 := by have h1 := R.room; have h2 := R.small; unfold maxLen at h2; omega
  obtain ⟨x, hx⟩ : ∃ x, isPat zs = x := ⟨_, rfl⟩
  rw [hx]
  by_cases h1 : n = 1
  · subst h1
    obtain ⟨z, rfl⟩ := List.length_eq_one_iff.1 R.len
    obtain ⟨b, off, rfl, hc⟩ := R.cells (by omega)
    have c0 := hc 0 z rfl
    rw [Nat.add_zero] at c0
    have zk := R.ki z (by simp)
    have z1 := zk.1
    have z2 := zk.2
    have hx : (decide (0 ≤ z) && decide (z ≤ 4294967295)) = x := hx
    clear R hc zk
    by_cases a : 0 ≤ z
    · by_cases b : z ≤ 4294967295
      · rw [decide_eq_true a, decide_eq_true b] at hx
        subst hx
        go_enter Tryd.func33, Tryd.ntmps33
        go_wp2_with fail
        go_ret
        exact ⟨by first | rfl | simp, rfl⟩
      · rw [decide_eq_true a, decide_eq_false b] at hx
        subst hx
        go_enter Tryd.func33, Tryd.ntmps33
        go_wp2_with fail
        go_ret
        exact ⟨by first | rfl | simp, rfl⟩
    · rw [decide_eq_false a] at hx
      subst hx
      go_enter Tryd.func33, Tryd.ntmps33
      go_wp2_with fail
      go_ret
      exact ⟨by first | rfl | simp, rfl⟩
  · have e : x = false := by
      rw [← hx]
      rcases zs with _ | ⟨z, _ | ⟨y, r⟩⟩
      · rfl
      · have := R.len
        simp at this
        omega
      · rfl
    subst e
    have n1 : ¬ (n : Int) = 1 := by omega
    clear R hx h1
    go_enter Tryd.func33, Tryd.ntmps33
    go_wp2_with fail
    go_ret
    exact ⟨by first | rfl | simp, rfl⟩
end Go.Proofs.YtonfefhegghapaaDoor
