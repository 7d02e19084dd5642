import Derived.Test.YtbangbobfeflcaaGreatDoorHKa
namespace Go.Proofs.YtbangbobfeflcaaGreatDoor
open Go.RowKit 

def plainB (c : Int) : Bool := decide (32 ≤ c) && decide (c ≤ 126) && (c != 34) && (c != 92)
theorem hPlain (c : Int) (w : World) : Calls Tryz.prog 91 #[.int .u8 c] w fun o w' => o = .returned (.bool (plainB c)) ∧ w' = w := by
  unfold plainB
  obtain ⟨t1, e1⟩ : ∃ t, decide (32 ≤ c) = t := ⟨_, rfl⟩
  obtain ⟨t2, e2⟩ : ∃ t, decide (c ≤ 126) = t := ⟨_, rfl⟩
  rw [e1, e2]
  go_enter Tryz.func91, Tryz.ntmps91
  cases t1
  · go_wp2_with fail
    go_ret
    exact ⟨by first | rfl | simp, rfl⟩
  · cases t2
    · go_wp2_with fail
      go_ret
      exact ⟨by first | rfl | simp, rfl⟩
    · by_cases h3 : c = 34
      · subst h3
        go_wp2_with fail
        go_ret
        exact ⟨by first | rfl | simp, rfl⟩
      · go_wp2_with fail
        go_ret
        exact ⟨by first | rfl | simp, rfl⟩
def statusB (s : ByteArray) : Int := if (s.toList == [111, 107]) = true then 0 else if (s.toList == [102, 117, 108, 108]) = true then 42 else if (s.toList == [97, 98, 115, 101, 110, 116]) = true then 76 else 26
theorem hStatusOf (s : ByteArray) (w : World) : Calls Tryz.prog 54 #[.string s] w fun o w' => o = .returned (.int .i64 (statusB s)) ∧ w' = w := by
  unfold statusB
  obtain ⟨t1, e1⟩ : ∃ t, (s.toList == [111, 107]) = t := ⟨_, rfl⟩
  obtain ⟨t2, e2⟩ : ∃ t, (s.toList == [102, 117, 108, 108]) = t := ⟨_, rfl⟩
  obtain ⟨t3, e3⟩ : ∃ t, (s.toList == [97, 98, 115, 101, 110, 116]) = t := ⟨_, rfl⟩
  rw [e1, e2, e3]
  go_enter Tryz.func54, Tryz.ntmps54
  cases t1
  · cases t2
    · cases t3
      · go_wp2_with fail
        go_ret
        exact ⟨by first | rfl | simp, rfl⟩
      · go_wp2_with fail
        go_ret
        exact ⟨by first | rfl | simp, rfl⟩
    · go_wp2_with fail
      go_ret
      exact ⟨by first | rfl | simp, rfl⟩
  · go_wp2_with fail
    go_ret
    exact ⟨by first | rfl | simp, rfl⟩
end Go.Proofs.YtbangbobfeflcaaGreatDoor
