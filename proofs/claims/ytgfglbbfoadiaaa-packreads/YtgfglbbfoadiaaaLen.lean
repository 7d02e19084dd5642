import Derived.Test.YtgfglbbfoadiaaaMath
import Derived.Lib.BitFns
import Derived.Lib.Walk
namespace Go.Proofs.Ytgfglbbfoadiaaa

theorem tab_len : ∀ n : Fin 256, Lib.len8 (n.val : Int) = (Pk.len n.val : Int) := by decide +kernel
/-- One road through the table: the shift is s. -/
theorem tab_road (n s : Nat) (y : Int) (hs : s ≤ 56) (hy : y = ((n / 2 ^ s : Nat) : Int)) (h1 : n / 2 ^ s < 256) (h2 : s = 0 ∨ 0 < n / 2 ^ s) :
    ((s : Int) + ((Lib.len8 y + 9223372036854775808) % 18446744073709551616 - 9223372036854775808) + 9223372036854775808) % 18446744073709551616 - 9223372036854775808 = (Pk.len n : Int) := by
  have t := tab_len ⟨n / 2 ^ s, h1⟩
  have l : Pk.len (n / 2 ^ s) ≤ 8 := by
    by_cases z : Pk.len (n / 2 ^ s) = 0
    · omega
    · have := (Nat.pow_lt_pow_iff_right (a := 2) (by omega)).1 (Nat.lt_of_le_of_lt (Pk.len_ge _ z) (show n / 2 ^ s < 2 ^ 8 from h1))
      omega
  have e : Pk.len n = s + Pk.len (n / 2 ^ s) := by
    rcases h2 with h2 | h2
    · subst h2; simp
    · exact Pk.len_shift n s h2
  simp only at t
  rw [hy, t, e]
  omega
set_option maxHeartbeats 4000000 in
set_option maxRecDepth 100000 in
theorem len64 (n : Nat) (w : World) (h : n < 18446744073709551616) : Calls Try.prog 32 #[.int .u64 (n : Int)] w fun x w' => x = .returned (.int .i64 ((Pk.len n : Nat) : Int)) ∧ w' = w := by
  go_enter Try.func32, Try.ntmps32
  go_wp2
  all_goals (go_ret; refine ⟨congrArg Ending.returned (congrArg (Value.int IntKind.i64) ?_), rfl⟩)
  · exact tab_road n 56 _ (by omega) (by omega) (by omega) (by omega)
  · exact tab_road n 48 _ (by omega) (by omega) (by omega) (by omega)
  · exact tab_road n 40 _ (by omega) (by omega) (by omega) (by omega)
  · exact tab_road n 32 _ (by omega) (by omega) (by omega) (by omega)
  · exact tab_road n 24 _ (by omega) (by omega) (by omega) (by omega)
  · exact tab_road n 16 _ (by omega) (by omega) (by omega) (by omega)
  · exact tab_road n 8 _ (by omega) (by omega) (by omega) (by omega)
  · have := tab_road n 0 ((n : Int) % 256) (by omega) (by omega) (by omega) (by omega)
    omega
end Go.Proofs.Ytgfglbbfoadiaaa
