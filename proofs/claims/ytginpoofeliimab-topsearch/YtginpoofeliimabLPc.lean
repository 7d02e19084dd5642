import Derived.Test.YtginpoofeliimabLMath
import Derived.Lib.BitFns
namespace Go.Proofs.Ytginpoofeliimab

/-- How many bits. -/
def pcN (n x : Nat) : Nat := ((List.range n).filter fun j => x.testBit j).length
theorem pcN_add (n m x : Nat) : pcN (n + m) x = pcN n x + pcN m (x / 2 ^ n) := by
  unfold pcN
  rw [List.range_add, List.filter_append, List.length_append, List.filter_map, List.length_map]
  congr 2
  refine List.filter_congr fun j _ => ?_
  show x.testBit (n + j) = (x / 2 ^ n).testBit j
  rw [Nat.testBit_div_two_pow, Nat.add_comm]
theorem pcN_mod (n x : Nat) : pcN n x = pcN n (x % 2 ^ n) := by
  unfold pcN
  congr 1
  refine List.filter_congr fun j hj => ?_
  have hj := List.mem_range.1 hj
  rw [Nat.testBit_mod_two_pow, decide_eq_true hj, Bool.true_and]
theorem pcN_le (n x : Nat) : pcN n x ≤ n := by
  unfold pcN
  have := List.length_filter_le (fun j => x.testBit j) (List.range n)
  rw [List.length_range] at this
  exact this
theorem pc8 : ∀ n : Fin 256, Go.Lib.pop8 (n.val : Int) = ((pcN 8 n.val : Nat) : Int) := by decide +kernel
theorem pc8_of (b : Int) (h0 : 0 ≤ b) (h1 : b < 256) : Go.Lib.pop8 b = ((pcN 8 b.toNat : Nat) : Int) := by
  have := pc8 ⟨b.toNat, by omega⟩
  simp only [Int.toNat_of_nonneg h0] at this
  exact this
theorem pc24 (x : Nat) : pcN 24 x = pcN 8 (x % 256) + pcN 8 (x / 256 % 256) + pcN 8 (x / 65536) := by
  have h1 : pcN 24 x = pcN 8 x + pcN 16 (x / 2 ^ 8) := pcN_add 8 16 x
  have h2 : pcN 16 (x / 2 ^ 8) = pcN 8 (x / 2 ^ 8) + pcN 8 (x / 2 ^ 8 / 2 ^ 8) := pcN_add 8 8 _
  rw [h1, h2, pcN_mod 8 x, pcN_mod 8 (x / 2 ^ 8), Nat.div_div_eq_div_mul]
  have e : (2 : Nat) ^ 8 = 256 := rfl
  rw [e, show (256 * 256 : Nat) = 65536 from rfl, Nat.add_assoc]
end Go.Proofs.Ytginpoofeliimab
