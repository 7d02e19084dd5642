import Derived.Test.YtginpoofeliimabLPc
import Derived.Test.YtginpoofeliimabChecked
import Derived.Lib.Walk
import Derived.BigQuiet
namespace Go.Proofs.Ytginpoofeliimab

theorem u32_low8 (a : Nat) (ha : a < 4294967296) : bits .and .u32 (a : Int) 255 = ((a % 256 : Nat) : Int) := by
  have o : (BitVec.ofInt 32 (a : Int)).toNat = a := by rw [BitVec.toNat_ofInt]; simp; omega
  show IntKind.u32.wrap ((BitVec.ofInt 32 (a : Int) &&& BitVec.ofInt 32 255).toNat : Int) = _
  have e : a &&& 255 = a % 256 := Nat.and_two_pow_sub_one_eq_mod a 8
  rw [BitVec.toNat_and, o, show (BitVec.ofInt 32 255).toNat = 255 from rfl, e, IntKind.wrap_u32]
  omega
set_option maxHeartbeats 4000000 in
set_option maxRecDepth 100000 in
theorem onesCount {x : Nat} (hx : x < 16777216) (w : World) : Calls Try.prog 36 #[.int .u32 (x : Int)] w fun o w' => o = .returned (.int .i64 ((pcN 24 x : Nat) : Int)) ∧ w'.heap = w.heap ∧ w'.os = w.os ∧ w'.output = w.output ∧ w'.tape = w.tape := by
  obtain ⟨a, ha⟩ : ∃ a : Nat, a = x / 65536 := ⟨_, rfl⟩
  obtain ⟨b, hb⟩ : ∃ b : Nat, b = x / 256 := ⟨_, rfl⟩
  obtain ⟨c, hc⟩ : ∃ c : Nat, c = x / 256 % 256 := ⟨_, rfl⟩
  obtain ⟨e, he⟩ : ∃ e : Nat, e = x % 256 := ⟨_, rfl⟩
  have s24 : (x : Int) / 16777216 = 0 := by omega
  have s16 : (x : Int) / 65536 = (a : Int) := by omega
  have s8 : (x : Int) / 256 = (b : Int) := by omega
  have m16 : bits .and .u32 (a : Int) 255 = (a : Int) := by rw [u32_low8 a (by omega)]; omega
  have m8 : bits .and .u32 (b : Int) 255 = (c : Int) := by rw [u32_low8 b (by omega)]; omega
  have m0 : bits .and .u32 (x : Int) 255 = (e : Int) := by rw [u32_low8 x (by omega), he]
  have la0 : (0 : Int) ≤ (a : Int) := by omega
  have la : (a : Int) ≤ 255 := by omega
  have lc0 : (0 : Int) ≤ (c : Int) := by omega
  have lc : (c : Int) ≤ 255 := by omega
  have le0 : (0 : Int) ≤ (e : Int) := by omega
  have le : (e : Int) ≤ 255 := by omega
  obtain ⟨pa, hpa⟩ : ∃ pa, pa = pcN 8 a := ⟨_, rfl⟩
  obtain ⟨pc, hpc⟩ : ∃ pc, pc = pcN 8 c := ⟨_, rfl⟩
  obtain ⟨pe, hpe⟩ : ∃ pe, pe = pcN 8 e := ⟨_, rfl⟩
  have p0 : Go.Lib.pop8 0 = 0 := by decide +kernel
  have qa : Go.Lib.pop8 (a : Int) = (pa : Int) := by rw [pc8_of _ la0 (by omega), hpa, Int.toNat_natCast]
  have qc : Go.Lib.pop8 (c : Int) = (pc : Int) := by rw [pc8_of _ lc0 (by omega), hpc, Int.toNat_natCast]
  have qe : Go.Lib.pop8 (e : Int) = (pe : Int) := by rw [pc8_of _ le0 (by omega), hpe, Int.toNat_natCast]
  have ba : pa ≤ 8 := by rw [hpa]; exact pcN_le _ _
  have bc : pc ≤ 8 := by rw [hpc]; exact pcN_le _ _
  have be : pe ≤ 8 := by rw [hpe]; exact pcN_le _ _
  have E : pcN 24 x = pa + pc + pe := by rw [pc24 x, hpa, hpc, hpe, ha, hc, he]; omega
  rw [E]
  clear ha hb hc he hpa hpc hpe E
  go_enter Try.func36, Try.ntmps36
  go_wp2
  go_region
  go_wp2
  go_ret
  exact ⟨by simp, rfl, rfl, rfl, rfl⟩
end Go.Proofs.Ytginpoofeliimab
