import Derived.Test.YtankiipkkbihiaaRows
import Derived.KernelRfl
namespace Go.Proofs.Ytankiipkkbihiaa
def zf : Array Value := #[.int .i64 0] ++ Array.replicate 766 (.int .u8 0)
theorem zero50 (w : World) : Sem.run Try.prog (zeroValue 50) w = .ok (.agg zf) w := by kernel_rfl
theorem zf_size : zf.size = 767 := by simp [zf]
theorem zf_ex : ∃ Z : Array Value, Z.size = 767 ∧ Z ≠ #[] ∧ (∀ w, Sem.run Try.prog (zeroValue 50) w = .ok (.agg Z) w) := by
  refine ⟨zf, zf_size, ?_, zero50⟩
  intro h
  have := congrArg Array.size h
  rw [zf_size] at this; simp at this
end Go.Proofs.Ytankiipkkbihiaa
