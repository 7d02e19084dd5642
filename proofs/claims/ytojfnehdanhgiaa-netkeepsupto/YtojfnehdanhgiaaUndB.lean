import Derived.Test.YtojfnehdanhgiaaUndA
namespace Go.Proofs.Ytojfnehdanhgiaa
open Go.RowKit

theorem enter10 (vs : Array Value) (w : World) : (callFunc 10 vs).run Try.prog w = .ok (.enter 10 vs) w := by kernel_rfl
theorem enter14 (vs : Array Value) (w : World) : (callFunc 14 vs).run Try.prog w = .ok (.enter 14 vs) w := by kernel_rfl
theorem alloc_new2 (w : World) (o1 : Obj) (cs : Array Value) (t : TypeId) : ((w.alloc o1).alloc (.cells cs t)).heap[w.heap.size + 1]? = some (.cells cs t (0, 0)) := by
  have := alloc_new (w.alloc o1) (.cells cs t)
  rw [alloc_size] at this
  exact this
/-- A row without elements that was just made. -/
theorem own0 {Y : World} {base b : Nat} (h : Y.heap[b]? = some (.cells #[] 39 (0, 0))) (hb : base ≤ b) : Y.ownsRow base 39 6 (.slice (some ⟨b, 0, none⟩) 0 0) 0 (rcells []) :=
  ⟨rfl, .inr ⟨b, 0, #[], rfl, hb, h, Nat.le_refl _, by unfold maxLen; omega, rfl, rfl⟩⟩
theorem IsL.mono {b b' : Nat} {w : World} {q : Option Addr} {len cap : Nat} {R : List Ent} (h : IsL b w q len cap R) (hb : b' ≤ b) : IsL b' w q len cap R := ⟨owns_mono h.own hb, fun e he => (h.good e he).mono hb⟩
/-- What comes of an append onto a row of one's own (block b at the start), beside another list and a block of type 39. -/
theorem grown_beside {w Y Z : World} {b : Nat} (K : Kept (fun _ => False) w Y) (hb : w.heap.size ≤ b) (hnd : NotData Y b) (hg : Y.grownBy Z (some b)) :
    Kept (fun _ => False) w Z ∧ Kept (fun k => k = b) Y Z ∧
    (∀ {base : Nat} {q : Option Addr} {len cap : Nat} {R : List Ent}, IsL base Y q len cap R → (∀ k, blockOf q = some k → k ≠ b) → IsL base Z q len cap R) ∧
    (∀ {b1 : Nat} {o : Obj}, Y.heap[b1]? = some o → b1 ≠ b → Z.heap[b1]? = some o) := by
  have K2 : Kept (fun k => k = b) Y Z := (Kept.refl _ _).grown hg (fun k _ e => by simpa using e.symm)
  refine ⟨K.grown hg (fun k hk e => by simp at e; omega), K2, fun L hq => L.kept K2 (fun k hk s => hq k hk s) (fun k _ s => by rw [s]; exact hnd), fun h hne => K2.get h hne⟩
theorem notdata39 {Y : World} {b : Nat} {cs : Array Value} (h : Y.heap[b]? = some (.cells cs 39 (0, 0))) : NotData Y b := fun cs' f e => by
  rw [h] at e
  simp at e
end Go.Proofs.Ytojfnehdanhgiaa
