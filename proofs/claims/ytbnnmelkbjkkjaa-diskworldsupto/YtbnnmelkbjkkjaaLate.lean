import Derived.Test.YtbnnmelkbjkkjaaStopState
namespace Go.Proofs.Ytbnnmelkbjkkjaa
open Go.RowKit

theorem MD.off {w wr w' : World} {S : Nat → Prop} {L : List (Nat × DK)} (h : MD w wr L) (K : Kept S wr w') (hn : ∀ x ∈ L, ∀ k, x.2.Uses x.1 k → ¬ S k) (hs : ∀ k, S k → w.heap.size ≤ k) : MD w w' L :=
  ⟨fun x hx => (h.is x hx).off K (hn x hx), h.apart, h.kept.trans K (fun k hk z => by have := hs k z; omega)⟩
theorem MD.of_hd {w wr : World} {B : Nat} {A : AB} (h : HD w wr B A) : ∃ d, d.ab = A ∧ MD w wr [(B, d)] := by
  obtain ⟨d, i, e⟩ := h.ex
  refine ⟨d, e, ⟨fun x hx => ?_, List.pairwise_singleton _ _, h.kept⟩⟩
  rw [List.mem_singleton.1 hx]
  exact i
/-- The same disk with more acts behind it. -/
def AB.late (A : AB) (k : Nat) (dn : Bool) : AB := { A with acts := A.acts + k, done := dn }
theorem put_late (A : AB) (k : Nat) (dn : Bool) (kd : Int) (i : Nat) (l : List Nat) : ((A.late k dn).put kd i l).counted = ((A.put kd i l).counted).late k dn := by
  have e : A.acts + k + 1 = A.acts + 1 + k := by omega
  unfold AB.put AB.add AB.more AB.sync AB.switch AB.late AB.counted
  (repeat' split) <;> simp only [e]
theorem late_act (A : AB) (hl : A.dead = false) (hf : A.named = 0) (k : Nat) (dn : Bool) (kd s : Int) (l : List Nat) : (A.late k dn).act kd s l = ((A.act kd s l).1.late k dn, (A.act kd s l).2) := by
  by_cases hs : ¬ (s = 0 ∨ s = 1) ∨ (kd = 2 ∧ s = (A.cur : Int))
  · rw [act_bad hl hs, act_bad (A := A.late k dn) hl hs]
  · rw [act_free hl hf hs, act_free (A := A.late k dn) hl hf hs, put_late]
theorem late_ok {A : AB} {s t k : Nat} (h : Small A s t) (hs : s ≤ Few) (ht : t + k ≤ Few) (dn : Bool) : (A.late k dn).Ok := by
  have := h.ok hs (by omega)
  refine ⟨this.w0, this.w1, this.n0, this.n1, ?_, this.named⟩
  show A.acts + k + 1 ≤ Lim
  have := h.acts
  unfold Few at ht
  unfold Lim
  omega
/-- Where DiskLoads' loop stands. -/
structure LS (w wr : World) (B1 B2 : Nat) (s0 : Nat) (T : List Opv) (k : Nat) (dn : Bool) (i : Nat) : Prop where
  ex : ∃ da db, MD w wr [(B1, da), (B2, db)] ∧ Small db.ab (s0 + sumN (T.take i)) i ∧ da.ab = db.ab.late k dn
end Go.Proofs.Ytbnnmelkbjkkjaa
