import Derived.Test.YtbnnmelkbjkkjaaMany
namespace Go.Proofs.Ytbnnmelkbjkkjaa
open Go.RowKit

/-- The same disk, but for the stop. -/
def AB.twin (A : AB) (m : Int) (dn dd : Bool) : AB := { A with named := m, done := dn, dead := dd }
theorem put_twin (A : AB) (m : Int) (dn dd : Bool) (k : Int) (i : Nat) (l : List Nat) : (A.twin m dn dd).put k i l = (A.put k i l).twin m dn dd := by
  unfold AB.put AB.add AB.more AB.sync AB.switch AB.twin
  (repeat' split) <;> rfl
theorem twin_ok {A : AB} (h : A.Ok) {m : Int} (h0 : 0 ≤ m) (h1 : m < 9223372036854775808) (dn dd : Bool) : (A.twin m dn dd).Ok := ⟨h.w0, h.w1, h.n0, h.n1, h.acts, h0, h1⟩
theorem act_free {A : AB} (hl : A.dead = false) (hf : A.named = 0) {k s : Int} (hs : ¬ (¬ (s = 0 ∨ s = 1) ∨ (k = 2 ∧ s = (A.cur : Int)))) (l : List Nat) : A.act k s l = ((A.put k s.toNat l).counted, 0) := by
  rw [act_go hl hs (by rw [hf]; decide), tick_free hf]
theorem put_acts (A : AB) (k : Int) (i : Nat) (l : List Nat) : (A.put k i l).counted.acts = A.acts + 1 := by
  unfold AB.put AB.add AB.more AB.sync AB.switch AB.counted
  (repeat' split) <;> rfl
theorem twin_dead (A : AB) (m : Int) (dn : Bool) (k s : Int) (l : List Nat) : (A.twin m dn true).act k s l = (A.twin m dn true, 60) := act_dead rfl k s l
/-- A living pair: the slot is refused by both; or the act is the last and not done; or it is done. -/
theorem twin_live (A : AB) (hl : A.dead = false) (hf : A.named = 0) (many acts : Nat) (dn : Bool) (k s : Int) (l : List Nat) :
    (A.act k s l = (A, 61) ∧ (A.twin ((many - acts : Nat) : Int) dn false).act k s l = (A.twin ((many - acts : Nat) : Int) dn false, 61)) ∨
    (acts + 1 = many ∧ dn = false ∧ (A.twin ((many - acts : Nat) : Int) dn false).act k s l = (A.twin 0 dn true, 60)) ∨
    (acts + 1 = many ∧ dn = true ∧ ∃ A', A.act k s l = (A', 0) ∧ A'.acts = A.acts + 1 ∧ (A.twin ((many - acts : Nat) : Int) dn false).act k s l = (A'.twin 0 dn true, 60)) ∨
    (acts + 1 ≠ many ∧ ∃ A', A.act k s l = (A', 0) ∧ A'.acts = A.acts + 1 ∧ (A.twin ((many - acts : Nat) : Int) dn false).act k s l = (A'.twin ((many - (acts + 1) : Nat) : Int) dn false, 0)) := by
  by_cases hs : ¬ (s = 0 ∨ s = 1) ∨ (k = 2 ∧ s = (A.cur : Int))
  · exact .inl ⟨act_bad hl hs l, act_bad (A := A.twin ((many - acts : Nat) : Int) dn false) rfl hs l⟩
  · have e1 := act_free hl hf hs l
    by_cases hm : acts + 1 = many
    · have hN : (A.twin ((many - acts : Nat) : Int) dn false).named = 1 := by show ((many - acts : Nat) : Int) = 1; omega
      cases dn with
      | false => exact .inr (.inl ⟨hm, rfl, act_stopN (A := A.twin ((many - acts : Nat) : Int) false false) rfl hs hN rfl l⟩)
      | true =>
        refine .inr (.inr (.inl ⟨hm, rfl, _, e1, put_acts .., ?_⟩))
        rw [act_stopD (A := A.twin ((many - acts : Nat) : Int) true false) rfl hs hN rfl l]
        exact congrArg (fun z : AB => (z.counted, (60 : Int))) (put_twin A 0 true true k s.toNat l)
    · have hN : (A.twin ((many - acts : Nat) : Int) dn false).named ≠ 1 := by show ((many - acts : Nat) : Int) ≠ 1; omega
      refine .inr (.inr (.inr ⟨hm, _, e1, put_acts .., ?_⟩))
      rw [act_go (A := A.twin ((many - acts : Nat) : Int) dn false) rfl hs hN l]
      have et : (A.twin ((many - acts : Nat) : Int) dn false).tick = A.twin ((many - (acts + 1) : Nat) : Int) dn false := by
        show A.twin (if ((many - acts : Nat) : Int) - 1 < 0 then 0 else ((many - acts : Nat) : Int) - 1) dn false = _
        congr 1
        split <;> omega
      rw [et]
      exact congrArg (fun z : AB => (z.counted, (0 : Int))) (put_twin A _ dn false k s.toNat l)
theorem Small.act {A : AB} {s t : Nat} (h : Small A s t) (k sl : Int) (l : List Nat) : Small (A.act k sl l).1 (s + l.length) (t + 1) := by
  by_cases hs : ¬ (sl = 0 ∨ sl = 1) ∨ (k = 2 ∧ sl = (A.cur : Int))
  · rw [act_bad h.live hs]
    exact h.mono (by omega) (by omega)
  · rw [act_free h.live h.free hs]
    have h1 := h.add sl.toNat l
    have h2 := h.sync sl.toNat
    have h3 := h.switch sl.toNat
    rw [tick_free h.free] at h1 h2 h3
    show Small (A.put k sl.toNat l).counted _ _
    unfold AB.put
    split
    · exact h1
    · split
      · exact (h.more sl.toNat none).mono (by simp) (Nat.le_refl _)
      · split
        · exact h2.mono (by omega) (Nat.le_refl _)
        · exact h3.mono (by omega) (Nat.le_refl _)
end Go.Proofs.Ytbnnmelkbjkkjaa
