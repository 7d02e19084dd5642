import Derived.Test.YtbnnmelkbjkkjaaDisk
namespace Go.Proofs.Ytbnnmelkbjkkjaa
open Go.RowKit

/-- What a disk is, wherever it lies. -/
structure AB where
  l0 : List Nat
  X0 : List (Option (List Nat))
  l1 : List Nat
  X1 : List (Option (List Nat))
  cur : Nat
  acts : Nat
  dead : Bool
  named : Int
  done : Bool
def DK.ab (d : DK) : AB := ⟨d.s0.l, d.s0.xs, d.s1.l, d.s1.xs, d.cur, d.acts, d.dead, d.named, d.done⟩
def AB.more (A : AB) (i : Nat) (x : Option (List Nat)) : AB := if i = 0 then { A with X0 := A.X0 ++ [x] } else { A with X1 := A.X1 ++ [x] }
def AB.add (A : AB) (i : Nat) (l : List Nat) : AB := if l.length = 0 then A else A.more i (some l)
def AB.sync (A : AB) (i : Nat) : AB := if i = 0 then { A with l0 := redoL A.l0 A.X0, X0 := [] } else { A with l1 := redoL A.l1 A.X1, X1 := [] }
def AB.switch (A : AB) (i : Nat) : AB := { A with cur := i }
def AB.tick (A : AB) : AB := { A with named := if A.named - 1 < 0 then 0 else A.named - 1 }
def AB.counted (A : AB) : AB := { A with acts := A.acts + 1 }
def AB.now (A : AB) (i : Nat) : List Nat := if i = 0 then redoL A.l0 A.X0 else redoL A.l1 A.X1
/-- It is not too great. -/
structure AB.Ok (A : AB) : Prop where
  w0 : A.l0.length + weigh A.X0 ≤ Lim
  w1 : A.l1.length + weigh A.X1 ≤ Lim
  n0 : A.X0.length + 1 ≤ Lim
  n1 : A.X1.length + 1 ≤ Lim
  acts : A.acts + 1 ≤ Lim
  named : 0 ≤ A.named ∧ A.named < 9223372036854775808
theorem IsS.xlen {base : Nat} {w : World} {s : SL} (h : IsS base w s) : s.xs.length = s.ln := by unfold SL.xs; rw [List.length_map]; exact (owns_lrd h.lown).length
set_option maxRecDepth 100000 in
theorem isSlot (i : Int) (w : World) : Calls Try.prog 34 #[.int .i64 i] w fun x w' => x = .returned (.bool (decide (i = 0 ∨ i = 1))) ∧ w' = w := by
  by_cases h0 : i = 0
  · subst h0
    go_enter Try.func34, Try.ntmps34
    go_wp2_with fail
    go_ret
    exact ⟨by simp, rfl⟩
  · by_cases h1 : i = 1
    · subst h1
      go_enter Try.func34, Try.ntmps34
      go_wp2_with fail
      go_ret
      exact ⟨by simp, rfl⟩
    · go_enter Try.func34, Try.ntmps34
      go_wp2_with fail
      go_ret
      exact ⟨by simp [h0, h1], rfl⟩
def lookE (A : AB) (i : Int) : Int := if A.dead = true then 60 else if i = 0 ∨ i = 1 then 0 else 61
set_option maxRecDepth 100000 in
theorem look (base B : Nat) (d : DK) (i : Int) (w : World) (h : IsD base w B d) : Calls Try.prog 36 #[.pointer (some ⟨B, 0, none⟩), .int .i64 i] w fun x w' => x = .returned (.int .i64 (lookE d.ab i)) ∧ w' = w := by
  have c6 : w.cell? ⟨B, 6, none⟩ = some (.bool d.dead) := h.cell 6 rfl
  clear h
  cases hd : d.dead with
  | true =>
    rw [hd] at c6
    have e : Hid (lookE d.ab i = 60) := by show lookE d.ab i = 60; unfold lookE; rw [if_pos (by exact hd)]
    clear hd
    go_enter Try.func36, Try.ntmps36
    go_wp2_with fail
    go_ret
    exact ⟨by rw [e.out]; rfl, rfl⟩
  | false =>
    rw [hd] at c6
    have e : Hid (lookE d.ab i = if i = 0 ∨ i = 1 then 0 else 61) := by show lookE d.ab i = _; unfold lookE; rw [if_neg (by show ¬ d.dead = true; rw [hd]; decide)]
    clear hd
    go_enter Try.func36, Try.ntmps36
    go_wp2_with fail
    refine (isSlot i w).mono ?_
    rintro x w1 ⟨rfl, rfl⟩
    by_cases hi : i = 0 ∨ i = 1
    · have hb : decide (i = 0 ∨ i = 1) = true := decide_eq_true hi
      rw [hb]
      rw [if_pos hi] at e
      clear hi hb
      go_wp2_with fail
      go_ret
      exact ⟨by rw [e.out]; rfl, rfl⟩
    · have hb : decide (i = 0 ∨ i = 1) = false := decide_eq_false hi
      rw [hb]
      rw [if_neg hi] at e
      clear hi hb
      go_wp2_with fail
      go_ret
      exact ⟨by rw [e.out]; rfl, rfl⟩
set_option maxRecDepth 100000 in
theorem dNew (w : World) : Calls Try.prog 21 #[] w fun x w' => x = .returned (.pointer (some ⟨w.heap.size, 0, none⟩)) ∧ ∃ d, IsD w.heap.size w' w.heap.size d ∧ d.ab = ⟨[], [], [], [], 0, 0, false, 0, false⟩ ∧ Kept (fun _ => False) w w' ∧ ∀ k, d.Uses w.heap.size k → k = w.heap.size := by
  go_enter Try.func21, Try.ntmps21
  go_wp2_with fail
  go_ret
  refine ⟨rfl, ⟨⟨none, 0, 0, [], none, 0, 0, []⟩, ⟨none, 0, 0, [], none, 0, 0, []⟩, 0, 0, false, 0, false⟩, ?_, rfl, alloc_kept0 _ _, ?_⟩
  · have ze : ∀ W : World, IsS w.heap.size W ⟨none, 0, 0, [], none, 0, 0, []⟩ := fun W => ⟨World.ownsRow_nil _ _ _ _, fun c hc => by simp at hc, World.ownsRow_nil _ _ _ _, fun e he => by simp at he, fun k _ e he => by simp at he⟩
    have nu : ∀ k, ¬ SL.Uses ⟨none, 0, 0, [], none, 0, 0, []⟩ k := fun k z => by
      rcases z with z | z | ⟨e, he, _⟩
      · simp [blockOf] at z
      · simp [blockOf] at z
      · simp at he
    exact ⟨alloc_new _ _, Nat.le_refl _, ze _, ze _, nu _, nu _, fun k hk => absurd hk.uses (nu k), fun k hk => absurd hk.uses (nu k), by decide⟩
  · intro k hk
    rcases hk with z | z | z
    · exact z
    all_goals
      rcases z with z | z | ⟨e, he, _⟩
      · simp [blockOf] at z
      · simp [blockOf] at z
      · simp at he
set_option maxRecDepth 100000 in
theorem dDead (base B : Nat) (d : DK) (w : World) (h : IsD base w B d) : Calls Try.prog 20 #[.pointer (some ⟨B, 0, none⟩)] w fun x w' => x = .returned (.bool d.dead) ∧ w' = w := by
  have c6 : w.cell? ⟨B, 6, none⟩ = some (.bool d.dead) := h.cell 6 rfl
  clear h
  go_enter Try.func20, Try.ntmps20
  go_wp2_with fail
  go_ret
  exact ⟨rfl, rfl⟩
set_option maxRecDepth 100000 in
theorem dActs (base B : Nat) (d : DK) (w : World) (h : IsD base w B d) : Calls Try.prog 24 #[.pointer (some ⟨B, 0, none⟩)] w fun x w' => x = .returned (.int .i64 (d.acts : Int)) ∧ w' = w := by
  have c5 : w.cell? ⟨B, 5, none⟩ = some (.int .i64 (d.acts : Int)) := h.cell 5 rfl
  clear h
  go_enter Try.func24, Try.ntmps24
  go_wp2_with fail
  go_ret
  exact ⟨rfl, rfl⟩
set_option maxRecDepth 100000 in
theorem dCurrent (base B : Nat) (d : DK) (w : World) (h : IsD base w B d) : Calls Try.prog 18 #[.pointer (some ⟨B, 0, none⟩)] w fun x w' => x = .returned (.int .i64 (if d.dead = true then (0 : Int) else (d.cur : Int))) ∧ w' = w := by
  have c6 : w.cell? ⟨B, 6, none⟩ = some (.bool d.dead) := h.cell 6 rfl
  have c4 : w.cell? ⟨B, 4, none⟩ = some (.int .i64 (d.cur : Int)) := h.cell 4 rfl
  clear h
  cases hd : d.dead with
  | true =>
    rw [hd] at c6
    clear hd
    go_enter Try.func18, Try.ntmps18
    go_wp2_with fail
    go_ret
    exact ⟨rfl, rfl⟩
  | false =>
    rw [hd] at c6
    clear hd
    go_enter Try.func18, Try.ntmps18
    go_wp2_with fail
    go_ret
    exact ⟨rfl, rfl⟩
end Go.Proofs.Ytbnnmelkbjkkjaa
