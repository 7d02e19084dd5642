import Derived.Test.YtbnnmelkbjkkjaaAdd
import Derived.Test.YtbnnmelkbjkkjaaLeft
namespace Go.Proofs.Ytbnnmelkbjkkjaa
open Go.RowKit

/-- A disk. -/
structure DK where
  s0 : SL
  s1 : SL
  cur : Nat
  acts : Nat
  dead : Bool
  named : Int
  done : Bool
def DK.cells (d : DK) : Array Value := #[.slice d.s0.a d.s0.n d.s0.c, .slice d.s0.la d.s0.ln d.s0.lc, .slice d.s1.a d.s1.n d.s1.c, .slice d.s1.la d.s1.ln d.s1.lc, .int .i64 (d.cur : Int), .int .i64 (d.acts : Int), .bool d.dead, .int .i64 d.named, .bool d.done]
structure IsD (base : Nat) (w : World) (B : Nat) (d : DK) : Prop where
  blk : w.heap[B]? = some (.cells d.cells 72 (0, 0))
  low : base ≤ B
  z0 : IsS base w d.s0
  z1 : IsS base w d.s1
  u0 : ¬ d.s0.Uses B
  u1 : ¬ d.s1.Uses B
  a01 : ∀ k, d.s0.Own k → ¬ d.s1.Uses k
  a10 : ∀ k, d.s1.Own k → ¬ d.s0.Uses k
  two : d.cur < 2
def DK.Uses (d : DK) (B k : Nat) : Prop := k = B ∨ d.s0.Uses k ∨ d.s1.Uses k
def DK.Foot (d : DK) (B k : Nat) : Prop := k = B ∨ d.s0.Own k ∨ d.s1.Own k
theorem DK.Foot.uses {d : DK} {B k : Nat} (h : d.Foot B k) : d.Uses B k := by
  rcases h with z | z | z
  · exact .inl z
  · exact .inr (.inl z.uses)
  · exact .inr (.inr z.uses)
theorem IsD.lt {base : Nat} {w : World} {B : Nat} {d : DK} (h : IsD base w B d) {k : Nat} (hk : d.Uses B k) : k < w.heap.size := by
  rcases hk with z | z | z
  · rw [z]; exact block_lt h.blk
  · exact h.z0.lt z
  · exact h.z1.lt z
theorem IsS.low {base : Nat} {w : World} {s : SL} (h : IsS base w s) {k : Nat} (hk : s.Own k) : base ≤ k := by
  rcases hk with z | z
  · exact (own_lt h.own k z).1
  · exact (own_lt h.lown k z).1
theorem IsD.foot {base : Nat} {w : World} {B : Nat} {d : DK} (h : IsD base w B d) {k : Nat} (hk : d.Foot B k) : base ≤ k := by
  rcases hk with z | z | z
  · rw [z]; exact h.low
  · exact h.z0.low z
  · exact h.z1.low z
theorem IsD.off {S : Nat → Prop} {base : Nat} {w w' : World} {B : Nat} {d : DK} (h : IsD base w B d) (K : Kept S w w') (hn : ∀ k, d.Uses B k → ¬ S k) : IsD base w' B d :=
  ⟨K.get h.blk (hn B (.inl rfl)), h.low, h.z0.off K (fun k hk => hn k (.inr (.inl hk))), h.z1.off K (fun k hk => hn k (.inr (.inr hk))), h.u0, h.u1, h.a01, h.a10, h.two⟩
theorem IsD.kept0 {base : Nat} {w w' : World} {B : Nat} {d : DK} (h : IsD base w B d) (K : Kept (fun _ => False) w w') : IsD base w' B d := h.off K (fun _ _ z => z)
/-- What a call moved: the disk's own blocks alone. -/
structure DM (w w' : World) (B : Nat) (d d' : DK) : Prop where
  kept : Kept (d.Foot B) w w'
  near : ∀ k, d'.Uses B k → d.Uses B k ∨ w.heap.size ≤ k
  foot : ∀ k, d'.Foot B k → d.Foot B k ∨ w.heap.size ≤ k
theorem DM.of_kept {w w' : World} (K : Kept (fun _ => False) w w') (B : Nat) (d : DK) : DM w w' B d d := ⟨K.mono (fun _ _ z => z.elim), fun _ h => .inl h, fun _ h => .inl h⟩
theorem DM.trans {w1 w2 w3 : World} {B : Nat} {d1 d2 d3 : DK} (h : DM w1 w2 B d1 d2) (k : DM w2 w3 B d2 d3) : DM w1 w3 B d1 d3 := by
  have hs := h.kept.size
  refine ⟨h.kept.trans k.kept (fun j hj z => ?_), fun j hj => ?_, fun j hj => ?_⟩
  · rcases h.foot j z with q | q
    · exact q
    · omega
  · rcases k.near j hj with q | q
    · exact h.near j q
    · exact .inr (by omega)
  · rcases k.foot j hj with q | q
    · exact h.foot j q
    · exact .inr (by omega)
theorem IsD.move0 {base : Nat} {w w' : World} {B : Nat} {d : DK} {s' : SL} (h : IsD base w B d) (m : SM base B 0 w w' d.cells d.s0 s') : IsD base w' B { d with s0 := s' } ∧ DM w w' B d { d with s0 := s' } := by
  have hB := block_lt h.blk
  have k1 : ∀ k, d.s1.Uses k → ¬ (k = B ∨ d.s0.Own k) := fun k hk z => by
    rcases z with z | z
    · exact h.u1 (by rw [← z]; exact hk)
    · exact h.a01 k z hk
  refine ⟨⟨m.blk, h.low, m.is, h.z1.off m.kept k1, fun z => ?_, h.u1, fun k hk z => ?_, fun k hk z => ?_, h.two⟩, m.kept.mono (fun k _ z => ?_), fun k hk => ?_, fun k hk => ?_⟩
  · rcases m.nearU B z with q | q
    · exact h.u0 q
    · omega
  · rcases m.nearO k hk with q | q
    · exact h.a01 k q z
    · have := h.z1.lt z; omega
  · rcases m.nearU k z with q | q
    · exact h.a10 k hk q
    · have := h.z1.lt hk.uses; omega
  · rcases z with z | z
    · exact .inl z
    · exact .inr (.inl z)
  · rcases hk with z | z | z
    · exact .inl (.inl z)
    · rcases m.nearU k z with q | q
      · exact .inl (.inr (.inl q))
      · exact .inr q
    · exact .inl (.inr (.inr z))
  · rcases hk with z | z | z
    · exact .inl (.inl z)
    · rcases m.nearO k z with q | q
      · exact .inl (.inr (.inl q))
      · exact .inr q
    · exact .inl (.inr (.inr z))
theorem IsD.move1 {base : Nat} {w w' : World} {B : Nat} {d : DK} {s' : SL} (h : IsD base w B d) (m : SM base B 2 w w' d.cells d.s1 s') : IsD base w' B { d with s1 := s' } ∧ DM w w' B d { d with s1 := s' } := by
  have hB := block_lt h.blk
  have k1 : ∀ k, d.s0.Uses k → ¬ (k = B ∨ d.s1.Own k) := fun k hk z => by
    rcases z with z | z
    · exact h.u0 (by rw [← z]; exact hk)
    · exact h.a10 k z hk
  refine ⟨⟨m.blk, h.low, h.z0.off m.kept k1, m.is, h.u0, fun z => ?_, fun k hk z => ?_, fun k hk z => ?_, h.two⟩, m.kept.mono (fun k _ z => ?_), fun k hk => ?_, fun k hk => ?_⟩
  · rcases m.nearU B z with q | q
    · exact h.u1 q
    · omega
  · rcases m.nearU k z with q | q
    · exact h.a01 k hk q
    · have := h.z0.lt hk.uses; omega
  · rcases m.nearO k hk with q | q
    · exact h.a10 k q z
    · have := h.z0.lt z; omega
  · rcases z with z | z
    · exact .inl z
    · exact .inr (.inr z)
  · rcases hk with z | z | z
    · exact .inl (.inl z)
    · exact .inl (.inr (.inl z))
    · rcases m.nearU k z with q | q
      · exact .inl (.inr (.inr q))
      · exact .inr q
  · rcases hk with z | z | z
    · exact .inl (.inl z)
    · exact .inl (.inr (.inl z))
    · rcases m.nearO k z with q | q
      · exact .inl (.inr (.inr q))
      · exact .inr q
/-- A field beside the slots is stored. -/
theorem IsD.put {base : Nat} {w : World} {B : Nat} {d d' : DK} (h : IsD base w B d) (j : Nat) (v : Value) (h0 : d'.s0 = d.s0) (h1 : d'.s1 = d.s1) (hc : d.cells.setIfInBounds j v = d'.cells) (ht : d'.cur < 2) : IsD base (w.setCell ⟨B, j, none⟩ v) B d' ∧ DM w (w.setCell ⟨B, j, none⟩ v) B d d' := by
  have K : Kept (fun k => k = B) w (w.setCell ⟨B, j, none⟩ v) := (Kept.refl (fun k => k = B) w).setCell (p := ⟨B, j, none⟩) (fun _ => rfl) _
  refine ⟨⟨by rw [← hc]; exact set_heap h.blk j v, h.low, by rw [h0]; exact h.z0.off K (fun k hk z => h.u0 (by rw [← z]; exact hk)), by rw [h1]; exact h.z1.off K (fun k hk z => h.u1 (by rw [← z]; exact hk)), by rw [h0]; exact h.u0, by rw [h1]; exact h.u1, by rw [h0, h1]; exact h.a01, by rw [h0, h1]; exact h.a10, ht⟩, K.mono (fun k _ z => .inl z), fun k hk => .inl ?_, fun k hk => .inl ?_⟩
  · unfold DK.Uses at hk ⊢; rw [h0, h1] at hk; exact hk
  · unfold DK.Foot at hk ⊢; rw [h0, h1] at hk; exact hk
theorem IsD.cell {base : Nat} {w : World} {B : Nat} {d : DK} (h : IsD base w B d) (j : Nat) {v : Value} (hv : d.cells[j]? = some v) : w.cell? ⟨B, j, none⟩ = some v := cell_blk h.blk j hv
theorem IsD.soft {base : Nat} {w : World} {B : Nat} {d : DK} (h : IsD base w B d) (j : Nat) : w.frozen? ⟨B, j, none⟩ = false := soft_blk h.blk j
end Go.Proofs.Ytbnnmelkbjkkjaa

namespace Go.Proofs.Ytbnnmelkbjkkjaa
open Go.RowKit

/-- What a disk is, wherever it lies. -/
structure AB where
  l0 : List Nat
  X0 : List (Option (List Nat))
  l1 : List Nat
  X1 : List (Option (List Nat))
  cur : Nat
  acts : Nat
  dead : Bool
  named : Int
  done : Bool
def DK.ab (d : DK) : AB := ⟨d.s0.l, d.s0.xs, d.s1.l, d.s1.xs, d.cur, d.acts, d.dead, d.named, d.done⟩
def AB.more (A : AB) (i : Nat) (x : Option (List Nat)) : AB := if i = 0 then { A with X0 := A.X0 ++ [x] } else { A with X1 := A.X1 ++ [x] }
def AB.add (A : AB) (i : Nat) (l : List Nat) : AB := if l.length = 0 then A else A.more i (some l)
def AB.sync (A : AB) (i : Nat) : AB := if i = 0 then { A with l0 := redoL A.l0 A.X0, X0 := [] } else { A with l1 := redoL A.l1 A.X1, X1 := [] }
def AB.switch (A : AB) (i : Nat) : AB := { A with cur := i }
def AB.tick (A : AB) : AB := { A with named := if A.named - 1 < 0 then 0 else A.named - 1 }
def AB.counted (A : AB) : AB := { A with acts := A.acts + 1 }
def AB.now (A : AB) (i : Nat) : List Nat := if i = 0 then redoL A.l0 A.X0 else redoL A.l1 A.X1
/-- It is not too great. -/
structure AB.Ok (A : AB) : Prop where
  w0 : A.l0.length + weigh A.X0 ≤ Lim
  w1 : A.l1.length + weigh A.X1 ≤ Lim
  n0 : A.X0.length + 1 ≤ Lim
  n1 : A.X1.length + 1 ≤ Lim
  acts : A.acts + 1 ≤ Lim
  named : 0 ≤ A.named ∧ A.named < 9223372036854775808
theorem IsS.xlen {base : Nat} {w : World} {s : SL} (h : IsS base w s) : s.xs.length = s.ln := by unfold SL.xs; rw [List.length_map]; exact (owns_lrd h.lown).length
set_option maxRecDepth 100000 in
theorem isSlot (i : Int) (w : World) : Calls Try.prog 34 #[.int .i64 i] w fun x w' => x = .returned (.bool (decide (i = 0 ∨ i = 1))) ∧ w' = w := by
  by_cases h0 : i = 0
  · subst h0
    go_enter Try.func34, Try.ntmps34
    go_wp2_with fail
    go_ret
    exact ⟨by simp, rfl⟩
  · by_cases h1 : i = 1
    · subst h1
      go_enter Try.func34, Try.ntmps34
      go_wp2_with fail
      go_ret
      exact ⟨by simp, rfl⟩
    · go_enter Try.func34, Try.ntmps34
      go_wp2_with fail
      go_ret
      exact ⟨by simp [h0, h1], rfl⟩
def lookE (A : AB) (i : Int) : Int := if A.dead = true then 60 else if i = 0 ∨ i = 1 then 0 else 61
set_option maxRecDepth 100000 in
theorem look (base B : Nat) (d : DK) (i : Int) (w : World) (h : IsD base w B d) : Calls Try.prog 36 #[.pointer (some ⟨B, 0, none⟩), .int .i64 i] w fun x w' => x = .returned (.int .i64 (lookE d.ab i)) ∧ w' = w := by
  have c6 : w.cell? ⟨B, 6, none⟩ = some (.bool d.dead) := h.cell 6 rfl
  clear h
  cases hd : d.dead with
  | true =>
    rw [hd] at c6
    have e : Hid (lookE d.ab i = 60) := by show lookE d.ab i = 60; unfold lookE; rw [if_pos (by exact hd)]
    clear hd
    go_enter Try.func36, Try.ntmps36
    go_wp2_with fail
    go_ret
    exact ⟨by rw [e.out]; rfl, rfl⟩
  | false =>
    rw [hd] at c6
    have e : Hid (lookE d.ab i = if i = 0 ∨ i = 1 then 0 else 61) := by show lookE d.ab i = _; unfold lookE; rw [if_neg (by show ¬ d.dead = true; rw [hd]; decide)]
    clear hd
    go_enter Try.func36, Try.ntmps36
    go_wp2_with fail
    refine (isSlot i w).mono ?_
    rintro x w1 ⟨rfl, rfl⟩
    by_cases hi : i = 0 ∨ i = 1
    · have hb : decide (i = 0 ∨ i = 1) = true := decide_eq_true hi
      rw [hb]
      rw [if_pos hi] at e
      clear hi hb
      go_wp2_with fail
      go_ret
      exact ⟨by rw [e.out]; rfl, rfl⟩
    · have hb : decide (i = 0 ∨ i = 1) = false := decide_eq_false hi
      rw [hb]
      rw [if_neg hi] at e
      clear hi hb
      go_wp2_with fail
      go_ret
      exact ⟨by rw [e.out]; rfl, rfl⟩
set_option maxRecDepth 100000 in
theorem dNew (w : World) : Calls Try.prog 21 #[] w fun x w' => x = .returned (.pointer (some ⟨w.heap.size, 0, none⟩)) ∧ ∃ d, IsD w.heap.size w' w.heap.size d ∧ d.ab = ⟨[], [], [], [], 0, 0, false, 0, false⟩ ∧ Kept (fun _ => False) w w' ∧ ∀ k, d.Uses w.heap.size k → k = w.heap.size := by
  go_enter Try.func21, Try.ntmps21
  go_wp2_with fail
  go_ret
  refine ⟨rfl, ⟨⟨none, 0, 0, [], none, 0, 0, []⟩, ⟨none, 0, 0, [], none, 0, 0, []⟩, 0, 0, false, 0, false⟩, ?_, rfl, alloc_kept0 _ _, ?_⟩
  · have ze : ∀ W : World, IsS w.heap.size W ⟨none, 0, 0, [], none, 0, 0, []⟩ := fun W => ⟨World.ownsRow_nil _ _ _ _, fun c hc => by simp at hc, World.ownsRow_nil _ _ _ _, fun e he => by simp at he, fun k _ e he => by simp at he⟩
    have nu : ∀ k, ¬ SL.Uses ⟨none, 0, 0, [], none, 0, 0, []⟩ k := fun k z => by
      rcases z with z | z | ⟨e, he, _⟩
      · simp [blockOf] at z
      · simp [blockOf] at z
      · simp at he
    exact ⟨alloc_new _ _, Nat.le_refl _, ze _, ze _, nu _, nu _, fun k hk => absurd hk.uses (nu k), fun k hk => absurd hk.uses (nu k), by decide⟩
  · intro k hk
    rcases hk with z | z | z
    · exact z
    all_goals
      rcases z with z | z | ⟨e, he, _⟩
      · simp [blockOf] at z
      · simp [blockOf] at z
      · simp at he
set_option maxRecDepth 100000 in
theorem dDead (base B : Nat) (d : DK) (w : World) (h : IsD base w B d) : Calls Try.prog 20 #[.pointer (some ⟨B, 0, none⟩)] w fun x w' => x = .returned (.bool d.dead) ∧ w' = w := by
  have c6 : w.cell? ⟨B, 6, none⟩ = some (.bool d.dead) := h.cell 6 rfl
  clear h
  go_enter Try.func20, Try.ntmps20
  go_wp2_with fail
  go_ret
  exact ⟨rfl, rfl⟩
set_option maxRecDepth 100000 in
theorem dActs (base B : Nat) (d : DK) (w : World) (h : IsD base w B d) : Calls Try.prog 24 #[.pointer (some ⟨B, 0, none⟩)] w fun x w' => x = .returned (.int .i64 (d.acts : Int)) ∧ w' = w := by
  have c5 : w.cell? ⟨B, 5, none⟩ = some (.int .i64 (d.acts : Int)) := h.cell 5 rfl
  clear h
  go_enter Try.func24, Try.ntmps24
  go_wp2_with fail
  go_ret
  exact ⟨rfl, rfl⟩
set_option maxRecDepth 100000 in
theorem dCurrent (base B : Nat) (d : DK) (w : World) (h : IsD base w B d) : Calls Try.prog 18 #[.pointer (some ⟨B, 0, none⟩)] w fun x w' => x = .returned (.int .i64 (if d.dead = true then (0 : Int) else (d.cur : Int))) ∧ w' = w := by
  have c6 : w.cell? ⟨B, 6, none⟩ = some (.bool d.dead) := h.cell 6 rfl
  have c4 : w.cell? ⟨B, 4, none⟩ = some (.int .i64 (d.cur : Int)) := h.cell 4 rfl
  clear h
  cases hd : d.dead with
  | true =>
    rw [hd] at c6
    clear hd
    go_enter Try.func18, Try.ntmps18
    go_wp2_with fail
    go_ret
    exact ⟨rfl, rfl⟩
  | false =>
    rw [hd] at c6
    clear hd
    go_enter Try.func18, Try.ntmps18
    go_wp2_with fail
    go_ret
    exact ⟨rfl, rfl⟩
end Go.Proofs.Ytbnnmelkbjkkjaa
