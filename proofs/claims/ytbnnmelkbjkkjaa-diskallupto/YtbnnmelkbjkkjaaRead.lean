import Derived.Test.YtbnnmelkbjkkjaaAct
namespace Go.Proofs.Ytbnnmelkbjkkjaa
open Go.RowKit

/-- New bytes that last, in slot 0. -/
theorem IsD.lasts0 {base : Nat} {w : World} {F : Nat} {d : DK} {a : Option Addr} {n c : Nat} {l : List Nat} (h : IsD base w F d) (hL : d.s0.L = []) (ho : w.ownsRow base 5 1 (.slice a n c) n (cellsOf l)) (hb : ∀ c ∈ l, c < 256) (hf : ∀ k, blockOf a = some k → ¬ d.Uses F k) :
    IsD base (w.setCell ⟨F, 0, none⟩ (.slice a n c)) F { d with s0 := { d.s0 with a := a, n := n, c := c, l := l } } := by
  have K : Kept (fun k => k = F) w (w.setCell ⟨F, 0, none⟩ (.slice a n c)) := (Kept.refl (fun k => k = F) w).setCell (p := ⟨F, 0, none⟩) (fun _ => rfl) _
  have hu : ∀ k, SL.Uses { d.s0 with a := a, n := n, c := c, l := l } k → blockOf a = some k ∨ d.s0.Uses k := fun k hk => by
    rcases hk with z | z | ⟨e, he, z⟩
    · exact .inl z
    · exact .inr (.inr (.inl z))
    · exact .inr (.inr (.inr ⟨e, he, z⟩))
  have hown : ∀ k, SL.Own { d.s0 with a := a, n := n, c := c, l := l } k → blockOf a = some k ∨ d.s0.Own k := fun k hk => by
    rcases hk with z | z
    · exact .inl z
    · exact .inr (.inr z)
  have aF : ∀ k, blockOf a = some k → k ≠ F := fun k hk z => hf k hk (.inl z)
  have S : IsS base (w.setCell ⟨F, 0, none⟩ (.slice a n c)) { d.s0 with a := a, n := n, c := c, l := l } := by
    refine ⟨K.owns ho (fun k hk => aF k (by rw [← hk]; exact (blockOf_own ..).symm)), hb, (h.z0.off K (fun k hk z => h.u0 (by rw [← z]; exact hk))).lown, fun e he => by rw [show SL.L { d.s0 with a := a, n := n, c := c, l := l } = [] from hL] at he; simp at he, fun k _ e he => by rw [show SL.L { d.s0 with a := a, n := n, c := c, l := l } = [] from hL] at he; simp at he⟩
  have O : IsS base (w.setCell ⟨F, 0, none⟩ (.slice a n c)) d.s1 := h.z1.off K (fun k hk z => h.u1 (by rw [← z]; exact hk))
  have U : ¬ SL.Uses { d.s0 with a := a, n := n, c := c, l := l } F := fun z => by
    rcases hu F z with q | q
    · exact aF F q rfl
    · exact h.u0 q
  have A1 : ∀ k, SL.Own { d.s0 with a := a, n := n, c := c, l := l } k → ¬ d.s1.Uses k := fun k hk z => by
    rcases hown k hk with q | q
    · exact hf k q (.inr (.inr z))
    · exact h.a01 k q z
  have A2 : ∀ k, d.s1.Own k → ¬ SL.Uses { d.s0 with a := a, n := n, c := c, l := l } k := fun k hk z => by
    rcases hu k z with q | q
    · exact hf k q (.inr (.inr hk.uses))
    · exact h.a10 k hk q
  exact ⟨set_heap h.blk 0 _, h.low, S, O, U, h.u1, A1, A2, h.two⟩
/-- New bytes that last, in slot 1. -/
theorem IsD.lasts1 {base : Nat} {w : World} {F : Nat} {d : DK} {a : Option Addr} {n c : Nat} {l : List Nat} (h : IsD base w F d) (hL : d.s1.L = []) (ho : w.ownsRow base 5 1 (.slice a n c) n (cellsOf l)) (hb : ∀ c ∈ l, c < 256) (hf : ∀ k, blockOf a = some k → ¬ d.Uses F k) :
    IsD base (w.setCell ⟨F, 2, none⟩ (.slice a n c)) F { d with s1 := { d.s1 with a := a, n := n, c := c, l := l } } := by
  have K : Kept (fun k => k = F) w (w.setCell ⟨F, 2, none⟩ (.slice a n c)) := (Kept.refl (fun k => k = F) w).setCell (p := ⟨F, 2, none⟩) (fun _ => rfl) _
  have hu : ∀ k, SL.Uses { d.s1 with a := a, n := n, c := c, l := l } k → blockOf a = some k ∨ d.s1.Uses k := fun k hk => by
    rcases hk with z | z | ⟨e, he, z⟩
    · exact .inl z
    · exact .inr (.inr (.inl z))
    · exact .inr (.inr (.inr ⟨e, he, z⟩))
  have hown : ∀ k, SL.Own { d.s1 with a := a, n := n, c := c, l := l } k → blockOf a = some k ∨ d.s1.Own k := fun k hk => by
    rcases hk with z | z
    · exact .inl z
    · exact .inr (.inr z)
  have aF : ∀ k, blockOf a = some k → k ≠ F := fun k hk z => hf k hk (.inl z)
  have S : IsS base (w.setCell ⟨F, 2, none⟩ (.slice a n c)) { d.s1 with a := a, n := n, c := c, l := l } := by
    refine ⟨K.owns ho (fun k hk => aF k (by rw [← hk]; exact (blockOf_own ..).symm)), hb, (h.z1.off K (fun k hk z => h.u1 (by rw [← z]; exact hk))).lown, fun e he => by rw [show SL.L { d.s1 with a := a, n := n, c := c, l := l } = [] from hL] at he; simp at he, fun k _ e he => by rw [show SL.L { d.s1 with a := a, n := n, c := c, l := l } = [] from hL] at he; simp at he⟩
  have O : IsS base (w.setCell ⟨F, 2, none⟩ (.slice a n c)) d.s0 := h.z0.off K (fun k hk z => h.u0 (by rw [← z]; exact hk))
  have U : ¬ SL.Uses { d.s1 with a := a, n := n, c := c, l := l } F := fun z => by
    rcases hu F z with q | q
    · exact aF F q rfl
    · exact h.u1 q
  have A1 : ∀ k, SL.Own { d.s1 with a := a, n := n, c := c, l := l } k → ¬ d.s0.Uses k := fun k hk z => by
    rcases hown k hk with q | q
    · exact hf k q (.inr (.inl z))
    · exact h.a10 k q z
  have A2 : ∀ k, d.s0.Own k → ¬ SL.Uses { d.s1 with a := a, n := n, c := c, l := l } k := fun k hk z => by
    rcases hu k z with q | q
    · exact hf k q (.inr (.inl hk.uses))
    · exact h.a01 k hk q
  exact ⟨set_heap h.blk 2 _, h.low, O, S, h.u0, U, A2, A1, h.two⟩
set_option maxRecDepth 100000 in
theorem dRead_0 (base B : Nat) (d : DK) (w : World) (h : IsD base w B d) (hd : d.dead = false) (ok : d.ab.Ok) :
    Calls Try.prog 15 #[.pointer (some ⟨B, 0, none⟩), .int .i64 0] w fun x w' => ∃ a n c, x = .returned (.tuple #[.slice a n c, .int .i64 0]) ∧ w'.ownsRow w.heap.size 5 1 (.slice a n c) n (cellsOf (d.ab.now 0)) ∧ Kept (fun _ => False) w w' := by
  have H : Hid (IsD base w B d ∧ d.ab.Ok) := ⟨h, ok⟩
  have LE : Hid (lookE d.ab 0 = 0) := by show lookE d.ab 0 = 0; unfold lookE; rw [if_neg (by show ¬ d.dead = true; rw [hd]; decide), if_pos (by decide)]
  clear h hd ok
  go_enter Try.func15, Try.ntmps15
  go_wp2_with fail
  refine (look base B d 0 w H.out.1).mono ?_
  rintro x w1 ⟨rfl, rfl⟩
  rw [LE.out]
  go_wp2_with fail
  refine (now base B 0 d.s0 w1 H.out.1.z0 (H.out.1.cell 0 rfl) (H.out.1.cell 1 rfl) H.out.2.w0).mono ?_
  rintro x w2 ⟨a, n, c, rfl, q⟩
  have Q : Hid (w2.ownsRow w1.heap.size 5 1 (.slice a n c) n (cellsOf (d.ab.now 0)) ∧ Kept (fun _ => False) w1 w2) := q
  clear q
  go_wp2_with fail
  go_ret2
  exact ⟨a, n, c, rfl, Q.out⟩
set_option maxRecDepth 100000 in
theorem dRead_1 (base B : Nat) (d : DK) (w : World) (h : IsD base w B d) (hd : d.dead = false) (ok : d.ab.Ok) :
    Calls Try.prog 15 #[.pointer (some ⟨B, 0, none⟩), .int .i64 1] w fun x w' => ∃ a n c, x = .returned (.tuple #[.slice a n c, .int .i64 0]) ∧ w'.ownsRow w.heap.size 5 1 (.slice a n c) n (cellsOf (d.ab.now 1)) ∧ Kept (fun _ => False) w w' := by
  have H : Hid (IsD base w B d ∧ d.ab.Ok) := ⟨h, ok⟩
  have LE : Hid (lookE d.ab 1 = 0) := by show lookE d.ab 1 = 0; unfold lookE; rw [if_neg (by show ¬ d.dead = true; rw [hd]; decide), if_pos (by decide)]
  clear h hd ok
  go_enter Try.func15, Try.ntmps15
  go_wp2_with fail
  refine (look base B d 1 w H.out.1).mono ?_
  rintro x w1 ⟨rfl, rfl⟩
  rw [LE.out]
  go_wp2_with fail
  refine (now base B 2 d.s1 w1 H.out.1.z1 (H.out.1.cell 2 rfl) (H.out.1.cell 3 rfl) H.out.2.w1).mono ?_
  rintro x w2 ⟨a, n, c, rfl, q⟩
  have Q : Hid (w2.ownsRow w1.heap.size 5 1 (.slice a n c) n (cellsOf (d.ab.now 1)) ∧ Kept (fun _ => False) w1 w2) := q
  clear q
  go_wp2_with fail
  go_ret2
  exact ⟨a, n, c, rfl, Q.out⟩
set_option maxRecDepth 100000 in
theorem dPending (base B : Nat) (d : DK) (w : World) (h : IsD base w B d) (ok : d.ab.Ok) :
    Calls Try.prog 13 #[.pointer (some ⟨B, 0, none⟩)] w fun x w' => x = .returned (.int .i64 ((d.ab.X0.length + d.ab.X1.length : Nat) : Int)) ∧ Kept (fun _ => False) w w' := by
  have c1 : w.cell? ⟨B, 1, none⟩ = some (.slice d.s0.la d.s0.ln d.s0.lc) := h.cell 1 rfl
  have c3 : w.cell? ⟨B, 3, none⟩ = some (.slice d.s1.la d.s1.ln d.s1.lc) := h.cell 3 rfl
  have l0 : d.ab.X0.length = d.s0.ln := h.z0.xlen
  have l1 : d.ab.X1.length = d.s1.ln := h.z1.xlen
  have n0 := ok.n0
  have n1 := ok.n1
  unfold Lim at n0 n1
  obtain ⟨m, hm⟩ : ∃ m, d.s0.ln + d.s1.ln = m := ⟨_, rfl⟩
  have wm : IntKind.i64.wrap ((d.s0.ln : Int) + (d.s1.ln : Int)) = (m : Int) := by rw [IntKind.wrap_i64]; omega
  have E : Hid (d.ab.X0.length + d.ab.X1.length = m) := by show d.ab.X0.length + d.ab.X1.length = m; omega
  clear h ok l0 l1 n0 n1
  go_enter Try.func13, Try.ntmps13
  go_wp2_with fail
  go_quiet (fail)
  go_wp2_with fail
  go_ret
  exact ⟨by rw [E.out]; rfl, (Kept.refl _ _).drewN nq⟩
end Go.Proofs.Ytbnnmelkbjkkjaa
