import Derived.Test.YtbnnmelkbjkkjaaLasts
namespace Go.Proofs.Ytbnnmelkbjkkjaa
open Go.RowKit

/-- A disk known whole, beside blocks that are none of its own. -/
structure HX (w wr : World) (B : Nat) (A : AB) (S : Nat → Prop) : Prop where
  ex : ∃ d, IsD w.heap.size wr B d ∧ d.ab = A ∧ ∀ k, S k → k < wr.heap.size ∧ ¬ d.Uses B k
  kept : Kept (fun _ => False) w wr
  low : w.heap.size ≤ B
theorem HX.hd {w wr : World} {B : Nat} {A : AB} {S : Nat → Prop} (h : HX w wr B A S) : HD w wr B A := by
  obtain ⟨d, h1, h2, _⟩ := h.ex
  exact ⟨⟨d, h1, h2⟩, h.kept, h.low⟩
theorem HX.quiet {w wr w' : World} {B : Nat} {A : AB} {S : Nat → Prop} (h : HX w wr B A S) (K : Kept (fun _ => False) wr w') : HX w w' B A S := by
  obtain ⟨d, h1, h2, h3⟩ := h.ex
  exact ⟨⟨d, h1.kept0 K, h2, fun k hk => ⟨by have := (h3 k hk).1; have := K.size; omega, (h3 k hk).2⟩⟩, h.kept.trans K (fun _ _ z => z), h.low⟩
/-- The blocks beside it are written, or new ones are laid beside it. -/
theorem HX.beside {w wr w' : World} {B : Nat} {A : AB} {S S' : Nat → Prop} (h : HX w wr B A S) (K : Kept S wr w') (hS : ∀ k, S k → w.heap.size ≤ k) (hn : ∀ k, S' k → k < w'.heap.size ∧ (S k ∨ wr.heap.size ≤ k)) : HX w w' B A S' := by
  obtain ⟨d, h1, h2, h3⟩ := h.ex
  refine ⟨⟨d, h1.off K (fun k hk z => (h3 k z).2 hk), h2, fun k hk => ⟨(hn k hk).1, fun z => ?_⟩⟩, h.kept.trans K (fun k hk z => by have := hS k z; omega), h.low⟩
  rcases (hn k hk).2 with q | q
  · exact (h3 k q).2 z
  · have := h1.lt z; omega
theorem HX.of {w wr : World} {B : Nat} {A : AB} (h : HD w wr B A) : HX w wr B A (fun _ => False) := by
  obtain ⟨d, h1, h2⟩ := h.ex
  exact ⟨⟨d, h1, h2, fun _ z => z.elim⟩, h.kept, h.low⟩
theorem HX.step {w wr w' : World} {B : Nat} {d d' : DK} {S : Nat → Prop} (h1 : IsD w.heap.size wr B d) (K : Kept (fun _ => False) w wr) (h3 : ∀ k, S k → k < wr.heap.size ∧ ¬ d.Uses B k) (i : IsD w.heap.size w' B d') (m : DM wr w' B d d') : HX w w' B d'.ab S ∧ Kept (fun k => ¬ S k) wr w' := by
  refine ⟨⟨⟨d', i, rfl, fun k hk => ⟨by have := (h3 k hk).1; have := m.kept.size; omega, fun z => ?_⟩⟩, m.kept0 h1 (Nat.le_refl _) K, i.low⟩, m.kept.mono (fun k _ z q => (h3 k q).2 z.uses)⟩
  rcases m.near k z with q | q
  · exact (h3 k hk).2 q
  · have := (h3 k hk).1; omega
theorem xAppend (w wr : World) (B : Nat) (A : AB) (S : Nat → Prop) (i : Nat) (hi : i < 2) (a : Option Addr) (n c : Nat) (l : List Nat) (h : HX w wr B A S) (hd : A.dead = false) (hN : A.named ≠ 1) (ok : A.Ok) (r : Reads wr a n c l) (hn : n ≤ Lim) (hr : ∀ k, blockOf a = some k → k ≠ B) :
    Calls Try.prog 12 #[.pointer (some ⟨B, 0, none⟩), .int .i64 (i : Int), .slice a n c] wr fun x w' => x = .returned (.int .i64 0) ∧ HX w w' B (A.tick.add i l).counted S ∧ Kept (fun k => ¬ S k) wr w' := by
  obtain ⟨d, h1, rfl, h3⟩ := h.ex
  match i, hi with
  | 0, _ =>
    refine (dAppend_0 w.heap.size B d a n c wr l h1 hd hN ok r hn hr).mono ?_
    rintro x w' ⟨rfl, d', q1, q2, q3⟩
    exact ⟨rfl, by rw [← q3]; exact HX.step h1 h.kept h3 q1 q2⟩
  | 1, _ =>
    refine (dAppend_1 w.heap.size B d a n c wr l h1 hd hN ok r hn hr).mono ?_
    rintro x w' ⟨rfl, d', q1, q2, q3⟩
    exact ⟨rfl, by rw [← q3]; exact HX.step h1 h.kept h3 q1 q2⟩
theorem xCrash (w wr : World) (B : Nat) (A : AB) (S : Nat → Prop) (q : Option Addr) (n c : Nat) (cs : List Int) (h : HX w wr B A S) (ok : A.Ok) (r : IRd wr q n c cs) (hq : 0 < n → ∀ k, blockOf q = some k → k ≠ B) :
    Calls Try.prog 14 #[.pointer (some ⟨B, 0, none⟩), .slice q n c] wr fun x w' => ∃ F, x = .returned (.pointer (some ⟨F, 0, none⟩)) ∧ HX w w' B A.killed S ∧ HD w w' F (A.crash cs) ∧ Kept (fun k => k = B) wr w' := by
  obtain ⟨d, h1, rfl, h3⟩ := h.ex
  refine (dCrash w.heap.size B d q n c cs wr h1 ok r hq).mono ?_
  rintro x w' ⟨df, rfl, i1, i2, i3, K, _⟩
  have K0 : Kept (fun _ => False) w w' := h.kept.trans K (fun k hk z => by have z : k = B := z; have := h.low; omega)
  exact ⟨_, rfl, ⟨⟨_, i1, rfl, fun k hk => ⟨by have := (h3 k hk).1; have := K.size; omega, fun z => (h3 k hk).2 z⟩⟩, K0, h.low⟩, ⟨⟨df, i2.mono h.kept.size, i3⟩, K0, h.kept.size⟩, K⟩
theorem hLoad (w wr : World) (a0 : Option Addr) (n0 c0 : Nat) (l0 : List Nat) (a1 : Option Addr) (n1 c1 : Nat) (l1 : List Nat) (cur : Nat) (K : Kept (fun _ => False) w wr) (r0 : Reads wr a0 n0 c0 l0) (r1 : Reads wr a1 n1 c1 l1) (h0 : n0 ≤ Lim) (h1 : n1 ≤ Lim) (hc : cur < 2) :
    Calls Try.prog 9 #[.agg #[.slice a0 n0 c0, .slice a1 n1 c1], .int .i64 (cur : Int)] wr fun x w' => ∃ B, x = .returned (.tuple #[.pointer (some ⟨B, 0, none⟩), .int .i64 0]) ∧ HD w w' B ⟨l0, [], l1, [], cur, 0, false, 0, false⟩ ∧ Kept (fun _ => False) wr w' := by
  refine (dLoad a0 n0 c0 l0 a1 n1 c1 l1 cur wr r0 r1 h0 h1 hc).mono ?_
  rintro x w' ⟨df, rfl, i1, i2, K2, _⟩
  exact ⟨_, rfl, ⟨⟨df, i1.mono K.size, i2⟩, K.trans K2 (fun _ _ z => z), by have := K.size; omega⟩, K2⟩
end Go.Proofs.Ytbnnmelkbjkkjaa
