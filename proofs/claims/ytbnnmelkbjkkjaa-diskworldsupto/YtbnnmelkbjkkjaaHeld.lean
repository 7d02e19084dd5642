import Derived.Test.YtbnnmelkbjkkjaaLate
namespace Go.Proofs.Ytbnnmelkbjkkjaa
open Go.RowKit

/-- Disks, and blocks that are none of theirs. -/
structure MX (w wr : World) (L : List (Nat × DK)) (S : Nat → Prop) : Prop where
  md : MD w wr L
  far : ∀ k, S k → k < wr.heap.size ∧ ∀ x ∈ L, ¬ x.2.Uses x.1 k
theorem MX.of {w wr : World} {L : List (Nat × DK)} (h : MD w wr L) : MX w wr L (fun _ => False) := ⟨h, fun _ z => z.elim⟩
theorem MX.perm {w wr : World} {L L' : List (Nat × DK)} {S : Nat → Prop} (h : MX w wr L S) (p : L.Perm L') : MX w wr L' S := ⟨h.md.perm p, fun k hk => ⟨(h.far k hk).1, fun x hx => (h.far k hk).2 x (p.mem_iff.2 hx)⟩⟩
theorem MX.swap {w wr : World} {x y : Nat × DK} {L : List (Nat × DK)} {S : Nat → Prop} (h : MX w wr (x :: y :: L) S) : MX w wr (y :: x :: L) S := h.perm (List.Perm.swap ..)
theorem MX.rot {w wr : World} {x y z : Nat × DK} {S : Nat → Prop} (h : MX w wr [x, y, z] S) : MX w wr [y, z, x] S := h.perm ((List.Perm.swap y x [z]).trans (List.Perm.cons y (List.Perm.swap z x [])))
theorem MX.quiet {w wr w' : World} {L : List (Nat × DK)} {S : Nat → Prop} (h : MX w wr L S) (K : Kept (fun _ => False) wr w') : MX w w' L S := ⟨h.md.quiet K, fun k hk => ⟨by have := (h.far k hk).1; have := K.size; omega, (h.far k hk).2⟩⟩
theorem MX.less {w wr : World} {L : List (Nat × DK)} {S S' : Nat → Prop} (h : MX w wr L S) (hs : ∀ k, S' k → S k) : MX w wr L S' := ⟨h.md, fun k hk => h.far k (hs k hk)⟩
/-- Blocks that are new at w'. -/
theorem MX.more {w wr w' : World} {L : List (Nat × DK)} {S S' : Nat → Prop} (h : MX w wr L S) (K : Kept (fun _ => False) wr w') (hs : ∀ k, S' k → S k ∨ (wr.heap.size ≤ k ∧ k < w'.heap.size)) : MX w w' L S' := by
  refine ⟨h.md.quiet K, fun k hk => ?_⟩
  rcases hs k hk with z | ⟨z, z2⟩
  · exact (h.quiet K).far k z
  · exact ⟨z2, fun x hx q => by have := (h.md.is x hx).lt q; omega⟩
theorem MX.after {w wr w' : World} {B : Nat} {d d' : DK} {L : List (Nat × DK)} {S : Nat → Prop} (h : MX w wr ((B, d) :: L) S) (i : IsD w.heap.size w' B d') (m : DM wr w' B d d') : MX w w' ((B, d') :: L) S ∧ Kept (fun k => ¬ S k) wr w' := by
  refine ⟨⟨h.md.step i m, fun k hk => ⟨by have := (h.far k hk).1; have := m.kept.size; omega, fun x hx q => ?_⟩⟩, m.kept.mono (fun k _ z hS => (h.far k hS).2 (B, d) (by simp) z.uses)⟩
  rcases List.mem_cons.1 hx with e | e
  · rw [e] at q
    rcases m.near k q with z | z
    · exact (h.far k hk).2 (B, d) (by simp) z
    · have := (h.far k hk).1; omega
  · exact (h.far k hk).2 x (List.mem_cons_of_mem _ e) q
/-- Blocks of no disk are written over. -/
theorem MX.wrote {w wr w' : World} {L : List (Nat × DK)} {S T : Nat → Prop} (h : MX w wr L S) (K : Kept T wr w') (hT : ∀ k, T k → w.heap.size ≤ k ∧ ∀ x ∈ L, ¬ x.2.Uses x.1 k) : MX w w' L S :=
  ⟨h.md.off K (fun x hx k hk z => (hT k z).2 x hx hk) (fun k z => (hT k z).1), fun k hk => ⟨by have := (h.far k hk).1; have := K.size; omega, (h.far k hk).2⟩⟩
theorem mxCrash (w wr : World) (B : Nat) (d : DK) (L : List (Nat × DK)) (S : Nat → Prop) (q : Option Addr) (n c : Nat) (cs : List Int) (h : MX w wr ((B, d) :: L) S) (ok : d.ab.Ok) (r : IRd wr q n c cs) (hq : 0 < n → ∀ k, blockOf q = some k → k ≠ B) :
    Calls Try.prog 14 #[.pointer (some ⟨B, 0, none⟩), .slice q n c] wr fun x w' => ∃ F df, x = .returned (.pointer (some ⟨F, 0, none⟩)) ∧ df.ab = d.ab.crash cs ∧ MX w w' ((F, df) :: (B, { d with dead := true }) :: L) S ∧ Kept (fun k => ¬ S k) wr w' := by
  refine (dCrash w.heap.size B d q n c cs wr h.md.head ok r hq).mono ?_
  rintro x w' ⟨df, rfl, i1, i2, i3, K, hu⟩
  obtain ⟨q1, q2⟩ := List.pairwise_cons.1 h.md.apart
  have hB := block_lt h.md.head.blk
  refine ⟨_, df, rfl, i3, ⟨⟨fun x hx => ?_, ?_, h.md.kept.trans K (fun k hk z => by have z : k = B := z; have := h.md.head.low; omega)⟩, fun k hk => ⟨by have := (h.far k hk).1; have := K.size; omega, fun x hx q => ?_⟩⟩, K.mono (fun k _ z hS => (h.far k hS).2 (B, d) (by simp) (.inl z))⟩
  · rcases List.mem_cons.1 hx with z | z
    · rw [z]; exact i2.mono h.md.kept.size
    · rcases List.mem_cons.1 z with z | z
      · rw [z]; exact i1
      · exact (h.md.tail.is x z).off K (fun k hk z2 => q1 x z k (.inl z2) hk)
  · refine List.pairwise_cons.2 ⟨fun y hy k h1 h2 => ?_, List.pairwise_cons.2 ⟨fun y hy k h1 h2 => q1 y hy k h1 h2, q2⟩⟩
    have a1 := hu k h1
    rcases List.mem_cons.1 hy with z | z
    · rw [z] at h2
      have : d.Uses B k := h2
      have := h.md.head.lt this
      omega
    · have := (h.md.tail.is y z).lt h2
      omega
  · have hk2 := (h.far k hk).1
    rcases List.mem_cons.1 hx with z | z
    · rw [z] at q
      have := hu k q
      omega
    · rcases List.mem_cons.1 z with z | z
      · rw [z] at q
        exact (h.far k hk).2 (B, d) (by simp) q
      · exact (h.far k hk).2 x (List.mem_cons_of_mem _ z) q
theorem crash_small {A : AB} {s t : Nat} (h : Small A s t) (cs : List Int) : Small (A.crash cs) (s + s) 0 := by
  have h1 := h.wt
  have h2 := leftL_length A.l0 A.X0 cs
  have h3 := leftL_length A.l1 A.X1 (leftL A.l0 A.X0 cs).2
  have wn : weigh [] = 0 := rfl
  refine ⟨?_, Nat.le_refl _, Nat.le_refl _, Nat.le_refl _, rfl, rfl⟩
  show (leftL A.l0 A.X0 cs).1.length + weigh [] + (leftL A.l1 A.X1 (leftL A.l0 A.X0 cs).2).1.length + weigh [] ≤ s + s
  omega
end Go.Proofs.Ytbnnmelkbjkkjaa
