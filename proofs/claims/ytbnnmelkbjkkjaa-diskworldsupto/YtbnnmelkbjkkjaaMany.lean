import Derived.Test.YtbnnmelkbjkkjaaActs
import Derived.Test.YtbnnmelkbjkkjaaOver
import Derived.Test.YtbnnmelkbjkkjaaCrash
namespace Go.Proofs.Ytbnnmelkbjkkjaa
open Go.RowKit

/-- Disks that have nothing to do with one another. -/
structure MD (w wr : World) (L : List (Nat × DK)) : Prop where
  is : ∀ x ∈ L, IsD w.heap.size wr x.1 x.2
  apart : L.Pairwise (fun x y => ∀ k, x.2.Uses x.1 k → ¬ y.2.Uses y.1 k)
  kept : Kept (fun _ => False) w wr
theorem MD.nil (w : World) : MD w w [] := ⟨fun x hx => by simp at hx, List.Pairwise.nil, Kept.refl _ _⟩
theorem MD.perm {w wr : World} {L L' : List (Nat × DK)} (h : MD w wr L) (p : L.Perm L') : MD w wr L' :=
  ⟨fun x hx => h.is x (p.mem_iff.2 hx), (p.pairwise_iff (fun {_ _} r k a b => r k b a)).1 h.apart, h.kept⟩
theorem MD.swap {w wr : World} {x y : Nat × DK} {L : List (Nat × DK)} (h : MD w wr (x :: y :: L)) : MD w wr (y :: x :: L) := h.perm (List.Perm.swap ..)
theorem MD.quiet {w wr w' : World} {L : List (Nat × DK)} (h : MD w wr L) (K : Kept (fun _ => False) wr w') : MD w w' L :=
  ⟨fun x hx => (h.is x hx).kept0 K, h.apart, h.kept.trans K (fun _ _ z => z)⟩
theorem MD.head {w wr : World} {B : Nat} {d : DK} {L : List (Nat × DK)} (h : MD w wr ((B, d) :: L)) : IsD w.heap.size wr B d := h.is (B, d) (by simp)
theorem MD.tail {w wr : World} {x : Nat × DK} {L : List (Nat × DK)} (h : MD w wr (x :: L)) : MD w wr L := ⟨fun y hy => h.is y (List.mem_cons_of_mem _ hy), (List.pairwise_cons.1 h.apart).2, h.kept⟩
theorem MD.hd {w wr : World} {B : Nat} {d : DK} {L : List (Nat × DK)} (h : MD w wr ((B, d) :: L)) : HD w wr B d.ab := ⟨⟨d, h.head, rfl⟩, h.kept, h.head.low⟩
theorem MD.step {w wr w' : World} {B : Nat} {d d' : DK} {L : List (Nat × DK)} (h : MD w wr ((B, d) :: L)) (i : IsD w.heap.size w' B d') (m : DM wr w' B d d') : MD w w' ((B, d') :: L) := by
  obtain ⟨q1, q2⟩ := List.pairwise_cons.1 h.apart
  refine ⟨fun x hx => ?_, List.pairwise_cons.2 ⟨fun y hy k h1 h2 => ?_, q2⟩, m.kept0 h.head (Nat.le_refl _) h.kept⟩
  · rcases List.mem_cons.1 hx with z | z
    · rw [z]; exact i
    · exact (h.tail.is x z).off m.kept (fun k hk z2 => q1 x z k z2.uses hk)
  · rcases m.near k h1 with z | z
    · exact q1 y hy k z h2
    · have := (h.tail.is y hy).lt h2
      omega
theorem MD.cons {w wr w' : World} {F : Nat} {df : DK} {L : List (Nat × DK)} (h : MD w wr L) (K : Kept (fun _ => False) wr w') (i : IsD w.heap.size w' F df) (hu : ∀ k, df.Uses F k → wr.heap.size ≤ k) : MD w w' ((F, df) :: L) := by
  refine ⟨fun x hx => ?_, List.pairwise_cons.2 ⟨fun y hy k h1 h2 => ?_, h.apart⟩, h.kept.trans K (fun _ _ z => z)⟩
  · rcases List.mem_cons.1 hx with z | z
    · rw [z]; exact i
    · exact (h.is x z).kept0 K
  · have := hu k h1
    have := (h.is y hy).lt h2
    omega
theorem mNew (w wr : World) (L : List (Nat × DK)) (h : MD w wr L) : Calls Try.prog 21 #[] wr fun x w' => x = .returned (.pointer (some ⟨wr.heap.size, 0, none⟩)) ∧ ∃ d, d.ab = A1 ∧ MD w w' ((wr.heap.size, d) :: L) := by
  refine (dNew wr).mono ?_
  rintro x w' ⟨rfl, d, h1, h2, h3, h4⟩
  exact ⟨rfl, d, h2, h.cons h3 (h1.mono h.kept.size) (fun k hk => by rw [h4 k hk]; exact Nat.le_refl _)⟩
theorem mAct (w wr : World) (B : Nat) (d : DK) (L : List (Nat × DK)) (o : Opv) (hk : 1 ≤ o.kind ∧ o.kind ≤ 4) (a : Option Addr) (n c : Nat) (l : List Nat) (h : MD w wr ((B, d) :: L)) (ok : d.ab.Ok) (r : Reads wr a n c l) (hn : n ≤ Lim) (hr : ∀ k, blockOf a = some k → k ≠ B) :
    Calls Try.prog 23 #[.pointer (some ⟨B, 0, none⟩), .agg o.cs, .slice a n c] wr fun x w' => x = .returned (.int .i64 (d.ab.act o.kind o.slot l).2) ∧ ∃ d', d'.ab = (d.ab.act o.kind o.slot l).1 ∧ MD w w' ((B, d') :: L) := by
  refine (gAct w.heap.size B d o hk a n c l wr h.head ok r hn hr).mono ?_
  rintro x w' ⟨rfl, d', i, m, e⟩
  exact ⟨rfl, d', e, h.step i m⟩
theorem mStop (w wr : World) (B : Nat) (d : DK) (L : List (Nat × DK)) (n : Int) (done : Bool) (h : MD w wr ((B, d) :: L)) (hd : d.dead = false) :
    Calls Try.prog 22 #[.pointer (some ⟨B, 0, none⟩), .int .i64 n, .bool done] wr fun x w' => x = .returned (.int .i64 0) ∧ ∃ d', d'.ab = { d.ab with named := if n < 0 then 0 else n, done := done } ∧ MD w w' ((B, d') :: L) := by
  refine (dStop w.heap.size B d n done wr h.head hd).mono ?_
  rintro x w' ⟨rfl, d', i, m, e⟩
  exact ⟨rfl, d', e, h.step i m⟩
theorem mCrash (w wr : World) (B : Nat) (d : DK) (L : List (Nat × DK)) (q : Option Addr) (n c : Nat) (cs : List Int) (h : MD w wr ((B, d) :: L)) (ok : d.ab.Ok) (r : IRd wr q n c cs) (hq : 0 < n → ∀ k, blockOf q = some k → k ≠ B) :
    Calls Try.prog 14 #[.pointer (some ⟨B, 0, none⟩), .slice q n c] wr fun x w' => ∃ F df, x = .returned (.pointer (some ⟨F, 0, none⟩)) ∧ df.ab = d.ab.crash cs ∧ MD w w' ((F, df) :: (B, { d with dead := true }) :: L) := by
  refine (dCrash w.heap.size B d q n c cs wr h.head ok r hq).mono ?_
  rintro x w' ⟨df, rfl, i1, i2, i3, K, hu⟩
  obtain ⟨q1, q2⟩ := List.pairwise_cons.1 h.apart
  have hB := block_lt h.head.blk
  refine ⟨_, df, rfl, i3, ⟨fun x hx => ?_, ?_, h.kept.trans K (fun k hk z => by have z : k = B := z; have := h.head.low; omega)⟩⟩
  · rcases List.mem_cons.1 hx with z | z
    · rw [z]; exact i2.mono h.kept.size
    · rcases List.mem_cons.1 z with z | z
      · rw [z]; exact i1
      · exact (h.tail.is x z).off K (fun k hk z2 => q1 x z k (.inl z2) hk)
  · refine List.pairwise_cons.2 ⟨fun y hy k h1 h2 => ?_, List.pairwise_cons.2 ⟨fun y hy k h1 h2 => q1 y hy k h1 h2, q2⟩⟩
    have a1 := hu k h1
    rcases List.mem_cons.1 hy with z | z
    · rw [z] at h2
      have : d.Uses B k := h2
      have := h.head.lt this
      omega
    · have := (h.tail.is y z).lt h2
      omega
end Go.Proofs.Ytbnnmelkbjkkjaa
