import Derived.Test.YtbangbobfeflcaaGreatDoorHGro
import Derived.Deep.Cut
namespace Go.Proofs.YtbangbobfeflcaaGreatDoor
open Go.RowKit 

/-- A copy of bytes, of one's own. -/
structure Cl5 (w : World) (l : List Nat) (p : Option Addr) (n c : Nat) (w' : World) : Prop where
  row : w'.ownsRow w.heap.size 5 1 (.slice p n c) n (cellsOf l)
  rd : Reads w' p n c l
  kept : Kept (fun _ => False) w w'
def RetL (Q : Option Addr → Nat → World → Prop) (n : Nat) (o : Ending) (w : World) : Prop := ∃ p c, o = .returned (.slice p n c) ∧ Q p c w
theorem RetL.mk {Q : Option Addr → Nat → World → Prop} {n : Nat} {o : Ending} {w : World} (p : Option Addr) (c : Nat) (h : o = .returned (.slice p n c)) (hq : Q p c w) : RetL Q n o w := ⟨p, c, h, hq⟩
theorem reads_own {w : World} {base n : Nat} {p : Option Addr} {c : Nat} {l : List Nat} (h : w.ownsRow base 5 1 (.slice p n c) n (cellsOf l)) (hb : ∀ x ∈ l, x < 256) : Reads w p n c l := by
  obtain ⟨a', cap', e', rd, _⟩ := owns_reads h hb
  simp at e'
  obtain ⟨rfl, rfl⟩ := e'
  exact rd
set_option maxRecDepth 100000 in
theorem hClone {w : World} {a : Option Addr} {n c : Nat} {l : List Nat} (r : Reads w a n c l) (hn : n + 1 ≤ 140737488355328) : Calls Tryz.prog 40 #[.slice a n c] w (RetL (fun p c' w' => Cl5 w l p n c' w') n) := by
  have H : Hid (Reads w a n c l) := r
  have rm := r.room
  have sm := r.small
  unfold maxLen at sm
  clear r
  go_enter Tryz.func40, Tryz.ntmps40
  cases a with
  | none =>
    have n0 : n = 0 := by
      refine Classical.byContradiction (fun z => ?_)
      obtain ⟨b, off, e, _⟩ := H.out.cells (by omega)
      cases e
    subst n0
    have l0 : l = [] := List.length_eq_zero_iff.1 H.out.length
    subst l0
    have F : Hid (Cl5 w [] none 0 0 w) := ⟨⟨rfl, .inl ⟨rfl, rfl⟩⟩, Reads.nil w, Kept.refl _ _⟩
    have nn := nil_none c w
    go_wp2_with fail
    go_ret
    exact RetL.mk none 0 (by first | rfl | simp) F.out
  | some ad =>
    have S : Hid ((w.alloc (.cells #[] 5)).ownsRow w.heap.size 5 1 (.slice (some ⟨w.heap.size, 0, none⟩) 0 0) 0 (cellsOf []) ∧ Reads (w.alloc (.cells #[] 5)) (some ad) n c l ∧ Kept (fun _ => False) w (w.alloc (.cells #[] 5))) := by
      have K : Kept (fun _ => False) w (w.alloc (.cells #[] 5)) := (Kept.refl _ _).alloc _
      exact ⟨⟨rfl, .inr ⟨w.heap.size, 0, #[], rfl, Nat.le_refl _, alloc_new _ _, Nat.le_refl _, by unfold maxLen; omega, rfl, rfl⟩⟩, Reads.kept K H.out (fun _ _ z => z), K⟩
    have ns := nil_some ad n c w
    go_upto_region 3 with fail
    go_wp2_with
      (first
        | (at_builtin; refine wpList_append_bytes _ rfl (.tmp 5) (.tmp 6) rfl w.heap.size (.slice (some ⟨w.heap.size, 0, none⟩) 0 0) 0 [] rfl S.out.1 _ n l rfl S.out.2.1.src (by omega) S.out.2.2.size ?_; intro p9 c9 w9 ho hg hn9)
        | fail)
    have F : Hid (Cl5 w l p9 n c9 w9) := by
      have o9 := ho.out
      rw [Nat.zero_add, List.nil_append] at o9
      refine ⟨o9, reads_own o9 H.out.bytes, ?_⟩
      exact Kept.own S.out.2.2 ((Kept.refl (fun j => j = w.heap.size) _).grown hg.out (fun j _ z => by rw [blockOf_own] at z; exact (Option.some.inj z).symm)) (fun b z => by have z : b = w.heap.size := z; omega)
    clear ho hg hn9
    go_wp2_with fail
    go_ret
    exact RetL.mk p9 c9 (by first | rfl | simp) F.out
end Go.Proofs.YtbangbobfeflcaaGreatDoor
