import Derived.Test.YtbnnmelkbjkkjaaPicksJ
import Derived.Deep.Cut
namespace Go.Proofs.Ytbnnmelkbjkkjaa
open Go.RowKit

/-- A slot: the bytes that last and the loose acts, where they lie. -/
structure SL where
  a : Option Addr
  n : Nat
  c : Nat
  l : List Nat
  la : Option Addr
  ln : Nat
  lc : Nat
  L : List LA
def SL.Uses (s : SL) (k : Nat) : Prop := blockOf s.a = some k ∨ blockOf s.la = some k ∨ ∃ e ∈ s.L, e.Uses k
def SL.xs (s : SL) : List (Option (List Nat)) := s.L.map LA.x
structure IsS (base : Nat) (w : World) (s : SL) : Prop where
  own : w.ownsRow base 5 1 (.slice s.a s.n s.c) s.n (cellsOf s.l)
  bytes : ∀ c ∈ s.l, c < 256
  lown : w.ownsRow base 90 2 (.slice s.la s.ln s.lc) s.ln (lcells s.L)
  good : ∀ e ∈ s.L, e.Good w
  far : ∀ k, (blockOf s.a = some k ∨ blockOf s.la = some k) → ∀ e ∈ s.L, ¬ e.Uses k
theorem IsS.off {S : Nat → Prop} {base : Nat} {w w' : World} {s : SL} (h : IsS base w s) (K : Kept S w w') (hn : ∀ k, s.Uses k → ¬ S k) : IsS base w' s :=
  ⟨K.owns h.own (fun k hk => hn k (.inl (by rw [← hk]; exact (blockOf_own ..).symm))), h.bytes, K.owns h.lown (fun k hk => hn k (.inr (.inl (by rw [← hk]; exact (blockOf_own ..).symm)))), fun e he => (h.good e he).off K (fun k hk => hn k (.inr (.inr ⟨e, he, hk⟩))), h.far⟩
theorem IsS.kept0 {base : Nat} {w w' : World} {s : SL} (h : IsS base w s) (K : Kept (fun _ => False) w w') : IsS base w' s := h.off K (fun _ _ z => z)
theorem LA.Good.lt {w : World} {e : LA} (h : e.Good w) {k : Nat} (hk : e.Uses k) (hr : e.n ≠ 0 ∨ k = e.o) : k < w.heap.size := by
  obtain ⟨hx, hk⟩ := hk
  obtain ⟨l, hl⟩ := Option.ne_none_iff_exists'.1 hx
  obtain ⟨h0, h1, h2⟩ := h l hl
  rcases hk with z | z
  · rw [z]; exact block_lt h1
  · obtain ⟨b, off, e1, hc⟩ := h2.cells (by rw [← h2.length]; exact h0)
    rw [e1] at z
    simp [blockOf] at z
    subst z
    exact World.block_lt_of_cell? w ⟨b, off + 0, none⟩ (hc 0 (by rw [← h2.length]; exact h0))
theorem IsS.lt {base : Nat} {w : World} {s : SL} (h : IsS base w s) {k : Nat} (hk : s.Uses k) : k < w.heap.size := by
  rcases hk with z | z | ⟨e, he, z⟩
  · exact (own_lt h.own k z).2
  · exact (own_lt h.lown k z).2
  · refine (h.good e he).lt z (.inl fun z2 => ?_)
    obtain ⟨l, hl⟩ := Option.ne_none_iff_exists'.1 z.1
    obtain ⟨h0, _, h2⟩ := h.good e he l hl
    have := h2.length
    omega
theorem IsS.ne {base : Nat} {w : World} {s : SL} (h : IsS base w s) : ∀ k, blockOf s.a = some k → blockOf s.la ≠ some k := fun k h1 h2 => by
  obtain ⟨c1, e1⟩ := own_type h.own k h1
  obtain ⟨c2, e2⟩ := own_type h.lown k h2
  rw [e1] at e2
  simp at e2
theorem IsS.rd {base : Nat} {w : World} {s : SL} (h : IsS base w s) (hb : base ≤ w.heap.size) (hl : s.l.length + weigh s.xs ≤ Lim) : RD base w s.a s.n s.c s.l s.la s.ln s.lc s.L :=
  ⟨h.own, h.bytes, hb, owns_lrd h.lown, h.good, fun k hk => ⟨h.ne k hk, h.far k (.inl hk)⟩, hl⟩
theorem IsS.reads {base : Nat} {w : World} {s : SL} (h : IsS base w s) : Reads w s.a s.n s.c s.l := by
  obtain ⟨a, c, e, r, _⟩ := owns_reads h.own h.bytes
  simp at e
  obtain ⟨e1, e2⟩ := e
  rw [e1, e2]
  exact r
theorem enter60 (vs : Array Value) (w : World) : (callFunc 60 vs).run Try.prog w = .ok (.enter 60 vs) w := by kernel_rfl
theorem enter35 (vs : Array Value) (w : World) : (callFunc 35 vs).run Try.prog w = .ok (.enter 35 vs) w := by kernel_rfl
set_option maxRecDepth 100000 in
set_option maxHeartbeats 1000000 in
/-- A slot's bytes as they are now, as new memory. -/
theorem now (base B o : Nat) (s : SL) (w : World) (h : IsS base w s) (c0 : w.cell? ⟨B, o, none⟩ = some (.slice s.a s.n s.c)) (c1 : w.cell? ⟨B, o + 1, none⟩ = some (.slice s.la s.ln s.lc)) (hl : s.l.length + weigh s.xs ≤ Lim) :
    Calls Try.prog 41 #[.pointer (some ⟨B, o, none⟩)] w fun x w' => ∃ a n c, x = .returned (.slice a n c) ∧ w'.ownsRow w.heap.size 5 1 (.slice a n c) n (cellsOf (redoL s.l s.xs)) ∧ Kept (fun _ => False) w w' := by
  have H : Hid (IsS base w s ∧ s.l.length + weigh s.xs ≤ Lim ∧ s.n ≤ 140737488355328) := by
    refine ⟨h, hl, ?_⟩
    have := len_own h.own
    unfold Lim at hl
    omega
  clear h hl
  go_enter Try.func41, Try.ntmps41
  go_upto_region 1 with fail
  have KD : Hid (Kept (fun _ => False) w w.drew) := (Kept.refl (fun _ => False) w).drew
  go_region_held3 (fun w' => w'.cell? ⟨B, o, none⟩ = some (.slice s.a s.n s.c) ∧ w'.cell? ⟨B, o + 1, none⟩ = some (.slice s.la s.ln s.lc)) (first | go_keep)
    (first
      | (go_at_call 60; refine (redo w.drew.heap.size p1 s.n k1 s.l s.la s.ln s.lc s.L w1 X1.out).mono ?_; rintro x w2 ⟨a2, n2, c2, rfl, o2, K2, _⟩
         have X2 : Hid (w2.ownsRow w.heap.size 5 1 (.slice a2 n2 c2) n2 (cellsOf (redoL s.l s.xs)) ∧ Kept (fun _ => False) w w2) := ⟨o2, XK.out.trans K2 (fun k hk z => by have := (own_lt X1.out.own k z).1; rw [drew_size] at this; omega)⟩
         have d0 := X2.out.2.cell c0 (fun z => z)
         have d1 := X2.out.2.cell c1 (fun z => z)
         clear o2 K2)
      | (go_at_call 35; refine (clone s.a s.n s.c s.l w.drew (H.out.1.reads.kept' KD.out (fun _ _ z => z)) H.out.2.2).mono ?_; rintro x w1 ⟨p1, k1, rfl, o1, K1⟩
         have KW : Kept (fun _ => False) w w1 := KD.out.trans K1 (fun _ _ z => z)
         have XK : Hid (Kept (fun _ => False) w w1) := KW
         have X1 : Hid (RD w.drew.heap.size w1 p1 s.n k1 s.l s.la s.ln s.lc s.L) := by
           have h1 := H.out.1.kept0 KW
           refine ⟨o1, H.out.1.bytes, KW.size, owns_lrd h1.lown, h1.good, fun k hk => ?_, H.out.2.1⟩
           have hk2 := (own_lt o1 k hk).1
           rw [drew_size] at hk2
           exact ⟨fun z => by have := (own_lt H.out.1.lown k z).2; omega, fun e he z => by have := H.out.1.lt (k := k) (.inr (.inr ⟨e, he, z⟩)); omega⟩
         have e0 := KW.cell c0 (fun z => z)
         have e1 := KW.cell c1 (fun z => z)
         clear o1 K1 KW)
      | fail)
  go_wp2_with fail
  go_ret
  exact ⟨a2, n2, c2, rfl, X2.out⟩
end Go.Proofs.Ytbnnmelkbjkkjaa

namespace Go.Proofs.Ytbnnmelkbjkkjaa
open Go.RowKit

def SL.Own (s : SL) (k : Nat) : Prop := blockOf s.a = some k ∨ blockOf s.la = some k
theorem SL.Own.uses {s : SL} {k : Nat} (h : s.Own k) : s.Uses k := by
  rcases h with z | z
  · exact .inl z
  · exact .inr (.inl z)
/-- What came of a slot: it lies in the disk's block at o and o + 1. -/
structure SM (base B o : Nat) (w w' : World) (cs : Array Value) (s s' : SL) : Prop where
  blk : w'.heap[B]? = some (.cells ((cs.setIfInBounds o (.slice s'.a s'.n s'.c)).setIfInBounds (o + 1) (.slice s'.la s'.ln s'.lc)) 72 (0, 0))
  is : IsS base w' s'
  kept : Kept (fun k => k = B ∨ s.Own k) w w'
  nearU : ∀ k, s'.Uses k → s.Uses k ∨ w.heap.size ≤ k
  nearO : ∀ k, s'.Own k → s.Own k ∨ w.heap.size ≤ k
theorem own_two {w w2 : World} {B base o n : Nat} {e : TypeId} {sz : Nat} {v u1 u2 : Value} {xs : List Value} (h : w2.ownsRow base e sz v n xs) (hB : ∀ k, v.ownBlock = some k → k ≠ B) (hw : w = (w2.setCell ⟨B, o, none⟩ u1).setCell ⟨B, o + 1, none⟩ u2) : w.ownsRow base e sz v n xs := by
  have K : Kept (fun k => k = B) w2 w := by
    rw [hw]
    exact ((Kept.refl (fun k => k = B) w2).setCell (p := ⟨B, o, none⟩) (fun _ => rfl) _).setCell (p := ⟨B, o + 1, none⟩) (fun _ => rfl) _
  exact K.owns h (fun k hk z => hB k hk z)
set_option maxRecDepth 100000 in
set_option maxHeartbeats 1000000 in
theorem sync (base B o : Nat) (s : SL) (cs : Array Value) (w : World) (h : IsS base w s) (hb : base ≤ w.heap.size) (bk : w.heap[B]? = some (.cells cs 72 (0, 0))) (e0 : cs[o]? = some (.slice s.a s.n s.c)) (e1 : cs[o + 1]? = some (.slice s.la s.ln s.lc)) (hl : s.l.length + weigh s.xs ≤ Lim) :
    Calls Try.prog 43 #[.pointer (some ⟨B, o, none⟩)] w fun x w' => ∃ s', x = .returned (.tuple #[]) ∧ s'.l = redoL s.l s.xs ∧ s'.L = [] ∧ SM base B o w w' cs s s' := by
  have H : Hid (RD base w s.a s.n s.c s.l s.la s.ln s.lc s.L ∧ IsS base w s ∧ w.heap[B]? = some (.cells cs 72 (0, 0))) := ⟨h.rd hb hl, h, bk⟩
  have c0 := cell_blk bk o e0
  have c1 := cell_blk bk (o + 1) e1
  have f0 := soft_blk bk o
  have f1 := soft_blk bk (o + 1)
  have hB : ¬ blockOf s.a = some B := fun z => by
    obtain ⟨c, hc⟩ := own_type h.own B z
    rw [bk] at hc
    simp at hc
  clear h hb hl bk e0 e1
  have KD : Hid (Kept (fun _ => False) w w.drew) := (Kept.refl (fun _ => False) w).drew
  have HR : Hid (RD base w.drew s.a s.n s.c s.l s.la s.ln s.lc s.L) := by
    have r := H.out.1
    exact ⟨KD.out.owns r.own (fun _ _ z => z), r.bytes, r.base, r.list.off KD.out (fun _ _ z => z), fun e he => (r.good e he).kept0 KD.out, r.far, r.lim⟩
  go_enter Try.func43, Try.ntmps43
  go_upto_region 0 with fail
  go_region_law
    (first
      | (refine step_call_d _ (by rfl) 11 (by rfl) 60 [.tmp 6, .tmp 10] _ (by rfl) [.slice s.a s.n s.c, .slice s.la s.ln s.lc] (by rfl) (enter60 _ _) ((redo base s.a s.n s.c s.l s.la s.ln s.lc s.L w.drew HR.out).mono ?_); rintro x w2 ⟨a2, n2, c2, rfl, o2, K2, n2'⟩; refine ⟨_, rfl, ?_⟩
         have X2 : Hid (w2.ownsRow base 5 1 (.slice a2 n2 c2) n2 (cellsOf (redoL s.l s.xs)) ∧ Kept (fun k => blockOf s.a = some k) w w2 ∧ (∀ k, blockOf a2 = some k → blockOf s.a = some k ∨ w.heap.size ≤ k)) := ⟨o2, (KD.out.mono (fun _ _ z => z.elim)).trans K2 (fun _ _ z => z), n2'⟩
         have bk2 := X2.out.2.1.get H.out.2.2 hB
         have d0 := X2.out.2.1.cell c0 hB
         have d1 := X2.out.2.1.cell c1 hB
         have g0 := soft_blk bk2 o
         have g1 := soft_blk bk2 (o + 1)
         clear o2 K2 n2' bk2)
      | fail)
  all_goals go_wp2_with fail
  all_goals go_end0
  all_goals
    (refine ⟨⟨a2, n2, c2, redoL s.l s.xs, none, 0, 0, []⟩, rfl, rfl, rfl, ?_⟩
     have hB2 : ∀ k, blockOf a2 = some k → k ≠ B := fun k hk z => by
       subst z
       rcases X2.out.2.2 k hk with q | q
       · exact hB q
       · have := block_lt H.out.2.2; omega
     refine ⟨set_heap (set_heap (X2.out.2.1.get H.out.2.2 hB) o _) (o + 1) _, ⟨own_two X2.out.1 (fun k hk => hB2 k (by rw [← hk]; exact (blockOf_own ..).symm)) rfl, redoL_bytes _ _ H.out.2.1.bytes (good_bytes H.out.2.1.good), World.ownsRow_nil _ _ _ _, fun e he => by simp at he, fun k _ e he => by simp at he⟩, ?_, fun k hk => ?_, fun k hk => ?_⟩
     · exact ((X2.out.2.1.mono (fun k _ z => .inr (.inl z))).setCell (p := ⟨B, o, none⟩) (fun _ => .inl rfl) _).setCell (p := ⟨B, o + 1, none⟩) (fun _ => .inl rfl) _
     · rcases hk with z | z | ⟨e, he, _⟩
       · rcases X2.out.2.2 k z with q | q
         · exact .inl (.inl q)
         · exact .inr q
       · simp [blockOf] at z
       · simp at he
     · rcases hk with z | z
       · rcases X2.out.2.2 k z with q | q
         · exact .inl (.inl q)
         · exact .inr q
       · simp [blockOf] at z)
end Go.Proofs.Ytbnnmelkbjkkjaa
