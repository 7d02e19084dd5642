import Derived.Test.YtbnnmelkbjkkjaaSlot
namespace Go.Proofs.Ytbnnmelkbjkkjaa
open Go.RowKit

def SL.Own (s : SL) (k : Nat) : Prop := blockOf s.a = some k ∨ blockOf s.la = some k
theorem SL.Own.uses {s : SL} {k : Nat} (h : s.Own k) : s.Uses k := by
  rcases h with z | z
  · exact .inl z
  · exact .inr (.inl z)
/-- What came of a slot: it lies in the disk's block at o and o + 1. -/
structure SM (base B o : Nat) (w w' : World) (cs : Array Value) (s s' : SL) : Prop where
  blk : w'.heap[B]? = some (.cells ((cs.setIfInBounds o (.slice s'.a s'.n s'.c)).setIfInBounds (o + 1) (.slice s'.la s'.ln s'.lc)) 72 (0, 0))
  is : IsS base w' s'
  kept : Kept (fun k => k = B ∨ s.Own k) w w'
  nearU : ∀ k, s'.Uses k → s.Uses k ∨ w.heap.size ≤ k
  nearO : ∀ k, s'.Own k → s.Own k ∨ w.heap.size ≤ k
theorem own_two {w w2 : World} {B base o n : Nat} {e : TypeId} {sz : Nat} {v u1 u2 : Value} {xs : List Value} (h : w2.ownsRow base e sz v n xs) (hB : ∀ k, v.ownBlock = some k → k ≠ B) (hw : w = (w2.setCell ⟨B, o, none⟩ u1).setCell ⟨B, o + 1, none⟩ u2) : w.ownsRow base e sz v n xs := by
  have K : Kept (fun k => k = B) w2 w := by
    rw [hw]
    exact ((Kept.refl (fun k => k = B) w2).setCell (p := ⟨B, o, none⟩) (fun _ => rfl) _).setCell (p := ⟨B, o + 1, none⟩) (fun _ => rfl) _
  exact K.owns h (fun k hk z => hB k hk z)
set_option maxRecDepth 100000 in
set_option maxHeartbeats 1000000 in
theorem sync (base B o : Nat) (s : SL) (cs : Array Value) (w : World) (h : IsS base w s) (hb : base ≤ w.heap.size) (bk : w.heap[B]? = some (.cells cs 72 (0, 0))) (e0 : cs[o]? = some (.slice s.a s.n s.c)) (e1 : cs[o + 1]? = some (.slice s.la s.ln s.lc)) (hl : s.l.length + weigh s.xs ≤ Lim) :
    Calls Try.prog 43 #[.pointer (some ⟨B, o, none⟩)] w fun x w' => ∃ s', x = .returned (.tuple #[]) ∧ s'.l = redoL s.l s.xs ∧ s'.L = [] ∧ SM base B o w w' cs s s' := by
  have H : Hid (RD base w s.a s.n s.c s.l s.la s.ln s.lc s.L ∧ IsS base w s ∧ w.heap[B]? = some (.cells cs 72 (0, 0))) := ⟨h.rd hb hl, h, bk⟩
  have c0 := cell_blk bk o e0
  have c1 := cell_blk bk (o + 1) e1
  have f0 := soft_blk bk o
  have f1 := soft_blk bk (o + 1)
  have hB : ¬ blockOf s.a = some B := fun z => by
    obtain ⟨c, hc⟩ := own_type h.own B z
    rw [bk] at hc
    simp at hc
  clear h hb hl bk e0 e1
  have KD : Hid (Kept (fun _ => False) w w.drew) := (Kept.refl (fun _ => False) w).drew
  have HR : Hid (RD base w.drew s.a s.n s.c s.l s.la s.ln s.lc s.L) := by
    have r := H.out.1
    exact ⟨KD.out.owns r.own (fun _ _ z => z), r.bytes, r.base, r.list.off KD.out (fun _ _ z => z), fun e he => (r.good e he).kept0 KD.out, r.far, r.lim⟩
  go_enter Try.func43, Try.ntmps43
  go_upto_region 0 with fail
  go_region_law
    (first
      | (refine step_call_d _ (by rfl) 11 (by rfl) 60 [.tmp 6, .tmp 10] _ (by rfl) [.slice s.a s.n s.c, .slice s.la s.ln s.lc] (by rfl) (enter60 _ _) ((redo base s.a s.n s.c s.l s.la s.ln s.lc s.L w.drew HR.out).mono ?_); rintro x w2 ⟨a2, n2, c2, rfl, o2, K2, n2'⟩; refine ⟨_, rfl, ?_⟩
         have X2 : Hid (w2.ownsRow base 5 1 (.slice a2 n2 c2) n2 (cellsOf (redoL s.l s.xs)) ∧ Kept (fun k => blockOf s.a = some k) w w2 ∧ (∀ k, blockOf a2 = some k → blockOf s.a = some k ∨ w.heap.size ≤ k)) := ⟨o2, (KD.out.mono (fun _ _ z => z.elim)).trans K2 (fun _ _ z => z), n2'⟩
         have bk2 := X2.out.2.1.get H.out.2.2 hB
         have d0 := X2.out.2.1.cell c0 hB
         have d1 := X2.out.2.1.cell c1 hB
         have g0 := soft_blk bk2 o
         have g1 := soft_blk bk2 (o + 1)
         clear o2 K2 n2' bk2)
      | fail)
  all_goals go_wp2_with fail
  all_goals go_end0
  all_goals
    (refine ⟨⟨a2, n2, c2, redoL s.l s.xs, none, 0, 0, []⟩, rfl, rfl, rfl, ?_⟩
     have hB2 : ∀ k, blockOf a2 = some k → k ≠ B := fun k hk z => by
       subst z
       rcases X2.out.2.2 k hk with q | q
       · exact hB q
       · have := block_lt H.out.2.2; omega
     refine ⟨set_heap (set_heap (X2.out.2.1.get H.out.2.2 hB) o _) (o + 1) _, ⟨own_two X2.out.1 (fun k hk => hB2 k (by rw [← hk]; exact (blockOf_own ..).symm)) rfl, redoL_bytes _ _ H.out.2.1.bytes (good_bytes H.out.2.1.good), World.ownsRow_nil _ _ _ _, fun e he => by simp at he, fun k _ e he => by simp at he⟩, ?_, fun k hk => ?_, fun k hk => ?_⟩
     · exact ((X2.out.2.1.mono (fun k _ z => .inr (.inl z))).setCell (p := ⟨B, o, none⟩) (fun _ => .inl rfl) _).setCell (p := ⟨B, o + 1, none⟩) (fun _ => .inl rfl) _
     · rcases hk with z | z | ⟨e, he, _⟩
       · rcases X2.out.2.2 k z with q | q
         · exact .inl (.inl q)
         · exact .inr q
       · simp [blockOf] at z
       · simp at he
     · rcases hk with z | z
       · rcases X2.out.2.2 k z with q | q
         · exact .inl (.inl q)
         · exact .inr q
       · simp [blockOf] at z)
end Go.Proofs.Ytbnnmelkbjkkjaa
