import Derived.Test.YtojfnehdanhgiaaPacks
namespace Go.Proofs.Ytojfnehdanhgiaa
open Go.RowKit

set_option maxRecDepth 100000 in
theorem nil_none (cap : Nat) (w : World) : (binOp .eql 30 (.slice none 0 cap) (.slice none 0 0)).run Try.prog w = .ok (.bool true) w := by kernel_rfl
theorem nil_some (ad : Addr) (len cap : Nat) (w : World) : (binOp .eql 30 (.slice (some ad) len cap) (.slice none 0 0)).run Try.prog w = .ok (.bool false) w := by kernel_rfl
set_option maxRecDepth 100000 in
/-- bytes.Clone. -/
theorem clone (a : Option Addr) (len cap : Nat) (l : List Nat) (w : World) (r : Reads w a len cap l) (hs : len ≤ 140737488355328) :
    Calls Try.prog 44 #[.slice a len cap] w fun x w' => ∃ p c, x = .returned (.slice p len c) ∧ w'.ownsRow w.heap.size 5 1 (.slice p len c) len (cellsOf l) ∧ Kept (fun _ => False) w w' := by
  have R : Hid (Reads w a len cap l) := r
  clear r
  cases a with
  | none =>
    have h0 : len = 0 := by
      rcases Nat.eq_zero_or_pos len with q | q
      · exact q
      · obtain ⟨_, _, e, _⟩ := R.out.cells q; cases e
    subst h0
    have hl : l = [] := List.eq_nil_of_length_eq_zero R.out.length
    subst hl
    have N := nil_none cap
    go_enter Try.func44, Try.ntmps44
    go_wp2_with fail
    go_ret
    exact ⟨none, 0, rfl, World.ownsRow_nil _ _ _ _, Kept.refl _ _⟩
  | some ad =>
    have K : Hid (Kept (fun _ => False) w (w.alloc (.cells #[] 5))) := (Kept.refl _ w).alloc _
    have r2 : Hid (Reads (w.alloc (.cells #[] 5)) (some ad) len cap l) := R.out.kept K.out (fun _ _ f => f.elim)
    have N := nil_some ad len cap
    go_enter Try.func44, Try.ntmps44
    go_wp2_with (first | (at_builtin; refine wpList_append_bytes _ rfl (.tmp 5) (.tmp 6) rfl w.heap.size (.slice (some ⟨w.heap.size, 0, none⟩) 0 0) 0 [] rfl (World.ownsRow_made w #[] 0 (Nat.le_refl _) (by unfold maxLen; omega) rfl) (.slice (some ad) len cap) len l rfl r2.out.src (by omega) (by simp) ?_; intro p2 k2 w2 ho hg nr) | fail)
    go_ret
    rw [Nat.zero_add] at ho
    rw [List.nil_append] at ho
    refine ⟨p2, k2, by simp, ho.out, K.out.grown hg.out (fun k hk q => ?_)⟩
    simp [Value.ownBlock] at q
    omega

/-- A datagram in a box of its own. -/
def Box (w : World) (b : Nat) (f1 f2 f3 f4 f5 f6 : Value) : Prop := w.heap[b]? = some (.cells #[f1, f2, f3, f4, f5, f6] 39 (0, 0))
theorem cell6 (b : Nat) (w : World) (f1 f2 f3 f4 f5 f6 : Value) (h : Box w b f1 f2 f3 f4 f5 f6) :
    w.cell? ⟨b, 0, none⟩ = some f1 ∧ w.cell? ⟨b, 1, none⟩ = some f2 ∧ w.cell? ⟨b, 2, none⟩ = some f3 ∧ w.cell? ⟨b, 3, none⟩ = some f4 ∧ w.cell? ⟨b, 4, none⟩ = some f5 ∧ w.cell? ⟨b, 5, none⟩ = some f6 ∧ ∀ i, w.frozen? ⟨b, i, none⟩ = false :=
  ⟨cell_blk h 0 rfl, cell_blk h 1 rfl, cell_blk h 2 rfl, cell_blk h 3 rfl, cell_blk h 4 rfl, cell_blk h 5 rfl, fun i => soft_blk h i⟩
theorem Box.lt {w : World} {b : Nat} {f1 f2 f3 f4 f5 f6 : Value} (h : Box w b f1 f2 f3 f4 f5 f6) : b < w.heap.size := block_lt h
theorem Box.kept {S : Nat → Prop} {w w' : World} {b : Nat} {f1 f2 f3 f4 f5 f6 : Value} (h : Box w b f1 f2 f3 f4 f5 f6) (K : Kept S w w') (hn : ¬ S b) : Box w' b f1 f2 f3 f4 f5 f6 := K.get h hn
theorem set_heap {w : World} {b : Nat} {cs : Array Value} {t : TypeId} (h : w.heap[b]? = some (.cells cs t (0, 0))) (i : Nat) (u : Value) : (w.setCell ⟨b, i, none⟩ u).heap[b]? = some (.cells (cs.setIfInBounds i u) t (0, 0)) := heap_setCell_same w b i cs t u h
theorem set_other {w : World} {b c : Nat} (i : Nat) (u : Value) (hn : c ≠ b) : (w.setCell ⟨b, i, none⟩ u).heap[c]? = w.heap[c]? := Below.heap_setCell _ _ _ _ hn
/-- All six are stored. -/
theorem Box.set {w : World} {b : Nat} {f1 f2 f3 f4 f5 f6 : Value} (h : Box w b f1 f2 f3 f4 f5 f6) (g1 g2 g3 g4 g5 g6 : Value) :
    Box ((((((w.setCell ⟨b, 0, none⟩ g1).setCell ⟨b, 1, none⟩ g2).setCell ⟨b, 2, none⟩ g3).setCell ⟨b, 3, none⟩ g4).setCell ⟨b, 4, none⟩ g5).setCell ⟨b, 5, none⟩ g6) b g1 g2 g3 g4 g5 g6 :=
  set_heap (set_heap (set_heap (set_heap (set_heap (set_heap h 0 g1) 1 g2) 2 g3) 3 g4) 4 g5) 5 g6
theorem Box.set4 {w : World} {b : Nat} {f1 f2 f3 f4 f5 f6 : Value} (h : Box w b f1 f2 f3 f4 f5 f6) (g : Value) : Box (w.setCell ⟨b, 4, none⟩ g) b f1 f2 f3 f4 g f6 := set_heap h 4 g
theorem Box.setAt {w : World} {b c : Nat} {f1 f2 f3 f4 f5 f6 : Value} (h : Box w b f1 f2 f3 f4 f5 f6) (i : Nat) (g : Value) (hn : b ≠ c) : Box (w.setCell ⟨c, i, none⟩ g) b f1 f2 f3 f4 f5 f6 := (set_other i g hn).trans h
theorem Kept.set6 {S : Nat → Prop} {w w' : World} (K : Kept S w w') {b : Nat} (hb : b < w.heap.size → S b) (g1 g2 g3 g4 g5 g6 : Value) :
    Kept S w ((((((w'.setCell ⟨b, 0, none⟩ g1).setCell ⟨b, 1, none⟩ g2).setCell ⟨b, 2, none⟩ g3).setCell ⟨b, 3, none⟩ g4).setCell ⟨b, 4, none⟩ g5).setCell ⟨b, 5, none⟩ g6) :=
  (((((K.setCell hb g1).setCell hb g2).setCell hb g3).setCell hb g4).setCell hb g5).setCell hb g6
theorem Try.size39 : (Try.prog.info? 39).map (·.size) = some 6 := by kernel_rfl
theorem results_pk {fn : Func} {p : Tmp} (h : fn.results = #[.cell p 39]) (tmps : Array Value) (w : World) (b : Nat) (f1 f2 f3 f4 f5 f6 : Value) (hp : tmps.getD p undef = .pointer (some ⟨b, 0, none⟩)) (B : Box w b f1 f2 f3 f4 f5 f6) :
    (results fn tmps).run Try.prog w = .ok (.agg #[f1, f2, f3, f4, f5, f6]) w :=
  results_cell_row h tmps w b 39 _ (0, 0) _ hp B Try.underlying39 rfl Try.size39
theorem results_pk_tmp {fn : Func} {p u : Tmp} (h : fn.results = #[.cell p 39, .tmp u]) (tmps : Array Value) (w : World) (b : Nat) (f1 f2 f3 f4 f5 f6 : Value) (hp : tmps.getD p undef = .pointer (some ⟨b, 0, none⟩)) (B : Box w b f1 f2 f3 f4 f5 f6) :
    (results fn tmps).run Try.prog w = .ok (.tuple #[.agg #[f1, f2, f3, f4, f5, f6], tmps.getD u undef]) w := by
  rw [results_cell_tmp h, hp]
  simp [asAddr, run_loadVar_row w b 39 39 _ (0, 0) _ B Try.underlying39 rfl Try.size39]
theorem alloc_new (w : World) (o : Obj) : (w.alloc o).heap[w.heap.size]? = some o := heap_alloc_new w o
theorem alloc_old {w : World} (o : Obj) {k : Nat} {q : Obj} (h : w.heap[k]? = some q) : (w.alloc o).heap[k]? = some q := (Below.heap_alloc _ _ _ (block_lt h)).trans h
theorem alloc_size (w : World) (o : Obj) : (w.alloc o).heap.size = w.heap.size + 1 := by simp
set_option maxRecDepth 100000 in
/-- second: a datagram like it, with bytes of its own. -/
theorem second (fk fi tk ti : Int) (a : Option Addr) (len cap : Nat) (lost : Bool) (l : List Nat) (w : World) (r : Reads w a len cap l) (hs : len ≤ 140737488355328) :
    Calls Try.prog 29 #[.agg #[.int .i64 fk, .int .i64 fi, .int .i64 tk, .int .i64 ti, .slice a len cap, .bool lost]] w fun x w' => ∃ p c, x = .returned (.agg #[.int .i64 fk, .int .i64 fi, .int .i64 tk, .int .i64 ti, .slice p len c, .bool lost]) ∧ w'.ownsRow w.heap.size 5 1 (.slice p len c) len (cellsOf l) ∧ Kept (fun _ => False) w w' := by
  have R : Hid (Reads w a len cap l) := r
  clear r
  go_enter Try.func29, Try.ntmps29
  go_wp2_with fail
  obtain ⟨w1, hw1⟩ : ∃ w1, w1 = (w.alloc (.cells #[.int .i64 fk, .int .i64 fi, .int .i64 tk, .int .i64 ti, .slice a len cap, .bool lost] 39)) := ⟨_, rfl⟩
  obtain ⟨w2, hw2⟩ : ∃ w2, w2 = (w1.alloc (.cells #[.int .i64 0, .int .i64 0, .int .i64 0, .int .i64 0, .slice none 0 0, .bool false] 39)) := ⟨_, rfl⟩
  have K2 : Hid (Kept (fun _ => False) w w2) := by rw [hw2, hw1]; exact ((Kept.refl _ w).alloc _).alloc _
  have z1 : w1.heap.size = w.heap.size + 1 := by rw [hw1]; exact alloc_size _ _
  have z2 : w2.heap.size = w.heap.size + 2 := by rw [hw2, alloc_size, z1]
  have b1 : Box w2 w.heap.size (.int .i64 fk) (.int .i64 fi) (.int .i64 tk) (.int .i64 ti) (.slice a len cap) (.bool lost) := by unfold Box; rw [hw2]; exact alloc_old _ (by rw [hw1]; exact alloc_new _ _)
  have b2 : Box w2 (w.heap.size + 1) (.int .i64 0) (.int .i64 0) (.int .i64 0) (.int .i64 0) (.slice none 0 0) (.bool false) := by unfold Box; rw [hw2, ← z1]; exact alloc_new _ _
  rw [← hw1, ← hw2]
  clear hw1 hw2 z1 w1
  refine (clone a len cap l w2 (R.out.kept' K2.out (fun _ _ q => q)) hs).mono ?_
  rintro x w3 ⟨p, c, rfl, ho, K3⟩
  have c1 := b1.kept K3 (fun q => q)
  have c2 := b2.kept K3 (fun q => q)
  obtain ⟨e1, e2, e3, e4, e5, e6, e7⟩ := cell6 _ _ _ _ _ _ _ _ c1
  obtain ⟨g1, g2, g3, g4, g5, g6, g7⟩ := cell6 _ _ _ _ _ _ _ _ c2
  have HO : Hid (w3.ownsRow w2.heap.size 5 1 (.slice p len c) len (cellsOf l) ∧ Kept (fun _ => False) w2 w3) := ⟨ho, K3⟩
  have C1 : Hid (Box _ _ _ _ _ _ _ _ ∧ Box _ _ _ _ _ _ _ _) := And.intro c1 c2
  have Z2 : Hid (w2.heap.size = w.heap.size + 2) := z2
  clear c1 c2 b1 b2 ho K3 z2
  go_wp2_with fail
  (try simp only [Exit.inBlock, Exit.then])
  have K4 : Kept (fun _ => False) w ((w3.setCell ⟨w.heap.size, 4, none⟩ (.slice p len c))) := (K2.out.trans HO.out.2 (fun _ _ q => q)).setCell (by simp) _
  refine bodyPost_ret (results_pk rfl _ _ (w.heap.size + 1) _ _ _ _ _ _ rfl ((C1.out.2.setAt _ _ (by omega)).set _ _ _ _ _ _)) rfl ⟨p, c, rfl, ?_, K4.set6 (by omega) _ _ _ _ _ _⟩
  have K5 : Kept (fun k => k < w.heap.size + 2) w3 (w3.setCell ⟨w.heap.size, 4, none⟩ (.slice p len c)) := (Kept.refl _ w3).setCell (fun _ => show w.heap.size < w.heap.size + 2 by omega) _
  have Z3 := Z2.out
  exact owns_mono ((K5.set6 (fun _ => show w.heap.size + 1 < w.heap.size + 2 by omega) _ _ _ _ _ _).owns HO.out.1 (fun k hk q => by have := (HO.out.1.lt k hk).1; have q : k < w.heap.size + 2 := q; omega)) K2.out.size
set_option maxRecDepth 100000 in
/-- copied: the document's way to do it. -/
theorem copied (fk fi tk ti : Int) (a : Option Addr) (len cap : Nat) (lost : Bool) (l : List Nat) (w : World) (r : Reads w a len cap l) (hs : len ≤ 140737488355328) :
    Calls Try.prog 41 #[.agg #[.int .i64 fk, .int .i64 fi, .int .i64 tk, .int .i64 ti, .slice a len cap, .bool lost]] w fun x w' => ∃ p c, x = .returned (.agg #[.int .i64 fk, .int .i64 fi, .int .i64 tk, .int .i64 ti, .slice p len c, .bool lost]) ∧ w'.ownsRow w.heap.size 5 1 (.slice p len c) len (cellsOf l) ∧ Kept (fun _ => False) w w' := by
  have R : Hid (Reads w a len cap l) := r
  clear r
  obtain ⟨w1, hw1⟩ : ∃ w1, w1 = (w.alloc (.cells #[.int .i64 fk, .int .i64 fi, .int .i64 tk, .int .i64 ti, .slice a len cap, .bool lost] 39)) := ⟨_, rfl⟩
  obtain ⟨w2, hw2⟩ : ∃ w2, w2 = (w1.alloc (.cells #[.int .i64 0, .int .i64 0, .int .i64 0, .int .i64 0, .slice none 0 0, .bool false] 39)) := ⟨_, rfl⟩
  have K2 : Hid (Kept (fun _ => False) w w2) := by rw [hw2, hw1]; exact ((Kept.refl _ w).alloc _).alloc _
  have z1 : w1.heap.size = w.heap.size + 1 := by rw [hw1]; exact alloc_size _ _
  have z2 : w2.heap.size = w.heap.size + 2 := by rw [hw2, alloc_size, z1]
  have b1 : Box w2 w.heap.size (.int .i64 fk) (.int .i64 fi) (.int .i64 tk) (.int .i64 ti) (.slice a len cap) (.bool lost) := by unfold Box; rw [hw2]; exact alloc_old _ (by rw [hw1]; exact alloc_new _ _)
  have b2 : Box w2 (w.heap.size + 1) (.int .i64 0) (.int .i64 0) (.int .i64 0) (.int .i64 0) (.slice none 0 0) (.bool false) := by unfold Box; rw [hw2, ← z1]; exact alloc_new _ _
  have B12 : Hid (Box w2 w.heap.size (.int .i64 fk) (.int .i64 fi) (.int .i64 tk) (.int .i64 ti) (.slice a len cap) (.bool lost) ∧ Box w2 (w.heap.size + 1) (.int .i64 0) (.int .i64 0) (.int .i64 0) (.int .i64 0) (.slice none 0 0) (.bool false)) := ⟨b1, b2⟩
  have EW : Hid (w2 = (w.alloc (.cells #[.int .i64 fk, .int .i64 fi, .int .i64 tk, .int .i64 ti, .slice a len cap, .bool lost] 39)).alloc (.cells #[.int .i64 0, .int .i64 0, .int .i64 0, .int .i64 0, .slice none 0 0, .bool false] 39)) := by show w2 = _; rw [hw2, hw1]
  have S0 : Hid (Src Try.prog 1 30 (.slice a len cap) len (cellsOf l) w2) := (R.out.kept' K2.out (fun _ _ q => q)).src
  have Z2 : Hid (w2.heap.size = w.heap.size + 2) := z2
  clear hw1 hw2 z1 z2 b1 b2 w1
  go_enter Try.func41, Try.ntmps41
  go_wp2_with (first | (at_builtin; rw [← EW.out]; refine wpList_append_bytes _ rfl (.tmp 4) (.tmp 6) rfl w2.heap.size (.slice none 0 0) 0 [] rfl (World.ownsRow_nil _ _ _ _) (.slice a len cap) len l rfl S0.out (by omega) (Nat.le_refl _) ?_; intro p c w3 ho hg nr; rw [Nat.zero_add] at ho ⊢; rw [List.nil_append] at ho; obtain ⟨e1, e2, e3, e4, e5, e6, e7⟩ := cell6 _ _ _ _ _ _ _ _ (B12.out.1.kept ((Kept.refl (fun _ => False) w2).grown hg.out (fun k hk q => by simp [Value.ownBlock] at q)) (fun q => q)); obtain ⟨g1, g2, g3, g4, g5, g6, g7⟩ := cell6 _ _ _ _ _ _ _ _ (B12.out.2.kept ((Kept.refl (fun _ => False) w2).grown hg.out (fun k hk q => by simp [Value.ownBlock] at q)) (fun q => q))) | fail)
  (try simp only [Exit.inBlock, Exit.then])
  have K3 : Kept (fun _ => False) w2 w3 := (Kept.refl (fun _ => False) w2).grown hg.out (fun k hk q => by simp [Value.ownBlock] at q)
  have K4 : Kept (fun _ => False) w ((w3.setCell ⟨w.heap.size, 4, none⟩ (.slice p len c))) := (K2.out.trans K3 (fun _ _ q => q)).setCell (by simp) _
  refine bodyPost_ret (results_pk rfl _ _ (w.heap.size + 1) _ _ _ _ _ _ rfl (((B12.out.2.kept K3 (fun q => q)).setAt _ _ (by omega)).set _ _ _ _ _ _)) rfl ⟨p, c, rfl, ?_, K4.set6 (by omega) _ _ _ _ _ _⟩
  have K5 : Kept (fun k => k < w.heap.size + 2) w3 (w3.setCell ⟨w.heap.size, 4, none⟩ (.slice p len c)) := (Kept.refl _ w3).setCell (fun _ => show w.heap.size < w.heap.size + 2 by omega) _
  have Z3 := Z2.out
  exact owns_mono ((K5.set6 (fun _ => show w.heap.size + 1 < w.heap.size + 2 by omega) _ _ _ _ _ _).owns ho.out (fun k hk q => by have := (ho.out.lt k hk).1; have q : k < w.heap.size + 2 := q; omega)) K2.out.size
/-- Is it a node? -/
def isN (k i : Int) : Bool := if k = 1 then decide (0 ≤ i ∧ i < 255) else if k = 2 then decide (1 ≤ i ∧ i ≤ 65535) else false
theorem alloc_kept0 (w : World) (o : Obj) : Kept (fun _ => False) w (w.alloc o) := (Kept.refl _ w).alloc o
set_option maxRecDepth 100000 in
theorem isNode (k i : Int) (w : World) : Calls Try.prog 42 #[.agg #[.int .i64 k, .int .i64 i]] w fun x w' => x = .returned (.bool (isN k i)) ∧ Kept (fun _ => False) w w' := by
  by_cases h1 : k = 1
  · subst h1
    by_cases h2 : (0 : Int) ≤ i
    · by_cases h3 : i < 255
      · skip
        have E : Hid (isN 1 i = true) := by show isN 1 i = true; simp [isN] <;> omega
        go_enter Try.func42, Try.ntmps42
        go_wp2_with fail
        go_ret
        exact ⟨by rw [E.out] <;> first | rfl | (simp <;> omega), alloc_kept0 _ _⟩
      · skip
        have E : Hid (isN 1 i = false) := by show isN 1 i = false; simp [isN] <;> omega
        go_enter Try.func42, Try.ntmps42
        go_wp2_with fail
        go_ret
        exact ⟨by rw [E.out] <;> first | rfl | (simp <;> omega), alloc_kept0 _ _⟩
    · skip
      have E : Hid (isN 1 i = false) := by show isN 1 i = false; simp [isN] <;> omega
      go_enter Try.func42, Try.ntmps42
      go_wp2_with fail
      go_ret
      exact ⟨by rw [E.out] <;> first | rfl | (simp <;> omega), alloc_kept0 _ _⟩
  · by_cases h4 : k = 2
    · subst h4
      by_cases h2 : (1 : Int) ≤ i
      · by_cases h3 : i ≤ 65535
        · skip
          have E : Hid (isN 2 i = true) := by show isN 2 i = true; simp [isN] <;> omega
          go_enter Try.func42, Try.ntmps42
          go_wp2_with fail
          go_ret
          exact ⟨by rw [E.out] <;> first | rfl | (simp <;> omega), alloc_kept0 _ _⟩
        · skip
          have E : Hid (isN 2 i = false) := by show isN 2 i = false; simp [isN] <;> omega
          go_enter Try.func42, Try.ntmps42
          go_wp2_with fail
          go_ret
          exact ⟨by rw [E.out] <;> first | rfl | (simp <;> omega), alloc_kept0 _ _⟩
      · skip
        have E : Hid (isN 2 i = false) := by show isN 2 i = false; simp [isN] <;> omega
        go_enter Try.func42, Try.ntmps42
        go_wp2_with fail
        go_ret
        exact ⟨by rw [E.out] <;> first | rfl | (simp <;> omega), alloc_kept0 _ _⟩
    · have E : Hid (isN k i = false) := by show isN k i = false; simp [isN, h1, h4]
      go_enter Try.func42, Try.ntmps42
      go_wp2_with fail
      go_ret
      exact ⟨by rw [E.out] <;> first | rfl | (simp <;> omega), alloc_kept0 _ _⟩
set_option maxRecDepth 100000 in
theorem node (k i : Int) (w : World) : Calls Try.prog 45 #[.agg #[.int .i64 k, .int .i64 i]] w fun x w' => x = .returned (.bool (isN k i)) ∧ Kept (fun _ => False) w w' := by
  by_cases h1 : k = 1
  · subst h1
    by_cases h2 : (0 : Int) ≤ i
    · by_cases h3 : i < 255
      · skip
        have E : Hid (isN 1 i = true) := by show isN 1 i = true; simp [isN] <;> omega
        go_enter Try.func45, Try.ntmps45
        go_wp2_with fail
        go_ret
        exact ⟨by rw [E.out] <;> first | rfl | (simp <;> omega), alloc_kept0 _ _⟩
      · skip
        have E : Hid (isN 1 i = false) := by show isN 1 i = false; simp [isN] <;> omega
        go_enter Try.func45, Try.ntmps45
        go_wp2_with fail
        go_ret
        exact ⟨by rw [E.out] <;> first | rfl | (simp <;> omega), alloc_kept0 _ _⟩
    · skip
      have E : Hid (isN 1 i = false) := by show isN 1 i = false; simp [isN] <;> omega
      go_enter Try.func45, Try.ntmps45
      go_wp2_with fail
      go_ret
      exact ⟨by rw [E.out] <;> first | rfl | (simp <;> omega), alloc_kept0 _ _⟩
  · by_cases h4 : k = 2
    · subst h4
      by_cases h2 : (1 : Int) ≤ i
      · by_cases h3 : i ≤ 65535
        · skip
          have E : Hid (isN 2 i = true) := by show isN 2 i = true; simp [isN] <;> omega
          go_enter Try.func45, Try.ntmps45
          go_wp2_with fail
          go_ret
          exact ⟨by rw [E.out] <;> first | rfl | (simp <;> omega), alloc_kept0 _ _⟩
        · skip
          have E : Hid (isN 2 i = false) := by show isN 2 i = false; simp [isN] <;> omega
          go_enter Try.func45, Try.ntmps45
          go_wp2_with fail
          go_ret
          exact ⟨by rw [E.out] <;> first | rfl | (simp <;> omega), alloc_kept0 _ _⟩
      · skip
        have E : Hid (isN 2 i = false) := by show isN 2 i = false; simp [isN] <;> omega
        go_enter Try.func45, Try.ntmps45
        go_wp2_with fail
        go_ret
        exact ⟨by rw [E.out] <;> first | rfl | (simp <;> omega), alloc_kept0 _ _⟩
    · have E : Hid (isN k i = false) := by show isN k i = false; simp [isN, h1, h4]
      go_enter Try.func45, Try.ntmps45
      go_wp2_with fail
      go_ret
      exact ⟨by rw [E.out] <;> first | rfl | (simp <;> omega), alloc_kept0 _ _⟩
/-- Len. -/
theorem nLen (C : Nat) (q : Option Addr) (len cap : Nat) (w : World) (c0 : w.cell? ⟨C, 0, none⟩ = some (.slice q len cap)) :
    Calls Try.prog 19 #[.pointer (some ⟨C, 0, none⟩)] w fun x w' => x = .returned (.int .i64 (len : Int)) ∧ w' = w := by
  go_enter Try.func19, Try.ntmps19
  go_wp2_with fail
  go_ret
  exact ⟨rfl, rfl⟩
theorem nLen_nil (w : World) : Calls Try.prog 19 #[.pointer none] w fun x w' => x = .returned (.int .i64 0) ∧ w' = w := by
  go_enter Try.func19, Try.ntmps19
  go_wp2_with fail
  go_ret
  exact ⟨rfl, rfl⟩
theorem rLen (C : Nat) (q : Option Addr) (len cap : Nat) (w : World) (c0 : w.cell? ⟨C, 0, none⟩ = some (.slice q len cap)) :
    Calls Try.prog 24 #[.pointer (some ⟨C, 0, none⟩)] w fun x w' => x = .returned (.int .i64 (len : Int)) ∧ w' = w := by
  go_enter Try.func24, Try.ntmps24
  go_wp2_with fail
  go_ret
  exact ⟨rfl, rfl⟩
theorem rLen_nil (w : World) : Calls Try.prog 24 #[.pointer none] w fun x w' => x = .returned (.int .i64 0) ∧ w' = w := by
  go_enter Try.func24, Try.ntmps24
  go_wp2_with fail
  go_ret
  exact ⟨rfl, rfl⟩
/-- Is there one of that number? -/
def hasI (i : Int) (len : Nat) : Bool := decide (0 ≤ i ∧ i < (len : Int))
theorem has (C : Nat) (q : Option Addr) (len cap : Nat) (i : Int) (w : World) (c0 : w.cell? ⟨C, 0, none⟩ = some (.slice q len cap)) :
    Calls Try.prog 30 #[.pointer (some ⟨C, 0, none⟩), .int .i64 i] w fun x w' => x = .returned (.bool (hasI i len)) ∧ w' = w := by
  by_cases h1 : (0 : Int) ≤ i
  · by_cases h2 : i < (len : Int)
    · go_enter Try.func30, Try.ntmps30
      go_wp2_with (first | (refine (nLen C q len cap _ c0).mono ?_; rintro x w1 ⟨rfl, rfl⟩) | fail)
      go_ret
      exact ⟨by rw [show hasI i len = true from decide_eq_true ⟨h1, h2⟩] <;> first | rfl | (simp <;> omega), rfl⟩
    · go_enter Try.func30, Try.ntmps30
      go_wp2_with (first | (refine (nLen C q len cap _ c0).mono ?_; rintro x w1 ⟨rfl, rfl⟩) | fail)
      go_ret
      exact ⟨by rw [show hasI i len = false from decide_eq_false (fun q => by omega)] <;> first | rfl | (simp <;> omega), rfl⟩
  · go_enter Try.func30, Try.ntmps30
    go_wp2_with fail
    go_ret
    exact ⟨by rw [show hasI i len = false from decide_eq_false (fun q => by omega)] <;> first | rfl | (simp <;> omega), rfl⟩
theorem has_nil (i : Int) (w : World) : Calls Try.prog 30 #[.pointer none, .int .i64 i] w fun x w' => x = .returned (.bool false) ∧ w' = w := by
  by_cases h1 : (0 : Int) ≤ i
  · have h2 : ¬ i < 0 := by omega
    go_enter Try.func30, Try.ntmps30
    go_wp2_with (first | (refine (nLen_nil _).mono ?_; rintro x w1 ⟨rfl, rfl⟩) | fail)
    go_ret
    exact ⟨by first | rfl | (simp <;> omega), rfl⟩
  · go_enter Try.func30, Try.ntmps30
    go_wp2_with fail
    go_ret
    exact ⟨by first | rfl | (simp <;> omega), rfl⟩
theorem there (C : Nat) (q : Option Addr) (len cap : Nat) (i : Int) (w : World) (c0 : w.cell? ⟨C, 0, none⟩ = some (.slice q len cap)) :
    Calls Try.prog 46 #[.pointer (some ⟨C, 0, none⟩), .int .i64 i] w fun x w' => x = .returned (.bool (hasI i len)) ∧ w' = w := by
  by_cases h1 : (0 : Int) ≤ i
  · by_cases h2 : i < (len : Int)
    · go_enter Try.func46, Try.ntmps46
      go_wp2_with fail
      go_ret
      exact ⟨by rw [show hasI i len = true from decide_eq_true ⟨h1, h2⟩] <;> first | rfl | (simp <;> omega), rfl⟩
    · go_enter Try.func46, Try.ntmps46
      go_wp2_with fail
      go_ret
      exact ⟨by rw [show hasI i len = false from decide_eq_false (fun q => by omega)] <;> first | rfl | (simp <;> omega), rfl⟩
  · go_enter Try.func46, Try.ntmps46
    go_wp2_with fail
    go_ret
    exact ⟨by rw [show hasI i len = false from decide_eq_false (fun q => by omega)] <;> first | rfl | (simp <;> omega), rfl⟩
/-- A new one. -/
theorem nNew (w : World) : Calls Try.prog 20 #[] w fun x w' => x = .returned (.pointer (some ⟨w.heap.size, 0, none⟩)) ∧ w' = w.alloc (.cells #[.slice none 0 0] 67) := by
  go_enter Try.func20, Try.ntmps20
  go_wp2_with fail
  go_ret
  exact ⟨rfl, rfl⟩
theorem rNew (w : World) : Calls Try.prog 21 #[] w fun x w' => x = .returned (.pointer (some ⟨w.heap.size, 0, none⟩)) ∧ w' = w.alloc (.cells #[.slice none 0 0] 71) := by
  go_enter Try.func21, Try.ntmps21
  go_wp2_with fail
  go_ret
  exact ⟨rfl, rfl⟩
theorem net_new {ty base : Nat} (w : World) (hb : base ≤ w.heap.size) (h5 : ty ≠ 5) (h39 : ty ≠ 39) : IsNet ty base (w.alloc (.cells #[.slice none 0 0] ty)) w.heap.size none 0 0 [] :=
  ⟨alloc_new _ _, ⟨World.ownsRow_nil _ _ _ _, fun _ h => by simp at h⟩, hb, h5, h39⟩
end Go.Proofs.Ytojfnehdanhgiaa
