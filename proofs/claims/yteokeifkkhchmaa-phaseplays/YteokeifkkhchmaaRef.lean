import Derived.Test.YteokeifkkhchmaaPhM
import Derived.Deep.OwnRows
namespace Go.Proofs.Yteokeifkkhchmaa
open Go.RowKit 

/-- Who has come, and what each said last. -/
def comeA (M : Int → Option Int) (n : Nat) : Array Value := ((List.range n).map fun (i : Nat) => Value.bool (M (i : Int)).isSome).toArray
def lastA (M : Int → Option Int) (n : Nat) : Array Value := ((List.range n).map fun (i : Nat) => Value.int .i64 ((M (i : Int)).getD 0)).toArray
theorem comeA_at (M : Int → Option Int) (n i : Nat) (h : i < n) : (comeA M n)[i]? = some (.bool (M (i : Int)).isSome) := by
  unfold comeA; simp [h]
theorem lastA_at (M : Int → Option Int) (n i : Nat) (h : i < n) : (lastA M n)[i]? = some (.int .i64 ((M (i : Int)).getD 0)) := by
  unfold lastA; simp [h]
theorem comeA_size (M : Int → Option Int) (n : Nat) : (comeA M n).size = n := by unfold comeA; simp
theorem lastA_size (M : Int → Option Int) (n : Nat) : (lastA M n).size = n := by unfold lastA; simp
theorem comeA_set (M : Int → Option Int) (n s : Nat) (v : Int) : (comeA M n).setIfInBounds s (.bool true) = comeA (upd M (s : Int) v) n := by
  apply Array.ext
  · simp [comeA_size]
  · intro i h1 h2
    have hi : i < n := by rw [comeA_size] at h2; exact h2
    have e2 := comeA_at (upd M (s : Int) v) n i hi
    have e1 := comeA_at M n i hi
    rw [Array.getElem_setIfInBounds (by rw [comeA_size]; exact hi)]
    rw [Array.getElem?_eq_getElem h2] at e2
    rw [Array.getElem?_eq_getElem (by rw [comeA_size]; exact hi)] at e1
    have e2 := Option.some.inj e2
    have e1 := Option.some.inj e1
    rw [e2, e1]
    unfold upd
    by_cases h : s = i
    · subst h; simp
    · rw [if_neg h, if_neg (by omega)]
theorem lastA_set (M : Int → Option Int) (n s : Nat) (v : Int) : (lastA M n).setIfInBounds s (.int .i64 v) = lastA (upd M (s : Int) v) n := by
  apply Array.ext
  · simp [lastA_size]
  · intro i h1 h2
    have hi : i < n := by rw [lastA_size] at h2; exact h2
    have e2 := lastA_at (upd M (s : Int) v) n i hi
    have e1 := lastA_at M n i hi
    rw [Array.getElem_setIfInBounds (by rw [lastA_size]; exact hi)]
    rw [Array.getElem?_eq_getElem h2] at e2
    rw [Array.getElem?_eq_getElem (by rw [lastA_size]; exact hi)] at e1
    have e2 := Option.some.inj e2
    have e1 := Option.some.inj e1
    rw [e2, e1]
    unfold upd
    by_cases h : s = i
    · subst h; simp
    · rw [if_neg h, if_neg (by omega)]
theorem comeA_new (n : Nat) : madeCells #[.bool false] n = comeA (fun _ => none) n := by
  apply Array.ext
  · simp [comeA_size, madeCells]
  · intro i h1 h2
    have hi : i < n := by rw [comeA_size] at h2; exact h2
    have e2 := comeA_at (fun _ => none) n i hi
    rw [Array.getElem?_eq_getElem h2] at e2
    rw [Option.some.inj e2]
    simp [madeCells, Nat.mod_one]
theorem lastA_new (n : Nat) : madeCells #[.int .i64 0] n = lastA (fun _ => none) n := by
  apply Array.ext
  · simp [lastA_size, madeCells]
  · intro i h1 h2
    have hi : i < n := by rw [lastA_size] at h2; exact h2
    have e2 := lastA_at (fun _ => none) n i hi
    rw [Array.getElem?_eq_getElem h2] at e2
    rw [Option.some.inj e2]
    simp [madeCells, Nat.mod_one]
/-- The document's phase: its block, and the two lists. -/
structure IsR (w : World) (rb cb lb n : Nat) (K D : Int) (M : Int → Option Int) : Prop where
  blk : w.heap[rb]? = some (.cells #[.int .i64 (n : Int), .int .i64 K, .int .i64 D, .slice (some ⟨cb, 0, none⟩) n n, .slice (some ⟨lb, 0, none⟩) n n] 44 (0, 0))
  come : w.heap[cb]? = some (.cells (comeA M n) 4 (0, 0))
  last : w.heap[lb]? = some (.cells (lastA M n) 3 (0, 0))
  ok : okC (n : Int) K D
  dom : ∀ k v, M k = some v → 0 ≤ k ∧ k < (n : Int)
theorem IsR.lt {w : World} {rb cb lb n : Nat} {K D : Int} {M : Int → Option Int} (h : IsR w rb cb lb n K D M) : rb < w.heap.size ∧ cb < w.heap.size ∧ lb < w.heap.size := ⟨block_lt h.blk, block_lt h.come, block_lt h.last⟩
theorem IsR.ne {w : World} {rb cb lb n : Nat} {K D : Int} {M : Int → Option Int} (h : IsR w rb cb lb n K D M) : rb ≠ cb ∧ rb ≠ lb ∧ cb ≠ lb := by
  refine ⟨fun e => ?_, fun e => ?_, fun e => ?_⟩
  · have := h.blk; rw [e, h.come] at this; simp at this
  · have := h.blk; rw [e, h.last] at this; simp at this
  · have := h.come; rw [e, h.last] at this; simp at this
theorem IsR.kept {S : Nat → Prop} {w w' : World} {rb cb lb n : Nat} {K D : Int} {M : Int → Option Int} (h : IsR w rb cb lb n K D M) (k : Kept S w w') (h0 : ¬ S rb) (h1 : ¬ S cb) (h2 : ¬ S lb) : IsR w' rb cb lb n K D M :=
  ⟨k.get h.blk h0, k.get h.come h1, k.get h.last h2, h.ok, h.dom⟩
theorem IsR.k0 {w w' : World} {rb cb lb n : Nat} {K D : Int} {M : Int → Option Int} (h : IsR w rb cb lb n K D M) (k : Kept (fun _ => False) w w') : IsR w' rb cb lb n K D M := h.kept k (fun z => z) (fun z => z) (fun z => z)
theorem bool_info : (Try.prog.info? 4).map (fun i => (i.zero, i.size, i.bytes)) = some (some (.bool false), 1, 1) := by kernel_rfl
theorem rNew_not (N K D : Int) (w : World) (h : ¬ okC N K D) : Calls Try.prog 4 #[.agg #[.int .i64 N, .int .i64 K, .int .i64 D]] w fun x w' => x = .returned (.tuple #[.pointer none, .int .i64 40]) ∧ Kept (fun _ => False) w w' := by
  have B1 : Hid (Below w.heap.size w (w.alloc (Obj.cells #[.int .i64 N, .int .i64 K, .int .i64 D] 23))) := (Below.refl _ _).alloc (Nat.le_refl _) _
  go_enter Try.func4, Try.ntmps4
  go_wp2_with fail
  refine (rCheck N K D _).mono ?_
  rw [errC_not h]
  rintro e w1 ⟨rfl, b1⟩
  go_wp2_with fail
  go_ret2
  exact ⟨rfl, Kept.ofB (B1.out.trans (b1.mono (by simp)))⟩
theorem three0 (w : World) (a b c : Obj) : (((w.alloc a).alloc b).alloc c).heap[w.heap.size]? = some a := by
  rw [Below.heap_alloc _ _ _ (by simp; omega)]; exact two0 _ _ _
theorem three1 (w : World) (a b c : Obj) : (((w.alloc a).alloc b).alloc c).heap[w.heap.size + 1]? = some b := by
  rw [Below.heap_alloc _ _ _ (by simp)]; exact two1 _ _ _
theorem three2 (w : World) (a b c : Obj) : (((w.alloc a).alloc b).alloc c).heap[w.heap.size + 2]? = some c := by
  have : w.heap.size + 2 = ((w.alloc a).alloc b).heap.size := by simp
  rw [this]; exact heap_alloc_new _ _
set_option maxRecDepth 100000 in
set_option maxHeartbeats 2000000 in
theorem rNew_ok (n : Nat) (K D : Int) (w : World) (h : okC (n : Int) K D) : Calls Try.prog 4 #[.agg #[.int .i64 (n : Int), .int .i64 K, .int .i64 D]] w fun x w' => ∃ rb cb lb, w.heap.size ≤ rb ∧ w.heap.size ≤ cb ∧ w.heap.size ≤ lb ∧ x = .returned (.tuple #[.pointer (some ⟨rb, 0, none⟩), .int .i64 0]) ∧ IsR w' rb cb lb n K D (fun _ => none) ∧ Kept (fun _ => False) w w' := by
  have B1 : Hid (Below w.heap.size w (w.alloc (Obj.cells #[.int .i64 (n : Int), .int .i64 K, .int .i64 D] 23))) := (Below.refl _ _).alloc (Nat.le_refl _) _
  have HO : Hid (okC (n : Int) K D) := h
  have n255 : n ≤ 255 := by have := h.2.2.1; omega
  have mA : ∀ W : World, (Instr.makeSlice 41 (.int .i64 (n : Int)) (.int .i64 (n : Int))).run Try.prog W = .ok (.slice (some ⟨W.heap.size, 0, none⟩) n n) (W.alloc (.cells (madeCells #[.bool false] n) 4)) := run_make_row' 41 4 (.bool false) 1 Try.underlying41 bool_info rfl .i64 .i64 n (by omega) (by omega)
  have mB : ∀ W : World, (Instr.makeSlice 42 (.int .i64 (n : Int)) (.int .i64 (n : Int))).run Try.prog W = .ok (.slice (some ⟨W.heap.size, 0, none⟩) n n) (W.alloc (.cells (madeCells #[.int .i64 0] n) 3)) := run_make_row' 42 3 (.int .i64 0) 8 Try.underlying42 int_info rfl .i64 .i64 n (by omega) (by omega)
  rw [comeA_new] at mA
  rw [lastA_new] at mB
  go_enter Try.func4, Try.ntmps4
  go_wp2_with fail
  refine (rCheck (n : Int) K D _).mono ?_
  rw [errC_ok h]
  rintro e w1 ⟨rfl, b1⟩
  have c0 : w1.cell? ⟨w.heap.size, 0, none⟩ = some (.int .i64 (n : Int)) := (b1.cell (by simp)).trans (by simp)
  have c1 : w1.cell? ⟨w.heap.size, 1, none⟩ = some (.int .i64 K) := (b1.cell (by simp)).trans (by simp)
  have c2 : w1.cell? ⟨w.heap.size, 2, none⟩ = some (.int .i64 D) := (b1.cell (by simp)).trans (by simp)
  have BB : Hid (Below w.heap.size w w1) := B1.out.trans (b1.mono (by simp))
  have LW : w.heap.size < w1.heap.size := by have := b1.size; simp at this; omega
  have HS : Hid (∀ V, Kept (fun _ => False) w1 V → V.cell? ⟨w.heap.size, 0, none⟩ = some (.int .i64 (n : Int)) ∧ V.cell? ⟨w.heap.size, 1, none⟩ = some (.int .i64 K) ∧ V.cell? ⟨w.heap.size, 2, none⟩ = some (.int .i64 D)) := fun V k => ⟨k.cell c0 (fun z => z), k.cell c1 (fun z => z), k.cell c2 (fun z => z)⟩
  clear b1 B1 h
  go_upto_region 4 with fail
  go_region_held3 (fun w' => w'.cell? ⟨w.heap.size, 0, none⟩ = some (.int .i64 (n : Int)) ∧ w'.cell? ⟨w.heap.size, 1, none⟩ = some (.int .i64 K) ∧ w'.cell? ⟨w.heap.size, 2, none⟩ = some (.int .i64 D)) (first | (refine HS.out _ ?_; (repeat (first | with_reducible exact Kept.refl _ _ | with_reducible refine Kept.drew ?_ | with_reducible refine Kept.alloc ?_ _)); done) | go_keep) (fail)
  all_goals go_wp2_with fail
  all_goals go_ret2
  all_goals first
    | exact ⟨w1.heap.size + 1 + 1, w1.heap.size + 1, w1.heap.size, by omega, by omega, by omega, rfl, ⟨three2 _ _ _ _, three1 _ _ _ _, three0 _ _ _ _, HO.out, fun _ _ q => by simp at q⟩, ((((Kept.ofB BB.out).alloc _).alloc _).alloc _).drew⟩
    | exact ⟨w1.heap.size + 1 + 1, w1.heap.size, w1.heap.size + 1, by omega, by omega, by omega, rfl, ⟨three2 _ _ _ _, three0 _ _ _ _, three1 _ _ _ _, HO.out, fun _ _ q => by simp at q⟩, ((((Kept.ofB BB.out).alloc _).alloc _).alloc _).drew⟩
theorem rAnswer_nil (s v : Int) (w : World) : Calls Try.prog 10 #[.pointer none, .int .i64 s, .int .i64 v] w fun x w' => x = .returned (.tuple #[.bool false, .int .i64 0]) ∧ w' = w := by
  go_enter Try.func10, Try.ntmps10
  go_wp2_with fail
  go_ret2
  exact ⟨rfl, rfl⟩
theorem rAnswer_off {rb cb lb n : Nat} {K D : Int} {M : Int → Option Int} (s v : Int) (w : World) (h : IsR w rb cb lb n K D M) (hs : s < 0 ∨ (n : Int) ≤ s) : Calls Try.prog 10 #[.pointer (some ⟨rb, 0, none⟩), .int .i64 s, .int .i64 v] w fun x w' => x = .returned (.tuple #[.bool false, .int .i64 51]) ∧ w' = w := by
  have c0 := cell_blk h.blk 0 (v := .int .i64 (n : Int)) rfl
  clear h
  by_cases h1 : s < 0
  · go_enter Try.func10, Try.ntmps10
    go_wp2_with fail
    go_ret2
    exact ⟨rfl, rfl⟩
  · have h2 : (n : Int) ≤ s := by omega
    go_enter Try.func10, Try.ntmps10
    go_wp2_with fail
    go_ret2
    exact ⟨rfl, rfl⟩
theorem rAnswer_in {rb cb lb n : Nat} {K D : Int} {M : Int → Option Int} (s : Nat) (v : Int) (w : World) (h : IsR w rb cb lb n K D M) (hs : s < n) : Calls Try.prog 10 #[.pointer (some ⟨rb, 0, none⟩), .int .i64 (s : Int), .int .i64 v] w fun x w' => x = .returned (.tuple #[.bool (!(M (s : Int)).isSome), .int .i64 0]) ∧ IsR w' rb cb lb n K D (upd M (s : Int) v) ∧ Kept (fun j => j = cb ∨ j = lb) w w' := by
  have c0 := cell_blk h.blk 0 (v := .int .i64 (n : Int)) rfl
  have c3 := cell_blk h.blk 3 (v := .slice (some ⟨cb, 0, none⟩) n n) rfl
  have c4 := cell_blk h.blk 4 (v := .slice (some ⟨lb, 0, none⟩) n n) rfl
  have d0 := cell_blk h.come s (comeA_at M n s hs)
  have d1 := soft_blk h.come s
  have e0 := cell_blk h.last s (lastA_at M n s hs)
  have e1 := soft_blk h.last s
  obtain ⟨b, hb⟩ : ∃ b, b = (M (s : Int)).isSome := ⟨_, rfl⟩
  obtain ⟨a, ha⟩ : ∃ a, a = (M (s : Int)).getD 0 := ⟨_, rfl⟩
  rw [← hb] at d0
  rw [← ha] at e0
  rw [← hb]
  obtain ⟨n1, n2, n3⟩ := h.ne
  have hs' : (s : Int) < (n : Int) := by omega
  have n255 : n ≤ 255 := by have := h.ok.2.2.1; omega
  have H : Hid (IsR w rb cb lb n K D M ∧ s < n) := ⟨h, hs⟩
  clear h hb ha
  go_enter Try.func10, Try.ntmps10
  go_wp2_with fail
  go_ret2
  have h := H.out.1
  refine ⟨rfl, ⟨?_, ?_, ?_, h.ok, fun k u hk => ?_⟩, ((Kept.refl _ w).setCell (fun _ => .inl rfl) _).setCell (fun _ => .inr rfl) _⟩
  · rw [Below.heap_setCell _ _ _ _ (by exact n2), Below.heap_setCell _ _ _ _ (by exact n1)]; exact h.blk
  · rw [Below.heap_setCell _ _ _ _ (by exact n3), heap_set h.come, comeA_set M n s v]
  · rw [heap_set (cs := lastA M n) (t := 3) (fr := (0, 0)) (by rw [Below.heap_setCell _ _ _ _ (by exact fun e => n3 e.symm)]; exact h.last), lastA_set M n s v]
  · unfold upd at hk
    by_cases e : k = (s : Int)
    · subst e; omega
    · rw [if_neg e] at hk; exact h.dom k u hk
theorem rGet_nil (s : Int) (w : World) : Calls Try.prog 12 #[.pointer none, .int .i64 s] w fun x w' => x = .returned (.tuple #[.int .i64 0, .bool false]) ∧ w' = w := by
  go_enter Try.func12, Try.ntmps12
  go_wp2_with fail
  go_ret2
  exact ⟨rfl, rfl⟩
theorem rGet {rb cb lb n : Nat} {K D : Int} {M : Int → Option Int} (s : Int) (w : World) (h : IsR w rb cb lb n K D M) : Calls Try.prog 12 #[.pointer (some ⟨rb, 0, none⟩), .int .i64 s] w fun x w' => x = .returned (.tuple #[.int .i64 ((M s).getD 0), .bool (M s).isSome]) ∧ w' = w := by
  have c0 := cell_blk h.blk 0 (v := .int .i64 (n : Int)) rfl
  have c3 := cell_blk h.blk 3 (v := .slice (some ⟨cb, 0, none⟩) n n) rfl
  have c4 := cell_blk h.blk 4 (v := .slice (some ⟨lb, 0, none⟩) n n) rfl
  by_cases h1 : s < 0
  · have e : M s = none := by
      cases hm : M s with
      | none => rfl
      | some v => have := h.dom s v hm; omega
    rw [e]
    clear h
    go_enter Try.func12, Try.ntmps12
    go_wp2_with fail
    go_ret2
    exact ⟨rfl, rfl⟩
  · by_cases h2 : (n : Int) ≤ s
    · have e : M s = none := by
        cases hm : M s with
        | none => rfl
        | some v => have := h.dom s v hm; omega
      rw [e]
      clear h
      go_enter Try.func12, Try.ntmps12
      go_wp2_with fail
      go_ret2
      exact ⟨rfl, rfl⟩
    · obtain ⟨t, rfl⟩ : ∃ t : Nat, s = (t : Int) := ⟨s.toNat, by omega⟩
      have ht : t < n := by omega
      have d0 := cell_blk h.come t (comeA_at M n t ht)
      have e0 := cell_blk h.last t (lastA_at M n t ht)
      have ht' : (t : Int) < (n : Int) := by omega
      have n255 : n ≤ 255 := by have := h.ok.2.2.1; omega
      clear h
      cases hm : M (t : Int) with
      | none =>
        rw [hm] at d0 e0
        replace d0 : w.cell? ⟨cb, t, none⟩ = some (.bool false) := d0
        clear e0 hm
        go_enter Try.func12, Try.ntmps12
        go_wp2_with fail
        go_ret2
        exact ⟨rfl, rfl⟩
      | some v =>
        rw [hm] at d0 e0
        replace d0 : w.cell? ⟨cb, t, none⟩ = some (.bool true) := d0
        replace e0 : w.cell? ⟨lb, t, none⟩ = some (.int .i64 v) := e0
        clear hm
        go_enter Try.func12, Try.ntmps12
        go_wp2_with fail
        go_ret2
        exact ⟨rfl, rfl⟩
theorem rServers_nil (b : Bool) (w : World) : Calls Try.prog 21 #[.pointer none, .bool b] w fun x w' => x = .returned (.slice none 0 0) ∧ w' = w := by
  go_enter Try.func21, Try.ntmps21
  go_wp2_with fail
  go_ret
  exact ⟨rfl, rfl⟩
/-- Where Servers stands. -/
structure Ts (w wr : World) (rb cb lb N : Nat) (K D : Int) (M : Int → Option Int) (q : Option Addr) (n c : Nat) (t : List Int) : Prop where
  ph : IsR wr rb cb lb N K D M
  row : Row wr 3 q n c (ints t)
  far : ∀ g, blockOf q = some g → w.heap.size ≤ g
  kept : Kept (fun _ => False) w wr
set_option maxRecDepth 100000 in
set_option maxHeartbeats 2000000 in
theorem rServers {rb cb lb N : Nat} {K D : Int} {M : Int → Option Int} (b : Bool) (w : World) (h : IsR w rb cb lb N K D M) : Calls Try.prog 21 #[.pointer (some ⟨rb, 0, none⟩), .bool b] w fun o w' => ∃ q n c, o = .returned (.slice q n c) ∧ Hid (Row w' 3 q n c (ints (pick M b N)) ∧ (∀ g, blockOf q = some g → w.heap.size ≤ g) ∧ Kept (fun _ => False) w w') := by
  have n255 : N ≤ 255 := by have := h.ok.2.2.1; omega
  have LT : Hid (rb < w.heap.size ∧ cb < w.heap.size ∧ lb < w.heap.size) := h.lt
  have F0 : Hid (Ts w w rb cb lb N K D M none 0 0 (pick M b 0)) := ⟨h, Row.nil _ _, fun _ e => by simp [blockOf] at e, Kept.refl _ _⟩
  have c3 := cell_blk h.blk 3 (v := .slice (some ⟨cb, 0, none⟩) N N) rfl
  clear h
  go_enter Try.func21, Try.ntmps21
  go_wp2_with fail
  clear c3
  go_loopw [5, 15] (fun y z wr => ∃ (i n c : Nat) (q : Option Addr), z = .int .i64 (i : Int) ∧ y = .slice q n c ∧ i ≤ N ∧ n ≤ i ∧ Hid (Ts w wr rb cb lb N K D M q n c (pick M b i))) (fun _ z _ => N - (intOf z).toNat)
  case atStart => exact ⟨0, 0, 0, none, rfl, rfl, Nat.zero_le _, Nat.le_refl _, F0⟩
  case round =>
    obtain ⟨i, n, c, q, rfl, rfl, hi, hn, F⟩ := hrel
    clear F0
    have c3 := cell_blk F.out.ph.blk 3 (v := .slice (some ⟨cb, 0, none⟩) N N) rfl
    have cm := F.out.row.room
    have cs := F.out.row.small
    unfold maxLen at cs
    by_cases hlt : i < N
    · have d0 := cell_blk F.out.ph.come i (comeA_at M N i hlt)
      have hlt' : (i : Int) < (N : Int) := by omega
      by_cases hb : (M (i : Int)).isSome = b
      · have HP : Hid (pick M b (i + 1) = pick M b i ++ [(i : Int)]) := pick_hit _ _ _ hb
        rw [hb] at d0
        clear hb
        go_wp2_with (first | (at_builtin; refine wpList_append_row _ rfl (.tmp 27) (.tmp 29) 42 3 (.int .i64 0) rfl Try.underlying42 int_info rfl q n c 1 (ints (pick M b i)) [.int .i64 (i : Int)] rfl (F.out.row.kept (k0_alloc _ _) (fun _ _ z => z)) wr.heap.size rfl (by omega) (fun u hu => by rw [List.mem_singleton] at hu; subst hu; rfl) rfl (one_src (by simp)) (by omega) ?_; intro q' c' w3 hr hg hq; have c5 := hr.out.room) | fail)
        have F2 : Hid (Ts w w3 rb cb lb N K D M q' (n + 1) c' (pick M b (i + 1))) := by
          have kk : Kept (fun k => w.heap.size ≤ k) wr w3 := ((Kept.refl _ _).alloc _).grown hg.out (fun k _ e => F.out.far k e)
          have hr' := hr.out
          have e1 : ints (pick M b i) ++ [.int .i64 (i : Int)] = ints (pick M b (i + 1)) := by rw [HP.out]; exact ints_app _ [(i : Int)]
          rw [e1] at hr'
          have hB := F.out.kept.size
          refine ⟨F.out.ph.kept kk (by have := LT.out.1; omega) (by have := LT.out.2.1; omega) (by have := LT.out.2.2; omega), hr', fun g e => ?_, F.out.kept.trans kk (fun j hj z => by have z : w.heap.size ≤ j := z; omega)⟩
          rcases hq.out with h | h
          · rw [h] at e; exact F.out.far g e
          · rw [h, blockOf_some] at e
            simp at e
            omega
        clear hr hg hq F c5
        go_roundw
        case rel => exact ⟨i + 1, n + 1, c', q', by go_num, rfl, by omega, by omega, F2⟩
        case measure => simp [intOf]; omega
      · have HP : Hid (pick M b (i + 1) = pick M b i) := pick_miss _ _ _ hb
        have F2 : Hid (Ts w wr rb cb lb N K D M q n c (pick M b (i + 1))) := by
          show Ts w wr rb cb lb N K D M q n c (pick M b (i + 1))
          rw [HP.out]; exact F.out
        have hb2 : (M (i : Int)).isSome = !b := by cases b <;> cases hq : (M (i : Int)).isSome <;> simp_all
        rw [hb2] at d0
        clear hb hb2
        cases b
        · replace d0 : wr.cell? ⟨cb, i, none⟩ = some (.bool true) := d0
          go_wp2_with fail
          go_roundw
          case rel => exact ⟨i + 1, n, c, q, by go_num, rfl, by omega, by omega, F2⟩
          case measure => simp [intOf]; omega
        · replace d0 : wr.cell? ⟨cb, i, none⟩ = some (.bool false) := d0
          go_wp2_with fail
          go_roundw
          case rel => exact ⟨i + 1, n, c, q, by go_num, rfl, by omega, by omega, F2⟩
          case measure => simp [intOf]; omega
    · have F2 : Hid (Row wr 3 q n c (ints (pick M b N)) ∧ (∀ g, blockOf q = some g → w.heap.size ≤ g) ∧ Kept (fun _ => False) w wr) := by
        have e : N = i := by omega
        rw [e]; rw [e] at F; exact ⟨F.out.row, F.out.far, F.out.kept⟩
      clear F
      go_wp2_with fail
      go_ret
      exact ⟨q, n, c, rfl, F2⟩
theorem rMet_nil (w : World) : Calls Try.prog 19 #[.pointer none] w fun x w' => x = .returned (.bool false) ∧ w' = w := by
  go_enter Try.func19, Try.ntmps19
  go_wp2_with fail
  go_ret
  exact ⟨rfl, rfl⟩
theorem rMet {rb cb lb N : Nat} {K D : Int} {M : Int → Option Int} (w : World) (h : IsR w rb cb lb N K D M) : Calls Try.prog 19 #[.pointer (some ⟨rb, 0, none⟩)] w fun x w' => x = .returned (.bool (decide (quo (N : Int) K ≤ (cntM M N : Int)))) ∧ Kept (fun _ => False) w w' := by
  have c0 := cell_blk h.blk 0 (v := .int .i64 (N : Int)) rfl
  have c1 := cell_blk h.blk 1 (v := .int .i64 K) rfl
  have c2 := cell_blk h.blk 2 (v := .int .i64 D) rfl
  have H : Hid (IsR w rb cb lb N K D M) := h
  clear h
  go_enter Try.func19, Try.ntmps19
  go_wp2_with fail
  refine (rSize_ok (N : Int) K D w H.out.ok).mono ?_
  rintro e w1 ⟨rfl, b1⟩
  have K1 : Hid (Kept (fun _ => False) w w1) := Kept.ofB b1
  clear b1 c0 c1 c2
  go_wp2_with fail
  refine (rServers true w1 (H.out.k0 K1.out)).mono ?_
  rintro e w2 ⟨q, n, c, rfl, R⟩
  have c5 := R.out.1.room
  have hn : n = cntM M N := by have := R.out.1.length; rw [ints_length, pick_len] at this; exact this.symm
  have n255 : n ≤ 255 := by have := H.out.ok.2.2.1; have := cntM_le M N; omega
  have K2 : Hid (Kept (fun _ => False) w w2) := K1.out.and0 R.out.2.2
  have HN : Hid (n = cntM M N) := hn
  clear R hn
  go_wp2_with fail
  go_ret
  exact ⟨by rw [← HN.out]; rfl, K2.out⟩
end Go.Proofs.Yteokeifkkhchmaa
