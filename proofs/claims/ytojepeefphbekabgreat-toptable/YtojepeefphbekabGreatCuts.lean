import Derived.Test.YtojepeefphbekabGreatRefCutJ
namespace Go.Proofs.YtojepeefphbekabGreat
open Go.RowKit

theorem tcells_drop (l : List (Int × Int)) : ∀ k, (tcells l).drop (k * 2) = tcells (l.drop k) := by
  induction l with
  | nil => intro k; simp [tcells]
  | cons a l ih =>
    intro k
    cases k with
    | zero => simp
    | succ k =>
      have := ih k
      rw [show (k + 1) * 2 = k * 2 + 2 by omega]
      simp only [tcells, List.flatMap_cons, List.drop_succ_cons] at this ⊢
      rw [← this]
      simp
/-- s[k:] -/
theorem row_from {w : World} {a : Option Addr} {len cap : Nat} {S : List (Int × Int)} (r : Row w a len cap S) (k : Nat) (hk : k ≤ len) :
    ∃ p c, (∀ W : World, (Instr.slice 79 (.slice a len cap) (some (.int .i64 (k : Int))) none none).run Tryz.prog W = .ok (.slice p (len - k) c) W) ∧ Row w p (len - k) c (S.drop k) ∧ blockOf p = blockOf a := by
  have hr := r.room
  have hs := r.small
  have hlen := r.length
  unfold maxLen at hs
  rcases r.pos with ⟨rfl, hc⟩ | ⟨g, off, cur, rfl, hg, hz, ht⟩
  · have h0 : len = 0 := by omega
    have k0 : k = 0 := by omega
    subst h0 k0 hc
    refine ⟨none, 0, fun W => ?_, by simpa using r, rfl⟩
    simp [Instr.slice, Instr.sliceBounds, Instr.sliceBound, asIntOf, run_underlying Tryz.underlying79]
  · by_cases hc : cap = k
    · refine ⟨some ⟨g, off, none⟩, 0, fun W => ?_, ⟨by rw [List.length_drop]; omega, by omega, by unfold maxLen; omega, fit_drop r.fit k, .inr ⟨g, off, cur, rfl, hg, by omega, ?_⟩⟩, rfl⟩
      · simp [Instr.slice, Instr.sliceBounds, Instr.sliceBound, asIntOf, run_underlying Tryz.underlying79]
        rw [if_pos hk, if_pos hc, hc, Nat.sub_self]
      · have e : S.drop k = [] := List.drop_of_length_le (by omega)
        rw [show len - k = 0 by omega, e]
        simp [tcells]
    · refine ⟨some ⟨g, off + k * 2, none⟩, cap - k, fun W => ?_, ⟨by rw [List.length_drop]; omega, by omega, by unfold maxLen; omega, fit_drop r.fit k, .inr ⟨g, off + k * 2, cur, rfl, hg, by omega, ?_⟩⟩, rfl⟩
      · simp [Instr.slice, Instr.sliceBounds, Instr.sliceBound, asIntOf, run_underlying Tryz.underlying79]
        rw [if_pos hk, if_neg hc, Addr.add_none]
      · rw [← List.drop_drop, show (len - k) * 2 = len * 2 - k * 2 by omega, ← List.drop_take, ht, tcells_drop]
theorem tcells_par (l : List (Int × Int)) (f : Nat → Option Value) (h : ∀ i, i < l.length → f (i * 2) = some (.int .i64 (l.getD i (0, 0)).1) ∧ f (i * 2 + 1) = some (.int .i64 (l.getD i (0, 0)).2)) : ∀ j u, (tcells l)[j]? = some u → f j = some u := by
  intro j u hj
  have jl : j < l.length * 2 := by
    have := (List.getElem?_eq_some_iff.1 hj).1
    rwa [tcells_length] at this
  obtain ⟨e0, e1⟩ := tcells_get l (j / 2) (by omega)
  obtain ⟨f0, f1⟩ := h (j / 2) (by omega)
  rcases Nat.mod_two_eq_zero_or_one j with q | q
  · have e : j = j / 2 * 2 := by omega
    rw [e] at hj ⊢
    rw [e0] at hj
    rw [f0, hj]
  · have e : j = j / 2 * 2 + 1 := by omega
    rw [e] at hj ⊢
    rw [e1] at hj
    rw [f1, hj]
theorem TReads.news {w : World} {ad : Addr} {len cap : Nat} {l : List (Int × Int)} (r : TReads w (some ad) len cap l) : ∀ j u, (tcells l)[j]? = some u → w.cell? (ad.add j) = some u := by
  by_cases h0 : 0 < len
  · obtain ⟨b, off, e, hc⟩ := r.cells h0
    cases e
    refine tcells_par l (fun j => w.cell? ((⟨b, off, none⟩ : Addr).add j)) (fun i hi => ?_)
    have hl := r.length
    obtain ⟨q0, q1⟩ := hc i (by omega)
    simp only [Addr.add_none]
    exact ⟨q0, by rw [← Nat.add_assoc]; exact q1⟩
  · have : l = [] := List.eq_nil_of_length_eq_zero (by rw [r.length]; omega)
    subst this
    intro j u hj
    simp [tcells] at hj
theorem nil_none (w : World) : (binOp .eql 79 (.slice none 0 0) (.slice none 0 0)).run Tryz.prog w = .ok (.bool true) w := by kernel_rfl
theorem nil_some (ad : Addr) (len cap : Nat) (w : World) : (binOp .eql 79 (.slice (some ad) len cap) (.slice none 0 0)).run Tryz.prog w = .ok (.bool false) w := by kernel_rfl
set_option maxRecDepth 100000 in
set_option maxHeartbeats 1000000 in
/-- slices.Clone of a list of tags. -/
theorem clone (a : Option Addr) (len cap : Nat) (l : List (Int × Int)) (w : World) (r : TReads w a len cap l) (hn : a = none → cap = 0) (hb : len * 16 ≤ 211106232532992) :
    Calls Tryz.prog 56 #[.slice a len cap] w fun o w' => ∃ p c, o = .returned (.slice p len c) ∧ Row w' p len c l ∧ From w.heap.size p ∧ Below w.heap.size w w' := by
  have hl := r.length
  have hr := r.room
  have HR : Hid (TReads w a len cap l) := r
  clear r
  cases a with
  | none =>
    have h0 := hn rfl
    subst h0
    obtain rfl : len = 0 := by omega
    have hl0 : l = [] := List.eq_nil_of_length_eq_zero hl
    subst hl0
    have N := nil_none
    have fin : Hid (Row w none 0 0 [] ∧ From w.heap.size none ∧ Below w.heap.size w w) := ⟨⟨rfl, Nat.le_refl _, (by unfold maxLen; omega), (fun _ h => absurd h List.not_mem_nil), .inl ⟨rfl, rfl⟩⟩, fun k hk => by simp [blockOf] at hk, Below.refl _ _⟩
    go_enter Tryz.func56, Tryz.ntmps56
    go_wp2_with fail
    go_ret
    exact ⟨none, 0, rfl, fin.out⟩
  | some ad =>
    clear hn
    have N := nil_some ad len cap
    obtain ⟨i, hi, hz, hsize, hby⟩ := info_parts Tryz.info31b
    have II : Hid (Tryz.prog.info? 31 = some i ∧ i.zero = some (.agg #[.int .i64 0, .int .i64 0]) ∧ i.size = 2 ∧ i.bytes = 16) := ⟨hi, hz, hsize, hby⟩
    clear hi hz hsize hby
    have B1 : Hid (Below w.heap.size w (w.alloc (.cells #[] 31))) := (Below.refl _ _).alloc (Nat.le_refl _) _
    have R2 : Hid (TReads (w.alloc (.cells #[] 31)) (some ad) len cap l) := HR.out.by B1.out
    have O2 : Hid ((w.alloc (.cells #[] 31)).ownsRow w.heap.size 31 2 (.slice (some ⟨w.heap.size, 0, none⟩) 0 0) 0 (tcells [])) := World.ownsRow_made w #[] 0 (Nat.le_refl _) (by unfold maxLen; omega) rfl
    go_enter Tryz.func56, Tryz.ntmps56
    have WB : Hid ((0 + len + (0 + len) / 4 + 192) * 16 ≤ 281474976710656) := wide16 (by rw [Nat.zero_add]; exact hb)
    go_wp2_with (first | (at_builtin; refine wpList_append_own_wide _ rfl (.tmp 5) (.tmp 6) 79 rfl w.heap.size 31 i (.agg #[.int .i64 0, .int .i64 0]) 2 16 Tryz.underlying79 II.out.1 II.out.2.1 II.out.2.2.1 II.out.2.2.2 rfl (by omega) (.slice (some ⟨w.heap.size, 0, none⟩) 0 0) 0 (tcells []) rfl O2.out ad len cap (tcells l) rfl (by rw [tcells_length, hl]) R2.out.news (tcells_one _) (by unfold maxLen; omega) WB.out (by rw [alloc_size]; omega) ?_; intro v' w' ho hg hn) | fail)
    go_ret
    rw [show tcells [] ++ tcells l = tcells l from rfl, Nat.zero_add] at ho
    obtain ⟨p, c, rfl⟩ : ∃ p c, v' = .slice p len c := by
      rcases ho.2 with ⟨rfl, e⟩ | ⟨g, cap', cur, rfl, _⟩
      · exact ⟨none, 0, by rw [e]⟩
      · exact ⟨_, _, rfl⟩
    obtain ⟨RW, near⟩ := Row.of_owns ho HR.out.fit
    refine ⟨p, c, rfl, RW, fun k hk => ?_, B1.out.grown hg (by rw [alloc_size]; omega) (fun k e => ?_)⟩
    · cases p with
      | none => simp [blockOf] at hk
      | some pp =>
        simp [blockOf] at hk
        have := near pp rfl
        omega
    · simp [Value.ownBlock] at e
      omega
/-- The empty list that nothing lies behind. -/
def NilTight (q : Option Addr) (cap : Nat) : Prop := q = none → cap = 0
theorem Row.tight {w : World} {a : Option Addr} {len cap : Nat} {S : List (Int × Int)} (r : Row w a len cap S) : a = none → cap = 0 := fun e => by
  rcases r.pos with ⟨_, h⟩ | ⟨g, off, cur, e2, _⟩
  · exact h
  · rw [e] at e2; cases e2
set_option maxRecDepth 100000 in
set_option maxHeartbeats 2000000 in
/-- Cut. -/
theorem sCut (B : Nat) (q : Option Addr) (len cap : Nat) (S : List (Int × Int)) (x y : Int) (w : World) (h : IsSet 105 w B q len cap S) (hS : Rising S) (hb : len * 16 ≤ 211106232532992) :
    Calls Tryz.prog 62 #[.pointer (some ⟨B, 0, none⟩), .agg #[.int .i64 x, .int .i64 y]] w fun o w' => ∃ q' cap', o = .returned (.int .i64 ((ahead S (x, y) : Nat) : Int)) ∧ IsSet 105 w' B q' (len - ahead S (x, y)) cap' (S.drop (ahead S (x, y))) ∧ Moved w w' B q q' := by
  obtain ⟨hl, hr, hs⟩ := h.sv.nums
  have B1 : Below w.heap.size w (w.alloc (Obj.cells #[.int .i64 x, .int .i64 y] 31)) := (Below.refl w.heap.size w).alloc (Nat.le_refl _) _
  obtain ⟨A, hA⟩ : ∃ A, ahead S (x, y) = A := ⟨_, rfl⟩
  have hAl : A ≤ len := by rw [← hA, ← hl]; exact ahead_le _ _
  have cP : Hid (∀ w1, Below w.heap.size w w1 → Calls Tryz.prog 59 #[.pointer (some ⟨B, 0, none⟩), .agg #[.int .i64 x, .int .i64 y]] w1 fun o w' => o = .returned (.int .i64 (A : Int)) ∧ Below w1.heap.size w1 w') := fun w1 b1 => by
    have := place B q len cap S x y w1 (h.sv.by b1) hS hb
    rw [hA] at this
    exact this
  rw [hA]
  obtain ⟨p0, c0, sl, _, bo⟩ := row_from h.row A hAl
  have HH : Hid (∀ w1, Below w.heap.size w w1 → IsSet 105 w1 B q len cap S ∧ Row w1 p0 (len - A) c0 (S.drop A)) := fun w1 b1 => by
    obtain ⟨p', c', sl', r', _⟩ := row_from (h.row.by b1) A hAl
    have e := (sl w1).symm.trans (sl' w1)
    simp at e
    obtain ⟨rfl, rfl⟩ := e
    exact ⟨h.by b1, r'⟩
  have BO : Hid (blockOf p0 = blockOf q) := bo
  have S0 : Hid (Below w.heap.size w (w.alloc (Obj.cells #[.int .i64 x, .int .i64 y] 31))) := B1
  obtain ⟨t0, t1, _, _⟩ := (TagAt.new w x y).facts
  clear hA h hS B1 bo
  go_enter Tryz.func62, Tryz.ntmps62
  go_wp2_with fail
  refine (cP.out _ S0.out).mono ?_
  rintro o w1 ⟨rfl, B2⟩
  have S1 : Hid (Below w.heap.size w w1) := S0.out.trans (B2.mono S0.out.size)
  clear B2 S0 cP t0 t1
  have cB := (HH.out w1 S1.out).1.sv.cell
  have fB : w1.frozen? ⟨B, 0, none⟩ = false := by simp [World.frozen?, (HH.out w1 S1.out).1.blk]
  go_wp2_with fail
  go_ret
  refine ⟨p0, c0, rfl, IsSet.laid (HH.out w1 S1.out).1.blk (by decide) (HH.out w1 S1.out).2, ?_, fun k hk => .inl (by rw [← BO.out]; exact hk)⟩
  exact ⟨S1.out.os, S1.out.tape, S1.out.output, Nat.le_trans S1.out.size (by simp [World.setCell]), fun k hk hne => by
    rw [Below.heap_setCell w1 ⟨B, 0, none⟩ _ k (fun e => hne (.inl e))]
    exact S1.out.block k hk⟩
/-- What High says of a rising list. -/
def HighS (S : List (Int × Int)) (z p q e : Int) : Prop := (0 ≤ z ∧ z < S.length ∧ S.getD (S.length - 1 - z.toNat) (0, 0) = (p, q) ∧ e = 0) ∨ (¬ (0 ≤ z ∧ z < S.length) ∧ p = 0 ∧ q = 0 ∧ e = 50)
set_option maxRecDepth 100000 in
set_option maxHeartbeats 2000000 in
theorem sHigh (B : Nat) (q : Option Addr) (len cap : Nat) (S : List (Int × Int)) (z : Int) (w : World) (h : SV w B 105 q len cap S) (hb : len * 16 ≤ 211106232532992) :
    Calls Tryz.prog 48 #[.pointer (some ⟨B, 0, none⟩), .int .i64 z] w fun o w' => ∃ p q c, o = .returned (.tuple #[.agg #[.int .i64 p, .int .i64 q], .int .i64 c]) ∧ HighS S z p q c ∧ Below w.heap.size w w' := by
  obtain ⟨hl, hr, hs⟩ := h.nums
  have B0 : Below w.heap.size w (w.alloc (Obj.cells #[.int .i64 0, .int .i64 0] 31)) := (Below.refl w.heap.size w).alloc (Nat.le_refl _) _
  have S0 : Hid (Below w.heap.size w (w.alloc (Obj.cells #[.int .i64 0, .int .i64 0] 31)) ∧ TagAt (w.alloc (Obj.cells #[.int .i64 0, .int .i64 0] 31)) w.heap.size 0 0) := ⟨B0, TagAt.new w 0 0⟩
  have sc := (h.by B0).cell
  have ls := (h.by B0).lt
  obtain ⟨t0, t1, ft0, ft1⟩ := (TagAt.new w 0 0).facts
  by_cases hz : 0 ≤ z ∧ z < len
  · obtain ⟨n, rfl⟩ : ∃ n : Nat, z = n := ⟨z.toNat, by omega⟩
    have hn : n < len := by omega
    obtain ⟨b, off, rfl, hc⟩ := (h.by B0).r.cells (by omega)
    obtain ⟨k, hk⟩ : ∃ k, k = len - 1 - n := ⟨_, rfl⟩
    obtain ⟨e0, e1⟩ := hc k (by omega)
    obtain ⟨⟨u, v⟩, huv⟩ : ∃ t, S.getD k (0, 0) = t := ⟨_, rfl⟩
    rw [huv] at e0 e1
    have fin : Hid (HighS S n u v 0) := .inl ⟨by omega, by omega, by rw [Int.toNat_natCast, hl, ← hk]; exact huv, rfl⟩
    have lb := World.block_lt_of_cell? _ _ e0
    have k1 : wrap64 (wrap64 ((len : Int) - 1) - (n : Int)) = (k : Int) := by unfold wrap64; omega
    have hne : b ≠ w.heap.size := by
      obtain ⟨b', off', e9, hc'⟩ := h.r.cells (by omega)
      cases e9
      have := World.block_lt_of_cell? _ _ (hc' 0 (by omega)).1
      simp at this
      omega
    have n1 : (n : Int) < (len : Int) := by omega
    have n2 : ¬ ((n : Int) < 0) := by omega
    clear hc huv B0 h hz k1
    rw [hk] at e0 e1
    clear hk
    go_enter Tryz.func48, Tryz.ntmps48
    go_wp2_with fail
    go_region
    all_goals go_wp2_with fail
    all_goals (try simp only [Exit.inBlock, Exit.then])
    all_goals exact bodyPost_ret (results_tag_tmp rfl _ _ _ u v rfl (TagAt.new w u v).drew) rfl ⟨u, v, 0, rfl, fin.out, ((Below.refl w.heap.size w).alloc (Nat.le_refl _) _).drew⟩
  · have fin : Hid (HighS S z 0 0 50) := .inr ⟨by rw [hl]; exact hz, rfl, rfl, rfl⟩
    clear h B0
    by_cases h0 : z < 0
    · clear hz
      go_enter Tryz.func48, Tryz.ntmps48
      go_wp2_with fail
      exact bodyPost_ret (results_tag_tmp rfl _ _ _ 0 0 rfl S0.out.2) rfl ⟨0, 0, 50, rfl, fin.out, S0.out.1⟩
    · have h1 : (len : Int) ≤ z := by omega
      clear hz
      go_enter Tryz.func48, Tryz.ntmps48
      go_wp2_with fail
      exact bodyPost_ret (results_tag_tmp rfl _ _ _ 0 0 rfl S0.out.2) rfl ⟨0, 0, 50, rfl, fin.out, S0.out.1⟩
end Go.Proofs.YtojepeefphbekabGreat
