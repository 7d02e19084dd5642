import Derived.Test.YtojepeefphbekaaGreatRefCutJ
import Derived.Test.YtojepeefphbekaaGreatCallsJ
namespace Go.Proofs.YtojepeefphbekaaGreat
open Go.RowKit

theorem tcells_drop (l : List (Int × Int)) : ∀ k, (tcells l).drop (k * 2) = tcells (l.drop k) := by
  induction l with
  | nil => intro k; simp [tcells]
  | cons a l ih =>
    intro k
    cases k with
    | zero => simp
    | succ k =>
      have := ih k
      rw [show (k + 1) * 2 = k * 2 + 2 by omega]
      simp only [tcells, List.flatMap_cons, List.drop_succ_cons] at this ⊢
      rw [← this]
      simp
/-- s[k:] -/
theorem row_from {w : World} {a : Option Addr} {len cap : Nat} {S : List (Int × Int)} (r : Row w a len cap S) (k : Nat) (hk : k ≤ len) :
    ∃ p c, (∀ W : World, (Instr.slice 117 (.slice a len cap) (some (.int .i64 (k : Int))) none none).run Tryz.prog W = .ok (.slice p (len - k) c) W) ∧ Row w p (len - k) c (S.drop k) ∧ blockOf p = blockOf a := by
  have hr := r.room
  have hs := r.small
  have hlen := r.length
  unfold maxLen at hs
  rcases r.pos with ⟨rfl, hc⟩ | ⟨g, off, cur, rfl, hg, hz, ht⟩
  · have h0 : len = 0 := by omega
    have k0 : k = 0 := by omega
    subst h0 k0 hc
    refine ⟨none, 0, fun W => ?_, by simpa using r, rfl⟩
    simp [Instr.slice, Instr.sliceBounds, Instr.sliceBound, asIntOf, run_underlying Tryz.underlying117]
  · by_cases hc : cap = k
    · refine ⟨some ⟨g, off, none⟩, 0, fun W => ?_, ⟨by rw [List.length_drop]; omega, by omega, by unfold maxLen; omega, fit_drop r.fit k, .inr ⟨g, off, cur, rfl, hg, by omega, ?_⟩⟩, rfl⟩
      · simp [Instr.slice, Instr.sliceBounds, Instr.sliceBound, asIntOf, run_underlying Tryz.underlying117]
        rw [if_pos hk, if_pos hc, hc, Nat.sub_self]
      · have e : S.drop k = [] := List.drop_of_length_le (by omega)
        rw [show len - k = 0 by omega, e]
        simp [tcells]
    · refine ⟨some ⟨g, off + k * 2, none⟩, cap - k, fun W => ?_, ⟨by rw [List.length_drop]; omega, by omega, by unfold maxLen; omega, fit_drop r.fit k, .inr ⟨g, off + k * 2, cur, rfl, hg, by omega, ?_⟩⟩, rfl⟩
      · simp [Instr.slice, Instr.sliceBounds, Instr.sliceBound, asIntOf, run_underlying Tryz.underlying117]
        rw [if_pos hk, if_neg hc, Addr.add_none]
      · rw [← List.drop_drop, show (len - k) * 2 = len * 2 - k * 2 by omega, ← List.drop_take, ht, tcells_drop]
theorem tcells_par (l : List (Int × Int)) (f : Nat → Option Value) (h : ∀ i, i < l.length → f (i * 2) = some (.int .i64 (l.getD i (0, 0)).1) ∧ f (i * 2 + 1) = some (.int .i64 (l.getD i (0, 0)).2)) : ∀ j u, (tcells l)[j]? = some u → f j = some u := by
  intro j u hj
  have jl : j < l.length * 2 := by
    have := (List.getElem?_eq_some_iff.1 hj).1
    rwa [tcells_length] at this
  obtain ⟨e0, e1⟩ := tcells_get l (j / 2) (by omega)
  obtain ⟨f0, f1⟩ := h (j / 2) (by omega)
  rcases Nat.mod_two_eq_zero_or_one j with q | q
  · have e : j = j / 2 * 2 := by omega
    rw [e] at hj ⊢
    rw [e0] at hj
    rw [f0, hj]
  · have e : j = j / 2 * 2 + 1 := by omega
    rw [e] at hj ⊢
    rw [e1] at hj
    rw [f1, hj]
theorem TReads.news {w : World} {ad : Addr} {len cap : Nat} {l : List (Int × Int)} (r : TReads w (some ad) len cap l) : ∀ j u, (tcells l)[j]? = some u → w.cell? (ad.add j) = some u := by
  by_cases h0 : 0 < len
  · obtain ⟨b, off, e, hc⟩ := r.cells h0
    cases e
    refine tcells_par l (fun j => w.cell? ((⟨b, off, none⟩ : Addr).add j)) (fun i hi => ?_)
    have hl := r.length
    obtain ⟨q0, q1⟩ := hc i (by omega)
    simp only [Addr.add_none]
    exact ⟨q0, by rw [← Nat.add_assoc]; exact q1⟩
  · have : l = [] := List.eq_nil_of_length_eq_zero (by rw [r.length]; omega)
    subst this
    intro j u hj
    simp [tcells] at hj
theorem nil_none (w : World) : (binOp .eql 117 (.slice none 0 0) (.slice none 0 0)).run Tryz.prog w = .ok (.bool true) w := by kernel_rfl
theorem nil_some (ad : Addr) (len cap : Nat) (w : World) : (binOp .eql 117 (.slice (some ad) len cap) (.slice none 0 0)).run Tryz.prog w = .ok (.bool false) w := by kernel_rfl
set_option maxRecDepth 100000 in
set_option maxHeartbeats 1000000 in
/-- slices.Clone of a list of tags. -/
theorem clone (a : Option Addr) (len cap : Nat) (l : List (Int × Int)) (w : World) (r : TReads w a len cap l) (hn : a = none → cap = 0) (hb : len * 16 ≤ 211106232532992) :
    Calls Tryz.prog 85 #[.slice a len cap] w fun o w' => ∃ p c, o = .returned (.slice p len c) ∧ Row w' p len c l ∧ From w.heap.size p ∧ Below w.heap.size w w' := by
  have hl := r.length
  have hr := r.room
  have HR : Hid (TReads w a len cap l) := r
  clear r
  cases a with
  | none =>
    have h0 := hn rfl
    subst h0
    obtain rfl : len = 0 := by omega
    have hl0 : l = [] := List.eq_nil_of_length_eq_zero hl
    subst hl0
    have N := nil_none
    have fin : Hid (Row w none 0 0 [] ∧ From w.heap.size none ∧ Below w.heap.size w w) := ⟨⟨rfl, Nat.le_refl _, (by unfold maxLen; omega), (fun _ h => absurd h List.not_mem_nil), .inl ⟨rfl, rfl⟩⟩, fun k hk => by simp [blockOf] at hk, Below.refl _ _⟩
    go_enter Tryz.func85, Tryz.ntmps85
    go_wp2_with fail
    go_ret
    exact ⟨none, 0, rfl, fin.out⟩
  | some ad =>
    clear hn
    have N := nil_some ad len cap
    obtain ⟨i, hi, hz, hsize, hby⟩ := info_parts Tryz.info37b
    have II : Hid (Tryz.prog.info? 37 = some i ∧ i.zero = some (.agg #[.int .i64 0, .int .i64 0]) ∧ i.size = 2 ∧ i.bytes = 16) := ⟨hi, hz, hsize, hby⟩
    clear hi hz hsize hby
    have B1 : Hid (Below w.heap.size w (w.alloc (.cells #[] 37))) := (Below.refl _ _).alloc (Nat.le_refl _) _
    have R2 : Hid (TReads (w.alloc (.cells #[] 37)) (some ad) len cap l) := HR.out.by B1.out
    have O2 : Hid ((w.alloc (.cells #[] 37)).ownsRow w.heap.size 37 2 (.slice (some ⟨w.heap.size, 0, none⟩) 0 0) 0 (tcells [])) := World.ownsRow_made w #[] 0 (Nat.le_refl _) (by unfold maxLen; omega) rfl
    go_enter Tryz.func85, Tryz.ntmps85
    have WB : Hid ((0 + len + (0 + len) / 4 + 192) * 16 ≤ 281474976710656) := wide16 (by rw [Nat.zero_add]; exact hb)
    go_wp2_with (first | (at_builtin; refine wpList_append_own_wide _ rfl (.tmp 5) (.tmp 6) 117 rfl w.heap.size 37 i (.agg #[.int .i64 0, .int .i64 0]) 2 16 Tryz.underlying117 II.out.1 II.out.2.1 II.out.2.2.1 II.out.2.2.2 rfl (by omega) (.slice (some ⟨w.heap.size, 0, none⟩) 0 0) 0 (tcells []) rfl O2.out ad len cap (tcells l) rfl (by rw [tcells_length, hl]) R2.out.news (tcells_one _) (by unfold maxLen; omega) WB.out (by rw [alloc_size]; omega) ?_; intro v' w' ho hg hn) | fail)
    go_ret
    rw [show tcells [] ++ tcells l = tcells l from rfl, Nat.zero_add] at ho
    obtain ⟨p, c, rfl⟩ : ∃ p c, v' = .slice p len c := by
      rcases ho.2 with ⟨rfl, e⟩ | ⟨g, cap', cur, rfl, _⟩
      · exact ⟨none, 0, by rw [e]⟩
      · exact ⟨_, _, rfl⟩
    obtain ⟨RW, near⟩ := Row.of_owns ho HR.out.fit
    refine ⟨p, c, rfl, RW, fun k hk => ?_, B1.out.grown hg (by rw [alloc_size]; omega) (fun k e => ?_)⟩
    · cases p with
      | none => simp [blockOf] at hk
      | some pp =>
        simp [blockOf] at hk
        have := near pp rfl
        omega
    · simp [Value.ownBlock] at e
      omega
/-- The empty list that nothing lies behind. -/
def NilTight (q : Option Addr) (cap : Nat) : Prop := q = none → cap = 0
theorem Row.tight {w : World} {a : Option Addr} {len cap : Nat} {S : List (Int × Int)} (r : Row w a len cap S) : a = none → cap = 0 := fun e => by
  rcases r.pos with ⟨_, h⟩ | ⟨g, off, cur, e2, _⟩
  · exact h
  · rw [e] at e2; cases e2
set_option maxRecDepth 100000 in
set_option maxHeartbeats 2000000 in
/-- Cut. -/
theorem sCut (B : Nat) (q : Option Addr) (len cap : Nat) (S : List (Int × Int)) (x y : Int) (w : World) (h : IsSet 142 w B q len cap S) (hS : Rising S) (hb : len * 16 ≤ 211106232532992) :
    Calls Tryz.prog 107 #[.pointer (some ⟨B, 0, none⟩), .agg #[.int .i64 x, .int .i64 y]] w fun o w' => ∃ q' cap', o = .returned (.int .i64 ((ahead S (x, y) : Nat) : Int)) ∧ IsSet 142 w' B q' (len - ahead S (x, y)) cap' (S.drop (ahead S (x, y))) ∧ Moved w w' B q q' := by
  obtain ⟨hl, hr, hs⟩ := h.sv.nums
  have B1 : Below w.heap.size w (w.alloc (Obj.cells #[.int .i64 x, .int .i64 y] 37)) := (Below.refl w.heap.size w).alloc (Nat.le_refl _) _
  obtain ⟨A, hA⟩ : ∃ A, ahead S (x, y) = A := ⟨_, rfl⟩
  have hAl : A ≤ len := by rw [← hA, ← hl]; exact ahead_le _ _
  have cP : Hid (∀ w1, Below w.heap.size w w1 → Calls Tryz.prog 88 #[.pointer (some ⟨B, 0, none⟩), .agg #[.int .i64 x, .int .i64 y]] w1 fun o w' => o = .returned (.int .i64 (A : Int)) ∧ Below w1.heap.size w1 w') := fun w1 b1 => by
    have := place B q len cap S x y w1 (h.sv.by b1) hS hb
    rw [hA] at this
    exact this
  rw [hA]
  obtain ⟨p0, c0, sl, _, bo⟩ := row_from h.row A hAl
  have HH : Hid (∀ w1, Below w.heap.size w w1 → IsSet 142 w1 B q len cap S ∧ Row w1 p0 (len - A) c0 (S.drop A)) := fun w1 b1 => by
    obtain ⟨p', c', sl', r', _⟩ := row_from (h.row.by b1) A hAl
    have e := (sl w1).symm.trans (sl' w1)
    simp at e
    obtain ⟨rfl, rfl⟩ := e
    exact ⟨h.by b1, r'⟩
  have BO : Hid (blockOf p0 = blockOf q) := bo
  have S0 : Hid (Below w.heap.size w (w.alloc (Obj.cells #[.int .i64 x, .int .i64 y] 37))) := B1
  obtain ⟨t0, t1, _, _⟩ := (TagAt.new w x y).facts
  clear hA h hS B1 bo
  go_enter Tryz.func107, Tryz.ntmps107
  go_wp2_with fail
  refine (cP.out _ S0.out).mono ?_
  rintro o w1 ⟨rfl, B2⟩
  have S1 : Hid (Below w.heap.size w w1) := S0.out.trans (B2.mono S0.out.size)
  clear B2 S0 cP t0 t1
  have cB := (HH.out w1 S1.out).1.sv.cell
  have fB : w1.frozen? ⟨B, 0, none⟩ = false := by simp [World.frozen?, (HH.out w1 S1.out).1.blk]
  go_wp2_with fail
  go_ret
  refine ⟨p0, c0, rfl, IsSet.laid (HH.out w1 S1.out).1.blk (by decide) (HH.out w1 S1.out).2, ?_, fun k hk => .inl (by rw [← BO.out]; exact hk)⟩
  exact ⟨S1.out.os, S1.out.tape, S1.out.output, Nat.le_trans S1.out.size (by simp [World.setCell]), fun k hk hne => by
    rw [Below.heap_setCell w1 ⟨B, 0, none⟩ _ k (fun e => hne (.inl e))]
    exact S1.out.block k hk⟩
/-- What High says of a rising list. -/
def HighS (S : List (Int × Int)) (z p q e : Int) : Prop := (0 ≤ z ∧ z < S.length ∧ S.getD (S.length - 1 - z.toNat) (0, 0) = (p, q) ∧ e = 0) ∨ (¬ (0 ≤ z ∧ z < S.length) ∧ p = 0 ∧ q = 0 ∧ e = 50)
set_option maxRecDepth 100000 in
set_option maxHeartbeats 2000000 in
theorem sHigh (B : Nat) (q : Option Addr) (len cap : Nat) (S : List (Int × Int)) (z : Int) (w : World) (h : SV w B 142 q len cap S) (hb : len * 16 ≤ 211106232532992) :
    Calls Tryz.prog 68 #[.pointer (some ⟨B, 0, none⟩), .int .i64 z] w fun o w' => ∃ p q c, o = .returned (.tuple #[.agg #[.int .i64 p, .int .i64 q], .int .i64 c]) ∧ HighS S z p q c ∧ Below w.heap.size w w' := by
  obtain ⟨hl, hr, hs⟩ := h.nums
  have B0 : Below w.heap.size w (w.alloc (Obj.cells #[.int .i64 0, .int .i64 0] 37)) := (Below.refl w.heap.size w).alloc (Nat.le_refl _) _
  have S0 : Hid (Below w.heap.size w (w.alloc (Obj.cells #[.int .i64 0, .int .i64 0] 37)) ∧ TagAt (w.alloc (Obj.cells #[.int .i64 0, .int .i64 0] 37)) w.heap.size 0 0) := ⟨B0, TagAt.new w 0 0⟩
  have sc := (h.by B0).cell
  have ls := (h.by B0).lt
  obtain ⟨t0, t1, ft0, ft1⟩ := (TagAt.new w 0 0).facts
  by_cases hz : 0 ≤ z ∧ z < len
  · obtain ⟨n, rfl⟩ : ∃ n : Nat, z = n := ⟨z.toNat, by omega⟩
    have hn : n < len := by omega
    obtain ⟨b, off, rfl, hc⟩ := (h.by B0).r.cells (by omega)
    obtain ⟨k, hk⟩ : ∃ k, k = len - 1 - n := ⟨_, rfl⟩
    obtain ⟨e0, e1⟩ := hc k (by omega)
    obtain ⟨⟨u, v⟩, huv⟩ : ∃ t, S.getD k (0, 0) = t := ⟨_, rfl⟩
    rw [huv] at e0 e1
    have fin : Hid (HighS S n u v 0) := .inl ⟨by omega, by omega, by rw [Int.toNat_natCast, hl, ← hk]; exact huv, rfl⟩
    have lb := World.block_lt_of_cell? _ _ e0
    have k1 : wrap64 (wrap64 ((len : Int) - 1) - (n : Int)) = (k : Int) := by unfold wrap64; omega
    have hne : b ≠ w.heap.size := by
      obtain ⟨b', off', e9, hc'⟩ := h.r.cells (by omega)
      cases e9
      have := World.block_lt_of_cell? _ _ (hc' 0 (by omega)).1
      simp at this
      omega
    have n1 : (n : Int) < (len : Int) := by omega
    have n2 : ¬ ((n : Int) < 0) := by omega
    clear hc huv B0 h hz k1
    rw [hk] at e0 e1
    clear hk
    go_enter Tryz.func68, Tryz.ntmps68
    go_wp2_with fail
    go_region
    all_goals go_wp2_with fail
    all_goals (try simp only [Exit.inBlock, Exit.then])
    all_goals exact bodyPost_ret (results_tag_tmp rfl _ _ _ u v rfl (TagAt.new w u v).drew) rfl ⟨u, v, 0, rfl, fin.out, ((Below.refl w.heap.size w).alloc (Nat.le_refl _) _).drew⟩
  · have fin : Hid (HighS S z 0 0 50) := .inr ⟨by rw [hl]; exact hz, rfl, rfl, rfl⟩
    clear h B0
    by_cases h0 : z < 0
    · clear hz
      go_enter Tryz.func68, Tryz.ntmps68
      go_wp2_with fail
      exact bodyPost_ret (results_tag_tmp rfl _ _ _ 0 0 rfl S0.out.2) rfl ⟨0, 0, 50, rfl, fin.out, S0.out.1⟩
    · have h1 : (len : Int) ≤ z := by omega
      clear hz
      go_enter Tryz.func68, Tryz.ntmps68
      go_wp2_with fail
      exact bodyPost_ret (results_tag_tmp rfl _ _ _ 0 0 rfl S0.out.2) rfl ⟨0, 0, 50, rfl, fin.out, S0.out.1⟩
end Go.Proofs.YtojepeefphbekaaGreat

namespace Go.Proofs.YtojepeefphbekaaGreat
open Go.Shelf Go.RowKit Go.Lib Go.Sort

/-- Compare lays blocks and draws, no more. -/
theorem compareGrow (a b c d : Int) (w : World) : Calls Tryz.prog 65 #[.agg #[.int .i64 a, .int .i64 b], .agg #[.int .i64 c, .int .i64 d]] w fun x w' => x = .returned (.int .i64 (tcmp a b c d)) ∧ ∃ q os, w' = grow (w.drewN q) os := by
  unfold tcmp
  have B1 : Hid (grow (w.drewN 0) #[Obj.cells #[.int .i64 a, .int .i64 b] 37, Obj.cells #[.int .i64 c, .int .i64 d] 37] = ((w.alloc (Obj.cells #[.int .i64 a, .int .i64 b] 37)).alloc (Obj.cells #[.int .i64 c, .int .i64 d] 37))) := by
    show _ = _
    rw [alloc_eq_grow, alloc_eq_grow, grow_grow]; rfl
  go_enter Tryz.func65, Tryz.ntmps65
  go_wp2_with fail
  have g0 : ((w.alloc (Obj.cells #[.int .i64 a, .int .i64 b] 37)).alloc (Obj.cells #[.int .i64 c, .int .i64 d] 37)).cell? ⟨w.heap.size, 0, none⟩ = some (.int .i64 a) := by simp
  have g1 : ((w.alloc (Obj.cells #[.int .i64 a, .int .i64 b] 37)).alloc (Obj.cells #[.int .i64 c, .int .i64 d] 37)).cell? ⟨w.heap.size, 1, none⟩ = some (.int .i64 b) := by simp
  have g2 : ((w.alloc (Obj.cells #[.int .i64 a, .int .i64 b] 37)).alloc (Obj.cells #[.int .i64 c, .int .i64 d] 37)).cell? ⟨w.heap.size + 1, 0, none⟩ = some (.int .i64 c) := by simp
  have g3 : ((w.alloc (Obj.cells #[.int .i64 a, .int .i64 b] 37)).alloc (Obj.cells #[.int .i64 c, .int .i64 d] 37)).cell? ⟨w.heap.size + 1, 1, none⟩ = some (.int .i64 d) := by simp
  have sz : ((w.alloc (Obj.cells #[.int .i64 a, .int .i64 b] 37)).alloc (Obj.cells #[.int .i64 c, .int .i64 d] 37)).heap.size = w.heap.size + 2 := by simp
  generalize (w.alloc (Obj.cells #[.int .i64 a, .int .i64 b] 37)).alloc (Obj.cells #[.int .i64 c, .int .i64 d] 37) = w1 at g0 g1 g2 g3 sz B1 ⊢
  go_region_held3 (fun w' => w'.cell? ⟨w.heap.size, 0, none⟩ = some (.int .i64 a) ∧ w'.cell? ⟨w.heap.size, 1, none⟩ = some (.int .i64 b) ∧ w'.cell? ⟨w.heap.size + 1, 0, none⟩ = some (.int .i64 c) ∧ w'.cell? ⟨w.heap.size + 1, 1, none⟩ = some (.int .i64 d))
    (go_keep) (first | (go_at_call 103; refine (cmp64 _ _ _).mono ?_; rintro x w2 ⟨rfl, rfl⟩) | (go_at_call 104; refine (cmpInt _ _ _).mono ?_; rintro x w2 ⟨rfl, rfl⟩) | (go_at_call 102; refine (or2 (icmp a c) (icmp b d) _ _ _ (by rw [← sz]; simp) (by rw [← sz]; simp)).mono ?_; rintro x w2 ⟨rfl, rfl⟩) | fail)
  go_wp2_with fail
  go_ret
  refine ⟨rfl, 1, #[Obj.cells #[.int .i64 a, .int .i64 b] 37, Obj.cells #[.int .i64 c, .int .i64 d] 37, Obj.cells #[.int .i64 (icmp a c), .int .i64 (icmp b d)] 3], ?_⟩
  rw [← B1.out, alloc_eq_grow, grow_grow]
  rfl
/-- A tag's two cells. -/
def encT (x : Int × Int) : List Value := [.int .i64 x.1, .int .i64 x.2]
def cf (x y : Int × Int) : Int := tcmp x.1 x.2 y.1 y.2
theorem cmpLays (blk off size : Nat) (w : World) : CmpLays Tryz.prog 65 #[] encT 2 cf blk off size w :=
  fun _ _ _ _ x y => compareGrow x.1 x.2 y.1 y.2 _
theorem ltCf (x y : Int × Int) : ltOf cf x y = decide (tc x y < 0) := rfl
theorem swoCf : SWO (ltOf cf) where
  irrefl x := by rw [ltCf, tc_self]; decide
  trans x y z h1 h2 := by
    rw [ltCf] at *
    exact decide_eq_true (tc_trans x y z (of_decide_eq_true h1) (of_decide_eq_true h2))
  ntrans x y z h1 h2 := by
    rw [ltCf] at *
    have a1 := of_decide_eq_false h1
    have a2 := of_decide_eq_false h2
    apply decide_eq_false
    intro h3
    have f1 := tc_3 x y
    have f2 := tc_3 y z
    have f3 := tc_3 x z
    rcases f1 with ⟨_, e⟩ | ⟨rfl, e⟩ | ⟨f1, e⟩
    · omega
    · exact a2 h3
    · rcases f2 with ⟨_, e2⟩ | ⟨rfl, e2⟩ | ⟨f2, e2⟩
      · omega
      · exact a1 h3
      · rcases f3 with ⟨f3, e3⟩ | ⟨_, e3⟩ | ⟨_, e3⟩ <;> omega
theorem flat_eq (l : List (Int × Int)) : flatK encT 2 l.toArray = (tcells l).toArray := by
  apply Array.ext
  · simp [tcells_length]
  · intro t h1 h2
    have h : t < l.length * 2 := by simpa [tcells_length] using h2
    have g := get_flatK encT 2 l.toArray t (by simpa using h)
    rw [getElem!_pos _ t h1] at g
    rw [g]
    obtain ⟨e0, e1⟩ := tcells_get l (t / 2) (by omega)
    have hd : l.toArray[t / 2]! = l.getD (t / 2) (0, 0) := by
      rw [getElem!_pos _ _ (by simp; omega)]
      simp [List.getD, show t / 2 < l.length by omega]
    rw [hd]
    rcases Nat.mod_two_eq_zero_or_one t with q | q
    · have e : t / 2 * 2 = t := by omega
      rw [e] at e0
      rw [q]
      have := (List.getElem?_eq_some_iff.1 e0).2
      simpa [encT] using this.symm
    · have e : t / 2 * 2 + 1 = t := by omega
      rw [e] at e1
      rw [q]
      have := (List.getElem?_eq_some_iff.1 e1).2
      simpa [encT] using this.symm
theorem sorted_heap (w : World) (g off n : Nat) (l : List (Int × Int)) (os : Array Obj) (cur : Array Value) (hg : w.heap[g]? = some (.cells cur 37 (0, 0))) :
    (sortWorldK encT 2 w g off n l.toArray os).heap[g]? = some (.cells (putCells id off (tcells l).toArray cur) 37 (0, 0)) := by
  have hlt := block_lt hg
  unfold sortWorldK putRowK putRow mapBlock grow
  rw [flat_eq]
  simp only [heap_ahead]
  rw [Array.getElem?_append_left (by rw [Array.size_modify]; exact hlt), Array.getElem?_modify, if_pos rfl, hg]
  rfl
theorem sorted_other (w : World) (g off n : Nat) (l : List (Int × Int)) (os : Array Obj) (k : Nat) (hk : k < w.heap.size) (hne : k ≠ g) :
    (sortWorldK encT 2 w g off n l.toArray os).heap[k]? = w.heap[k]? := by
  unfold sortWorldK putRowK putRow mapBlock grow
  simp only [heap_ahead]
  rw [Array.getElem?_append_left (by rw [Array.size_modify]; exact hk), Array.getElem?_modify, if_neg (fun e => hne e.symm)]
theorem put_take (off : Nat) (F cur : List Value) (h : off + F.length ≤ cur.length) : (((putCells id off F.toArray cur.toArray).toList.drop off).take F.length) = F := by
  apply List.ext_getElem?
  intro j
  by_cases hj : j < F.length
  · rw [List.getElem?_take_of_lt hj, List.getElem?_drop]
    unfold putCells
    rw [Array.getElem?_toList, Array.getElem?_mapIdx]
    have hc : off + j < cur.length := by omega
    simp [hc, hj]
  · rw [List.getElem?_eq_none (by rw [List.length_take]; omega), List.getElem?_eq_none (by omega)]
/-- Sorted, as the sort leaves it. -/
def Sorted (S : List (Int × Int)) : Prop := S.Pairwise fun x y => ¬ tc y x < 0
theorem sort_some (g off len cap : Nat) (S : List (Int × Int)) (w : World) (r : Row w (some ⟨g, off, none⟩) len cap S) (hb : len * 16 ≤ 211106232532992) :
    Calls Tryz.prog 86 #[.slice (some ⟨g, off, none⟩) len cap, .func (.func 65) #[] #[]] w fun o w' => o = .returned (.tuple #[]) ∧ ∃ S', S'.Perm S ∧ Sorted S' ∧ Row w' (some ⟨g, off, none⟩) len cap S' ∧ Kept (fun k => k = g) w w' := by
  have hl := r.length
  obtain ⟨cur, hg, hz, ht⟩ : ∃ cur, w.heap[g]? = some (.cells cur 37 (0, 0)) ∧ off + cap * 2 ≤ cur.size ∧ (cur.toList.drop off).take (len * 2) = tcells S := by
    rcases r.pos with ⟨e, _⟩ | ⟨g', off', cur, e, h1, h2, h3⟩
    · cases e
    · cases e; exact ⟨cur, h1, h2, h3⟩
  have hH : HoldsK encT 2 w g off S.toArray := by
    unfold HoldsK
    rw [flat_eq]
    intro j hj
    have hj' : j < (tcells S).length := by simpa using hj
    refine ⟨?_, by simp [World.frozen?, hg]⟩
    refine Row.cell hg ht hl j _ ?_
    rw [getElem!_pos _ j hj, List.getElem?_eq_getElem hj']
    rfl
  have eg : ∀ args w, (callFunc 65 args).run Tryz.prog w = .ok (.enter 65 args) w := enters_of Tryz.func65 (by kernel_rfl) rfl
  have hcon := AnyQ.slices_SortFunc Tryz.sortTag 2 Tryz.isAgg37 Tryz.sizeOf37 encT (fun _ => rfl) (fun x v hv => by simp [encT] at hv; rcases hv with rfl | rfl <;> rfl) cf swoCf 65 #[] g off cap S.toArray w eg (cmpLays g off _ w) hH (block_lt hg) (by simp; omega)
  change Calls Tryz.prog 86 _ _ _ at hcon
  rw [List.size_toArray, hl] at hcon
  refine hcon.mono ?_
  rintro e w' ⟨rfl, d', n, os, ⟨hp1, _, hp⟩, hs, rfl⟩
  have hsz : d'.size = len := by rw [hp1, List.size_toArray, hl]
  have hd : d'.toList.length = len := by rw [Array.length_toList]; exact hsz
  have e1 : d'.extract 0 len = d' := by rw [← hsz]; exact Array.extract_size
  have e2 : S.toArray.extract 0 len = S.toArray := by rw [show len = S.toArray.size by rw [List.size_toArray]; exact hl.symm]; exact Array.extract_size
  rw [e1, e2] at hp
  have P : d'.toList.Perm S := by simpa using hp
  have ed : d' = d'.toList.toArray := by simp
  rw [ed]
  have tl : (tcells d'.toList).length = len * 2 := by rw [tcells_length, hd]
  refine ⟨rfl, d'.toList, P, ?_, ⟨hd, r.room, r.small, fit_perm r.fit P.symm, .inr ⟨g, off, _, rfl, sorted_heap w g off n d'.toList os cur hg, ?_, ?_⟩⟩, ?_⟩
  · refine List.pairwise_iff_getElem.2 (fun i j hi hj hij => ?_)
    have h := hs i j (Nat.zero_le _) hij (by omega)
    rw [ltCf, getElem!_pos d' j (by omega), getElem!_pos d' i (by omega)] at h
    have := of_decide_eq_false h
    simpa using this
  · unfold putCells
    rw [Array.size_mapIdx]
    exact hz
  · have := put_take off (tcells d'.toList) cur.toList (by rw [tl, Array.length_toList]; have := r.room; omega)
    rw [tl] at this
    simpa using this
  · refine ⟨rfl, rfl, rfl, ?_, fun k hk hne => sorted_other w g off n d'.toList os k hk hne⟩
    unfold sortWorldK putRowK putRow mapBlock grow
    simp
end Go.Proofs.YtojepeefphbekaaGreat
