import Derived.Test.YthcnpijgfhinhaaMath
import Derived.Test.YthcnpijgfhinhaaChecked
import Derived.WalkKit
import Derived.WalkSpells
import Derived.WalkLawsBesides
import Derived.Deep.QuietTactic
import Derived.Deep.RegionHeld3
import Derived.Deep.LoopGhost
import Derived.BigQuiet
import Derived.Below
import Derived.Laws.Rows
import Derived.Laws.ResultCell
namespace Go.Proofs.Ythcnpijgfhinhaa
open Go.RowKit

/-- All blocks but those of S are as they were. -/
structure Kept (S : Nat → Prop) (w w' : World) : Prop where
  os : w'.os = w.os
  tape : w'.tape = w.tape
  output : w'.output = w.output
  size : w.heap.size ≤ w'.heap.size
  block : ∀ k, k < w.heap.size → ¬ S k → w'.heap[k]? = w.heap[k]?
theorem Kept.refl (S : Nat → Prop) (w : World) : Kept S w w := ⟨rfl, rfl, rfl, Nat.le_refl _, fun _ _ _ => rfl⟩
theorem Kept.trans {S S' : Nat → Prop} {a b c : World} (h : Kept S a b) (k : Kept S' b c) (hs : ∀ j, j < a.heap.size → S' j → S j) : Kept S a c :=
  ⟨k.os.trans h.os, k.tape.trans h.tape, k.output.trans h.output, Nat.le_trans h.size k.size, fun i hi hn =>
    (k.block i (Nat.lt_of_lt_of_le hi h.size) (fun q => hn (hs i hi q))).trans (h.block i hi hn)⟩
theorem Kept.mono {S S' : Nat → Prop} {a b : World} (h : Kept S a b) (hs : ∀ j, j < a.heap.size → S j → S' j) : Kept S' a b :=
  ⟨h.os, h.tape, h.output, h.size, fun i hi hn => h.block i hi (fun q => hn (hs i hi q))⟩
theorem Kept.drew {S : Nat → Prop} {a b : World} (h : Kept S a b) : Kept S a b.drew := ⟨h.os, h.tape, h.output, h.size, h.block⟩
theorem Kept.drewN {S : Nat → Prop} {a b : World} (h : Kept S a b) (n : Nat) : Kept S a (b.drewN n) := ⟨h.os, h.tape, h.output, h.size, h.block⟩
theorem Kept.alloc {S : Nat → Prop} {a b : World} (h : Kept S a b) (o : Obj) : Kept S a (b.alloc o) :=
  h.trans (S' := fun _ => False) ⟨rfl, rfl, rfl, by simp, fun k hk _ => Below.heap_alloc _ _ _ hk⟩ (fun _ _ q => q.elim)
theorem Kept.setCell {S : Nat → Prop} {a b : World} (h : Kept S a b) {p : Addr} (hp : p.block < a.heap.size → S p.block) (u : Value) : Kept S a (b.setCell p u) :=
  h.trans (S' := fun k => k = p.block) ⟨rfl, rfl, rfl, by simp [World.setCell], fun k _ hn => Below.heap_setCell _ _ _ _ hn⟩ (fun _ hj q => by subst q; exact hp hj)
theorem Kept.grown {S : Nat → Prop} {a b c : World} {row : Option Nat} (h : Kept S a b) (hg : b.grownBy c row) (hr : ∀ k, k < a.heap.size → row = some k → S k) : Kept S a c :=
  h.trans (S' := fun k => row = some k) ⟨hg.os, hg.tape, hg.output, hg.size, fun k hk hn => hg.block k hk (fun e => hn e.symm)⟩ hr
theorem Kept.below {S : Nat → Prop} {a b : World} {N : Nat} (h : Kept S a b) (hN : N ≤ a.heap.size) (hs : ∀ k, S k → N ≤ k) : Below N a b :=
  ⟨h.os, h.tape, h.output, h.size, fun k hk => h.block k (by omega) (fun q => by have := hs k q; omega)⟩
theorem Kept.of_below {a b : World} {N : Nat} (h : Below N a b) : Kept (fun k => N ≤ k) a b := ⟨h.os, h.tape, h.output, h.size, fun k _ hn => h.block k (by omega)⟩
theorem Kept.get {S : Nat → Prop} {w w' : World} (h : Kept S w w') {b : Nat} {o : Obj} (hb : w.heap[b]? = some o) (hn : ¬ S b) : w'.heap[b]? = some o :=
  (h.block b (Array.getElem?_eq_some_iff.1 hb).1 hn).trans hb
theorem Kept.cell {S : Nat → Prop} {w w' : World} (h : Kept S w w') {p : Addr} {v : Value} (hp : w.cell? p = some v) (hn : ¬ S p.block) : w'.cell? p = some v :=
  (World.cell?_of_block (w := w) (h.block p.block (World.block_lt_of_cell? w p hp) hn)).trans hp
theorem Kept.owns {S : Nat → Prop} {w w' : World} (h : Kept S w w') {base : Nat} {e : TypeId} {size : Nat} {v : Value} {n : Nat} {xs : List Value} (ho : w.ownsRow base e size v n xs) (hn : ∀ k, v.ownBlock = some k → ¬ S k) : w'.ownsRow base e size v n xs := by
  refine ⟨ho.1, ?_⟩
  rcases ho.2 with q | ⟨g, cap, cur, rfl, hb, hgg, rest⟩
  · exact .inl q
  · exact .inr ⟨g, cap, cur, rfl, hb, h.get hgg (hn g rfl), rest⟩
theorem block_lt {w : World} {b : Nat} {o : Obj} (h : w.heap[b]? = some o) : b < w.heap.size := (Array.getElem?_eq_some_iff.1 h).1
theorem Addr.add_none (b off j : Nat) : (⟨b, off, none⟩ : Addr).add j = ⟨b, off + j, none⟩ := by unfold Addr.add; split <;> simp_all
/-- A block's cell, and that it may be written. -/
theorem cell_blk {w : World} {b : Nat} {cs : Array Value} {t : TypeId} (h : w.heap[b]? = some (.cells cs t (0, 0))) (i : Nat) {v : Value} (hv : cs[i]? = some v) : w.cell? ⟨b, i, none⟩ = some v := by
  rw [cell_of_row w b i cs t (0, 0) h]; exact hv
theorem soft_blk {w : World} {b : Nat} {cs : Array Value} {t : TypeId} (h : w.heap[b]? = some (.cells cs t (0, 0))) (i : Nat) : w.frozen? ⟨b, i, none⟩ = false := by
  simp [World.frozen?, h]

theorem u64_nat (a : Nat) (ha : a < 18446744073709551616) : (BitVec.ofInt 64 (a : Int)).toNat = a := by
  rw [BitVec.toNat_ofInt]; omega
theorem u64_and_nat (a b : Nat) (ha : a < 18446744073709551616) (hb : b < 18446744073709551616) : bits .and .u64 (a : Int) (b : Int) = ((a &&& b : Nat) : Int) := by
  have hx : a &&& b < 2 ^ 64 := Nat.and_lt_two_pow a hb
  show IntKind.u64.wrap ((BitVec.ofInt 64 (a : Int) &&& BitVec.ofInt 64 (b : Int)).toNat : Int) = _
  rw [BitVec.toNat_and, u64_nat a ha, u64_nat b hb, IntKind.wrap_u64]
  omega
theorem u64_or_nat (a b : Nat) (ha : a < 18446744073709551616) (hb : b < 18446744073709551616) : bits .or .u64 (a : Int) (b : Int) = ((a ||| b : Nat) : Int) := by
  have hx : a ||| b < 2 ^ 64 := Nat.or_lt_two_pow ha hb
  show IntKind.u64.wrap ((BitVec.ofInt 64 (a : Int) ||| BitVec.ofInt 64 (b : Int)).toNat : Int) = _
  rw [BitVec.toNat_or, u64_nat a ha, u64_nat b hb, IntKind.wrap_u64]
  omega
theorem i64_low7 (a : Nat) (ha : a < 9223372036854775808) : bits .and .i64 (a : Int) 127 = ((a % 128 : Nat) : Int) := by
  have h : a &&& 127 = a % 128 := Nat.and_two_pow_sub_one_eq_mod a 7
  show IntKind.i64.wrap ((BitVec.ofInt 64 (a : Int) &&& BitVec.ofInt 64 ((127 : Nat) : Int)).toNat : Int) = _
  rw [BitVec.toNat_and, u64_nat a (by omega), u64_nat 127 (by omega), h, IntKind.wrap_i64]
  omega
theorem ones1_run (n x1 : Nat) (ln : n < 18446744073709551616) (l1 : x1 < 18446744073709551616) (h1 : x1 = Q.ones1 n) : IntKind.u64.wrap (bits .and .u64 ((n : Int) / 2) 6148914691236517205 + bits .and .u64 (n : Int) 6148914691236517205) = (x1 : Int) := by
  have a := u64_and_nat (n / 2) 6148914691236517205 (by omega) (by omega)
  have b := u64_and_nat n 6148914691236517205 ln (by omega)
  have c : ((n : Int) / 2) = ((n / 2 : Nat) : Int) := by omega
  have d : (6148914691236517205 : Int) = ((6148914691236517205 : Nat) : Int) := rfl
  have h1' : x1 = (n / 2 &&& 6148914691236517205) + (n &&& 6148914691236517205) := by rw [h1]; unfold Q.ones1; rw [Nat.shiftRight_eq_div_pow]
  rw [c, d, a, b, IntKind.wrap_u64, ← Int.natCast_add, ← h1']
  clear a b c d h1 h1' ln
  omega
theorem ones2_run (n x1 : Nat) (ln : n < 18446744073709551616) (l1 : x1 < 18446744073709551616) (h1 : x1 = Q.ones2 n) : IntKind.u64.wrap (bits .and .u64 ((n : Int) / 4) 3689348814741910323 + bits .and .u64 (n : Int) 3689348814741910323) = (x1 : Int) := by
  have a := u64_and_nat (n / 4) 3689348814741910323 (by omega) (by omega)
  have b := u64_and_nat n 3689348814741910323 ln (by omega)
  have c : ((n : Int) / 4) = ((n / 4 : Nat) : Int) := by omega
  have d : (3689348814741910323 : Int) = ((3689348814741910323 : Nat) : Int) := rfl
  have h1' : x1 = (n / 4 &&& 3689348814741910323) + (n &&& 3689348814741910323) := by rw [h1]; unfold Q.ones2; rw [Nat.shiftRight_eq_div_pow]
  rw [c, d, a, b, IntKind.wrap_u64, ← Int.natCast_add, ← h1']
  clear a b c d h1 h1' ln
  omega
theorem ones3_run (x2 x3 : Nat) (l3 : (x2 >>> 4) + x2 < 18446744073709551616) (h3 : x3 = Q.ones3 x2) : bits .and .u64 (IntKind.u64.wrap ((x2 : Int) / 16 + (x2 : Int))) 1085102592571150095 = (x3 : Int) := by
  rw [Nat.shiftRight_eq_div_pow] at l3
  have l3' : x2 / 16 + x2 < 18446744073709551616 := l3
  have a := u64_and_nat (x2 / 16 + x2) 1085102592571150095 l3' (by omega)
  have c : IntKind.u64.wrap ((x2 : Int) / 16 + (x2 : Int)) = ((x2 / 16 + x2 : Nat) : Int) := by rw [IntKind.wrap_u64]; clear a h3 l3; omega
  have d : (1085102592571150095 : Int) = ((1085102592571150095 : Nat) : Int) := rfl
  have h3' : x3 = (x2 / 16 + x2) &&& 1085102592571150095 := by rw [h3]; unfold Q.ones3; rw [Nat.shiftRight_eq_div_pow]
  rw [c, d, a, h3']
theorem ones_walk (n x1 x2 x3 x4 x5 x6 s : Nat) (w : World)
    (E1 : IntKind.u64.wrap (bits .and .u64 ((n : Int) / 2) 6148914691236517205 + bits .and .u64 (n : Int) 6148914691236517205) = (x1 : Int))
    (E2 : IntKind.u64.wrap (bits .and .u64 ((x1 : Int) / 4) 3689348814741910323 + bits .and .u64 (x1 : Int) 3689348814741910323) = (x2 : Int))
    (E3 : bits .and .u64 (IntKind.u64.wrap ((x2 : Int) / 16 + (x2 : Int))) 1085102592571150095 = (x3 : Int))
    (E4 : IntKind.u64.wrap ((x3 : Int) + (x3 : Int) / 256) = (x4 : Int)) (E5 : IntKind.u64.wrap ((x4 : Int) + (x4 : Int) / 65536) = (x5 : Int))
    (E6 : IntKind.u64.wrap ((x5 : Int) + (x5 : Int) / 4294967296) = (x6 : Int)) (E7 : IntKind.i64.wrap (x6 : Int) = (x6 : Int)) (E8 : bits .and .i64 (x6 : Int) 127 = (s : Int)) :
    Calls Try.prog 36 #[.int .u64 (n : Int)] w fun x w' => x = .returned (.int .i64 (s : Int)) ∧ w' = w := by
  go_enter Try.func36, Try.ntmps36
  go_wp2_with fail
  go_ret
  exact ⟨rfl, rfl⟩
theorem onesCount (b : Nat → Nat) (h : ∀ i, b i ≤ 1) (h0 : ∀ i, 64 ≤ i → b i = 0) (n s : Nat) (hn : n = Q.J 1 64 b) (hs : Q.S 64 b = s) (w : World) : Calls Try.prog 36 #[.int .u64 (n : Int)] w fun x w' => x = .returned (.int .i64 (s : Int)) ∧ w' = w := by
  have ln : n < 18446744073709551616 := by rw [hn]; exact Q.J_lt 1 64 b (fun i => by have := h i; omega)
  obtain ⟨l1, l2, l3, c0, c1, c2, c3, c4, c5, c6, c7, k0, k1, k2, k3, k4, k5, k6, k7, hc, e3⟩ := Q.ones b h h0
  rw [← hn] at l1 l2 l3 e3
  obtain ⟨p0, p1, p2, p3, p4⟩ := Q.ones_end (Q.ones3 (Q.ones2 (Q.ones1 n))) c0 c1 c2 c3 c4 c5 c6 c7 s k0 k1 k2 k3 k4 k5 k6 k7 e3 (hc.trans hs)
  clear k0 k1 k2 k3 k4 k5 k6 k7 hc e3 hs h0
  have E1 := ones1_run n _ ln l1 rfl
  have E2 := ones2_run _ _ l1 l2 rfl
  have E3 := ones3_run _ _ l3 rfl
  clear l1 l2 l3 ln hn h
  generalize Q.ones3 (Q.ones2 (Q.ones1 n)) = x3 at p0 p1 p2 p3 p4 E3
  obtain ⟨x4, h4⟩ : ∃ x, x = x3 + x3 / 256 := ⟨_, rfl⟩
  rw [← h4] at p1 p2 p3 p4
  obtain ⟨x5, h5⟩ : ∃ x, x = x4 + x4 / 65536 := ⟨_, rfl⟩
  rw [← h5] at p2 p3 p4
  obtain ⟨x6, h6⟩ : ∃ x, x = x5 + x5 / 4294967296 := ⟨_, rfl⟩
  rw [← h6] at p3 p4
  refine ones_walk n _ _ x3 x4 x5 x6 s w E1 E2 E3 ?_ ?_ ?_ ?_ ?_
  · rw [IntKind.wrap_u64, h4]; rw [h4] at p1; clear E1 E2 E3 h4 h5 h6 p0 p2 p3 p4; omega
  · rw [IntKind.wrap_u64, h5]; rw [h5] at p2; clear E1 E2 E3 h4 h5 h6 p0 p1 p3 p4; omega
  · rw [IntKind.wrap_u64, h6]; rw [h6] at p3; clear E1 E2 E3 h4 h5 h6 p0 p1 p2 p4; omega
  · rw [IntKind.wrap_i64]; clear E1 E2 E3 h4 h5 h6 p0 p1 p2 p4; omega
  · rw [i64_low7 x6 p3, p4]
theorem heap_set {w : World} {B : Nat} {cs : Array Value} {t : TypeId} {fr : Nat × Nat} (h : w.heap[B]? = some (.cells cs t fr)) (i : Nat) (u : Value) : (w.setCell ⟨B, i, none⟩ u).heap[B]? = some (.cells (cs.setIfInBounds i u) t fr) := by
  simp only [World.setCell, Array.getElem?_modify]
  rw [h]; rfl
/-- May a config be? -/
def okC (N K D : Int) : Prop := 1 ≤ K ∧ K ≤ N ∧ N ≤ 255 ∧ 0 ≤ D ∧ D ≤ 4611686018427387903
def okB (N K D : Int) : Bool := decide (1 ≤ K ∧ K ≤ N ∧ N ≤ 255 ∧ 0 ≤ D ∧ D ≤ 4611686018427387903)
theorem okB_iff (N K D : Int) : okB N K D = true ↔ okC N K D := by unfold okB okC; exact decide_eq_true_iff
theorem okB_not (N K D : Int) : okB N K D = false ↔ ¬ okC N K D := by rw [← okB_iff]; simp
def errC (N K D : Int) : Int := if okB N K D then 0 else 40
theorem errC_ok {N K D : Int} (h : okC N K D) : errC N K D = 0 := by unfold errC; rw [(okB_iff N K D).2 h]; rfl
theorem errC_not {N K D : Int} (h : ¬ okC N K D) : errC N K D = 40 := by unfold errC; rw [(okB_not N K D).2 h]; rfl
/-- How many make a quorum. -/
def quo (N K : Int) : Int := (N + K + 1) / 2
theorem check (N K D : Int) (w : World) : Calls Try.prog 26 #[.agg #[.int .i64 N, .int .i64 K, .int .i64 D]] w fun x w' => x = .returned (.int .i64 (errC N K D)) ∧ Below w.heap.size w w' := by
  have bel := (Below.refl w.heap.size w).alloc (Nat.le_refl _) (Obj.cells #[.int .i64 N, .int .i64 K, .int .i64 D] 23)
  go_enter Try.func26, Try.ntmps26
  by_cases h : K < 1
  · rw [errC_not (by unfold okC; omega)]
    go_wp2_with fail
    go_ret
    exact ⟨rfl, bel⟩
  · by_cases h2 : N < K
    · rw [errC_not (by unfold okC; omega)]
      go_wp2_with fail
      go_ret
      exact ⟨rfl, bel⟩
    · by_cases h3 : 255 < N
      · rw [errC_not (by unfold okC; omega)]
        go_wp2_with fail
        go_ret
        exact ⟨rfl, bel⟩
      · by_cases h4 : D < 0
        · rw [errC_not (by unfold okC; omega)]
          go_wp2_with fail
          go_ret
          exact ⟨rfl, bel⟩
        · by_cases h5 : 4611686018427387903 < D
          · rw [errC_not (by unfold okC; omega)]
            go_wp2_with fail
            go_ret
            exact ⟨rfl, bel⟩
          · rw [errC_ok (by unfold okC; omega)]
            go_wp2_with fail
            go_ret
            exact ⟨rfl, bel⟩
theorem size_ok (N K D : Int) (w : World) (h : okC N K D) : Calls Try.prog 11 #[.agg #[.int .i64 N, .int .i64 K, .int .i64 D]] w fun x w' => x = .returned (.tuple #[.int .i64 (quo N K), .int .i64 0]) ∧ Below w.heap.size w w' := by
  obtain ⟨a1, a2, a3, a4, a5⟩ := h
  have B1 : Hid (Below w.heap.size w (w.alloc (Obj.cells #[.int .i64 N, .int .i64 K, .int .i64 D] 23))) := (Below.refl _ _).alloc (Nat.le_refl _) _
  go_enter Try.func11, Try.ntmps11
  go_wp2_with fail
  refine (check N K D _).mono ?_
  rw [errC_ok ⟨a1, a2, a3, a4, a5⟩]
  rintro e w1 ⟨rfl, b1⟩
  have c0 : w1.cell? ⟨w.heap.size, 0, none⟩ = some (.int .i64 N) := (b1.cell (by simp)).trans (by simp)
  have c1 : w1.cell? ⟨w.heap.size, 1, none⟩ = some (.int .i64 K) := (b1.cell (by simp)).trans (by simp)
  have e1 : (N + K + 1).tdiv 2 = quo N K := by unfold quo; rw [Int.tdiv_eq_ediv_of_nonneg (by omega)]
  have e2 : wrap64 (quo N K) = quo N K := by unfold quo wrap64; omega
  go_wp2_with fail
  go_ret2
  exact ⟨by simp [e2], B1.out.trans (b1.mono (by simp))⟩
theorem size_not (N K D : Int) (w : World) (h : ¬ okC N K D) : Calls Try.prog 11 #[.agg #[.int .i64 N, .int .i64 K, .int .i64 D]] w fun x w' => x = .returned (.tuple #[.int .i64 0, .int .i64 40]) ∧ Below w.heap.size w w' := by
  have B1 : Hid (Below w.heap.size w (w.alloc (Obj.cells #[.int .i64 N, .int .i64 K, .int .i64 D] 23))) := (Below.refl _ _).alloc (Nat.le_refl _) _
  go_enter Try.func11, Try.ntmps11
  go_wp2_with fail
  refine (check N K D _).mono ?_
  rw [errC_not h]
  rintro e w1 ⟨rfl, b1⟩
  go_wp2_with fail
  go_ret2
  exact ⟨rfl, B1.out.trans (b1.mono (by simp))⟩
theorem down_ok (N K D : Int) (w : World) (h : okC N K D) : Calls Try.prog 10 #[.agg #[.int .i64 N, .int .i64 K, .int .i64 D]] w fun x w' => x = .returned (.tuple #[.int .i64 (N - quo N K), .int .i64 0]) ∧ Below w.heap.size w w' := by
  have B1 : Hid (Below w.heap.size w (w.alloc (Obj.cells #[.int .i64 N, .int .i64 K, .int .i64 D] 23))) := (Below.refl _ _).alloc (Nat.le_refl _) _
  go_enter Try.func10, Try.ntmps10
  go_wp2_with fail
  refine (size_ok N K D _ h).mono ?_
  rintro e w1 ⟨rfl, b1⟩
  have c0 : w1.cell? ⟨w.heap.size, 0, none⟩ = some (.int .i64 N) := (b1.cell (by simp)).trans (by simp)
  have e1 : IntKind.i64.wrap (N - quo N K) = N - quo N K := by obtain ⟨a1, a2, a3, a4, a5⟩ := h; unfold quo; rw [IntKind.wrap_i64]; omega
  go_wp2_with fail
  go_ret2
  exact ⟨rfl, B1.out.trans (b1.mono (by simp))⟩
theorem down_not (N K D : Int) (w : World) (h : ¬ okC N K D) : Calls Try.prog 10 #[.agg #[.int .i64 N, .int .i64 K, .int .i64 D]] w fun x w' => x = .returned (.tuple #[.int .i64 0, .int .i64 40]) ∧ Below w.heap.size w w' := by
  have B1 : Hid (Below w.heap.size w (w.alloc (Obj.cells #[.int .i64 N, .int .i64 K, .int .i64 D] 23))) := (Below.refl _ _).alloc (Nat.le_refl _) _
  go_enter Try.func10, Try.ntmps10
  go_wp2_with fail
  refine (size_not N K D _ h).mono ?_
  rintro e w1 ⟨rfl, b1⟩
  go_wp2_with fail
  go_ret2
  exact ⟨rfl, B1.out.trans (b1.mono (by simp))⟩
theorem common_ok (N K D : Int) (w : World) (h : okC N K D) : Calls Try.prog 20 #[.agg #[.int .i64 N, .int .i64 K, .int .i64 D]] w fun x w' => x = .returned (.tuple #[.int .i64 (2 * quo N K - N), .int .i64 0]) ∧ Below w.heap.size w w' := by
  have B1 : Hid (Below w.heap.size w (w.alloc (Obj.cells #[.int .i64 N, .int .i64 K, .int .i64 D] 23))) := (Below.refl _ _).alloc (Nat.le_refl _) _
  go_enter Try.func20, Try.ntmps20
  go_wp2_with fail
  refine (size_ok N K D _ h).mono ?_
  rintro e w1 ⟨rfl, b1⟩
  have c0 : w1.cell? ⟨w.heap.size, 0, none⟩ = some (.int .i64 N) := (b1.cell (by simp)).trans (by simp)
  have e0 : IntKind.i64.wrap (2 * quo N K) = 2 * quo N K := by obtain ⟨a1, a2, a3, a4, a5⟩ := h; unfold quo; rw [IntKind.wrap_i64]; omega
  have e1 : IntKind.i64.wrap (2 * quo N K - N) = 2 * quo N K - N := by obtain ⟨a1, a2, a3, a4, a5⟩ := h; unfold quo; rw [IntKind.wrap_i64]; omega
  go_wp2_with fail
  go_ret2
  exact ⟨rfl, B1.out.trans (b1.mono (by simp))⟩
theorem common_not (N K D : Int) (w : World) (h : ¬ okC N K D) : Calls Try.prog 20 #[.agg #[.int .i64 N, .int .i64 K, .int .i64 D]] w fun x w' => x = .returned (.tuple #[.int .i64 0, .int .i64 40]) ∧ Below w.heap.size w w' := by
  have B1 : Hid (Below w.heap.size w (w.alloc (Obj.cells #[.int .i64 N, .int .i64 K, .int .i64 D] 23))) := (Below.refl _ _).alloc (Nat.le_refl _) _
  go_enter Try.func20, Try.ntmps20
  go_wp2_with fail
  refine (size_not N K D _ h).mono ?_
  rintro e w1 ⟨rfl, b1⟩
  go_wp2_with fail
  go_ret2
  exact ⟨rfl, B1.out.trans (b1.mono (by simp))⟩
end Go.Proofs.Ythcnpijgfhinhaa
