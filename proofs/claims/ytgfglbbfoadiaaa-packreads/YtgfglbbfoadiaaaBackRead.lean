import Derived.Test.YtgfglbbfoadiaaaOps
namespace Go.Proofs.Ytgfglbbfoadiaaa
open Go.RowKit

theorem Took.before {w w0 w1 : World} {R : Nat} {D : Option Nat} {e : Int} {k : Nat} {l : List Nat} (q : Kept (fun _ => False) w w0) (t : Took w0 R D w1 e k l) : Took w R D w1 e k l :=
  ⟨t.isR, (q.mono (fun _ _ f => f.elim)).trans t.kept (fun _ _ f => f)⟩
theorem Took.reads {w w1 : World} {R : Nat} {D : Option Nat} {e : Int} {k : Nat} {l : List Nat} (t : Took w R D w1 e k l) {a : Option Addr} {len cap : Nat} {m : List Nat} (r : Reads w a len cap m) (h : 0 < len → ∀ p, a = some p → p.block ≠ R) : Reads w1 a len cap m :=
  r.kept0 t.kept (fun h0 p hp q => h h0 p hp q)
theorem own_slice {w : World} {base k c : Nat} {p : Option Addr} {l : List Nat} (h : w.ownsRow base 5 1 (.slice p k c) k (cellsOf l)) (hb : ∀ d ∈ l, d < 256) : Reads w p k c l := by
  obtain ⟨a2, c2, e2, r2, _⟩ := owns_reads h hb
  simp at e2
  obtain ⟨rfl, rfl⟩ := e2
  exact r2

set_option maxRecDepth 100000 in
theorem read_1_ok (R : Nat) (D : Option Nat) (e : Int) (k : Nat) (L : List Nat) (n : Int) (b q : Nat) (a : Option Addr) (len cap : Nat) (s : ByteArray) (w : World) (hr : IsR w R D e k L) (n1 : -9223372036854775808 ≤ n) (n2 : n < 9223372036854775808) (_b1 : b < 256) (hq : nn n = q) (sz : Nat) (hp : Pk.parse (q : Int) L = (q, sz, 0)) :
    Calls Try.prog 22 #[.pointer (some ⟨R, 0, none⟩), .agg #[.int .i64 1, .int .i64 n, .int .u8 (b : Int), .slice a len cap, .string s]] w fun x w' => x = .returned (.bool true) ∧ Took w R D w' e (k + sz) (L.drop sz) := by
  by_cases hn : n < 0
  · have e1 := nn_neg n hn
    rw [hq] at e1
    clear hq
    have K0 : Hid (Kept (fun _ => False) w (w.alloc (.cells #[.int .i64 1, .int .i64 n, .int .u8 (b : Int), .slice a len cap, .string s] 45))) := ((Kept.refl _ w).alloc _)
    have R0 : Hid (IsR (w.alloc (.cells #[.int .i64 1, .int .i64 n, .int .u8 (b : Int), .slice a len cap, .string s] 45)) R D e k L) := hr.kept K0.out (fun f => f) (fun _ _ f => f)
    have NE : Hid (w.heap.size ≠ R) := by have := hr.lt; show _ ≠ R; omega
    clear hr
    go_enter Try.func22, Try.ntmps22
    go_wp2_with fail
    refine (rUint_ok R D e (q : Int) k q sz L _ R0.out hp).mono ?_
    rintro x w1 ⟨rfl, T⟩
    have TH : Hid (Took _ R D w1 e (k + sz) (L.drop sz)) := T
    clear T
    go_wp2_with fail
    go_ret
    exact ⟨by simp, TH.out.before K0.out⟩
  · have e1 := nn_pos n hn
    rw [hq] at e1
    rw [e1]
    clear e1 hn n1 n2 hq
    have K0 : Hid (Kept (fun _ => False) w (w.alloc (.cells #[.int .i64 1, .int .i64 (q : Int), .int .u8 (b : Int), .slice a len cap, .string s] 45))) := ((Kept.refl _ w).alloc _)
    have R0 : Hid (IsR (w.alloc (.cells #[.int .i64 1, .int .i64 (q : Int), .int .u8 (b : Int), .slice a len cap, .string s] 45)) R D e k L) := hr.kept K0.out (fun f => f) (fun _ _ f => f)
    have NE : Hid (w.heap.size ≠ R) := by have := hr.lt; show _ ≠ R; omega
    clear hr
    go_enter Try.func22, Try.ntmps22
    go_wp2_with fail
    refine (rUint_ok R D e (q : Int) k q sz L _ R0.out hp).mono ?_
    rintro x w1 ⟨rfl, T⟩
    have TH : Hid (Took _ R D w1 e (k + sz) (L.drop sz)) := T
    clear T
    go_wp2_with fail
    go_ret
    exact ⟨by simp, TH.out.before K0.out⟩

set_option maxRecDepth 100000 in
theorem read_1_bad (R : Nat) (D : Option Nat) (e : Int) (k : Nat) (L : List Nat) (y : Int) (n : Int) (b q : Nat) (a : Option Addr) (len cap : Nat) (s : ByteArray) (w : World) (hr : IsR w R D e k L) (n1 : -9223372036854775808 ≤ n) (n2 : n < 9223372036854775808) (_b1 : b < 256) (hq : nn n = q) (n0 s0 : Nat) (hp : Pk.parse (q : Int) L = (n0, s0, y)) (hy : y ≠ 0) :
    Calls Try.prog 22 #[.pointer (some ⟨R, 0, none⟩), .agg #[.int .i64 1, .int .i64 n, .int .u8 (b : Int), .slice a len cap, .string s]] w fun x w' => (∃ z, x = .returned (.bool z)) ∧ Took w R D w' (first e y) k [] := by
  by_cases hn : n < 0
  · have e1 := nn_neg n hn
    rw [hq] at e1
    clear hq
    have K0 : Hid (Kept (fun _ => False) w (w.alloc (.cells #[.int .i64 1, .int .i64 n, .int .u8 (b : Int), .slice a len cap, .string s] 45))) := ((Kept.refl _ w).alloc _)
    have R0 : Hid (IsR (w.alloc (.cells #[.int .i64 1, .int .i64 n, .int .u8 (b : Int), .slice a len cap, .string s] 45)) R D e k L) := hr.kept K0.out (fun f => f) (fun _ _ f => f)
    have NE : Hid (w.heap.size ≠ R) := by have := hr.lt; show _ ≠ R; omega
    clear hr
    go_enter Try.func22, Try.ntmps22
    go_wp2_with fail
    refine (rUint_bad R D e (q : Int) y k n0 s0 L _ R0.out hp hy).mono ?_
    rintro x w1 ⟨rfl, T⟩
    have TH : Hid (Took _ R D w1 (first e y) k []) := T
    clear T
    go_wp2_with fail
    go_ret
    exact ⟨⟨_, rfl⟩, TH.out.before K0.out⟩
  · have e1 := nn_pos n hn
    rw [hq] at e1
    rw [e1]
    clear e1 hn n1 n2 hq
    have K0 : Hid (Kept (fun _ => False) w (w.alloc (.cells #[.int .i64 1, .int .i64 (q : Int), .int .u8 (b : Int), .slice a len cap, .string s] 45))) := ((Kept.refl _ w).alloc _)
    have R0 : Hid (IsR (w.alloc (.cells #[.int .i64 1, .int .i64 (q : Int), .int .u8 (b : Int), .slice a len cap, .string s] 45)) R D e k L) := hr.kept K0.out (fun f => f) (fun _ _ f => f)
    have NE : Hid (w.heap.size ≠ R) := by have := hr.lt; show _ ≠ R; omega
    clear hr
    go_enter Try.func22, Try.ntmps22
    go_wp2_with fail
    refine (rUint_bad R D e (q : Int) y k n0 s0 L _ R0.out hp hy).mono ?_
    rintro x w1 ⟨rfl, T⟩
    have TH : Hid (Took _ R D w1 (first e y) k []) := T
    clear T
    go_wp2_with fail
    go_ret
    exact ⟨⟨_, rfl⟩, TH.out.before K0.out⟩

set_option maxRecDepth 100000 in
theorem read_2_ok (R : Nat) (D : Option Nat) (e : Int) (k : Nat) (L : List Nat) (n : Int) (b q : Nat) (a : Option Addr) (len cap : Nat) (s : ByteArray) (w : World) (hr : IsR w R D e k L) (n1 : -9223372036854775808 ≤ n) (n2 : n < 9223372036854775808) (_b1 : b < 256) (hq : nn n = q) (t : List Nat) (hL : L = b :: t) :
    Calls Try.prog 22 #[.pointer (some ⟨R, 0, none⟩), .agg #[.int .i64 2, .int .i64 n, .int .u8 (b : Int), .slice a len cap, .string s]] w fun x w' => x = .returned (.bool true) ∧ Took w R D w' e (k + 1) t := by
  subst hL
  by_cases hn : n < 0
  · have e1 := nn_neg n hn
    rw [hq] at e1
    clear hq
    have K0 : Hid (Kept (fun _ => False) w (w.alloc (.cells #[.int .i64 2, .int .i64 n, .int .u8 (b : Int), .slice a len cap, .string s] 45)).drew) := ((Kept.refl _ w).alloc _).drew
    have R0 : Hid (IsR (w.alloc (.cells #[.int .i64 2, .int .i64 n, .int .u8 (b : Int), .slice a len cap, .string s] 45)).drew R D e k (b :: t)) := hr.kept K0.out (fun f => f) (fun _ _ f => f)
    have NE : Hid (w.heap.size ≠ R) := by have := hr.lt; show _ ≠ R; omega
    clear hr
    go_enter Try.func22, Try.ntmps22
    go_wp2_with fail
    go_region_held3 (fun w' => w'.cell? ⟨w.heap.size, 2, none⟩ = some (.int .u8 (b : Int)))
        (first | go_keep | exact TH.out.kept.cell (by assumption) NE.out)
        (first
          | (go_at_call 18; refine (rByte_ok R D e k b t _ R0.out).mono ?_; rintro x w1 ⟨rfl, T⟩; have TH : Hid (Took _ R D w1 e (k + 1) t) := T; clear T)
          | fail)
    all_goals (go_wp2_with fail; go_ret)
    all_goals exact ⟨by simp, TH.out.before K0.out⟩
  · have e1 := nn_pos n hn
    rw [hq] at e1
    rw [e1]
    clear e1 hn n1 n2 hq
    have K0 : Hid (Kept (fun _ => False) w (w.alloc (.cells #[.int .i64 2, .int .i64 (q : Int), .int .u8 (b : Int), .slice a len cap, .string s] 45)).drew) := ((Kept.refl _ w).alloc _).drew
    have R0 : Hid (IsR (w.alloc (.cells #[.int .i64 2, .int .i64 (q : Int), .int .u8 (b : Int), .slice a len cap, .string s] 45)).drew R D e k (b :: t)) := hr.kept K0.out (fun f => f) (fun _ _ f => f)
    have NE : Hid (w.heap.size ≠ R) := by have := hr.lt; show _ ≠ R; omega
    clear hr
    go_enter Try.func22, Try.ntmps22
    go_wp2_with fail
    go_region_held3 (fun w' => w'.cell? ⟨w.heap.size, 2, none⟩ = some (.int .u8 (b : Int)))
        (first | go_keep | exact TH.out.kept.cell (by assumption) NE.out)
        (first
          | (go_at_call 18; refine (rByte_ok R D e k b t _ R0.out).mono ?_; rintro x w1 ⟨rfl, T⟩; have TH : Hid (Took _ R D w1 e (k + 1) t) := T; clear T)
          | fail)
    all_goals (go_wp2_with fail; go_ret)
    all_goals exact ⟨by simp, TH.out.before K0.out⟩

set_option maxRecDepth 100000 in
theorem read_2_bad (R : Nat) (D : Option Nat) (e : Int) (k : Nat) (L : List Nat) (n : Int) (b q : Nat) (a : Option Addr) (len cap : Nat) (s : ByteArray) (w : World) (hr : IsR w R D e k L) (n1 : -9223372036854775808 ≤ n) (n2 : n < 9223372036854775808) (_b1 : b < 256) (hq : nn n = q) (hL : L = []) :
    Calls Try.prog 22 #[.pointer (some ⟨R, 0, none⟩), .agg #[.int .i64 2, .int .i64 n, .int .u8 (b : Int), .slice a len cap, .string s]] w fun x w' => (∃ z, x = .returned (.bool z)) ∧ Took w R D w' (first e 30) k [] := by
  subst hL
  by_cases hn : n < 0
  · have e1 := nn_neg n hn
    rw [hq] at e1
    clear hq
    have K0 : Hid (Kept (fun _ => False) w (w.alloc (.cells #[.int .i64 2, .int .i64 n, .int .u8 (b : Int), .slice a len cap, .string s] 45)).drew) := ((Kept.refl _ w).alloc _).drew
    have R0 : Hid (IsR (w.alloc (.cells #[.int .i64 2, .int .i64 n, .int .u8 (b : Int), .slice a len cap, .string s] 45)).drew R D e k []) := hr.kept K0.out (fun f => f) (fun _ _ f => f)
    have NE : Hid (w.heap.size ≠ R) := by have := hr.lt; show _ ≠ R; omega
    clear hr
    go_enter Try.func22, Try.ntmps22
    go_wp2_with fail
    go_region_held3 (fun w' => w'.cell? ⟨w.heap.size, 2, none⟩ = some (.int .u8 (b : Int)))
        (first | go_keep | exact TH.out.kept.cell (by assumption) NE.out)
        (first
          | (go_at_call 18; refine (rByte_bad R D e k _ R0.out).mono ?_; rintro x w1 ⟨rfl, T⟩; have TH : Hid (Took _ R D w1 (first e 30) k []) := T; clear T)
          | fail)
    all_goals (go_wp2_with fail; go_ret)
    all_goals exact ⟨⟨_, rfl⟩, TH.out.before K0.out⟩
  · have e1 := nn_pos n hn
    rw [hq] at e1
    rw [e1]
    clear e1 hn n1 n2 hq
    have K0 : Hid (Kept (fun _ => False) w (w.alloc (.cells #[.int .i64 2, .int .i64 (q : Int), .int .u8 (b : Int), .slice a len cap, .string s] 45)).drew) := ((Kept.refl _ w).alloc _).drew
    have R0 : Hid (IsR (w.alloc (.cells #[.int .i64 2, .int .i64 (q : Int), .int .u8 (b : Int), .slice a len cap, .string s] 45)).drew R D e k []) := hr.kept K0.out (fun f => f) (fun _ _ f => f)
    have NE : Hid (w.heap.size ≠ R) := by have := hr.lt; show _ ≠ R; omega
    clear hr
    go_enter Try.func22, Try.ntmps22
    go_wp2_with fail
    go_region_held3 (fun w' => w'.cell? ⟨w.heap.size, 2, none⟩ = some (.int .u8 (b : Int)))
        (first | go_keep | exact TH.out.kept.cell (by assumption) NE.out)
        (first
          | (go_at_call 18; refine (rByte_bad R D e k _ R0.out).mono ?_; rintro x w1 ⟨rfl, T⟩; have TH : Hid (Took _ R D w1 (first e 30) k []) := T; clear T)
          | fail)
    all_goals (go_wp2_with fail; go_ret)
    all_goals exact ⟨⟨_, rfl⟩, TH.out.before K0.out⟩

set_option maxRecDepth 100000 in
theorem read_3_ok (R : Nat) (D : Option Nat) (e : Int) (k : Nat) (L : List Nat) (n : Int) (b q : Nat) (a : Option Addr) (len cap : Nat) (s : ByteArray) (w : World) (hr : IsR w R D e k L) (n1 : -9223372036854775808 ≤ n) (n2 : n < 9223372036854775808) (_b1 : b < 256) (hq : nn n = q) (t : List Nat) (hL : L = yn (b % 2 == 1) :: t) :
    Calls Try.prog 22 #[.pointer (some ⟨R, 0, none⟩), .agg #[.int .i64 3, .int .i64 n, .int .u8 (b : Int), .slice a len cap, .string s]] w fun x w' => x = .returned (.bool true) ∧ Took w R D w' e (k + 1) t := by
  subst hL
  by_cases hn : n < 0
  · have e1 := nn_neg n hn
    rw [hq] at e1
    clear hq
    have K0 : Hid (Kept (fun _ => False) w (w.alloc (.cells #[.int .i64 3, .int .i64 n, .int .u8 (b : Int), .slice a len cap, .string s] 45)).drew) := ((Kept.refl _ w).alloc _).drew
    have R0 : Hid (IsR (w.alloc (.cells #[.int .i64 3, .int .i64 n, .int .u8 (b : Int), .slice a len cap, .string s] 45)).drew R D e k (yn (b % 2 == 1) :: t)) := hr.kept K0.out (fun f => f) (fun _ _ f => f)
    have NE : Hid (w.heap.size ≠ R) := by have := hr.lt; show _ ≠ R; omega
    have hbb : (((b : Int) % 2) == 1) = (b % 2 == 1) := by rw [Bool.eq_iff_iff]; simp; omega
    obtain ⟨z, hz⟩ : ∃ z, (b % 2 == 1) = z := ⟨_, rfl⟩
    rw [hz] at hbb R0
    have htm : (((b : Int).tmod 2) == 1) = z := by rw [Int.tmod_eq_emod_of_nonneg (by omega)]; exact hbb
    clear hz
    clear hr
    go_enter Try.func22, Try.ntmps22
    go_wp2_with fail
    go_region_held3 (fun w' => w'.cell? ⟨w.heap.size, 2, none⟩ = some (.int .u8 (b : Int)))
        (first | go_keep | exact TH.out.kept.cell (by assumption) NE.out)
        (first
          | (go_at_call 37; refine (rBool_ok R D e k z t _ R0.out).mono ?_; rintro x w1 ⟨rfl, T⟩; have TH : Hid (Took _ R D w1 e (k + 1) t) := T; clear T)
          | fail)
    all_goals (go_wp2_with fail; go_ret)
    all_goals exact ⟨by simp, TH.out.before K0.out⟩
  · have e1 := nn_pos n hn
    rw [hq] at e1
    rw [e1]
    clear e1 hn n1 n2 hq
    have K0 : Hid (Kept (fun _ => False) w (w.alloc (.cells #[.int .i64 3, .int .i64 (q : Int), .int .u8 (b : Int), .slice a len cap, .string s] 45)).drew) := ((Kept.refl _ w).alloc _).drew
    have R0 : Hid (IsR (w.alloc (.cells #[.int .i64 3, .int .i64 (q : Int), .int .u8 (b : Int), .slice a len cap, .string s] 45)).drew R D e k (yn (b % 2 == 1) :: t)) := hr.kept K0.out (fun f => f) (fun _ _ f => f)
    have NE : Hid (w.heap.size ≠ R) := by have := hr.lt; show _ ≠ R; omega
    have hbb : (((b : Int) % 2) == 1) = (b % 2 == 1) := by rw [Bool.eq_iff_iff]; simp; omega
    obtain ⟨z, hz⟩ : ∃ z, (b % 2 == 1) = z := ⟨_, rfl⟩
    rw [hz] at hbb R0
    have htm : (((b : Int).tmod 2) == 1) = z := by rw [Int.tmod_eq_emod_of_nonneg (by omega)]; exact hbb
    clear hz
    clear hr
    go_enter Try.func22, Try.ntmps22
    go_wp2_with fail
    go_region_held3 (fun w' => w'.cell? ⟨w.heap.size, 2, none⟩ = some (.int .u8 (b : Int)))
        (first | go_keep | exact TH.out.kept.cell (by assumption) NE.out)
        (first
          | (go_at_call 37; refine (rBool_ok R D e k z t _ R0.out).mono ?_; rintro x w1 ⟨rfl, T⟩; have TH : Hid (Took _ R D w1 e (k + 1) t) := T; clear T)
          | fail)
    all_goals (go_wp2_with fail; go_ret)
    all_goals exact ⟨by simp, TH.out.before K0.out⟩

set_option maxRecDepth 100000 in
theorem read_3_bad (R : Nat) (D : Option Nat) (e : Int) (k : Nat) (L : List Nat) (n : Int) (b q : Nat) (a : Option Addr) (len cap : Nat) (s : ByteArray) (w : World) (hr : IsR w R D e k L) (n1 : -9223372036854775808 ≤ n) (n2 : n < 9223372036854775808) (_b1 : b < 256) (hq : nn n = q) (hL : L = []) :
    Calls Try.prog 22 #[.pointer (some ⟨R, 0, none⟩), .agg #[.int .i64 3, .int .i64 n, .int .u8 (b : Int), .slice a len cap, .string s]] w fun x w' => (∃ z, x = .returned (.bool z)) ∧ Took w R D w' (first e 30) k [] := by
  subst hL
  by_cases hn : n < 0
  · have e1 := nn_neg n hn
    rw [hq] at e1
    clear hq
    have K0 : Hid (Kept (fun _ => False) w (w.alloc (.cells #[.int .i64 3, .int .i64 n, .int .u8 (b : Int), .slice a len cap, .string s] 45)).drew) := ((Kept.refl _ w).alloc _).drew
    have R0 : Hid (IsR (w.alloc (.cells #[.int .i64 3, .int .i64 n, .int .u8 (b : Int), .slice a len cap, .string s] 45)).drew R D e k []) := hr.kept K0.out (fun f => f) (fun _ _ f => f)
    have NE : Hid (w.heap.size ≠ R) := by have := hr.lt; show _ ≠ R; omega
    have hbb : (((b : Int) % 2) == 1) = (b % 2 == 1) := by rw [Bool.eq_iff_iff]; simp; omega
    obtain ⟨z, hz⟩ : ∃ z, (b % 2 == 1) = z := ⟨_, rfl⟩
    rw [hz] at hbb
    have htm : (((b : Int).tmod 2) == 1) = z := by rw [Int.tmod_eq_emod_of_nonneg (by omega)]; exact hbb
    clear hz
    clear hr
    go_enter Try.func22, Try.ntmps22
    go_wp2_with fail
    go_region_held3 (fun w' => w'.cell? ⟨w.heap.size, 2, none⟩ = some (.int .u8 (b : Int)))
        (first | go_keep | exact TH.out.kept.cell (by assumption) NE.out)
        (first
          | (go_at_call 37; refine (rBool_bad R D e k _ R0.out).mono ?_; rintro x w1 ⟨rfl, T⟩; have TH : Hid (Took _ R D w1 (first e 30) k []) := T; clear T)
          | fail)
    all_goals (go_wp2_with fail; go_ret)
    all_goals exact ⟨⟨_, rfl⟩, TH.out.before K0.out⟩
  · have e1 := nn_pos n hn
    rw [hq] at e1
    rw [e1]
    clear e1 hn n1 n2 hq
    have K0 : Hid (Kept (fun _ => False) w (w.alloc (.cells #[.int .i64 3, .int .i64 (q : Int), .int .u8 (b : Int), .slice a len cap, .string s] 45)).drew) := ((Kept.refl _ w).alloc _).drew
    have R0 : Hid (IsR (w.alloc (.cells #[.int .i64 3, .int .i64 (q : Int), .int .u8 (b : Int), .slice a len cap, .string s] 45)).drew R D e k []) := hr.kept K0.out (fun f => f) (fun _ _ f => f)
    have NE : Hid (w.heap.size ≠ R) := by have := hr.lt; show _ ≠ R; omega
    have hbb : (((b : Int) % 2) == 1) = (b % 2 == 1) := by rw [Bool.eq_iff_iff]; simp; omega
    obtain ⟨z, hz⟩ : ∃ z, (b % 2 == 1) = z := ⟨_, rfl⟩
    rw [hz] at hbb
    have htm : (((b : Int).tmod 2) == 1) = z := by rw [Int.tmod_eq_emod_of_nonneg (by omega)]; exact hbb
    clear hz
    clear hr
    go_enter Try.func22, Try.ntmps22
    go_wp2_with fail
    go_region_held3 (fun w' => w'.cell? ⟨w.heap.size, 2, none⟩ = some (.int .u8 (b : Int)))
        (first | go_keep | exact TH.out.kept.cell (by assumption) NE.out)
        (first
          | (go_at_call 37; refine (rBool_bad R D e k _ R0.out).mono ?_; rintro x w1 ⟨rfl, T⟩; have TH : Hid (Took _ R D w1 (first e 30) k []) := T; clear T)
          | fail)
    all_goals (go_wp2_with fail; go_ret)
    all_goals exact ⟨⟨_, rfl⟩, TH.out.before K0.out⟩

set_option maxRecDepth 100000 in
theorem read_4_ok (R : Nat) (D : Option Nat) (e : Int) (k : Nat) (L : List Nat) (n : Int) (b q : Nat) (a : Option Addr) (len cap : Nat) (l : List Nat) (s : ByteArray) (w : World) (hr : IsR w R D e k L) (n1 : -9223372036854775808 ≤ n) (n2 : n < 9223372036854775808) (_b1 : b < 256) (hq : nn n = q) (sz : Nat) (hp : Pk.parse (len : Int) L = (len, sz, 0)) (hz : sz + len ≤ L.length) (hlq : (L.drop sz).take len = l) (rd : Reads w a len cap l) (hlen : len ≤ 140737488355328) (far : 0 < len → ∀ p, a = some p → p.block ≠ R) :
    Calls Try.prog 22 #[.pointer (some ⟨R, 0, none⟩), .agg #[.int .i64 4, .int .i64 n, .int .u8 (b : Int), .slice a len cap, .string s]] w fun x w' => x = .returned (.bool true) ∧ Took w R D w' e (k + (sz + len)) (L.drop (sz + len)) := by
  by_cases hn : n < 0
  · have e1 := nn_neg n hn
    rw [hq] at e1
    clear hq
    have K0 : Hid (Kept (fun _ => False) w (w.alloc (.cells #[.int .i64 4, .int .i64 n, .int .u8 (b : Int), .slice a len cap, .string s] 45)).drew) := ((Kept.refl _ w).alloc _).drew
    have R0 : Hid (IsR (w.alloc (.cells #[.int .i64 4, .int .i64 n, .int .u8 (b : Int), .slice a len cap, .string s] 45)).drew R D e k L) := hr.kept K0.out (fun f => f) (fun _ _ f => f)
    have NE : Hid (w.heap.size ≠ R) := by have := hr.lt; show _ ≠ R; omega
    have D0 : Hid (Reads (w.alloc (.cells #[.int .i64 4, .int .i64 n, .int .u8 (b : Int), .slice a len cap, .string s] 45)).drew a len cap l) := rd.kept K0.out (fun _ _ f => f)
    have F0 : Hid (0 < len → ∀ p, a = some p → p.block ≠ R) := far
    clear rd far
    clear hr
    go_enter Try.func22, Try.ntmps22
    go_wp2_with fail
    go_region_held3 (fun w' => w'.cell? ⟨w.heap.size, 3, none⟩ = some (.slice a len cap))
        (first | go_keep | exact TH.out.kept.cell (by assumption) NE.out)
        (first
          | (go_at_call 39; refine (rBytes_ok R D e (len : Int) k len sz L _ R0.out hp hz hlen).mono ?_; rintro x w1 ⟨p, c, rfl, ho, T⟩; rw [hlq] at ho; have TH : Hid (Took _ R D w1 e (k + (sz + len)) (L.drop (sz + len))) := T; have D1 : Hid (Reads w1 a len cap l) := T.reads D0.out F0.out; have D2 : Hid (Reads w1 p len c l) := own_slice ho D0.out.bytes; clear T ho)
          | (go_at_call 16; refine (same_any p a len c len cap l l w1 D2.out D1.out true (by simp)).mono ?_; rintro x w2 ⟨rfl, rfl⟩)
          | fail)
    all_goals (go_wp2_with fail; go_ret)
    all_goals exact ⟨by simp, TH.out.before K0.out⟩
  · have e1 := nn_pos n hn
    rw [hq] at e1
    rw [e1]
    clear e1 hn n1 n2 hq
    have K0 : Hid (Kept (fun _ => False) w (w.alloc (.cells #[.int .i64 4, .int .i64 (q : Int), .int .u8 (b : Int), .slice a len cap, .string s] 45)).drew) := ((Kept.refl _ w).alloc _).drew
    have R0 : Hid (IsR (w.alloc (.cells #[.int .i64 4, .int .i64 (q : Int), .int .u8 (b : Int), .slice a len cap, .string s] 45)).drew R D e k L) := hr.kept K0.out (fun f => f) (fun _ _ f => f)
    have NE : Hid (w.heap.size ≠ R) := by have := hr.lt; show _ ≠ R; omega
    have D0 : Hid (Reads (w.alloc (.cells #[.int .i64 4, .int .i64 (q : Int), .int .u8 (b : Int), .slice a len cap, .string s] 45)).drew a len cap l) := rd.kept K0.out (fun _ _ f => f)
    have F0 : Hid (0 < len → ∀ p, a = some p → p.block ≠ R) := far
    clear rd far
    clear hr
    go_enter Try.func22, Try.ntmps22
    go_wp2_with fail
    go_region_held3 (fun w' => w'.cell? ⟨w.heap.size, 3, none⟩ = some (.slice a len cap))
        (first | go_keep | exact TH.out.kept.cell (by assumption) NE.out)
        (first
          | (go_at_call 39; refine (rBytes_ok R D e (len : Int) k len sz L _ R0.out hp hz hlen).mono ?_; rintro x w1 ⟨p, c, rfl, ho, T⟩; rw [hlq] at ho; have TH : Hid (Took _ R D w1 e (k + (sz + len)) (L.drop (sz + len))) := T; have D1 : Hid (Reads w1 a len cap l) := T.reads D0.out F0.out; have D2 : Hid (Reads w1 p len c l) := own_slice ho D0.out.bytes; clear T ho)
          | (go_at_call 16; refine (same_any p a len c len cap l l w1 D2.out D1.out true (by simp)).mono ?_; rintro x w2 ⟨rfl, rfl⟩)
          | fail)
    all_goals (go_wp2_with fail; go_ret)
    all_goals exact ⟨by simp, TH.out.before K0.out⟩

set_option maxRecDepth 100000 in
theorem read_4_bad (R : Nat) (D : Option Nat) (e : Int) (k : Nat) (L : List Nat) (y : Int) (n : Int) (b q : Nat) (a : Option Addr) (len cap : Nat) (l : List Nat) (s : ByteArray) (w : World) (hr : IsR w R D e k L) (n1 : -9223372036854775808 ≤ n) (n2 : n < 9223372036854775808) (_b1 : b < 256) (hq : nn n = q) (hp : cErr (len : Int) L = y) (hy : y ≠ 0) (rd : Reads w a len cap l) (far : 0 < len → ∀ p, a = some p → p.block ≠ R) :
    Calls Try.prog 22 #[.pointer (some ⟨R, 0, none⟩), .agg #[.int .i64 4, .int .i64 n, .int .u8 (b : Int), .slice a len cap, .string s]] w fun x w' => (∃ z, x = .returned (.bool z)) ∧ Took w R D w' (first e y) k [] := by
  by_cases hn : n < 0
  · have e1 := nn_neg n hn
    rw [hq] at e1
    clear hq
    have K0 : Hid (Kept (fun _ => False) w (w.alloc (.cells #[.int .i64 4, .int .i64 n, .int .u8 (b : Int), .slice a len cap, .string s] 45)).drew) := ((Kept.refl _ w).alloc _).drew
    have R0 : Hid (IsR (w.alloc (.cells #[.int .i64 4, .int .i64 n, .int .u8 (b : Int), .slice a len cap, .string s] 45)).drew R D e k L) := hr.kept K0.out (fun f => f) (fun _ _ f => f)
    have NE : Hid (w.heap.size ≠ R) := by have := hr.lt; show _ ≠ R; omega
    have D0 : Hid (Reads (w.alloc (.cells #[.int .i64 4, .int .i64 n, .int .u8 (b : Int), .slice a len cap, .string s] 45)).drew a len cap l) := rd.kept K0.out (fun _ _ f => f)
    have F0 : Hid (0 < len → ∀ p, a = some p → p.block ≠ R) := far
    clear rd far
    clear hr
    go_enter Try.func22, Try.ntmps22
    go_wp2_with fail
    go_region_held3 (fun w' => w'.cell? ⟨w.heap.size, 3, none⟩ = some (.slice a len cap))
        (first | go_keep | exact TH.out.kept.cell (by assumption) NE.out)
        (first
          | (go_at_call 39; refine (rBytes_bad R D e (len : Int) y k L _ R0.out hp hy).mono ?_; rintro x w1 ⟨p, c, rfl, ho, T⟩; have TH : Hid (Took _ R D w1 (first e y) k []) := T; have D1 : Hid (Reads w1 a len cap l) := T.reads D0.out F0.out; have D2 : Hid (Reads w1 p 0 c []) := own_slice ho (fun _ h => absurd h (by simp)); clear T ho)
          | (go_at_call 16; refine (same_any p a 0 c len cap [] l w1 D2.out D1.out (decide ([] = l)) rfl).mono ?_; rintro x w2 ⟨rfl, rfl⟩)
          | fail)
    all_goals (go_wp2_with fail; go_ret)
    all_goals exact ⟨⟨_, rfl⟩, TH.out.before K0.out⟩
  · have e1 := nn_pos n hn
    rw [hq] at e1
    rw [e1]
    clear e1 hn n1 n2 hq
    have K0 : Hid (Kept (fun _ => False) w (w.alloc (.cells #[.int .i64 4, .int .i64 (q : Int), .int .u8 (b : Int), .slice a len cap, .string s] 45)).drew) := ((Kept.refl _ w).alloc _).drew
    have R0 : Hid (IsR (w.alloc (.cells #[.int .i64 4, .int .i64 (q : Int), .int .u8 (b : Int), .slice a len cap, .string s] 45)).drew R D e k L) := hr.kept K0.out (fun f => f) (fun _ _ f => f)
    have NE : Hid (w.heap.size ≠ R) := by have := hr.lt; show _ ≠ R; omega
    have D0 : Hid (Reads (w.alloc (.cells #[.int .i64 4, .int .i64 (q : Int), .int .u8 (b : Int), .slice a len cap, .string s] 45)).drew a len cap l) := rd.kept K0.out (fun _ _ f => f)
    have F0 : Hid (0 < len → ∀ p, a = some p → p.block ≠ R) := far
    clear rd far
    clear hr
    go_enter Try.func22, Try.ntmps22
    go_wp2_with fail
    go_region_held3 (fun w' => w'.cell? ⟨w.heap.size, 3, none⟩ = some (.slice a len cap))
        (first | go_keep | exact TH.out.kept.cell (by assumption) NE.out)
        (first
          | (go_at_call 39; refine (rBytes_bad R D e (len : Int) y k L _ R0.out hp hy).mono ?_; rintro x w1 ⟨p, c, rfl, ho, T⟩; have TH : Hid (Took _ R D w1 (first e y) k []) := T; have D1 : Hid (Reads w1 a len cap l) := T.reads D0.out F0.out; have D2 : Hid (Reads w1 p 0 c []) := own_slice ho (fun _ h => absurd h (by simp)); clear T ho)
          | (go_at_call 16; refine (same_any p a 0 c len cap [] l w1 D2.out D1.out (decide ([] = l)) rfl).mono ?_; rintro x w2 ⟨rfl, rfl⟩)
          | fail)
    all_goals (go_wp2_with fail; go_ret)
    all_goals exact ⟨⟨_, rfl⟩, TH.out.before K0.out⟩

set_option maxRecDepth 100000 in
theorem read_5_ok (R : Nat) (D : Option Nat) (e : Int) (k : Nat) (L : List Nat) (n : Int) (b q : Nat) (a : Option Addr) (len cap : Nat) (s : ByteArray) (w : World) (hr : IsR w R D e k L) (n1 : -9223372036854775808 ≤ n) (n2 : n < 9223372036854775808) (_b1 : b < 256) (hq : nn n = q) (sz : Nat) (hp : Pk.parse (s.size : Int) L = (s.size, sz, 0)) (hz : sz + s.size ≤ L.length) (hlq : (L.drop sz).take s.size = sb s) :
    Calls Try.prog 22 #[.pointer (some ⟨R, 0, none⟩), .agg #[.int .i64 5, .int .i64 n, .int .u8 (b : Int), .slice a len cap, .string s]] w fun x w' => x = .returned (.bool true) ∧ Took w R D w' e (k + (sz + s.size)) (L.drop (sz + s.size)) := by
  by_cases hn : n < 0
  · have e1 := nn_neg n hn
    rw [hq] at e1
    clear hq
    have K0 : Hid (Kept (fun _ => False) w (w.alloc (.cells #[.int .i64 5, .int .i64 n, .int .u8 (b : Int), .slice a len cap, .string s] 45)).drew) := ((Kept.refl _ w).alloc _).drew
    have R0 : Hid (IsR (w.alloc (.cells #[.int .i64 5, .int .i64 n, .int .u8 (b : Int), .slice a len cap, .string s] 45)).drew R D e k L) := hr.kept K0.out (fun f => f) (fun _ _ f => f)
    have NE : Hid (w.heap.size ≠ R) := by have := hr.lt; show _ ≠ R; omega
    clear hr
    go_enter Try.func22, Try.ntmps22
    go_wp2_with fail
    go_region_held3 (fun w' => w'.cell? ⟨w.heap.size, 4, none⟩ = some (.string s))
        (first | go_keep | exact TH.out.kept.cell (by assumption) NE.out)
        (first
          | (go_at_call 41; refine (rText_ok R D e (s.size : Int) k s.size sz L _ R0.out hp hz).mono ?_; rintro x w1 ⟨rfl, T⟩; rw [hlq, str_sb]; have TH : Hid (Took _ R D w1 e (k + (sz + s.size)) (L.drop (sz + s.size))) := T; clear T)
          | fail)
    all_goals (go_wp2_with fail; go_ret)
    all_goals exact ⟨by simp, TH.out.before K0.out⟩
  · have e1 := nn_pos n hn
    rw [hq] at e1
    rw [e1]
    clear e1 hn n1 n2 hq
    have K0 : Hid (Kept (fun _ => False) w (w.alloc (.cells #[.int .i64 5, .int .i64 (q : Int), .int .u8 (b : Int), .slice a len cap, .string s] 45)).drew) := ((Kept.refl _ w).alloc _).drew
    have R0 : Hid (IsR (w.alloc (.cells #[.int .i64 5, .int .i64 (q : Int), .int .u8 (b : Int), .slice a len cap, .string s] 45)).drew R D e k L) := hr.kept K0.out (fun f => f) (fun _ _ f => f)
    have NE : Hid (w.heap.size ≠ R) := by have := hr.lt; show _ ≠ R; omega
    clear hr
    go_enter Try.func22, Try.ntmps22
    go_wp2_with fail
    go_region_held3 (fun w' => w'.cell? ⟨w.heap.size, 4, none⟩ = some (.string s))
        (first | go_keep | exact TH.out.kept.cell (by assumption) NE.out)
        (first
          | (go_at_call 41; refine (rText_ok R D e (s.size : Int) k s.size sz L _ R0.out hp hz).mono ?_; rintro x w1 ⟨rfl, T⟩; rw [hlq, str_sb]; have TH : Hid (Took _ R D w1 e (k + (sz + s.size)) (L.drop (sz + s.size))) := T; clear T)
          | fail)
    all_goals (go_wp2_with fail; go_ret)
    all_goals exact ⟨by simp, TH.out.before K0.out⟩

set_option maxRecDepth 100000 in
theorem read_5_bad (R : Nat) (D : Option Nat) (e : Int) (k : Nat) (L : List Nat) (y : Int) (n : Int) (b q : Nat) (a : Option Addr) (len cap : Nat) (s : ByteArray) (w : World) (hr : IsR w R D e k L) (n1 : -9223372036854775808 ≤ n) (n2 : n < 9223372036854775808) (_b1 : b < 256) (hq : nn n = q) (hp : cErr (s.size : Int) L = y) (hy : y ≠ 0) :
    Calls Try.prog 22 #[.pointer (some ⟨R, 0, none⟩), .agg #[.int .i64 5, .int .i64 n, .int .u8 (b : Int), .slice a len cap, .string s]] w fun x w' => (∃ z, x = .returned (.bool z)) ∧ Took w R D w' (first e y) k [] := by
  by_cases hn : n < 0
  · have e1 := nn_neg n hn
    rw [hq] at e1
    clear hq
    have K0 : Hid (Kept (fun _ => False) w (w.alloc (.cells #[.int .i64 5, .int .i64 n, .int .u8 (b : Int), .slice a len cap, .string s] 45)).drew) := ((Kept.refl _ w).alloc _).drew
    have R0 : Hid (IsR (w.alloc (.cells #[.int .i64 5, .int .i64 n, .int .u8 (b : Int), .slice a len cap, .string s] 45)).drew R D e k L) := hr.kept K0.out (fun f => f) (fun _ _ f => f)
    have NE : Hid (w.heap.size ≠ R) := by have := hr.lt; show _ ≠ R; omega
    clear hr
    go_enter Try.func22, Try.ntmps22
    go_wp2_with fail
    go_region_held3 (fun w' => w'.cell? ⟨w.heap.size, 4, none⟩ = some (.string s))
        (first | go_keep | exact TH.out.kept.cell (by assumption) NE.out)
        (first
          | (go_at_call 41; refine (rText_bad R D e (s.size : Int) y k L _ R0.out hp hy).mono ?_; rintro x w1 ⟨rfl, T⟩; have TH : Hid (Took _ R D w1 (first e y) k []) := T; clear T)
          | fail)
    all_goals (go_wp2_with fail; go_ret)
    all_goals exact ⟨⟨_, rfl⟩, TH.out.before K0.out⟩
  · have e1 := nn_pos n hn
    rw [hq] at e1
    rw [e1]
    clear e1 hn n1 n2 hq
    have K0 : Hid (Kept (fun _ => False) w (w.alloc (.cells #[.int .i64 5, .int .i64 (q : Int), .int .u8 (b : Int), .slice a len cap, .string s] 45)).drew) := ((Kept.refl _ w).alloc _).drew
    have R0 : Hid (IsR (w.alloc (.cells #[.int .i64 5, .int .i64 (q : Int), .int .u8 (b : Int), .slice a len cap, .string s] 45)).drew R D e k L) := hr.kept K0.out (fun f => f) (fun _ _ f => f)
    have NE : Hid (w.heap.size ≠ R) := by have := hr.lt; show _ ≠ R; omega
    clear hr
    go_enter Try.func22, Try.ntmps22
    go_wp2_with fail
    go_region_held3 (fun w' => w'.cell? ⟨w.heap.size, 4, none⟩ = some (.string s))
        (first | go_keep | exact TH.out.kept.cell (by assumption) NE.out)
        (first
          | (go_at_call 41; refine (rText_bad R D e (s.size : Int) y k L _ R0.out hp hy).mono ?_; rintro x w1 ⟨rfl, T⟩; have TH : Hid (Took _ R D w1 (first e y) k []) := T; clear T)
          | fail)
    all_goals (go_wp2_with fail; go_ret)
    all_goals exact ⟨⟨_, rfl⟩, TH.out.before K0.out⟩

set_option maxRecDepth 100000 in
theorem read_0_ok (R : Nat) (D : Option Nat) (e : Int) (k : Nat) (L : List Nat) (kind : Int) (n : Int) (b q : Nat) (a : Option Addr) (len cap : Nat) (s : ByteArray) (w : World) (hr : IsR w R D e k L) (n1 : -9223372036854775808 ≤ n) (n2 : n < 9223372036854775808) (_b1 : b < 256) (hq : nn n = q) (h1 : kind ≠ 1) (h2 : kind ≠ 2) (h3 : kind ≠ 3) (h4 : kind ≠ 4) (h5 : kind ≠ 5) :
    Calls Try.prog 22 #[.pointer (some ⟨R, 0, none⟩), .agg #[.int .i64 kind, .int .i64 n, .int .u8 (b : Int), .slice a len cap, .string s]] w fun x w' => x = .returned (.bool true) ∧ Took w R D w' e k L := by
  have g1 : (kind == 1) = false := by simpa using h1
  have g2 : (kind == 2) = false := by simpa using h2
  have g3 : (kind == 3) = false := by simpa using h3
  have g4 : (kind == 4) = false := by simpa using h4
  have g5 : (kind == 5) = false := by simpa using h5
  by_cases hn : n < 0
  · have e1 := nn_neg n hn
    rw [hq] at e1
    clear hq
    have K0 : Hid (Kept (fun _ => False) w (w.alloc (.cells #[.int .i64 kind, .int .i64 n, .int .u8 (b : Int), .slice a len cap, .string s] 45))) := ((Kept.refl _ w).alloc _)
    have R0 : Hid (IsR (w.alloc (.cells #[.int .i64 kind, .int .i64 n, .int .u8 (b : Int), .slice a len cap, .string s] 45)) R D e k L) := hr.kept K0.out (fun f => f) (fun _ _ f => f)
    have NE : Hid (w.heap.size ≠ R) := by have := hr.lt; show _ ≠ R; omega
    clear hr
    go_enter Try.func22, Try.ntmps22
    go_wp2_with fail
    go_ret
    exact ⟨rfl, R0.out, K0.out.mono (fun _ _ f => f.elim)⟩
  · have e1 := nn_pos n hn
    rw [hq] at e1
    rw [e1]
    clear e1 hn n1 n2 hq
    have K0 : Hid (Kept (fun _ => False) w (w.alloc (.cells #[.int .i64 kind, .int .i64 (q : Int), .int .u8 (b : Int), .slice a len cap, .string s] 45))) := ((Kept.refl _ w).alloc _)
    have R0 : Hid (IsR (w.alloc (.cells #[.int .i64 kind, .int .i64 (q : Int), .int .u8 (b : Int), .slice a len cap, .string s] 45)) R D e k L) := hr.kept K0.out (fun f => f) (fun _ _ f => f)
    have NE : Hid (w.heap.size ≠ R) := by have := hr.lt; show _ ≠ R; omega
    clear hr
    go_enter Try.func22, Try.ntmps22
    go_wp2_with fail
    go_ret
    exact ⟨rfl, R0.out, K0.out.mono (fun _ _ f => f.elim)⟩

theorem Opv.form_1 {o : Opv} (h : o.kind = 1) : o.form = Pk.form (nn o.n) := by unfold Opv.form; rw [if_pos h]
theorem Opv.form_2 {o : Opv} (h : o.kind = 2) : o.form = [o.b] := by unfold Opv.form; rw [if_neg (by omega), if_pos h]
theorem Opv.form_3 {o : Opv} (h : o.kind = 3) : o.form = [yn (o.b % 2 == 1)] := by unfold Opv.form; rw [if_neg (by omega), if_neg (by omega), if_pos h]
theorem Opv.form_4 {o : Opv} (h : o.kind = 4) : o.form = Pk.form o.len ++ o.l := by unfold Opv.form; rw [if_neg (by omega), if_neg (by omega), if_neg (by omega), if_pos h]
theorem Opv.form_5 {o : Opv} (h : o.kind = 5) : o.form = Pk.form o.s.size ++ sb o.s := by unfold Opv.form; rw [if_neg (by omega), if_neg (by omega), if_neg (by omega), if_neg (by omega), if_pos h]
theorem Opv.form_0 {o : Opv} (h1 : o.kind ≠ 1) (h2 : o.kind ≠ 2) (h3 : o.kind ≠ 3) (h4 : o.kind ≠ 4) (h5 : o.kind ≠ 5) : o.form = [] := by unfold Opv.form; rw [if_neg h1, if_neg h2, if_neg h3, if_neg h4, if_neg h5]
/-- The thing's bytes lie apart from the reader. -/
def Opv.off (o : Opv) (R : Nat) : Prop := 0 < o.len → ∀ p, o.a = some p → p.block ≠ R
theorem drop_form (f t : List Nat) : (f ++ t).drop f.length = t := by rw [List.drop_append_of_le_length (Nat.le_refl _), List.drop_length, List.nil_append]
theorem read_ok (R : Nat) (D : Option Nat) (e : Int) (k : Nat) (o : Opv) (t : List Nat) (w : World) (hr : IsR w R D e k (o.form ++ t)) (ok : o.Ok w) (far : o.off R) (hl : o.len ≤ 140737488355328) (hs : o.s.size ≤ 140737488355328) :
    Calls Try.prog 22 #[.pointer (some ⟨R, 0, none⟩), o.val] w fun x w' => x = .returned (.bool true) ∧ Took w R D w' e (k + o.form.length) t := by
  have lq := nn_lt o.n ok.n1 ok.n2
  have d0 := drop_form o.form t
  by_cases h1 : o.kind = 1
  · have f := Opv.form_1 h1
    have hp := Pk.parse_form (nn o.n : Int) (nn o.n) t lq (Int.le_refl _)
    rw [← f] at hp
    have c := read_1_ok R D e k (o.form ++ t) o.n o.b (nn o.n) o.a o.len o.cap o.s w hr ok.n1 ok.n2 ok.b1 rfl _ hp
    rw [d0] at c
    show Calls Try.prog 22 #[_, .agg #[.int .i64 o.kind, _, _, _, _]] _ _
    rw [h1]
    exact c
  by_cases h2 : o.kind = 2
  · have f := Opv.form_2 h2
    have c := read_2_ok R D e k (o.form ++ t) o.n o.b (nn o.n) o.a o.len o.cap o.s w hr ok.n1 ok.n2 ok.b1 rfl t (by rw [f]; rfl)
    show Calls Try.prog 22 #[_, .agg #[.int .i64 o.kind, _, _, _, _]] _ _
    rw [h2, f]
    exact c
  by_cases h3 : o.kind = 3
  · have f := Opv.form_3 h3
    have c := read_3_ok R D e k (o.form ++ t) o.n o.b (nn o.n) o.a o.len o.cap o.s w hr ok.n1 ok.n2 ok.b1 rfl t (by rw [f]; rfl)
    show Calls Try.prog 22 #[_, .agg #[.int .i64 o.kind, _, _, _, _]] _ _
    rw [h3, f]
    exact c
  by_cases h4 : o.kind = 4
  · have f := Opv.form_4 h4
    have hlen := ok.rd.length
    have hp := Pk.parse_form (o.len : Int) o.len (o.l ++ t) (by omega) (Int.le_refl _)
    rw [← List.append_assoc, ← f] at hp
    have ef : (Pk.form o.len).length + o.len = o.form.length := by rw [f, List.length_append, hlen]
    have c := read_4_ok R D e k (o.form ++ t) o.n o.b (nn o.n) o.a o.len o.cap o.l o.s w hr ok.n1 ok.n2 ok.b1 rfl _ hp (by rw [ef, List.length_append]; omega)
      (by rw [f, List.append_assoc, drop_form, List.take_append_of_le_length (by omega), ← hlen, List.take_length]) ok.rd hl far
    rw [ef, d0] at c
    show Calls Try.prog 22 #[_, .agg #[.int .i64 o.kind, _, _, _, _]] _ _
    rw [h4]
    exact c
  by_cases h5 : o.kind = 5
  · have f := Opv.form_5 h5
    have hlen := sb_length o.s
    have hp := Pk.parse_form (o.s.size : Int) o.s.size (sb o.s ++ t) (by omega) (Int.le_refl _)
    rw [← List.append_assoc, ← f] at hp
    have ef : (Pk.form o.s.size).length + o.s.size = o.form.length := by rw [f, List.length_append, hlen]
    have c := read_5_ok R D e k (o.form ++ t) o.n o.b (nn o.n) o.a o.len o.cap o.s w hr ok.n1 ok.n2 ok.b1 rfl _ hp (by rw [ef, List.length_append]; omega)
      (by rw [f, List.append_assoc, drop_form, List.take_append_of_le_length (by omega), ← hlen, List.take_length])
    rw [ef, d0] at c
    show Calls Try.prog 22 #[_, .agg #[.int .i64 o.kind, _, _, _, _]] _ _
    rw [h5]
    exact c
  · have f := Opv.form_0 h1 h2 h3 h4 h5
    rw [f] at hr ⊢
    exact read_0_ok R D e k t o.kind o.n o.b (nn o.n) o.a o.len o.cap o.s w hr ok.n1 ok.n2 ok.b1 rfl h1 h2 h3 h4 h5
theorem dropLast_app (f t : List Nat) (h : t ≠ []) : (f ++ t).dropLast = f ++ t.dropLast := List.dropLast_append_of_ne_nil h
theorem form_ne (n : Nat) : Pk.form n ≠ [] := fun h => by have := Pk.form_pos n; rw [h] at this; simp at this
theorem cErr_cut (n : Nat) (l : List Nat) (hn : n < 9223372036854775808) (hl : l.length = n) : cErr (n : Int) (Pk.form n ++ l).dropLast = 30 := by
  unfold cErr
  by_cases h : l = []
  · rw [h, List.append_nil, Pk.parse_cut _ n hn]
    rfl
  · rw [dropLast_app _ _ h, Pk.parse_form (n : Int) n _ hn (Int.le_refl _)]
    have : 0 < l.length := List.length_pos_iff.2 h
    show (if (0 : Int) = 0 then _ else _) = _
    rw [if_pos rfl, if_neg (by rw [List.length_append, List.length_dropLast]; omega)]
theorem read_cut (R : Nat) (D : Option Nat) (k : Nat) (o : Opv) (w : World) (hf : o.form ≠ []) (hr : IsR w R D 0 k o.form.dropLast) (ok : o.Ok w) (far : o.off R) (hl : o.len ≤ 140737488355328) (hs : o.s.size ≤ 140737488355328) :
    Calls Try.prog 22 #[.pointer (some ⟨R, 0, none⟩), o.val] w fun x w' => (∃ z, x = .returned (.bool z)) ∧ Took w R D w' 30 k [] := by
  have lq := nn_lt o.n ok.n1 ok.n2
  by_cases h1 : o.kind = 1
  · have f := Opv.form_1 h1
    have c := read_1_bad R D 0 k _ 30 o.n o.b (nn o.n) o.a o.len o.cap o.s w hr ok.n1 ok.n2 ok.b1 rfl 0 0 (by rw [f]; exact Pk.parse_cut _ _ lq) (by omega)
    show Calls Try.prog 22 #[_, .agg #[.int .i64 o.kind, _, _, _, _]] _ _
    rw [h1]
    exact c
  by_cases h2 : o.kind = 2
  · have f := Opv.form_2 h2
    have c := read_2_bad R D 0 k _ o.n o.b (nn o.n) o.a o.len o.cap o.s w hr ok.n1 ok.n2 ok.b1 rfl (by rw [f]; rfl)
    show Calls Try.prog 22 #[_, .agg #[.int .i64 o.kind, _, _, _, _]] _ _
    rw [h2]
    exact c
  by_cases h3 : o.kind = 3
  · have f := Opv.form_3 h3
    have c := read_3_bad R D 0 k _ o.n o.b (nn o.n) o.a o.len o.cap o.s w hr ok.n1 ok.n2 ok.b1 rfl (by rw [f]; rfl)
    show Calls Try.prog 22 #[_, .agg #[.int .i64 o.kind, _, _, _, _]] _ _
    rw [h3]
    exact c
  by_cases h4 : o.kind = 4
  · have f := Opv.form_4 h4
    have c := read_4_bad R D 0 k _ 30 o.n o.b (nn o.n) o.a o.len o.cap o.l o.s w hr ok.n1 ok.n2 ok.b1 rfl (by rw [f]; exact cErr_cut _ _ (by omega) ok.rd.length) (by omega) ok.rd far
    show Calls Try.prog 22 #[_, .agg #[.int .i64 o.kind, _, _, _, _]] _ _
    rw [h4]
    exact c
  by_cases h5 : o.kind = 5
  · have f := Opv.form_5 h5
    have c := read_5_bad R D 0 k _ 30 o.n o.b (nn o.n) o.a o.len o.cap o.s w hr ok.n1 ok.n2 ok.b1 rfl (by rw [f]; exact cErr_cut _ _ (by omega) (sb_length _)) (by omega)
    show Calls Try.prog 22 #[_, .agg #[.int .i64 o.kind, _, _, _, _]] _ _
    rw [h5]
    exact c
  · exact absurd (Opv.form_0 h1 h2 h3 h4 h5) hf
/-- The reader of one byte less: T is still to come. -/
def Cut (w : World) (S : Nat) (E : Option Nat) (T : List Nat) : Prop := (T ≠ [] ∧ ∃ k, IsR w S E 0 k T.dropLast) ∨ (T = [] ∧ ∃ k, IsR w S E 30 k [])
theorem Cut.kept {S' : Nat → Prop} {w w' : World} {S : Nat} {E : Option Nat} {T : List Nat} (h : Cut w S E T) (q : Kept S' w w') (h1 : ¬ S' S) (h2 : ∀ j, E = some j → ¬ S' j) : Cut w' S E T := by
  rcases h with ⟨a, k, b⟩ | ⟨a, k, b⟩
  · exact .inl ⟨a, k, b.kept q h1 h2⟩
  · exact .inr ⟨a, k, b.kept q h1 h2⟩
theorem read_less (S : Nat) (E : Option Nat) (o : Opv) (T : List Nat) (w : World) (hr : Cut w S E (o.form ++ T)) (ok : o.Ok w) (far : o.off S) (hl : o.len ≤ 140737488355328) (hs : o.s.size ≤ 140737488355328) :
    Calls Try.prog 22 #[.pointer (some ⟨S, 0, none⟩), o.val] w fun x w' => (∃ z, x = .returned (.bool z)) ∧ Cut w' S E T ∧ Kept (fun j => j = S) w w' := by
  rcases hr with ⟨hne, k, hr⟩ | ⟨hnil, k, hr⟩
  · by_cases hT : T = []
    · subst hT
      rw [List.append_nil] at hne hr
      refine (read_cut S E k o w hne hr ok far hl hs).mono ?_
      rintro x w' ⟨z, t⟩
      exact ⟨z, .inr ⟨rfl, k, t.isR⟩, t.kept⟩
    · rw [dropLast_app _ _ hT] at hr
      refine (read_ok S E 0 k o _ w hr ok far hl hs).mono ?_
      rintro x w' ⟨z, t⟩
      exact ⟨⟨_, z⟩, .inl ⟨hT, _, t.isR⟩, t.kept⟩
  · obtain ⟨hf, rfl⟩ := List.append_eq_nil_iff.1 hnil
    refine (read_ok S E 30 k o [] w (by rw [hf]; exact hr) ok far hl hs).mono ?_
    rintro x w' ⟨z, t⟩
    exact ⟨⟨_, z⟩, .inr ⟨rfl, _, t.isR⟩, t.kept⟩

end Go.Proofs.Ytgfglbbfoadiaaa
