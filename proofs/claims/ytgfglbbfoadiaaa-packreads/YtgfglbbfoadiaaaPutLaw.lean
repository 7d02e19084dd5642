import Derived.Test.YtgfglbbfoadiaaaPutState
namespace Go.Proofs.Ytgfglbbfoadiaaa
open Go.RowKit

theorem WS.W0 {base : Nat} {w0 w : World} {B : Nat} {v : Value} {V : Nat} {u : Value} {K : Nat} {hs : List Held} {l : List Nat} (h : WS base w0 w B v V u K hs 0 l) : IsW w B 0 v l := by
  have := h.isW
  simpa using this

set_option maxRecDepth 100000 in
theorem lput_1a (base : Nat) (w0 w : World) (B : Nat) (v : Value) (V : Nat) (u : Value) (K : Nat) (hs : List Held) (l : List Nat) (q : Nat) (b : Nat) (a : Option Addr) (len cap : Nat) (s : ByteArray) (S : WS base w0 w B v V u K hs 0 l) (hq : q < 9223372036854775808) (lb : l.length ≤ 8388608) (sb1 : s.size ≤ 1048576) :
    Calls Try.prog 24 #[.pointer (some ⟨B, 0, none⟩), .pointer (some ⟨V, 0, none⟩), .agg #[.int .i64 1, .int .i64 (q : Int), .int .u8 (b : Int), .slice a len cap, .string s], .pointer (some ⟨K, 0, none⟩)] w fun x w' => x = .returned (.bool true) ∧ PutRes base w0 w' B V K hs l (6 + len + s.size) := by
  have bnd : l.length ≤ 8388608 ∧ s.size ≤ 1048576 := ⟨lb, sb1⟩
  clear lb sb1
  have S0 : Hid (WS base w0 (w.alloc (.cells #[.int .i64 1, .int .i64 (q : Int), .int .u8 (b : Int), .slice a len cap, .string s] 45)) B v V u K hs 0 l) := S.quiet ((Kept.refl _ w).alloc _)
  have X0 : Hid ((w.alloc (.cells #[.int .i64 1, .int .i64 (q : Int), .int .u8 (b : Int), .slice a len cap, .string s] 45)).heap[w.heap.size]? = some (.cells #[.int .i64 1, .int .i64 (q : Int), .int .u8 (b : Int), .slice a len cap, .string s] 45 (0, 0))) := heap_alloc_new w _
  have NB : Hid (¬ wfoot B v w.heap.size) := fun q => by
    rcases q with q | q
    · have := block_lt S.isW.blk; omega
    · have := (S.isW.own.lt _ q).2; omega
  have W0 : Hid (IsW (w.alloc (.cells #[.int .i64 1, .int .i64 (q : Int), .int .u8 (b : Int), .slice a len cap, .string s] 45)) B 0 v l) := S0.out.W0
  have f9 : Hid ((Pk.form q).length ≤ 9) := Pk.form_le9 q hq
  clear S
  go_enter Try.func24, Try.ntmps24
  go_wp2_with fail
  refine (wUint B v l q _ W0.out hq (by have := f9.out; omega)).mono ?_
  rintro x w1 ⟨rfl, v2, P⟩
  have PH : Hid (Put (w.alloc (.cells #[.int .i64 1, .int .i64 (q : Int), .int .u8 (b : Int), .slice a len cap, .string s] 45)) B v w1 0 v2 (l ++ Pk.form q)) := P
  have bx := PH.out.kept.get X0.out NB.out
  have d1 := cell_blk bx 1 (v := .int .i64 (q : Int)) rfl
  have d2 := cell_blk bx 2 (v := .int .u8 (b : Int)) rfl
  have d4 := cell_blk bx 4 (v := .string s) rfl
  clear bx P
  go_wp2_with fail
  refine (vUint V u l q w1 (S0.out.isV1 PH.out) hq (by omega)).mono ?_
  rintro x w2 ⟨rfl, u2, Q⟩
  have S2 : Hid (WS base w0 w2 B v2 V u2 K hs 0 (l ++ Pk.form q)) := S0.out.both PH.out (by simp) Q
  clear Q
  go_wp2_with fail
  refine (wErr B 0 v2 _ w2 S2.out.isW).mono ?_
  rintro x w3 ⟨rfl, rfl⟩
  go_wp2_with fail
  refine (vErr V 0 u2 _ w3 S2.out.isV).mono ?_
  rintro x w4 ⟨rfl, rfl⟩
  go_wp2_with fail
  go_ret
  exact ⟨by simp, v2, u2, hs, 0, l ++ Pk.form q, S2.out, by rw [List.length_append]; have := f9.out; omega, by omega⟩

set_option maxRecDepth 100000 in
theorem lput_1b (base : Nat) (w0 w : World) (B : Nat) (v : Value) (V : Nat) (u : Value) (K : Nat) (hs : List Held) (l : List Nat) (n : Int) (b : Nat) (a : Option Addr) (len cap : Nat) (s : ByteArray) (S : WS base w0 w B v V u K hs 0 l) (hn : n < 0) (lb : l.length ≤ 8388608) (sb1 : s.size ≤ 1048576) :
    Calls Try.prog 24 #[.pointer (some ⟨B, 0, none⟩), .pointer (some ⟨V, 0, none⟩), .agg #[.int .i64 1, .int .i64 n, .int .u8 (b : Int), .slice a len cap, .string s], .pointer (some ⟨K, 0, none⟩)] w fun x w' => x = .returned (.bool true) ∧ PutRes base w0 w' B V K hs l (6 + len + s.size) := by
  have bnd : l.length ≤ 8388608 ∧ s.size ≤ 1048576 := ⟨lb, sb1⟩
  clear lb sb1
  have S0 : Hid (WS base w0 (w.alloc (.cells #[.int .i64 1, .int .i64 n, .int .u8 (b : Int), .slice a len cap, .string s] 45)) B v V u K hs 0 l) := S.quiet ((Kept.refl _ w).alloc _)
  have X0 : Hid ((w.alloc (.cells #[.int .i64 1, .int .i64 n, .int .u8 (b : Int), .slice a len cap, .string s] 45)).heap[w.heap.size]? = some (.cells #[.int .i64 1, .int .i64 n, .int .u8 (b : Int), .slice a len cap, .string s] 45 (0, 0))) := heap_alloc_new w _
  have NB : Hid (¬ wfoot B v w.heap.size) := fun q => by
    rcases q with q | q
    · have := block_lt S.isW.blk; omega
    · have := (S.isW.own.lt _ q).2; omega
  have W0 : Hid (IsW (w.alloc (.cells #[.int .i64 1, .int .i64 n, .int .u8 (b : Int), .slice a len cap, .string s] 45)) B 0 v l) := S0.out.W0
  clear S
  go_enter Try.func24, Try.ntmps24
  go_wp2_with fail
  refine (wUint_neg B v l n _ W0.out hn).mono ?_
  rintro x w1 ⟨rfl, P⟩
  have PH : Hid (Put (w.alloc (.cells #[.int .i64 1, .int .i64 n, .int .u8 (b : Int), .slice a len cap, .string s] 45)) B v w1 33 (.slice none 0 0) []) := P
  have bx := PH.out.kept.get X0.out NB.out
  have d1 := cell_blk bx 1 (v := .int .i64 n) rfl
  have d2 := cell_blk bx 2 (v := .int .u8 (b : Int)) rfl
  have d4 := cell_blk bx 4 (v := .string s) rfl
  clear bx P
  go_wp2_with fail
  refine (vUint_neg V u l n w1 (S0.out.isV1 PH.out) hn).mono ?_
  rintro x w2 ⟨rfl, Q⟩
  have S2 : Hid (WS base w0 w2 B (.slice none 0 0) V u K hs 33 (l)) := S0.out.both PH.out (by simp) Q
  clear Q
  go_wp2_with fail
  refine (wErr B 33 (.slice none 0 0) _ w2 S2.out.isW).mono ?_
  rintro x w3 ⟨rfl, rfl⟩
  go_wp2_with fail
  refine (vErr V 33 u _ w3 S2.out.isV).mono ?_
  rintro x w4 ⟨rfl, rfl⟩
  go_wp2_with fail
  go_ret
  exact ⟨by simp, (.slice none 0 0), u, hs, 33, l, S2.out, by omega, by omega⟩

set_option maxRecDepth 100000 in
theorem lput_1e (base : Nat) (w0 w : World) (B : Nat) (v : Value) (V : Nat) (u : Value) (K : Nat) (hs : List Held) (e : Int) (l : List Nat) (n : Int) (b : Nat) (a : Option Addr) (len cap : Nat) (s : ByteArray) (S : WS base w0 w B v V u K hs e l) (he : e ≠ 0) (hn : n < 9223372036854775808) (lb : l.length ≤ 8388608) (sb1 : s.size ≤ 1048576) :
    Calls Try.prog 24 #[.pointer (some ⟨B, 0, none⟩), .pointer (some ⟨V, 0, none⟩), .agg #[.int .i64 1, .int .i64 n, .int .u8 (b : Int), .slice a len cap, .string s], .pointer (some ⟨K, 0, none⟩)] w fun x w' => x = .returned (.bool true) ∧ PutRes base w0 w' B V K hs l (6 + len + s.size) := by
  have bnd : l.length ≤ 8388608 ∧ s.size ≤ 1048576 := ⟨lb, sb1⟩
  clear lb sb1
  have S0 : Hid (WS base w0 (w.alloc (.cells #[.int .i64 1, .int .i64 n, .int .u8 (b : Int), .slice a len cap, .string s] 45)) B v V u K hs e l) := S.quiet ((Kept.refl _ w).alloc _)
  have X0 : Hid ((w.alloc (.cells #[.int .i64 1, .int .i64 n, .int .u8 (b : Int), .slice a len cap, .string s] 45)).heap[w.heap.size]? = some (.cells #[.int .i64 1, .int .i64 n, .int .u8 (b : Int), .slice a len cap, .string s] 45 (0, 0))) := heap_alloc_new w _
  have NB : Hid (¬ wfoot B v w.heap.size) := fun q => by
    rcases q with q | q
    · have := block_lt S.isW.blk; omega
    · have := (S.isW.own.lt _ q).2; omega
  clear S
  go_enter Try.func24, Try.ntmps24
  go_wp2_with fail
  refine (wUint_err B v _ n e _ S0.out.isW he).mono ?_
  rintro x w1 ⟨rfl, rfl⟩
  have PH : Hid (Put (w.alloc (.cells #[.int .i64 1, .int .i64 n, .int .u8 (b : Int), .slice a len cap, .string s] 45)) B v (w.alloc (.cells #[.int .i64 1, .int .i64 n, .int .u8 (b : Int), .slice a len cap, .string s] 45)) e v (if e = 0 then l else [])) := Put.refl S0.out.isW
  have bx := PH.out.kept.get X0.out NB.out
  have d1 := cell_blk bx 1 (v := .int .i64 n) rfl
  have d2 := cell_blk bx 2 (v := .int .u8 (b : Int)) rfl
  have d4 := cell_blk bx 4 (v := .string s) rfl
  clear bx
  go_wp2_with fail
  refine (vUint_err V e u l n _ (S0.out.isV1 PH.out) he hn).mono ?_
  rintro x w2 ⟨rfl, Q⟩
  have S2 : Hid (WS base w0 w2 B v V u K hs e (l)) := S0.out.both PH.out (by simp) Q
  clear Q
  go_wp2_with fail
  refine (wErr B e v _ w2 S2.out.isW).mono ?_
  rintro x w3 ⟨rfl, rfl⟩
  go_wp2_with fail
  refine (vErr V e u _ w3 S2.out.isV).mono ?_
  rintro x w4 ⟨rfl, rfl⟩
  go_wp2_with fail
  go_ret
  exact ⟨by simp, v, u, hs, e, l, S2.out, by omega, by omega⟩

set_option maxRecDepth 100000 in
theorem lput_2 (base : Nat) (w0 w : World) (B : Nat) (v : Value) (V : Nat) (u : Value) (K : Nat) (hs : List Held) (l : List Nat) (n : Int) (b : Nat) (a : Option Addr) (len cap : Nat) (s : ByteArray) (S : WS base w0 w B v V u K hs 0 l) (hb : b < 256) (lb : l.length ≤ 8388608) (sb1 : s.size ≤ 1048576) :
    Calls Try.prog 24 #[.pointer (some ⟨B, 0, none⟩), .pointer (some ⟨V, 0, none⟩), .agg #[.int .i64 2, .int .i64 n, .int .u8 (b : Int), .slice a len cap, .string s], .pointer (some ⟨K, 0, none⟩)] w fun x w' => x = .returned (.bool true) ∧ PutRes base w0 w' B V K hs l (6 + len + s.size) := by
  have bnd : l.length ≤ 8388608 ∧ s.size ≤ 1048576 := ⟨lb, sb1⟩
  clear lb sb1
  have S0 : Hid (WS base w0 (w.alloc (.cells #[.int .i64 2, .int .i64 n, .int .u8 (b : Int), .slice a len cap, .string s] 45)) B v V u K hs 0 l) := S.quiet ((Kept.refl _ w).alloc _)
  have X0 : Hid ((w.alloc (.cells #[.int .i64 2, .int .i64 n, .int .u8 (b : Int), .slice a len cap, .string s] 45)).heap[w.heap.size]? = some (.cells #[.int .i64 2, .int .i64 n, .int .u8 (b : Int), .slice a len cap, .string s] 45 (0, 0))) := heap_alloc_new w _
  have NB : Hid (¬ wfoot B v w.heap.size) := fun q => by
    rcases q with q | q
    · have := block_lt S.isW.blk; omega
    · have := (S.isW.own.lt _ q).2; omega
  have W0 : Hid (IsW (w.alloc (.cells #[.int .i64 2, .int .i64 n, .int .u8 (b : Int), .slice a len cap, .string s] 45)) B 0 v l) := S0.out.W0
  clear S
  go_enter Try.func24, Try.ntmps24
  go_wp2_with fail
  refine (wByte B v l b _ W0.out hb (by omega)).mono ?_
  rintro x w1 ⟨rfl, v2, P⟩
  have PH : Hid (Put (w.alloc (.cells #[.int .i64 2, .int .i64 n, .int .u8 (b : Int), .slice a len cap, .string s] 45)) B v w1 0 v2 (l ++ [b])) := P
  have bx := PH.out.kept.get X0.out NB.out
  have d1 := cell_blk bx 1 (v := .int .i64 n) rfl
  have d2 := cell_blk bx 2 (v := .int .u8 (b : Int)) rfl
  have d4 := cell_blk bx 4 (v := .string s) rfl
  clear bx P
  go_wp2_with fail
  refine (vByte V u l b w1 (S0.out.isV1 PH.out) hb (by omega)).mono ?_
  rintro x w2 ⟨rfl, u2, Q⟩
  have S2 : Hid (WS base w0 w2 B v2 V u2 K hs 0 (l ++ [b])) := S0.out.both PH.out (by simp) Q
  clear Q
  go_wp2_with fail
  refine (wErr B 0 v2 _ w2 S2.out.isW).mono ?_
  rintro x w3 ⟨rfl, rfl⟩
  go_wp2_with fail
  refine (vErr V 0 u2 _ w3 S2.out.isV).mono ?_
  rintro x w4 ⟨rfl, rfl⟩
  go_wp2_with fail
  go_ret
  exact ⟨by simp, v2, u2, hs, 0, l ++ [b], S2.out, by rw [List.length_append]; simp; omega, by omega⟩

set_option maxRecDepth 100000 in
theorem lput_2e (base : Nat) (w0 w : World) (B : Nat) (v : Value) (V : Nat) (u : Value) (K : Nat) (hs : List Held) (e : Int) (l : List Nat) (n : Int) (b : Nat) (a : Option Addr) (len cap : Nat) (s : ByteArray) (S : WS base w0 w B v V u K hs e l) (he : e ≠ 0) (lb : l.length ≤ 8388608) (sb1 : s.size ≤ 1048576) :
    Calls Try.prog 24 #[.pointer (some ⟨B, 0, none⟩), .pointer (some ⟨V, 0, none⟩), .agg #[.int .i64 2, .int .i64 n, .int .u8 (b : Int), .slice a len cap, .string s], .pointer (some ⟨K, 0, none⟩)] w fun x w' => x = .returned (.bool true) ∧ PutRes base w0 w' B V K hs l (6 + len + s.size) := by
  have bnd : l.length ≤ 8388608 ∧ s.size ≤ 1048576 := ⟨lb, sb1⟩
  clear lb sb1
  have S0 : Hid (WS base w0 (w.alloc (.cells #[.int .i64 2, .int .i64 n, .int .u8 (b : Int), .slice a len cap, .string s] 45)) B v V u K hs e l) := S.quiet ((Kept.refl _ w).alloc _)
  have X0 : Hid ((w.alloc (.cells #[.int .i64 2, .int .i64 n, .int .u8 (b : Int), .slice a len cap, .string s] 45)).heap[w.heap.size]? = some (.cells #[.int .i64 2, .int .i64 n, .int .u8 (b : Int), .slice a len cap, .string s] 45 (0, 0))) := heap_alloc_new w _
  have NB : Hid (¬ wfoot B v w.heap.size) := fun q => by
    rcases q with q | q
    · have := block_lt S.isW.blk; omega
    · have := (S.isW.own.lt _ q).2; omega
  clear S
  go_enter Try.func24, Try.ntmps24
  go_wp2_with fail
  refine (wByte_err B v _ (b : Int) e _ S0.out.isW he).mono ?_
  rintro x w1 ⟨rfl, rfl⟩
  have PH : Hid (Put (w.alloc (.cells #[.int .i64 2, .int .i64 n, .int .u8 (b : Int), .slice a len cap, .string s] 45)) B v (w.alloc (.cells #[.int .i64 2, .int .i64 n, .int .u8 (b : Int), .slice a len cap, .string s] 45)) e v (if e = 0 then l else [])) := Put.refl S0.out.isW
  have bx := PH.out.kept.get X0.out NB.out
  have d1 := cell_blk bx 1 (v := .int .i64 n) rfl
  have d2 := cell_blk bx 2 (v := .int .u8 (b : Int)) rfl
  have d4 := cell_blk bx 4 (v := .string s) rfl
  clear bx
  go_wp2_with fail
  refine (vByte_err V e u l (b : Int) _ (S0.out.isV1 PH.out) he).mono ?_
  rintro x w2 ⟨rfl, Q⟩
  have S2 : Hid (WS base w0 w2 B v V u K hs e (l)) := S0.out.both PH.out (by simp) Q
  clear Q
  go_wp2_with fail
  refine (wErr B e v _ w2 S2.out.isW).mono ?_
  rintro x w3 ⟨rfl, rfl⟩
  go_wp2_with fail
  refine (vErr V e u _ w3 S2.out.isV).mono ?_
  rintro x w4 ⟨rfl, rfl⟩
  go_wp2_with fail
  go_ret
  exact ⟨by simp, v, u, hs, e, l, S2.out, by omega, by omega⟩

set_option maxRecDepth 100000 in
theorem lput_3 (base : Nat) (w0 w : World) (B : Nat) (v : Value) (V : Nat) (u : Value) (K : Nat) (hs : List Held) (l : List Nat) (n : Int) (b : Nat) (a : Option Addr) (len cap : Nat) (s : ByteArray) (S : WS base w0 w B v V u K hs 0 l) (hb : b < 256) (lb : l.length ≤ 8388608) (sb1 : s.size ≤ 1048576) :
    Calls Try.prog 24 #[.pointer (some ⟨B, 0, none⟩), .pointer (some ⟨V, 0, none⟩), .agg #[.int .i64 3, .int .i64 n, .int .u8 (b : Int), .slice a len cap, .string s], .pointer (some ⟨K, 0, none⟩)] w fun x w' => x = .returned (.bool true) ∧ PutRes base w0 w' B V K hs l (6 + len + s.size) := by
  have bnd : l.length ≤ 8388608 ∧ s.size ≤ 1048576 := ⟨lb, sb1⟩
  clear lb sb1
  have S0 : Hid (WS base w0 (w.alloc (.cells #[.int .i64 3, .int .i64 n, .int .u8 (b : Int), .slice a len cap, .string s] 45)) B v V u K hs 0 l) := S.quiet ((Kept.refl _ w).alloc _)
  have X0 : Hid ((w.alloc (.cells #[.int .i64 3, .int .i64 n, .int .u8 (b : Int), .slice a len cap, .string s] 45)).heap[w.heap.size]? = some (.cells #[.int .i64 3, .int .i64 n, .int .u8 (b : Int), .slice a len cap, .string s] 45 (0, 0))) := heap_alloc_new w _
  have NB : Hid (¬ wfoot B v w.heap.size) := fun q => by
    rcases q with q | q
    · have := block_lt S.isW.blk; omega
    · have := (S.isW.own.lt _ q).2; omega
  have W0 : Hid (IsW (w.alloc (.cells #[.int .i64 3, .int .i64 n, .int .u8 (b : Int), .slice a len cap, .string s] 45)) B 0 v l) := S0.out.W0
  have hbb : (((b : Int) % 2) == 1) = (b % 2 == 1) := by rw [Bool.eq_iff_iff]; simp; omega
  obtain ⟨z, hz⟩ : ∃ z, (b % 2 == 1) = z := ⟨_, rfl⟩
  rw [hz] at hbb
  have htm : (((b : Int).tmod 2) == 1) = z := by rw [Int.tmod_eq_emod_of_nonneg (by omega)]; exact hbb
  clear hz
  clear S
  go_enter Try.func24, Try.ntmps24
  go_wp2_with fail
  refine (wBool B v l z _ W0.out (by omega)).mono ?_
  rintro x w1 ⟨rfl, v2, P⟩
  have PH : Hid (Put (w.alloc (.cells #[.int .i64 3, .int .i64 n, .int .u8 (b : Int), .slice a len cap, .string s] 45)) B v w1 0 v2 (l ++ [yn z])) := P
  have bx := PH.out.kept.get X0.out NB.out
  have d1 := cell_blk bx 1 (v := .int .i64 n) rfl
  have d2 := cell_blk bx 2 (v := .int .u8 (b : Int)) rfl
  have d4 := cell_blk bx 4 (v := .string s) rfl
  clear bx P
  go_wp2_with fail
  refine (vBool V u l z w1 (S0.out.isV1 PH.out) (by omega)).mono ?_
  rintro x w2 ⟨rfl, u2, Q⟩
  have S2 : Hid (WS base w0 w2 B v2 V u2 K hs 0 (l ++ [yn z])) := S0.out.both PH.out (by simp) Q
  clear Q
  go_wp2_with fail
  refine (wErr B 0 v2 _ w2 S2.out.isW).mono ?_
  rintro x w3 ⟨rfl, rfl⟩
  go_wp2_with fail
  refine (vErr V 0 u2 _ w3 S2.out.isV).mono ?_
  rintro x w4 ⟨rfl, rfl⟩
  go_wp2_with fail
  go_ret
  exact ⟨by simp, v2, u2, hs, 0, l ++ [yn z], S2.out, by rw [List.length_append]; simp; omega, by omega⟩

set_option maxRecDepth 100000 in
theorem lput_3e (base : Nat) (w0 w : World) (B : Nat) (v : Value) (V : Nat) (u : Value) (K : Nat) (hs : List Held) (e : Int) (l : List Nat) (n : Int) (b : Nat) (a : Option Addr) (len cap : Nat) (s : ByteArray) (S : WS base w0 w B v V u K hs e l) (hb : b < 256) (he : e ≠ 0) (lb : l.length ≤ 8388608) (sb1 : s.size ≤ 1048576) :
    Calls Try.prog 24 #[.pointer (some ⟨B, 0, none⟩), .pointer (some ⟨V, 0, none⟩), .agg #[.int .i64 3, .int .i64 n, .int .u8 (b : Int), .slice a len cap, .string s], .pointer (some ⟨K, 0, none⟩)] w fun x w' => x = .returned (.bool true) ∧ PutRes base w0 w' B V K hs l (6 + len + s.size) := by
  have bnd : l.length ≤ 8388608 ∧ s.size ≤ 1048576 := ⟨lb, sb1⟩
  clear lb sb1
  have S0 : Hid (WS base w0 (w.alloc (.cells #[.int .i64 3, .int .i64 n, .int .u8 (b : Int), .slice a len cap, .string s] 45)) B v V u K hs e l) := S.quiet ((Kept.refl _ w).alloc _)
  have X0 : Hid ((w.alloc (.cells #[.int .i64 3, .int .i64 n, .int .u8 (b : Int), .slice a len cap, .string s] 45)).heap[w.heap.size]? = some (.cells #[.int .i64 3, .int .i64 n, .int .u8 (b : Int), .slice a len cap, .string s] 45 (0, 0))) := heap_alloc_new w _
  have NB : Hid (¬ wfoot B v w.heap.size) := fun q => by
    rcases q with q | q
    · have := block_lt S.isW.blk; omega
    · have := (S.isW.own.lt _ q).2; omega
  have hbb : (((b : Int) % 2) == 1) = (b % 2 == 1) := by rw [Bool.eq_iff_iff]; simp; omega
  obtain ⟨z, hz⟩ : ∃ z, (b % 2 == 1) = z := ⟨_, rfl⟩
  rw [hz] at hbb
  have htm : (((b : Int).tmod 2) == 1) = z := by rw [Int.tmod_eq_emod_of_nonneg (by omega)]; exact hbb
  clear hz
  clear S
  go_enter Try.func24, Try.ntmps24
  go_wp2_with fail
  refine (wBool_err B v _ z e _ S0.out.isW he).mono ?_
  rintro x w1 ⟨rfl, rfl⟩
  have PH : Hid (Put (w.alloc (.cells #[.int .i64 3, .int .i64 n, .int .u8 (b : Int), .slice a len cap, .string s] 45)) B v (w.alloc (.cells #[.int .i64 3, .int .i64 n, .int .u8 (b : Int), .slice a len cap, .string s] 45)) e v (if e = 0 then l else [])) := Put.refl S0.out.isW
  have bx := PH.out.kept.get X0.out NB.out
  have d1 := cell_blk bx 1 (v := .int .i64 n) rfl
  have d2 := cell_blk bx 2 (v := .int .u8 (b : Int)) rfl
  have d4 := cell_blk bx 4 (v := .string s) rfl
  clear bx
  go_wp2_with fail
  refine (vBool_err V e u l z _ (S0.out.isV1 PH.out) he).mono ?_
  rintro x w2 ⟨rfl, Q⟩
  have S2 : Hid (WS base w0 w2 B v V u K hs e (l)) := S0.out.both PH.out (by simp) Q
  clear Q
  go_wp2_with fail
  refine (wErr B e v _ w2 S2.out.isW).mono ?_
  rintro x w3 ⟨rfl, rfl⟩
  go_wp2_with fail
  refine (vErr V e u _ w3 S2.out.isV).mono ?_
  rintro x w4 ⟨rfl, rfl⟩
  go_wp2_with fail
  go_ret
  exact ⟨by simp, v, u, hs, e, l, S2.out, by omega, by omega⟩

set_option maxRecDepth 100000 in
theorem lput_5 (base : Nat) (w0 w : World) (B : Nat) (v : Value) (V : Nat) (u : Value) (K : Nat) (hs : List Held) (l : List Nat) (n : Int) (b : Nat) (a : Option Addr) (len cap : Nat) (s : ByteArray) (S : WS base w0 w B v V u K hs 0 l)  (lb : l.length ≤ 8388608) (sb1 : s.size ≤ 1048576) :
    Calls Try.prog 24 #[.pointer (some ⟨B, 0, none⟩), .pointer (some ⟨V, 0, none⟩), .agg #[.int .i64 5, .int .i64 n, .int .u8 (b : Int), .slice a len cap, .string s], .pointer (some ⟨K, 0, none⟩)] w fun x w' => x = .returned (.bool true) ∧ PutRes base w0 w' B V K hs l (6 + len + s.size) := by
  have bnd : l.length ≤ 8388608 ∧ s.size ≤ 1048576 := ⟨lb, sb1⟩
  clear lb sb1
  have S0 : Hid (WS base w0 (w.alloc (.cells #[.int .i64 5, .int .i64 n, .int .u8 (b : Int), .slice a len cap, .string s] 45)) B v V u K hs 0 l) := S.quiet ((Kept.refl _ w).alloc _)
  have X0 : Hid ((w.alloc (.cells #[.int .i64 5, .int .i64 n, .int .u8 (b : Int), .slice a len cap, .string s] 45)).heap[w.heap.size]? = some (.cells #[.int .i64 5, .int .i64 n, .int .u8 (b : Int), .slice a len cap, .string s] 45 (0, 0))) := heap_alloc_new w _
  have NB : Hid (¬ wfoot B v w.heap.size) := fun q => by
    rcases q with q | q
    · have := block_lt S.isW.blk; omega
    · have := (S.isW.own.lt _ q).2; omega
  have W0 : Hid (IsW (w.alloc (.cells #[.int .i64 5, .int .i64 n, .int .u8 (b : Int), .slice a len cap, .string s] 45)) B 0 v l) := S0.out.W0
  have f9 : Hid ((Pk.form s.size).length ≤ 9) := Pk.form_le9 s.size (by omega)
  clear S
  go_enter Try.func24, Try.ntmps24
  go_wp2_with fail
  refine (wText B v l s _ W0.out (by have := f9.out; omega)).mono ?_
  rintro x w1 ⟨rfl, v2, P⟩
  have PH : Hid (Put (w.alloc (.cells #[.int .i64 5, .int .i64 n, .int .u8 (b : Int), .slice a len cap, .string s] 45)) B v w1 0 v2 (l ++ Pk.form s.size ++ sb s)) := P
  have bx := PH.out.kept.get X0.out NB.out
  have d1 := cell_blk bx 1 (v := .int .i64 n) rfl
  have d2 := cell_blk bx 2 (v := .int .u8 (b : Int)) rfl
  have d4 := cell_blk bx 4 (v := .string s) rfl
  clear bx P
  go_wp2_with fail
  refine (vText V u l s w1 (S0.out.isV1 PH.out) (by omega)).mono ?_
  rintro x w2 ⟨rfl, u2, Q⟩
  have S2 : Hid (WS base w0 w2 B v2 V u2 K hs 0 (l ++ Pk.form s.size ++ sb s)) := S0.out.both PH.out (by simp) Q
  clear Q
  go_wp2_with fail
  refine (wErr B 0 v2 _ w2 S2.out.isW).mono ?_
  rintro x w3 ⟨rfl, rfl⟩
  go_wp2_with fail
  refine (vErr V 0 u2 _ w3 S2.out.isV).mono ?_
  rintro x w4 ⟨rfl, rfl⟩
  go_wp2_with fail
  go_ret
  exact ⟨by simp, v2, u2, hs, 0, l ++ Pk.form s.size ++ sb s, S2.out, by rw [List.length_append, List.length_append, sb_length]; have := f9.out; omega, by omega⟩

set_option maxRecDepth 100000 in
theorem lput_5e (base : Nat) (w0 w : World) (B : Nat) (v : Value) (V : Nat) (u : Value) (K : Nat) (hs : List Held) (e : Int) (l : List Nat) (n : Int) (b : Nat) (a : Option Addr) (len cap : Nat) (s : ByteArray) (S : WS base w0 w B v V u K hs e l) (he : e ≠ 0) (lb : l.length ≤ 8388608) (sb1 : s.size ≤ 1048576) :
    Calls Try.prog 24 #[.pointer (some ⟨B, 0, none⟩), .pointer (some ⟨V, 0, none⟩), .agg #[.int .i64 5, .int .i64 n, .int .u8 (b : Int), .slice a len cap, .string s], .pointer (some ⟨K, 0, none⟩)] w fun x w' => x = .returned (.bool true) ∧ PutRes base w0 w' B V K hs l (6 + len + s.size) := by
  have bnd : l.length ≤ 8388608 ∧ s.size ≤ 1048576 := ⟨lb, sb1⟩
  clear lb sb1
  have S0 : Hid (WS base w0 (w.alloc (.cells #[.int .i64 5, .int .i64 n, .int .u8 (b : Int), .slice a len cap, .string s] 45)) B v V u K hs e l) := S.quiet ((Kept.refl _ w).alloc _)
  have X0 : Hid ((w.alloc (.cells #[.int .i64 5, .int .i64 n, .int .u8 (b : Int), .slice a len cap, .string s] 45)).heap[w.heap.size]? = some (.cells #[.int .i64 5, .int .i64 n, .int .u8 (b : Int), .slice a len cap, .string s] 45 (0, 0))) := heap_alloc_new w _
  have NB : Hid (¬ wfoot B v w.heap.size) := fun q => by
    rcases q with q | q
    · have := block_lt S.isW.blk; omega
    · have := (S.isW.own.lt _ q).2; omega
  clear S
  go_enter Try.func24, Try.ntmps24
  go_wp2_with fail
  refine (wText_err B v _ s e _ S0.out.isW he).mono ?_
  rintro x w1 ⟨rfl, rfl⟩
  have PH : Hid (Put (w.alloc (.cells #[.int .i64 5, .int .i64 n, .int .u8 (b : Int), .slice a len cap, .string s] 45)) B v (w.alloc (.cells #[.int .i64 5, .int .i64 n, .int .u8 (b : Int), .slice a len cap, .string s] 45)) e v (if e = 0 then l else [])) := Put.refl S0.out.isW
  have bx := PH.out.kept.get X0.out NB.out
  have d1 := cell_blk bx 1 (v := .int .i64 n) rfl
  have d2 := cell_blk bx 2 (v := .int .u8 (b : Int)) rfl
  have d4 := cell_blk bx 4 (v := .string s) rfl
  clear bx
  go_wp2_with fail
  refine (vText_err V e u l s _ (S0.out.isV1 PH.out) he (by omega)).mono ?_
  rintro x w2 ⟨rfl, Q⟩
  have S2 : Hid (WS base w0 w2 B v V u K hs e (l)) := S0.out.both PH.out (by simp) Q
  clear Q
  go_wp2_with fail
  refine (wErr B e v _ w2 S2.out.isW).mono ?_
  rintro x w3 ⟨rfl, rfl⟩
  go_wp2_with fail
  refine (vErr V e u _ w3 S2.out.isV).mono ?_
  rintro x w4 ⟨rfl, rfl⟩
  go_wp2_with fail
  go_ret
  exact ⟨by simp, v, u, hs, e, l, S2.out, by omega, by omega⟩
end Go.Proofs.Ytgfglbbfoadiaaa
