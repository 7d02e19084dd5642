import Derived.Test.YtgfglbbfoadiaaaMore
import Derived.Deep.RegionHeld3
namespace Go.Proofs.Ytgfglbbfoadiaaa
open Go.RowKit

/-- One thing of a script. -/
structure Opv where
  kind : Int
  n : Int
  b : Nat
  a : Option Addr
  len : Nat
  cap : Nat
  l : List Nat
  s : ByteArray
def Opv.val (o : Opv) : Value := .agg #[.int .i64 o.kind, .int .i64 o.n, .int .u8 (o.b : Int), .slice o.a o.len o.cap, .string o.s]
def Opv.obj (o : Opv) : Obj := .cells #[.int .i64 o.kind, .int .i64 o.n, .int .u8 (o.b : Int), .slice o.a o.len o.cap, .string o.s] 45
/-- Its number, turned to one of 0 and above. -/
def nn (n : Int) : Nat := (if n < 0 then -(n + 1) else n).toNat
theorem nn_neg (n : Int) (h : n < 0) : -(n + 1) = (nn n : Int) := by unfold nn; rw [if_pos h]; omega
theorem nn_pos (n : Int) (h : ¬ n < 0) : n = (nn n : Int) := by unfold nn; rw [if_neg h]; omega
theorem nn_lt (n : Int) (h1 : -9223372036854775808 ≤ n) (h2 : n < 9223372036854775808) : nn n < 9223372036854775808 := by unfold nn; split <;> omega
/-- What it is written as. -/
def Opv.form (o : Opv) : List Nat :=
  if o.kind = 1 then Pk.form (nn o.n) else if o.kind = 2 then [o.b] else if o.kind = 3 then [yn (o.b % 2 == 1)] else if o.kind = 4 then Pk.form o.len ++ o.l else if o.kind = 5 then Pk.form o.s.size ++ sb o.s else []
structure Opv.Ok (o : Opv) (w : World) : Prop where
  n1 : -9223372036854775808 ≤ o.n
  n2 : o.n < 9223372036854775808
  b1 : o.b < 256
  rd : Reads w o.a o.len o.cap o.l
theorem Opv.Ok.kept {S : Nat → Prop} {w w' : World} {o : Opv} (h : o.Ok w) (k : Kept S w w') (hn : ∀ j, j < w.heap.size → ¬ S j) : o.Ok w' := ⟨h.n1, h.n2, h.b1, h.rd.kept' k hn⟩
/-- Far: the thing's bytes lie apart from the writer. -/
def Opv.far (o : Opv) (B : Nat) (v : Value) : Prop := 0 < o.len → ∀ p, o.a = some p → ¬ wfoot B v p.block

theorem Kept.put {w w1 w2 : World} {B : Nat} {v v' : Value} {e e' : Int} {l l' : List Nat} (h : IsW w B e v l) (k : Kept (fun _ => False) w w1) (p : Put w1 B v w2 e' v' l') : Put w B v w2 e' v' l' := by
  have := h.own.lt
  refine ⟨p.isW, (k.mono (fun _ _ f => f.elim)).trans p.kept (fun _ _ q => q), fun j hj => ?_⟩
  rcases p.near j hj with q | q
  · exact .inl q
  · exact .inr (by have := k.size; omega)

set_option maxRecDepth 100000 in
theorem write_1 (B : Nat) (v : Value) (m : List Nat) (n : Int) (b q : Nat) (a : Option Addr) (len cap : Nat) (l : List Nat) (s : ByteArray) (w : World) (hw : IsW w B 0 v m) (n1 : -9223372036854775808 ≤ n) (n2 : n < 9223372036854775808) (_b1 : b < 256) (hq : nn n = q)
    (rd : Reads w a len cap l) (far : 0 < len → ∀ p, a = some p → ¬ wfoot B v p.block) (hs : m.length + (Pk.form q).length ≤ 140737488355328) :
    Calls Try.prog 20 #[.pointer (some ⟨B, 0, none⟩), .agg #[.int .i64 1, .int .i64 n, .int .u8 (b : Int), .slice a len cap, .string s]] w fun x w' => x = .returned (.tuple #[]) ∧ ∃ v', Put w B v w' 0 v' (m ++ (Pk.form q)) := by
  have lq : q < 9223372036854775808 := hq ▸ nn_lt n n1 n2
  have K0 : Hid (Kept (fun _ => False) w (w.alloc (.cells #[.int .i64 1, .int .i64 n, .int .u8 (b : Int), .slice a len cap, .string s] 45))) := (Kept.refl _ w).alloc _
  have W0 : Hid (IsW (w.alloc (.cells #[.int .i64 1, .int .i64 n, .int .u8 (b : Int), .slice a len cap, .string s] 45)) B 0 v m) := hw.kept K0.out (fun f => f) (fun _ _ f => f)
  have R0 : Hid (Reads (w.alloc (.cells #[.int .i64 1, .int .i64 n, .int .u8 (b : Int), .slice a len cap, .string s] 45)) a len cap l) := rd.kept K0.out (fun _ _ f => f)
  have F0 : Hid (0 < len → ∀ p, a = some p → ¬ wfoot B v p.block) := far
  have WH : Hid (IsW w B 0 v m) := hw
  clear hw rd far
  by_cases hn : n < 0
  · have e1 := nn_neg n hn
    rw [hq] at e1
    clear hq
    go_enter Try.func20, Try.ntmps20
    go_wp2_with fail
    refine (wUint B v m q _ W0.out lq hs).mono ?_
    rintro x w1 ⟨rfl, v', P⟩
    have PH : Hid (Put w B v w1 0 v' (m ++ (Pk.form q))) := (WH.out |> fun h => Kept.put h K0.out P)
    clear P
    go_wp2_with fail
    go_end0
    exact ⟨rfl, v', PH.out⟩
  · have e1 := nn_pos n hn
    rw [hq] at e1
    rw [e1] at W0 K0 R0 ⊢
    clear e1 hn n1 n2
    clear hq
    go_enter Try.func20, Try.ntmps20
    go_wp2_with fail
    refine (wUint B v m q _ W0.out lq hs).mono ?_
    rintro x w1 ⟨rfl, v', P⟩
    have PH : Hid (Put w B v w1 0 v' (m ++ (Pk.form q))) := (WH.out |> fun h => Kept.put h K0.out P)
    clear P
    go_wp2_with fail
    go_end0
    exact ⟨rfl, v', PH.out⟩

set_option maxRecDepth 100000 in
theorem write_2 (B : Nat) (v : Value) (m : List Nat) (n : Int) (b q : Nat) (a : Option Addr) (len cap : Nat) (l : List Nat) (s : ByteArray) (w : World) (hw : IsW w B 0 v m) (n1 : -9223372036854775808 ≤ n) (n2 : n < 9223372036854775808) (b1 : b < 256) (hq : nn n = q)
    (rd : Reads w a len cap l) (far : 0 < len → ∀ p, a = some p → ¬ wfoot B v p.block) (hs : m.length + ([b]).length ≤ 140737488355328) :
    Calls Try.prog 20 #[.pointer (some ⟨B, 0, none⟩), .agg #[.int .i64 2, .int .i64 n, .int .u8 (b : Int), .slice a len cap, .string s]] w fun x w' => x = .returned (.tuple #[]) ∧ ∃ v', Put w B v w' 0 v' (m ++ ([b])) := by
  have lq : q < 9223372036854775808 := hq ▸ nn_lt n n1 n2
  have K0 : Hid (Kept (fun _ => False) w (w.alloc (.cells #[.int .i64 2, .int .i64 n, .int .u8 (b : Int), .slice a len cap, .string s] 45))) := (Kept.refl _ w).alloc _
  have W0 : Hid (IsW (w.alloc (.cells #[.int .i64 2, .int .i64 n, .int .u8 (b : Int), .slice a len cap, .string s] 45)) B 0 v m) := hw.kept K0.out (fun f => f) (fun _ _ f => f)
  have R0 : Hid (Reads (w.alloc (.cells #[.int .i64 2, .int .i64 n, .int .u8 (b : Int), .slice a len cap, .string s] 45)) a len cap l) := rd.kept K0.out (fun _ _ f => f)
  have F0 : Hid (0 < len → ∀ p, a = some p → ¬ wfoot B v p.block) := far
  have WH : Hid (IsW w B 0 v m) := hw
  clear hw rd far
  by_cases hn : n < 0
  · have e1 := nn_neg n hn
    rw [hq] at e1
    clear hq
    go_enter Try.func20, Try.ntmps20
    go_wp2_with fail
    refine (wByte B v m b _ W0.out b1 (by simpa using hs)).mono ?_
    rintro x w1 ⟨rfl, v', P⟩
    have PH : Hid (Put w B v w1 0 v' (m ++ ([b]))) := (WH.out |> fun h => Kept.put h K0.out P)
    clear P
    go_wp2_with fail
    go_end0
    exact ⟨rfl, v', PH.out⟩
  · have e1 := nn_pos n hn
    rw [hq] at e1
    rw [e1] at W0 K0 R0 ⊢
    clear e1 hn n1 n2
    clear hq
    go_enter Try.func20, Try.ntmps20
    go_wp2_with fail
    refine (wByte B v m b _ W0.out b1 (by simpa using hs)).mono ?_
    rintro x w1 ⟨rfl, v', P⟩
    have PH : Hid (Put w B v w1 0 v' (m ++ ([b]))) := (WH.out |> fun h => Kept.put h K0.out P)
    clear P
    go_wp2_with fail
    go_end0
    exact ⟨rfl, v', PH.out⟩

set_option maxRecDepth 100000 in
theorem write_3 (B : Nat) (v : Value) (m : List Nat) (n : Int) (b q : Nat) (a : Option Addr) (len cap : Nat) (l : List Nat) (s : ByteArray) (w : World) (hw : IsW w B 0 v m) (n1 : -9223372036854775808 ≤ n) (n2 : n < 9223372036854775808) (b1 : b < 256) (hq : nn n = q)
    (rd : Reads w a len cap l) (far : 0 < len → ∀ p, a = some p → ¬ wfoot B v p.block) (hs : m.length + ([yn (b % 2 == 1)]).length ≤ 140737488355328) :
    Calls Try.prog 20 #[.pointer (some ⟨B, 0, none⟩), .agg #[.int .i64 3, .int .i64 n, .int .u8 (b : Int), .slice a len cap, .string s]] w fun x w' => x = .returned (.tuple #[]) ∧ ∃ v', Put w B v w' 0 v' (m ++ ([yn (b % 2 == 1)])) := by
  have lq : q < 9223372036854775808 := hq ▸ nn_lt n n1 n2
  have K0 : Hid (Kept (fun _ => False) w (w.alloc (.cells #[.int .i64 3, .int .i64 n, .int .u8 (b : Int), .slice a len cap, .string s] 45))) := (Kept.refl _ w).alloc _
  have W0 : Hid (IsW (w.alloc (.cells #[.int .i64 3, .int .i64 n, .int .u8 (b : Int), .slice a len cap, .string s] 45)) B 0 v m) := hw.kept K0.out (fun f => f) (fun _ _ f => f)
  have R0 : Hid (Reads (w.alloc (.cells #[.int .i64 3, .int .i64 n, .int .u8 (b : Int), .slice a len cap, .string s] 45)) a len cap l) := rd.kept K0.out (fun _ _ f => f)
  have F0 : Hid (0 < len → ∀ p, a = some p → ¬ wfoot B v p.block) := far
  have WH : Hid (IsW w B 0 v m) := hw
  clear hw rd far
  by_cases hn : n < 0
  · have e1 := nn_neg n hn
    rw [hq] at e1
    clear hq
    have hbb : (((b : Int) % 2) == 1) = (b % 2 == 1) := by rw [Bool.eq_iff_iff]; simp; omega
    go_enter Try.func20, Try.ntmps20
    go_wp2_with fail
    refine (wBool B v m (b % 2 == 1) _ W0.out (by simpa using hs)).mono ?_
    rintro x w1 ⟨rfl, v', P⟩
    have PH : Hid (Put w B v w1 0 v' (m ++ ([yn (b % 2 == 1)]))) := (WH.out |> fun h => Kept.put h K0.out P)
    clear P
    go_wp2_with fail
    go_end0
    exact ⟨rfl, v', PH.out⟩
  · have e1 := nn_pos n hn
    rw [hq] at e1
    rw [e1] at W0 K0 R0 ⊢
    clear e1 hn n1 n2
    clear hq
    have hbb : (((b : Int) % 2) == 1) = (b % 2 == 1) := by rw [Bool.eq_iff_iff]; simp; omega
    go_enter Try.func20, Try.ntmps20
    go_wp2_with fail
    refine (wBool B v m (b % 2 == 1) _ W0.out (by simpa using hs)).mono ?_
    rintro x w1 ⟨rfl, v', P⟩
    have PH : Hid (Put w B v w1 0 v' (m ++ ([yn (b % 2 == 1)]))) := (WH.out |> fun h => Kept.put h K0.out P)
    clear P
    go_wp2_with fail
    go_end0
    exact ⟨rfl, v', PH.out⟩

set_option maxRecDepth 100000 in
theorem write_4 (B : Nat) (v : Value) (m : List Nat) (n : Int) (b q : Nat) (a : Option Addr) (len cap : Nat) (l : List Nat) (s : ByteArray) (w : World) (hw : IsW w B 0 v m) (n1 : -9223372036854775808 ≤ n) (n2 : n < 9223372036854775808) (_b1 : b < 256) (hq : nn n = q)
    (rd : Reads w a len cap l) (far : 0 < len → ∀ p, a = some p → ¬ wfoot B v p.block) (hs : m.length + (Pk.form len ++ l).length ≤ 140737488355328) :
    Calls Try.prog 20 #[.pointer (some ⟨B, 0, none⟩), .agg #[.int .i64 4, .int .i64 n, .int .u8 (b : Int), .slice a len cap, .string s]] w fun x w' => x = .returned (.tuple #[]) ∧ ∃ v', Put w B v w' 0 v' (m ++ (Pk.form len ++ l)) := by
  have lq : q < 9223372036854775808 := hq ▸ nn_lt n n1 n2
  have K0 : Hid (Kept (fun _ => False) w (w.alloc (.cells #[.int .i64 4, .int .i64 n, .int .u8 (b : Int), .slice a len cap, .string s] 45))) := (Kept.refl _ w).alloc _
  have W0 : Hid (IsW (w.alloc (.cells #[.int .i64 4, .int .i64 n, .int .u8 (b : Int), .slice a len cap, .string s] 45)) B 0 v m) := hw.kept K0.out (fun f => f) (fun _ _ f => f)
  have R0 : Hid (Reads (w.alloc (.cells #[.int .i64 4, .int .i64 n, .int .u8 (b : Int), .slice a len cap, .string s] 45)) a len cap l) := rd.kept K0.out (fun _ _ f => f)
  have F0 : Hid (0 < len → ∀ p, a = some p → ¬ wfoot B v p.block) := far
  have WH : Hid (IsW w B 0 v m) := hw
  clear hw rd far
  by_cases hn : n < 0
  · have e1 := nn_neg n hn
    rw [hq] at e1
    clear hq
    go_enter Try.func20, Try.ntmps20
    go_wp2_with fail
    refine (wBytes B v m a len cap l _ W0.out R0.out F0.out (by rw [List.length_append, R0.out.length] at hs; omega)).mono ?_
    rintro x w1 ⟨rfl, v', P⟩
    have PH : Hid (Put w B v w1 0 v' (m ++ (Pk.form len ++ l))) := by rw [← List.append_assoc]; exact Kept.put WH.out K0.out P
    clear P
    go_wp2_with fail
    go_end0
    exact ⟨rfl, v', PH.out⟩
  · have e1 := nn_pos n hn
    rw [hq] at e1
    rw [e1] at W0 K0 R0 ⊢
    clear e1 hn n1 n2
    clear hq
    go_enter Try.func20, Try.ntmps20
    go_wp2_with fail
    refine (wBytes B v m a len cap l _ W0.out R0.out F0.out (by rw [List.length_append, R0.out.length] at hs; omega)).mono ?_
    rintro x w1 ⟨rfl, v', P⟩
    have PH : Hid (Put w B v w1 0 v' (m ++ (Pk.form len ++ l))) := by rw [← List.append_assoc]; exact Kept.put WH.out K0.out P
    clear P
    go_wp2_with fail
    go_end0
    exact ⟨rfl, v', PH.out⟩

set_option maxRecDepth 100000 in
theorem write_5 (B : Nat) (v : Value) (m : List Nat) (n : Int) (b q : Nat) (a : Option Addr) (len cap : Nat) (l : List Nat) (s : ByteArray) (w : World) (hw : IsW w B 0 v m) (n1 : -9223372036854775808 ≤ n) (n2 : n < 9223372036854775808) (_b1 : b < 256) (hq : nn n = q)
    (rd : Reads w a len cap l) (far : 0 < len → ∀ p, a = some p → ¬ wfoot B v p.block) (hs : m.length + (Pk.form s.size ++ sb s).length ≤ 140737488355328) :
    Calls Try.prog 20 #[.pointer (some ⟨B, 0, none⟩), .agg #[.int .i64 5, .int .i64 n, .int .u8 (b : Int), .slice a len cap, .string s]] w fun x w' => x = .returned (.tuple #[]) ∧ ∃ v', Put w B v w' 0 v' (m ++ (Pk.form s.size ++ sb s)) := by
  have lq : q < 9223372036854775808 := hq ▸ nn_lt n n1 n2
  have K0 : Hid (Kept (fun _ => False) w (w.alloc (.cells #[.int .i64 5, .int .i64 n, .int .u8 (b : Int), .slice a len cap, .string s] 45))) := (Kept.refl _ w).alloc _
  have W0 : Hid (IsW (w.alloc (.cells #[.int .i64 5, .int .i64 n, .int .u8 (b : Int), .slice a len cap, .string s] 45)) B 0 v m) := hw.kept K0.out (fun f => f) (fun _ _ f => f)
  have R0 : Hid (Reads (w.alloc (.cells #[.int .i64 5, .int .i64 n, .int .u8 (b : Int), .slice a len cap, .string s] 45)) a len cap l) := rd.kept K0.out (fun _ _ f => f)
  have F0 : Hid (0 < len → ∀ p, a = some p → ¬ wfoot B v p.block) := far
  have WH : Hid (IsW w B 0 v m) := hw
  clear hw rd far
  by_cases hn : n < 0
  · have e1 := nn_neg n hn
    rw [hq] at e1
    clear hq
    go_enter Try.func20, Try.ntmps20
    go_wp2_with fail
    refine (wText B v m s _ W0.out (by rw [List.length_append, sb_length] at hs; omega)).mono ?_
    rintro x w1 ⟨rfl, v', P⟩
    have PH : Hid (Put w B v w1 0 v' (m ++ (Pk.form s.size ++ sb s))) := by rw [← List.append_assoc]; exact Kept.put WH.out K0.out P
    clear P
    go_wp2_with fail
    go_end0
    exact ⟨rfl, v', PH.out⟩
  · have e1 := nn_pos n hn
    rw [hq] at e1
    rw [e1] at W0 K0 R0 ⊢
    clear e1 hn n1 n2
    clear hq
    go_enter Try.func20, Try.ntmps20
    go_wp2_with fail
    refine (wText B v m s _ W0.out (by rw [List.length_append, sb_length] at hs; omega)).mono ?_
    rintro x w1 ⟨rfl, v', P⟩
    have PH : Hid (Put w B v w1 0 v' (m ++ (Pk.form s.size ++ sb s))) := by rw [← List.append_assoc]; exact Kept.put WH.out K0.out P
    clear P
    go_wp2_with fail
    go_end0
    exact ⟨rfl, v', PH.out⟩

set_option maxRecDepth 100000 in
theorem write_0 (B : Nat) (v : Value) (m : List Nat) (kind : Int) (n : Int) (b q : Nat) (a : Option Addr) (len cap : Nat) (l : List Nat) (s : ByteArray) (w : World) (hw : IsW w B 0 v m) (n1 : -9223372036854775808 ≤ n) (n2 : n < 9223372036854775808) (_b1 : b < 256) (hq : nn n = q)
    (rd : Reads w a len cap l) (far : 0 < len → ∀ p, a = some p → ¬ wfoot B v p.block) (_hs : m.length + (([] : List Nat)).length ≤ 140737488355328) (h1 : kind ≠ 1) (h2 : kind ≠ 2) (h3 : kind ≠ 3) (h4 : kind ≠ 4) (h5 : kind ≠ 5) :
    Calls Try.prog 20 #[.pointer (some ⟨B, 0, none⟩), .agg #[.int .i64 kind, .int .i64 n, .int .u8 (b : Int), .slice a len cap, .string s]] w fun x w' => x = .returned (.tuple #[]) ∧ ∃ v', Put w B v w' 0 v' (m ++ (([] : List Nat))) := by
  have lq : q < 9223372036854775808 := hq ▸ nn_lt n n1 n2
  have K0 : Hid (Kept (fun _ => False) w (w.alloc (.cells #[.int .i64 kind, .int .i64 n, .int .u8 (b : Int), .slice a len cap, .string s] 45))) := (Kept.refl _ w).alloc _
  have W0 : Hid (IsW (w.alloc (.cells #[.int .i64 kind, .int .i64 n, .int .u8 (b : Int), .slice a len cap, .string s] 45)) B 0 v m) := hw.kept K0.out (fun f => f) (fun _ _ f => f)
  have R0 : Hid (Reads (w.alloc (.cells #[.int .i64 kind, .int .i64 n, .int .u8 (b : Int), .slice a len cap, .string s] 45)) a len cap l) := rd.kept K0.out (fun _ _ f => f)
  have F0 : Hid (0 < len → ∀ p, a = some p → ¬ wfoot B v p.block) := far
  have WH : Hid (IsW w B 0 v m) := hw
  clear hw rd far
  have g1 : (kind == 1) = false := by simpa using h1
  have g2 : (kind == 2) = false := by simpa using h2
  have g3 : (kind == 3) = false := by simpa using h3
  have g4 : (kind == 4) = false := by simpa using h4
  have g5 : (kind == 5) = false := by simpa using h5
  by_cases hn : n < 0
  · have e1 := nn_neg n hn
    rw [hq] at e1
    clear hq
    go_enter Try.func20, Try.ntmps20
    go_wp2_with fail
    go_end0
    exact ⟨rfl, v, by rw [List.append_nil]; exact Kept.put WH.out K0.out (Put.refl W0.out)⟩
  · have e1 := nn_pos n hn
    rw [hq] at e1
    rw [e1] at W0 K0 R0 ⊢
    clear e1 hn n1 n2
    clear hq
    go_enter Try.func20, Try.ntmps20
    go_wp2_with fail
    go_end0
    exact ⟨rfl, v, by rw [List.append_nil]; exact Kept.put WH.out K0.out (Put.refl W0.out)⟩

theorem write_any (B : Nat) (v : Value) (m : List Nat) (o : Opv) (w : World) (hw : IsW w B 0 v m) (ok : o.Ok w) (far : o.far B v) (hs : m.length + o.form.length ≤ 140737488355328) :
    Calls Try.prog 20 #[.pointer (some ⟨B, 0, none⟩), o.val] w fun x w' => x = .returned (.tuple #[]) ∧ ∃ v', Put w B v w' 0 v' (m ++ o.form) := by
  obtain ⟨kind, n, b, a, len, cap, l, s⟩ := o
  by_cases h1 : kind = 1
  · subst h1; exact write_1 B v m n b _ a len cap l s w hw ok.n1 ok.n2 ok.b1 rfl ok.rd far hs
  by_cases h2 : kind = 2
  · subst h2; exact write_2 B v m n b _ a len cap l s w hw ok.n1 ok.n2 ok.b1 rfl ok.rd far hs
  by_cases h3 : kind = 3
  · subst h3; exact write_3 B v m n b _ a len cap l s w hw ok.n1 ok.n2 ok.b1 rfl ok.rd far hs
  by_cases h4 : kind = 4
  · subst h4; exact write_4 B v m n b _ a len cap l s w hw ok.n1 ok.n2 ok.b1 rfl ok.rd far hs
  by_cases h5 : kind = 5
  · subst h5; exact write_5 B v m n b _ a len cap l s w hw ok.n1 ok.n2 ok.b1 rfl ok.rd far hs
  have e : Opv.form ⟨kind, n, b, a, len, cap, l, s⟩ = [] := by
    unfold Opv.form
    rw [if_neg h1, if_neg h2, if_neg h3, if_neg h4, if_neg h5]
  rw [e] at hs ⊢
  exact write_0 B v m kind n b _ a len cap l s w hw ok.n1 ok.n2 ok.b1 rfl ok.rd far hs h1 h2 h3 h4 h5
end Go.Proofs.Ytgfglbbfoadiaaa
