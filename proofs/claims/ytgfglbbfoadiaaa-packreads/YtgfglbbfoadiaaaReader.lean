import Derived.Test.YtgfglbbfoadiaaaNumber
namespace Go.Proofs.Ytgfglbbfoadiaaa
open Go.RowKit

/-- A reader: its first error, what is left (in block D), how many were taken. -/
structure IsR (w : World) (R : Nat) (D : Option Nat) (e : Int) (k : Nat) (l : List Nat) : Prop where
  ex : ∃ a cap, w.heap[R]? = some (.cells #[.int .i64 e, .slice a l.length cap, .int .i64 (k : Int)] 71 (0, 0)) ∧ Reads w a l.length cap l ∧ ∀ p, a = some p → D = some p.block
  ne : D ≠ some R
  fit : k + l.length ≤ maxLen
  quiet : e ≠ 0 → l = []
theorem IsR.bytes {w : World} {R : Nat} {D : Option Nat} {e : Int} {k : Nat} {l : List Nat} (h : IsR w R D e k l) : ∀ c ∈ l, c < 256 := by
  obtain ⟨_, _, _, r, _⟩ := h.ex; exact r.bytes
theorem IsR.lt {w : World} {R : Nat} {D : Option Nat} {e : Int} {k : Nat} {l : List Nat} (h : IsR w R D e k l) : R < w.heap.size := by
  obtain ⟨_, _, b, _⟩ := h.ex; exact block_lt b
theorem IsR.kept {S : Nat → Prop} {w w' : World} {R : Nat} {D : Option Nat} {e : Int} {k : Nat} {l : List Nat} (h : IsR w R D e k l) (q : Kept S w w') (h1 : ¬ S R) (h2 : ∀ j, D = some j → ¬ S j) : IsR w' R D e k l := by
  obtain ⟨a, cap, b, r, hd⟩ := h.ex
  exact ⟨⟨a, cap, q.get b h1, r.kept q (fun p hp => h2 _ (hd p hp)), hd⟩, h.ne, h.fit, h.quiet⟩
structure Took (w : World) (R : Nat) (D : Option Nat) (w' : World) (e : Int) (k : Nat) (l : List Nat) : Prop where
  isR : IsR w' R D e k l
  kept : Kept (fun j => j = R) w w'
/-- The first error stays. -/
def first (e x : Int) : Int := if e = 0 then x else e
theorem first_zero (x : Int) : first 0 x = x := rfl
theorem first_ne (e x : Int) (h : e ≠ 0) : first e x = e := if_neg h

theorem ahead_any (R : Nat) (e : Int) (s t : Value) (w : World) (h : w.heap[R]? = some (.cells #[.int .i64 e, s, t] 71 (0, 0))) (a : Option Addr) (len cap : Nat) (hs : s = .slice a len cap) :
    Calls Try.prog 43 #[.pointer (some ⟨R, 0, none⟩)] w fun x w' => x = .returned (.slice a len cap) ∧ w' = w := by
  subst hs
  have c1 := cell_blk h 1 (v := .slice a len cap) rfl
  clear h
  go_enter Try.func43, Try.ntmps43
  go_wp2_with fail
  go_ret
  exact ⟨rfl, rfl⟩
theorem ahead_nil (w : World) : Calls Try.prog 43 #[.pointer none] w fun x w' => x = .returned (.slice none 0 0) ∧ w' = w := by
  go_enter Try.func43, Try.ntmps43
  go_wp2_with fail
  go_ret
  exact ⟨rfl, rfl⟩
theorem fail_nil (x : Int) (w : World) : Calls Try.prog 44 #[.pointer none, .int .i64 x] w fun y w' => y = .returned (.tuple #[]) ∧ w' = w := by
  go_enter Try.func44, Try.ntmps44
  go_wp2_with fail
  first | go_end0 | refine bodyPost_ret (results_none rfl _ _ _) rfl ?_
  exact ⟨rfl, rfl⟩
set_option maxRecDepth 100000 in
theorem fail_any (R : Nat) (D : Option Nat) (e x : Int) (k : Nat) (l : List Nat) (w : World) (h : IsR w R D e k l) : Calls Try.prog 44 #[.pointer (some ⟨R, 0, none⟩), .int .i64 x] w fun y w' => y = .returned (.tuple #[]) ∧ Took w R D w' (first e x) k [] := by
  obtain ⟨a, cap, b, r, hd⟩ := h.ex
  have fit : k + 0 ≤ maxLen := by have := h.fit; omega
  have ne := h.ne
  clear h r hd
  have BH : Hid (w.heap[R]? = some (.cells #[.int .i64 e, .slice a l.length cap, .int .i64 (k : Int)] 71 (0, 0))) := b
  by_cases he : e = 0
  · subst he
    have b1 := heap_set b 0 (.int .i64 x)
    have c1 := cell_blk b1 1 (v := .slice a l.length cap) rfl
    have z1 := soft_blk b1 1
    clear b b1
    go_enter Try.func44, Try.ntmps44
    go_wp2_with fail
    refine (note_first R x w (cell_blk BH.out 0 rfl) (soft_blk BH.out 0)).mono ?_
    rintro y w1 ⟨rfl, rfl⟩
    go_wp2_with fail
    go_end0
    refine ⟨rfl, ⟨⟨none, 0, heap_set (heap_set BH.out 0 _) 1 _, Reads.nil _, fun p q => by cases q⟩, ne, fit, fun _ => rfl⟩, ?_⟩
    exact ((Kept.refl (fun j => j = R) w).setCell (p := ⟨R, 0, none⟩) (fun _ => rfl) _).setCell (p := ⟨R, 1, none⟩) (fun _ => rfl) _
  · have c1 := cell_blk b 1 (v := .slice a l.length cap) rfl
    have z1 := soft_blk b 1
    clear b
    go_enter Try.func44, Try.ntmps44
    go_wp2_with fail
    refine (note_later R e x w he (cell_blk BH.out 0 rfl)).mono ?_
    rintro y w1 ⟨rfl, rfl⟩
    go_wp2_with fail
    go_end0
    rw [first_ne e x he]
    refine ⟨rfl, ⟨⟨none, 0, heap_set BH.out 1 _, Reads.nil _, fun p q => by cases q⟩, ne, fit, fun _ => rfl⟩, ?_⟩
    exact (Kept.refl (fun j => j = R) w1).setCell (p := ⟨R, 1, none⟩) (fun _ => rfl) _

theorem took_of {w : World} {R : Nat} {D : Option Nat} {e : Int} {k c : Nat} {l : List Nat} {a a2 : Option Addr} {cap cap2 : Nat} (h : IsR w R D e k l) (hb : w.heap[R]? = some (.cells #[.int .i64 e, .slice a l.length cap, .int .i64 (k : Int)] 71 (0, 0)))
    (hc : c ≤ l.length) (r2 : Reads w a2 (l.length - c) cap2 (l.drop c)) (hd : ∀ p, a2 = some p → D = some p.block) :
    Took w R D ((w.setCell ⟨R, 1, none⟩ (.slice a2 (l.length - c) cap2)).setCell ⟨R, 2, none⟩ (.int .i64 ((k : Int) + (c : Int)))) e (k + c) (l.drop c) := by
  have kp : Kept (fun j => j = R) w ((w.setCell ⟨R, 1, none⟩ (.slice a2 (l.length - c) cap2)).setCell ⟨R, 2, none⟩ (.int .i64 ((k : Int) + (c : Int)))) :=
    ((Kept.refl (fun j => j = R) w).setCell (p := ⟨R, 1, none⟩) (fun _ => rfl) _).setCell (p := ⟨R, 2, none⟩) (fun _ => rfl) _
  have hl : (l.drop c).length = l.length - c := List.length_drop
  have hf := h.fit
  refine ⟨⟨⟨a2, cap2, ?_, ?_, hd⟩, h.ne, by omega, fun q => by rw [h.quiet q]; simp⟩, kp⟩
  · rw [hl]
    have := heap_set (heap_set hb 1 (.slice a2 (l.length - c) cap2)) 2 (.int .i64 ((k : Int) + (c : Int)))
    rw [this]
    rfl
  · rw [hl]
    exact r2.kept kp (fun p hp q => h.ne (by rw [hd p hp, q]))
set_option maxRecDepth 100000 in
theorem take_any (R : Nat) (D : Option Nat) (e : Int) (k c : Nat) (l : List Nat) (w : World) (h : IsR w R D e k l) (h0 : 0 < c) (hc : c ≤ l.length) :
    Calls Try.prog 45 #[.pointer (some ⟨R, 0, none⟩), .int .i64 (c : Int)] w fun x w' => ∃ b off cap, x = .returned (.slice (some ⟨b, off, none⟩) c cap) ∧ Reads w' (some ⟨b, off, none⟩) c cap (l.take c) ∧ D = some b ∧ Took w R D w' e (k + c) (l.drop c) := by
  obtain ⟨a, cap, hb, r, hd⟩ := h.ex
  obtain ⟨b, off, rfl, _⟩ := r.cells (by omega)
  have HH : Hid (IsR w R D e k l) := h
  have BH : Hid (w.heap[R]? = some (.cells #[.int .i64 e, .slice (some ⟨b, off, none⟩) l.length cap, .int .i64 (k : Int)] 71 (0, 0))) := hb
  have RH : Hid (Reads w (some ⟨b, off, none⟩) l.length cap l) := r
  have DH : Hid (D = some b) := hd _ rfl
  obtain ⟨len, hlen⟩ : ∃ n, l.length = n := ⟨_, rfl⟩
  have LH : Hid (l.length = len) := hlen
  have c1 := cell_blk hb 1 (v := .slice (some ⟨b, off, none⟩) l.length cap) rfl
  have z1 := soft_blk hb 1
  have z2 := soft_blk hb 2
  have c2 := cell_blk hb 2 (v := .int .i64 (k : Int)) rfl
  have hf := h.fit
  have hr := r.room
  unfold maxLen at hf
  rw [hlen] at c1 hc hf hr
  clear h hb r hd hlen
  go_enter Try.func45, Try.ntmps45
  go_wp2_with fail
  · have hcc : cap = c := by assumption
    go_ret
    have e1 : len - c = 0 := by omega
    have hl := LH.out
    refine ⟨b, off, c, rfl, ?_, DH.out, ?_⟩
    · have t := took_of (a2 := some ⟨b, off, none⟩) (cap2 := 0) HH.out BH.out (c := c) (by omega) ⟨by simp, by omega, by unfold maxLen; omega, fun d hd => RH.out.bytes d (List.mem_of_mem_drop hd), fun q => by omega⟩ (fun p q => by cases q; exact DH.out)
      have r2 := RH.out.take c (by omega)
      rw [hcc] at r2
      rw [hl] at t
      exact r2.kept t.kept (fun p hp q => HH.out.ne (by cases hp; rw [DH.out, ← q]))
    · have t := took_of (a2 := some ⟨b, off, none⟩) (cap2 := 0) HH.out BH.out (c := c) (by omega) ⟨by simp, by omega, by unfold maxLen; omega, fun d hd => RH.out.bytes d (List.mem_of_mem_drop hd), fun q => by omega⟩ (fun p q => by cases q; exact DH.out)
      rw [hl] at t
      exact t
  · go_ret
    have hl := LH.out
    have t := took_of (c := c) HH.out BH.out (by omega) (RH.out.drop c (by omega)) (fun p q => by cases q; exact DH.out)
    rw [hl] at t
    exact ⟨b, off, cap, rfl, (RH.out.take c (by omega)).kept t.kept (fun p hp q => HH.out.ne (by cases hp; rw [DH.out, ← q])), DH.out, t⟩

theorem rErr (R : Nat) (D : Option Nat) (e : Int) (k : Nat) (l : List Nat) (w : World) (h : IsR w R D e k l) : Calls Try.prog 14 #[.pointer (some ⟨R, 0, none⟩)] w fun x w' => x = .returned (.int .i64 e) ∧ w' = w := by
  obtain ⟨a, cap, hb, r, hd⟩ := h.ex
  have c0 := cell_blk hb 0 (v := .int .i64 e) rfl
  clear h hb r hd
  go_enter Try.func14, Try.ntmps14
  go_wp2_with fail
  go_ret
  exact ⟨rfl, rfl⟩
theorem rErr_nil (w : World) : Calls Try.prog 14 #[.pointer none] w fun x w' => x = .returned (.int .i64 0) ∧ w' = w := by
  go_enter Try.func14, Try.ntmps14
  go_wp2_with fail
  go_ret
  exact ⟨rfl, rfl⟩
theorem rAt (R : Nat) (D : Option Nat) (e : Int) (k : Nat) (l : List Nat) (w : World) (h : IsR w R D e k l) : Calls Try.prog 15 #[.pointer (some ⟨R, 0, none⟩)] w fun x w' => x = .returned (.int .i64 (k : Int)) ∧ w' = w := by
  obtain ⟨a, cap, hb, r, hd⟩ := h.ex
  have c0 := cell_blk hb 2 (v := .int .i64 (k : Int)) rfl
  clear h hb r hd
  go_enter Try.func15, Try.ntmps15
  go_wp2_with fail
  go_ret
  exact ⟨rfl, rfl⟩
theorem rAt_nil (w : World) : Calls Try.prog 15 #[.pointer none] w fun x w' => x = .returned (.int .i64 0) ∧ w' = w := by
  go_enter Try.func15, Try.ntmps15
  go_wp2_with fail
  go_ret
  exact ⟨rfl, rfl⟩

set_option maxRecDepth 100000 in
theorem rUint_ok (R : Nat) (D : Option Nat) (e most : Int) (k n s : Nat) (l : List Nat) (w : World) (h : IsR w R D e k l) (hv : Pk.parse most l = (n, s, 0)) :
    Calls Try.prog 19 #[.pointer (some ⟨R, 0, none⟩), .int .i64 most] w fun x w' => x = .returned (.int .i64 (n : Int)) ∧ Took w R D w' e (k + s) (l.drop s) := by
  have P := Pk.parse_ok h.bytes hv
  have PH : Hid (s ≤ l.length ∧ 0 < s) := ⟨P.2.1, P.2.2.2.2.2.1⟩
  have HH : Hid (IsR w R D e k l) := h
  obtain ⟨a, cap, hb, r, hd⟩ := h.ex
  have BH : Hid (w.heap[R]? = some (.cells #[.int .i64 e, .slice a l.length cap, .int .i64 (k : Int)] 71 (0, 0))) := hb
  have RH : Hid (Reads w a l.length cap l) := r
  have VH : Hid (Pk.parse most l = (n, s, 0)) := hv
  clear P h hb r hd hv
  go_enter Try.func19, Try.ntmps19
  go_wp2_with fail
  refine (ahead_any R e _ _ w BH.out a l.length cap rfl).mono ?_
  rintro x w1 ⟨rfl, rfl⟩
  go_wp2_with fail
  refine (numberOf_any a l.length cap most l w1 n s 0 RH.out VH.out).mono ?_
  rintro x w2 ⟨rfl, rfl⟩
  go_wp2_with fail
  refine (take_any R D e k s l w2 HH.out PH.out.2 PH.out.1).mono ?_
  rintro x w3 ⟨b, off, c, rfl, _, _, T⟩
  go_wp2_with fail
  go_ret
  exact ⟨rfl, T⟩
set_option maxRecDepth 100000 in
theorem rUint_bad (R : Nat) (D : Option Nat) (e most x : Int) (k n s : Nat) (l : List Nat) (w : World) (h : IsR w R D e k l) (hv : Pk.parse most l = (n, s, x)) (hx : x ≠ 0) :
    Calls Try.prog 19 #[.pointer (some ⟨R, 0, none⟩), .int .i64 most] w fun y w' => y = .returned (.int .i64 0) ∧ Took w R D w' (first e x) k [] := by
  have HH : Hid (IsR w R D e k l) := h
  obtain ⟨a, cap, hb, r, hd⟩ := h.ex
  have BH : Hid (w.heap[R]? = some (.cells #[.int .i64 e, .slice a l.length cap, .int .i64 (k : Int)] 71 (0, 0))) := hb
  have RH : Hid (Reads w a l.length cap l) := r
  have VH : Hid (Pk.parse most l = (n, s, x)) := hv
  clear h hb r hd hv
  go_enter Try.func19, Try.ntmps19
  go_wp2_with fail
  refine (ahead_any R e _ _ w BH.out a l.length cap rfl).mono ?_
  rintro y w1 ⟨rfl, rfl⟩
  go_wp2_with fail
  refine (numberOf_any a l.length cap most l w1 n s x RH.out VH.out).mono ?_
  rintro y w2 ⟨rfl, rfl⟩
  have hx' : (x != 0) = true := by simpa using hx
  go_wp2_with fail
  refine (fail_any R D e x k l w2 HH.out).mono ?_
  rintro y w3 ⟨rfl, T⟩
  go_wp2_with fail
  go_ret
  exact ⟨rfl, T⟩
theorem rUint_nil (most : Int) (w : World) : Calls Try.prog 19 #[.pointer none, .int .i64 most] w fun y w' => y = .returned (.int .i64 0) ∧ w' = w := by
  go_enter Try.func19, Try.ntmps19
  go_wp2_with fail
  refine (ahead_nil w).mono ?_
  rintro y w1 ⟨rfl, rfl⟩
  go_wp2_with fail
  refine (numberOf_empty none 0 most w1).mono ?_
  rintro y w2 ⟨rfl, rfl⟩
  go_wp2_with fail
  refine (fail_nil 30 w2).mono ?_
  rintro y w3 ⟨rfl, rfl⟩
  go_wp2_with fail
  go_ret
  exact ⟨rfl, rfl⟩

set_option maxRecDepth 100000 in
theorem rByte_ok (R : Nat) (D : Option Nat) (e : Int) (k c : Nat) (l : List Nat) (w : World) (h : IsR w R D e k (c :: l)) :
    Calls Try.prog 18 #[.pointer (some ⟨R, 0, none⟩)] w fun x w' => x = .returned (.int .u8 (c : Int)) ∧ Took w R D w' e (k + 1) l := by
  have HH : Hid (IsR w R D e k (c :: l)) := h
  obtain ⟨a, cap, hb, r, hd⟩ := h.ex
  have BH : Hid (w.heap[R]? = some (.cells #[.int .i64 e, .slice a (c :: l).length cap, .int .i64 (k : Int)] 71 (0, 0))) := hb
  clear h hb r hd
  obtain ⟨m, hm⟩ : ∃ m, (c :: l).length = m + 1 := ⟨l.length, rfl⟩
  rw [hm] at BH
  go_enter Try.func18, Try.ntmps18
  go_wp2_with fail
  refine (ahead_any R e _ _ w BH.out a (m + 1) cap rfl).mono ?_
  rintro y w1 ⟨rfl, rfl⟩
  have h1 : ((m + 1 : Nat) : Int) ≠ 0 := by omega
  clear hm
  go_wp2_with fail
  refine (take_any R D e k 1 (c :: l) w1 HH.out (by omega) (by simp)).mono ?_
  rintro y w2 ⟨b, off, c2, rfl, r2, _, T⟩
  have TH : Hid (Took w1 R D w2 e (k + 1) l) := T
  obtain ⟨b', off', eb, hc⟩ := r2.cells (by omega)
  simp at eb
  obtain ⟨rfl, rfl⟩ := eb
  have c0 := hc 0 (by omega)
  simp at c0
  clear hc r2 T
  go_wp2_with fail
  go_ret
  exact ⟨rfl, TH.out⟩
set_option maxRecDepth 100000 in
theorem rByte_bad (R : Nat) (D : Option Nat) (e : Int) (k : Nat) (w : World) (h : IsR w R D e k []) :
    Calls Try.prog 18 #[.pointer (some ⟨R, 0, none⟩)] w fun y w' => y = .returned (.int .u8 0) ∧ Took w R D w' (first e 30) k [] := by
  have HH : Hid (IsR w R D e k []) := h
  obtain ⟨a, cap, hb, r, hd⟩ := h.ex
  have BH : Hid (w.heap[R]? = some (.cells #[.int .i64 e, .slice a 0 cap, .int .i64 (k : Int)] 71 (0, 0))) := hb
  clear h hb r hd
  go_enter Try.func18, Try.ntmps18
  go_wp2_with fail
  refine (ahead_any R e _ _ w BH.out a 0 cap rfl).mono ?_
  rintro y w1 ⟨rfl, rfl⟩
  go_wp2_with fail
  refine (fail_any R D e 30 k [] w1 HH.out).mono ?_
  rintro y w3 ⟨rfl, T⟩
  go_wp2_with fail
  go_ret
  exact ⟨rfl, T⟩
theorem rByte_nil (w : World) : Calls Try.prog 18 #[.pointer none] w fun y w' => y = .returned (.int .u8 0) ∧ w' = w := by
  go_enter Try.func18, Try.ntmps18
  go_wp2_with fail
  refine (ahead_nil w).mono ?_
  rintro y w1 ⟨rfl, rfl⟩
  go_wp2_with fail
  refine (fail_nil 30 w1).mono ?_
  rintro y w3 ⟨rfl, rfl⟩
  go_wp2_with fail
  go_ret
  exact ⟨rfl, rfl⟩

set_option maxRecDepth 100000 in
theorem rBool_ok (R : Nat) (D : Option Nat) (e : Int) (k : Nat) (b : Bool) (l : List Nat) (w : World) (h : IsR w R D e k (yn b :: l)) :
    Calls Try.prog 37 #[.pointer (some ⟨R, 0, none⟩)] w fun x w' => x = .returned (.bool b) ∧ Took w R D w' e (k + 1) l := by
  have HH : Hid (IsR w R D e k (yn b :: l)) := h
  obtain ⟨a, cap, hb, r, hd⟩ := h.ex
  have BH : Hid (w.heap[R]? = some (.cells #[.int .i64 e, .slice a (yn b :: l).length cap, .int .i64 (k : Int)] 71 (0, 0))) := hb
  obtain ⟨bb, off, rfl, hc⟩ := r.cells (by simp)
  have c0 := hc 0 (by simp)
  simp at c0
  clear h hb r hd hc
  obtain ⟨m, hm⟩ : ∃ m, (yn b :: l).length = m + 1 := ⟨l.length, rfl⟩
  rw [hm] at BH
  have h1 : (0 : Int) < ((m + 1 : Nat) : Int) := by omega
  clear hm
  cases b
  · have c0 : w.cell? ⟨bb, off, none⟩ = some (.int .u8 0) := c0
    go_enter Try.func37, Try.ntmps37
    go_wp2_with fail
    refine (ahead_any R e _ _ w BH.out _ (m + 1) cap rfl).mono ?_
    rintro y w1 ⟨rfl, rfl⟩
    go_wp2_with fail
    refine (rByte_ok R D e k 0 l w1 HH.out).mono ?_
    rintro y w2 ⟨rfl, T⟩
    go_wp2_with fail
    go_ret
    exact ⟨rfl, T⟩
  · have c0 : w.cell? ⟨bb, off, none⟩ = some (.int .u8 1) := c0
    go_enter Try.func37, Try.ntmps37
    go_wp2_with fail
    refine (ahead_any R e _ _ w BH.out _ (m + 1) cap rfl).mono ?_
    rintro y w1 ⟨rfl, rfl⟩
    go_wp2_with fail
    refine (rByte_ok R D e k 1 l w1 HH.out).mono ?_
    rintro y w2 ⟨rfl, T⟩
    go_wp2_with fail
    go_ret
    exact ⟨rfl, T⟩
set_option maxRecDepth 100000 in
theorem rBool_form (R : Nat) (D : Option Nat) (e : Int) (k c : Nat) (l : List Nat) (w : World) (h : IsR w R D e k (c :: l)) (hc2 : 1 < c) :
    Calls Try.prog 37 #[.pointer (some ⟨R, 0, none⟩)] w fun x w' => x = .returned (.bool false) ∧ Took w R D w' (first e 31) k [] := by
  have HH : Hid (IsR w R D e k (c :: l)) := h
  obtain ⟨a, cap, hb, r, hd⟩ := h.ex
  have BH : Hid (w.heap[R]? = some (.cells #[.int .i64 e, .slice a (c :: l).length cap, .int .i64 (k : Int)] 71 (0, 0))) := hb
  obtain ⟨bb, off, rfl, hc⟩ := r.cells (by simp)
  have c0 := hc 0 (by simp)
  simp at c0
  clear h hb r hd hc
  obtain ⟨m, hm⟩ : ∃ m, (c :: l).length = m + 1 := ⟨l.length, rfl⟩
  rw [hm] at BH
  have h1 : (0 : Int) < ((m + 1 : Nat) : Int) := by omega
  have h2 : ((c : Int) != 1) = true := by simp; omega
  have h3 : ((c : Int) != 0) = true := by simp; omega
  clear hm
  go_enter Try.func37, Try.ntmps37
  go_wp2_with fail
  refine (ahead_any R e _ _ w BH.out _ (m + 1) cap rfl).mono ?_
  rintro y w1 ⟨rfl, rfl⟩
  go_wp2_with fail
  refine (fail_any R D e 31 k _ w1 HH.out).mono ?_
  rintro y w2 ⟨rfl, T⟩
  go_wp2_with fail
  go_ret
  exact ⟨rfl, T⟩
set_option maxRecDepth 100000 in
theorem rBool_bad (R : Nat) (D : Option Nat) (e : Int) (k : Nat) (w : World) (h : IsR w R D e k []) :
    Calls Try.prog 37 #[.pointer (some ⟨R, 0, none⟩)] w fun x w' => x = .returned (.bool false) ∧ Took w R D w' (first e 30) k [] := by
  have HH : Hid (IsR w R D e k []) := h
  obtain ⟨a, cap, hb, r, hd⟩ := h.ex
  have BH : Hid (w.heap[R]? = some (.cells #[.int .i64 e, .slice a 0 cap, .int .i64 (k : Int)] 71 (0, 0))) := hb
  clear h hb r hd
  go_enter Try.func37, Try.ntmps37
  go_wp2_with fail
  refine (ahead_any R e _ _ w BH.out a 0 cap rfl).mono ?_
  rintro y w1 ⟨rfl, rfl⟩
  go_wp2_with fail
  refine (rByte_bad R D e k w1 HH.out).mono ?_
  rintro y w2 ⟨rfl, T⟩
  go_wp2_with fail
  go_ret
  exact ⟨rfl, T⟩
theorem rBool_nil (w : World) : Calls Try.prog 37 #[.pointer none] w fun y w' => y = .returned (.bool false) ∧ w' = w := by
  go_enter Try.func37, Try.ntmps37
  go_wp2_with fail
  refine (ahead_nil w).mono ?_
  rintro y w1 ⟨rfl, rfl⟩
  go_wp2_with fail
  refine (rByte_nil w1).mono ?_
  rintro y w3 ⟨rfl, rfl⟩
  go_wp2_with fail
  go_ret
  exact ⟨rfl, rfl⟩

theorem rEnd_rest (R : Nat) (D : Option Nat) (e : Int) (k c : Nat) (l : List Nat) (w : World) (h : IsR w R D e k (c :: l)) :
    Calls Try.prog 17 #[.pointer (some ⟨R, 0, none⟩)] w fun x w' => x = .returned (.tuple #[]) ∧ Took w R D w' (first e 35) k [] := by
  have HH : Hid (IsR w R D e k (c :: l)) := h
  obtain ⟨a, cap, hb, r, hd⟩ := h.ex
  have BH : Hid (w.heap[R]? = some (.cells #[.int .i64 e, .slice a (c :: l).length cap, .int .i64 (k : Int)] 71 (0, 0))) := hb
  clear h hb r hd
  obtain ⟨m, hm⟩ : ∃ m, (c :: l).length = m + 1 := ⟨l.length, rfl⟩
  rw [hm] at BH
  have h1 : (0 : Int) < ((m + 1 : Nat) : Int) := by omega
  clear hm
  go_enter Try.func17, Try.ntmps17
  go_wp2_with fail
  refine (ahead_any R e _ _ w BH.out a (m + 1) cap rfl).mono ?_
  rintro y w1 ⟨rfl, rfl⟩
  go_wp2_with fail
  refine (fail_any R D e 35 k _ w1 HH.out).mono ?_
  rintro y w2 ⟨rfl, T⟩
  go_wp2_with fail
  go_end0
  exact ⟨rfl, T⟩
theorem rEnd_ok (R : Nat) (D : Option Nat) (e : Int) (k : Nat) (w : World) (h : IsR w R D e k []) :
    Calls Try.prog 17 #[.pointer (some ⟨R, 0, none⟩)] w fun x w' => x = .returned (.tuple #[]) ∧ w' = w := by
  obtain ⟨a, cap, hb, r, hd⟩ := h.ex
  have BH : Hid (w.heap[R]? = some (.cells #[.int .i64 e, .slice a 0 cap, .int .i64 (k : Int)] 71 (0, 0))) := hb
  clear h hb r hd
  go_enter Try.func17, Try.ntmps17
  go_wp2_with fail
  refine (ahead_any R e _ _ w BH.out a 0 cap rfl).mono ?_
  rintro y w1 ⟨rfl, rfl⟩
  go_wp2_with fail
  go_end0
  exact ⟨rfl, rfl⟩
theorem rEnd_nil (w : World) : Calls Try.prog 17 #[.pointer none] w fun y w' => y = .returned (.tuple #[]) ∧ w' = w := by
  go_enter Try.func17, Try.ntmps17
  go_wp2_with fail
  refine (ahead_nil w).mono ?_
  rintro y w1 ⟨rfl, rfl⟩
  go_wp2_with fail
  go_end0
  exact ⟨rfl, rfl⟩

theorem parse_room {w : World} {R : Nat} {D : Option Nat} {e most : Int} {k n s : Nat} {l : List Nat} (h : IsR w R D e k l) (hv : Pk.parse most l = (n, s, 0)) : s ≤ l.length ∧ 0 < s ∧ s ≤ 9 ∧ n < 9223372036854775808 := by
  have P := Pk.parse_ok h.bytes hv
  exact ⟨P.2.1, P.2.2.2.2.2.1, P.2.2.2.2.2.2, P.2.2.2.2.1⟩
set_option maxRecDepth 100000 in
set_option maxHeartbeats 1000000 in
theorem counted_ok (R : Nat) (D : Option Nat) (e most : Int) (k n s : Nat) (l : List Nat) (w : World) (h : IsR w R D e k l) (hv : Pk.parse most l = (n, s, 0)) (hn : s + n ≤ l.length) :
    Calls Try.prog 63 #[.pointer (some ⟨R, 0, none⟩), .int .i64 most] w fun x w' => ∃ a cap, x = .returned (.slice a n cap) ∧ Reads w' a n cap ((l.drop s).take n) ∧ (∀ p, a = some p → D = some p.block) ∧ Took w R D w' e (k + (s + n)) (l.drop (s + n)) := by
  have PH : Hid (s ≤ l.length ∧ 0 < s ∧ s ≤ 9 ∧ n < 9223372036854775808) := parse_room h hv
  have HH : Hid (IsR w R D e k l) := h
  obtain ⟨a, cap, hb, r, hd⟩ := h.ex
  have hr := r.room
  have hsm := r.small
  have BH : Hid (w.heap[R]? = some (.cells #[.int .i64 e, .slice a l.length cap, .int .i64 (k : Int)] 71 (0, 0))) := hb
  have RH : Hid (Reads w a l.length cap l) := r
  have VH : Hid (Pk.parse most l = (n, s, 0)) := hv
  unfold maxLen at hsm
  clear h hb r hd hv
  have NH : Hid (s + n ≤ l.length) := hn
  obtain ⟨len, hlen⟩ : ∃ m, l.length = m := ⟨_, rfl⟩
  rw [hlen] at BH RH hn hr
  have LH : Hid (l.length = len) := hlen
  clear hlen
  have h1 : (n : Int) ≤ (len : Int) - (s : Int) := by omega
  have h0 := PH.out.2.1
  have h9 := PH.out.2.2.1
  go_enter Try.func63, Try.ntmps63
  go_wp2_with fail
  refine (ahead_any R e _ _ w BH.out a len cap rfl).mono ?_
  rintro x w1 ⟨rfl, rfl⟩
  go_wp2_with fail
  refine (numberOf_any a len cap most l w1 n s 0 RH.out VH.out).mono ?_
  rintro x w2 ⟨rfl, rfl⟩
  obtain ⟨t, ht⟩ : ∃ t, s + n = t := ⟨_, rfl⟩
  have e1 : (s : Int) + (n : Int) = (t : Int) := by omega
  have TN : Hid (s + n = t) := ht
  rw [ht] at hn NH
  have hst : s ≤ t := by omega
  have htn : t - s = n := by omega
  clear ht
  go_wp2_with fail
  refine (take_any R D e k t l w2 HH.out (by omega) NH.out).mono ?_
  rintro x w3 ⟨b, off, c, rfl, r3, hD, T⟩
  have TH : Hid (Took w2 R D w3 e (k + t) (l.drop t)) := T
  have DH : Hid (D = some b) := hD
  have hc := r3.room
  have hc2 := r3.small
  unfold maxLen at hc2
  have e2 : (l.take t).drop s = (l.drop s).take n := by rw [List.drop_take, htn]
  have r4 := r3.drop s hst
  rw [e2, htn] at r4
  have R4 : Hid (Reads w3 (some ⟨b, off + s, none⟩) n (c - s) ((l.drop s).take n)) := r4
  clear r4 e2 T r3 hD
  go_wp2_with fail
  · have hcs : c = s := by assumption
    go_ret
    have hn0 : n = 0 := by omega
    rw [TN.out]
    refine ⟨some ⟨b, off, none⟩, 0, by rw [hn0, ← hcs]; simp, ⟨by rw [hn0]; simp, by omega, by unfold maxLen; omega, fun d hd => by rw [hn0] at hd; simp at hd, fun q => absurd q (by omega)⟩, fun p q => by cases q; exact DH.out, TH.out⟩
  · go_ret
    rw [TN.out]
    exact ⟨some ⟨b, off + s, none⟩, c - s, by simp, R4.out, fun p q => by cases q; exact DH.out, TH.out⟩
set_option maxRecDepth 100000 in
theorem counted_short (R : Nat) (D : Option Nat) (e most : Int) (k n s : Nat) (l : List Nat) (w : World) (h : IsR w R D e k l) (hv : Pk.parse most l = (n, s, 0)) (hn : ¬ s + n ≤ l.length) :
    Calls Try.prog 63 #[.pointer (some ⟨R, 0, none⟩), .int .i64 most] w fun x w' => x = .returned (.slice none 0 0) ∧ Took w R D w' (first e 30) k [] := by
  have PH : Hid (s ≤ l.length ∧ 0 < s ∧ s ≤ 9 ∧ n < 9223372036854775808) := parse_room h hv
  have HH : Hid (IsR w R D e k l) := h
  obtain ⟨a, cap, hb, r, hd⟩ := h.ex
  have hr := r.room
  have hsm := r.small
  have BH : Hid (w.heap[R]? = some (.cells #[.int .i64 e, .slice a l.length cap, .int .i64 (k : Int)] 71 (0, 0))) := hb
  have RH : Hid (Reads w a l.length cap l) := r
  have VH : Hid (Pk.parse most l = (n, s, 0)) := hv
  unfold maxLen at hsm
  clear h hb r hd hv
  have h0 := PH.out.1
  obtain ⟨len, hlen⟩ : ∃ m, l.length = m := ⟨_, rfl⟩
  rw [hlen] at BH RH hn hr h0
  clear hlen
  have h1 : (len : Int) - (s : Int) < (n : Int) := by omega
  clear hn
  go_enter Try.func63, Try.ntmps63
  go_wp2_with fail
  refine (ahead_any R e _ _ w BH.out a len cap rfl).mono ?_
  rintro x w1 ⟨rfl, rfl⟩
  go_wp2_with fail
  refine (numberOf_any a len cap most l w1 n s 0 RH.out VH.out).mono ?_
  rintro x w2 ⟨rfl, rfl⟩
  go_wp2_with fail
  refine (fail_any R D e 30 k l w2 HH.out).mono ?_
  rintro y w3 ⟨rfl, T⟩
  go_wp2_with fail
  go_ret
  exact ⟨rfl, T⟩
set_option maxRecDepth 100000 in
theorem counted_bad (R : Nat) (D : Option Nat) (e most x : Int) (k n s : Nat) (l : List Nat) (w : World) (h : IsR w R D e k l) (hv : Pk.parse most l = (n, s, x)) (hx : x ≠ 0) :
    Calls Try.prog 63 #[.pointer (some ⟨R, 0, none⟩), .int .i64 most] w fun y w' => y = .returned (.slice none 0 0) ∧ Took w R D w' (first e x) k [] := by
  have HH : Hid (IsR w R D e k l) := h
  obtain ⟨a, cap, hb, r, hd⟩ := h.ex
  have BH : Hid (w.heap[R]? = some (.cells #[.int .i64 e, .slice a l.length cap, .int .i64 (k : Int)] 71 (0, 0))) := hb
  have RH : Hid (Reads w a l.length cap l) := r
  have VH : Hid (Pk.parse most l = (n, s, x)) := hv
  clear h hb r hd hv
  have hx' : (x != 0) = true := by simpa using hx
  have hx2 : (x == 0) = false := by simpa using hx
  go_enter Try.func63, Try.ntmps63
  go_wp2_with fail
  refine (ahead_any R e _ _ w BH.out a l.length cap rfl).mono ?_
  rintro y w1 ⟨rfl, rfl⟩
  go_wp2_with fail
  refine (numberOf_any a l.length cap most l w1 n s x RH.out VH.out).mono ?_
  rintro y w2 ⟨rfl, rfl⟩
  go_wp2_with fail
  refine (fail_any R D e x k l w2 HH.out).mono ?_
  rintro y w3 ⟨rfl, T⟩
  go_wp2_with fail
  go_ret
  exact ⟨rfl, T⟩
theorem counted_nil (most : Int) (w : World) : Calls Try.prog 63 #[.pointer none, .int .i64 most] w fun y w' => y = .returned (.slice none 0 0) ∧ w' = w := by
  go_enter Try.func63, Try.ntmps63
  go_wp2_with fail
  refine (ahead_nil w).mono ?_
  rintro y w1 ⟨rfl, rfl⟩
  go_wp2_with fail
  refine (numberOf_empty none 0 most w1).mono ?_
  rintro y w2 ⟨rfl, rfl⟩
  go_wp2_with fail
  refine (fail_nil 30 w2).mono ?_
  rintro y w3 ⟨rfl, rfl⟩
  go_wp2_with fail
  go_ret
  exact ⟨rfl, rfl⟩
end Go.Proofs.Ytgfglbbfoadiaaa
