import Derived.Test.YtgfglbbfoadiaaaMore
namespace Go.Proofs.Ytgfglbbfoadiaaa
open Go.RowKit

theorem IsR.blk_type {w : World} {R : Nat} {D : Option Nat} {e : Int} {k : Nat} {l : List Nat} (h : IsR w R D e k l) : ∃ cs, w.heap[R]? = some (.cells cs 71 (0, 0)) := by
  obtain ⟨_, _, b, _⟩ := h.ex; exact ⟨_, b⟩
theorem IsR.ne_w {w : World} {R B : Nat} {D : Option Nat} {e e' : Int} {k : Nat} {l m : List Nat} {v : Value} (h : IsR w R D e k l) (hw : IsW w B e' v m) : R ≠ B := by
  obtain ⟨cs, b⟩ := h.blk_type
  intro q
  subst q
  rw [hw.blk] at b
  simp at b
theorem IsR.ne_own {w : World} {R B : Nat} {D : Option Nat} {e e' : Int} {k : Nat} {l m : List Nat} {v : Value} (h : IsR w R D e k l) (hw : IsW w B e' v m) : v.ownBlock ≠ some R := by
  obtain ⟨cs, b⟩ := h.blk_type
  exact own_ne b hw.own (by decide)

/-- The reader's bytes lie apart from the writer. -/
def Apart (B : Nat) (v : Value) (D : Option Nat) : Prop := ∀ j, D = some j → ¬ wfoot B v j
/-- What copyTo leaves. -/
structure Cop (w : World) (B : Nat) (v : Value) (m : List Nat) (R : Nat) (D : Option Nat) (e : Int) (k : Nat) (l : List Nat) (w' : World) : Prop where
  ex : ∃ v' e' c l', IsW w' B 0 v' (m ++ l.take c) ∧ IsR w' R D e' (k + c) l' ∧ Near w v v' ∧ c ≤ l.length ∧ ((l' = l.drop c ∧ e' = e) ∨ (c = 0 ∧ l' = [] ∧ e' ≠ 0 ∧ (e ≠ 0 → e' = e)))
  kept : Kept (fun j => j = R ∨ wfoot B v j) w w'
theorem Cop.same {w : World} {B : Nat} {v : Value} {m : List Nat} {R : Nat} {D : Option Nat} {e : Int} {k : Nat} {l : List Nat} (hw : IsW w B 0 v m) (hr : IsR w R D e k l) : Cop w B v m R D e k l w :=
  ⟨⟨v, e, 0, l, by simpa using hw, hr, fun _ q => .inl q, Nat.zero_le _, .inl ⟨rfl, rfl⟩⟩, Kept.refl _ _⟩
theorem Cop.bad {w w' : World} {B : Nat} {v : Value} {m : List Nat} {R : Nat} {D : Option Nat} {e x : Int} {k : Nat} {l : List Nat} (hw : IsW w B 0 v m) (hr : IsR w R D e k l) (t : Took w R D w' (first e x) k []) (hx : x ≠ 0) : Cop w B v m R D e k l w' := by
  refine ⟨⟨v, first e x, 0, [], ?_, t.isR, fun _ q => .inl q, Nat.zero_le _, .inr ⟨rfl, rfl, ?_, first_ne e x⟩⟩, t.kept.mono (fun j _ q => .inl q)⟩
  · simpa using hw.kept t.kept (fun q => hr.ne_w hw q.symm) (fun j hj q => hr.ne_own hw (by rw [hj, q]))
  · unfold first
    split
    · exact hx
    · assumption
theorem Took.isW {w w' : World} {R B : Nat} {D : Option Nat} {e e1 e2 : Int} {k k1 : Nat} {l l1 m : List Nat} {v : Value} (hw : IsW w B e2 v m) (hr : IsR w R D e k l) (t : Took w R D w' e1 k1 l1) : IsW w' B e2 v m :=
  hw.kept t.kept (fun q => hr.ne_w hw q.symm) (fun j hj q => hr.ne_own hw (by rw [hj, q]))
theorem Put.isR {w w' : World} {R B : Nat} {D : Option Nat} {e e1 e2 : Int} {k : Nat} {l m m1 : List Nat} {v v1 : Value} (hw : IsW w B e2 v m) (hr : IsR w R D e k l) (ap : Apart B v D) (p : Put w B v w' e1 v1 m1) : IsR w' R D e k l :=
  hr.kept p.kept (fun q => by rcases q with q | q; exact hr.ne_w hw q; exact hr.ne_own hw q) ap
theorem Cop.ok {w w1 w2 : World} {B : Nat} {v v' : Value} {m : List Nat} {R : Nat} {D : Option Nat} {e : Int} {k c : Nat} {l : List Nat} (hw : IsW w B 0 v m) (hr : IsR w R D e k l) (ap : Apart B v D) (t : Took w R D w1 e (k + c) (l.drop c))
    (p : Put w1 B v w2 0 v' (m ++ l.take c)) (hc : c ≤ l.length) : Cop w B v m R D e k l w2 := by
  have hw1 := t.isW hw hr
  have hs := t.kept.size
  refine ⟨⟨v', e, c, l.drop c, p.isW, p.isR hw1 t.isR ap, fun j hj => ?_, hc, .inl ⟨rfl, rfl⟩⟩, ?_⟩
  · rcases p.near j hj with q | q
    · exact .inl q
    · exact .inr (by omega)
  · exact (t.kept.mono (S' := fun j => j = R ∨ wfoot B v j) (fun j _ q => .inl q)).trans p.kept (fun j _ q => .inr q)

set_option maxRecDepth 100000 in
theorem copy_uint (B : Nat) (v : Value) (m : List Nat) (R : Nat) (D : Option Nat) (e : Int) (k : Nat) (l : List Nat) (w : World) (hw : IsW w B 0 v m) (hr : IsR w R D e k l) (ap : Apart B v D) (hs : m.length + l.length ≤ 140737488355328) :
    Calls Try.prog 13 #[.pointer (some ⟨B, 0, none⟩), .pointer (some ⟨R, 0, none⟩), .int .i64 1] w fun x w' => x = .returned (.tuple #[]) ∧ Cop w B v m R D e k l w' := by
  obtain ⟨⟨n, s, x⟩, hp⟩ : ∃ q, Pk.parse 9223372036854775807 l = q := ⟨_, rfl⟩
  have WH : Hid (IsW w B 0 v m) := hw
  have RH : Hid (IsR w R D e k l) := hr
  by_cases hx : x = 0
  · subst hx
    obtain ⟨P1, P2, P3, P4, P5, P6, P7⟩ := Pk.parse_ok hr.bytes hp
    by_cases he : e = 0
    · subst he
      clear hw hr
      go_enter Try.func13, Try.ntmps13
      go_wp2_with fail
      refine (rUint_ok R D 0 9223372036854775807 k n s l w RH.out hp).mono ?_
      rintro y w1 ⟨rfl, T⟩
      have TH : Hid (Took w R D w1 0 (k + s) (l.drop s)) := T
      clear T
      go_wp2_with fail
      refine (rErr R D 0 _ _ w1 TH.out.isR).mono ?_
      rintro y w2 ⟨rfl, rfl⟩
      go_wp2_with fail
      refine (wUint B v m n w2 (TH.out.isW WH.out RH.out) P5 (by rw [← P1]; omega)).mono ?_
      rintro y w3 ⟨rfl, v', P⟩
      have PH : Hid (Put w2 B v w3 0 v' (m ++ Pk.form n)) := P
      clear P
      go_wp2_with fail
      go_end0
      exact ⟨rfl, Cop.ok WH.out RH.out ap TH.out (by rw [P3]; exact PH.out) P2⟩
    · have := hr.quiet he
      subst this
      simp at P2
      omega
  · clear hw hr
    have hf : first e x ≠ 0 := by unfold first; split; exact hx; assumption
    have hf' : (first e x == 0) = false := by simpa using hf
    obtain ⟨f, hff⟩ : ∃ f, first e x = f := ⟨_, rfl⟩
    have FH : Hid (first e x = f) := hff
    rw [hff] at hf hf'
    clear hff
    go_enter Try.func13, Try.ntmps13
    go_wp2_with fail
    refine (rUint_bad R D e 9223372036854775807 x k n s l w RH.out hp hx).mono ?_
    rintro y w1 ⟨rfl, T⟩
    rw [FH.out] at T
    have TH : Hid (Took w R D w1 f k []) := T
    clear T
    go_wp2_with fail
    refine (rErr R D f _ _ w1 TH.out.isR).mono ?_
    rintro y w2 ⟨rfl, rfl⟩
    go_wp2_with fail
    go_end0
    exact ⟨rfl, Cop.bad WH.out RH.out (by rw [FH.out]; exact TH.out) hx⟩
set_option maxRecDepth 100000 in
theorem copy_byte (B : Nat) (v : Value) (m : List Nat) (R : Nat) (D : Option Nat) (e : Int) (k : Nat) (l : List Nat) (w : World) (hw : IsW w B 0 v m) (hr : IsR w R D e k l) (ap : Apart B v D) (hs : m.length + l.length ≤ 140737488355328) :
    Calls Try.prog 13 #[.pointer (some ⟨B, 0, none⟩), .pointer (some ⟨R, 0, none⟩), .int .i64 2] w fun x w' => x = .returned (.tuple #[]) ∧ Cop w B v m R D e k l w' := by
  have WH : Hid (IsW w B 0 v m) := hw
  have RH : Hid (IsR w R D e k l) := hr
  cases l with
  | nil =>
    clear hw hr
    have hf : first e 30 ≠ 0 := by unfold first; split; omega; assumption
    have hf' : (first e 30 == 0) = false := by simpa using hf
    obtain ⟨f, hff⟩ : ∃ f, first e 30 = f := ⟨_, rfl⟩
    have FH : Hid (first e 30 = f) := hff
    rw [hff] at hf hf'
    clear hff
    go_enter Try.func13, Try.ntmps13
    go_wp2_with fail
    refine (rByte_bad R D e k w RH.out).mono ?_
    rintro y w1 ⟨rfl, T⟩
    rw [FH.out] at T
    have TH : Hid (Took w R D w1 f k []) := T
    clear T
    go_wp2_with fail
    refine (rErr R D f _ _ w1 TH.out.isR).mono ?_
    rintro y w2 ⟨rfl, rfl⟩
    go_wp2_with fail
    go_end0
    exact ⟨rfl, Cop.bad WH.out RH.out (by rw [FH.out]; exact TH.out) (by omega)⟩
  | cons c t =>
    by_cases he : e = 0
    · subst he
      have hc : c < 256 := hr.bytes c (by simp)
      have hl : (c :: t).length = t.length + 1 := rfl
      clear hw hr
      obtain ⟨l, hl2⟩ : ∃ l, c :: t = l := ⟨_, rfl⟩
      have l1 : Hid (l.take 1 = [c]) := by show l.take 1 = [c]; rw [← hl2]; rfl
      have l2 : Hid (l.drop 1 = t) := by show l.drop 1 = t; rw [← hl2]; rfl
      have RC := RH
      rw [hl2] at hs hl RH ⊢
      clear hl2
      go_enter Try.func13, Try.ntmps13
      go_wp2_with fail
      refine (rByte_ok R D 0 k c t w RC.out).mono ?_
      rintro y w1 ⟨rfl, T⟩
      have TH : Hid (Took w R D w1 0 (k + 1) (l.drop 1)) := by rw [l2.out]; exact T
      clear T
      go_wp2_with fail
      refine (rErr R D 0 _ _ w1 TH.out.isR).mono ?_
      rintro y w2 ⟨rfl, rfl⟩
      go_wp2_with fail
      refine (wByte B v m c w2 (TH.out.isW WH.out RH.out) hc (by omega)).mono ?_
      rintro y w3 ⟨rfl, v', P⟩
      have PH : Hid (Put w2 B v w3 0 v' (m ++ l.take 1)) := by
        rw [l1.out]; exact P
      clear P
      go_wp2_with fail
      go_end0
      exact ⟨rfl, Cop.ok WH.out RH.out ap TH.out PH.out (by omega)⟩
    · have := hr.quiet he
      simp at this
set_option maxRecDepth 100000 in
theorem copy_bool (B : Nat) (v : Value) (m : List Nat) (R : Nat) (D : Option Nat) (e : Int) (k : Nat) (l : List Nat) (w : World) (hw : IsW w B 0 v m) (hr : IsR w R D e k l) (ap : Apart B v D) (hs : m.length + l.length ≤ 140737488355328) :
    Calls Try.prog 13 #[.pointer (some ⟨B, 0, none⟩), .pointer (some ⟨R, 0, none⟩), .int .i64 3] w fun x w' => x = .returned (.tuple #[]) ∧ Cop w B v m R D e k l w' := by
  have WH : Hid (IsW w B 0 v m) := hw
  have RH : Hid (IsR w R D e k l) := hr
  cases l with
  | nil =>
    clear hw hr
    have hf : first e 30 ≠ 0 := by unfold first; split; omega; assumption
    have hf' : (first e 30 == 0) = false := by simpa using hf
    obtain ⟨f, hff⟩ : ∃ f, first e 30 = f := ⟨_, rfl⟩
    have FH : Hid (first e 30 = f) := hff
    rw [hff] at hf hf'
    clear hff
    go_enter Try.func13, Try.ntmps13
    go_wp2_with fail
    refine (rBool_bad R D e k w RH.out).mono ?_
    rintro y w1 ⟨rfl, T⟩
    rw [FH.out] at T
    have TH : Hid (Took w R D w1 f k []) := T
    clear T
    go_wp2_with fail
    refine (rErr R D f _ _ w1 TH.out.isR).mono ?_
    rintro y w2 ⟨rfl, rfl⟩
    go_wp2_with fail
    go_end0
    exact ⟨rfl, Cop.bad WH.out RH.out (by rw [FH.out]; exact TH.out) (by omega)⟩
  | cons c t =>
    by_cases he : e = 0
    · subst he
      have hl : (c :: t).length = t.length + 1 := rfl
      by_cases hc : 1 < c
      · clear hw hr
        have hf : first 0 31 ≠ 0 := by unfold first; split; omega; assumption
        have hf' : (first 0 31 == 0) = false := by simpa using hf
        obtain ⟨f, hff⟩ : ∃ f, first 0 31 = f := ⟨_, rfl⟩
        have FH : Hid (first 0 31 = f) := hff
        rw [hff] at hf hf'
        clear hff
        go_enter Try.func13, Try.ntmps13
        go_wp2_with fail
        refine (rBool_form R D 0 k c t w RH.out hc).mono ?_
        rintro y w1 ⟨rfl, T⟩
        rw [FH.out] at T
        have TH : Hid (Took w R D w1 f k []) := T
        clear T
        go_wp2_with fail
        refine (rErr R D f _ _ w1 TH.out.isR).mono ?_
        rintro y w2 ⟨rfl, rfl⟩
        go_wp2_with fail
        go_end0
        exact ⟨rfl, Cop.bad WH.out RH.out (by rw [FH.out]; exact TH.out) (by omega)⟩
      · obtain ⟨b, rfl⟩ : ∃ b, c = yn b := ⟨c == 1, by
          unfold yn
          by_cases h1 : c = 1
          · subst h1; rfl
          · have : c = 0 := by omega
            subst this; rfl⟩
        clear hw hr hc
        obtain ⟨l, hl2⟩ : ∃ l, yn b :: t = l := ⟨_, rfl⟩
        have l1 : Hid (l.take 1 = [yn b]) := by show l.take 1 = [yn b]; rw [← hl2]; rfl
        have l2 : Hid (l.drop 1 = t) := by show l.drop 1 = t; rw [← hl2]; rfl
        have RC := RH
        rw [hl2] at hs hl RH ⊢
        clear hl2
        go_enter Try.func13, Try.ntmps13
        go_wp2_with fail
        refine (rBool_ok R D 0 k b t w RC.out).mono ?_
        rintro y w1 ⟨rfl, T⟩
        have TH : Hid (Took w R D w1 0 (k + 1) (l.drop 1)) := by rw [l2.out]; exact T
        clear T
        go_wp2_with fail
        refine (rErr R D 0 _ _ w1 TH.out.isR).mono ?_
        rintro y w2 ⟨rfl, rfl⟩
        go_wp2_with fail
        refine (wBool B v m b w2 (TH.out.isW WH.out RH.out) (by omega)).mono ?_
        rintro y w3 ⟨rfl, v', P⟩
        have PH : Hid (Put w2 B v w3 0 v' (m ++ l.take 1)) := by
          rw [l1.out]; exact P
        clear P
        go_wp2_with fail
        go_end0
        exact ⟨rfl, Cop.ok WH.out RH.out ap TH.out PH.out (by omega)⟩
    · have := hr.quiet he
      simp at this
set_option maxRecDepth 100000 in
theorem copy_bytes (B : Nat) (v : Value) (m : List Nat) (R : Nat) (D : Option Nat) (e : Int) (k : Nat) (l : List Nat) (w : World) (hw : IsW w B 0 v m) (hr : IsR w R D e k l) (ap : Apart B v D) (hs : m.length + l.length ≤ 140737488355328) :
    Calls Try.prog 13 #[.pointer (some ⟨B, 0, none⟩), .pointer (some ⟨R, 0, none⟩), .int .i64 4] w fun x w' => x = .returned (.tuple #[]) ∧ Cop w B v m R D e k l w' := by
  have WH : Hid (IsW w B 0 v m) := hw
  have RH : Hid (IsR w R D e k l) := hr
  obtain ⟨x, hx0⟩ : ∃ x, cErr 9223372036854775807 l = x := ⟨_, rfl⟩
  by_cases hx : x = 0
  · subst hx
    obtain ⟨⟨n, s, y⟩, hp⟩ : ∃ q, Pk.parse 9223372036854775807 l = q := ⟨_, rfl⟩
    have hy : y = 0 ∧ s + n ≤ l.length := by
      unfold cErr at hx0
      rw [hp] at hx0
      simp only at hx0
      split at hx0
      · split at hx0
        · exact ⟨by assumption, by assumption⟩
        · omega
      · omega
    obtain ⟨rfl, hn⟩ := hy
    obtain ⟨P1, P2, P3, P4, P5, P6, P7⟩ := Pk.parse_ok hr.bytes hp
    by_cases he : e = 0
    · subst he
      have hbt := hr.bytes
      clear hw hr hx0
      have hsl : l.take (s + n) = l.take s ++ (l.drop s).take n := by rw [List.take_add]
      have SL : Hid (l.take (s + n) = Pk.form n ++ (l.drop s).take n) := by show l.take (s + n) = _; rw [hsl, P3]
      have hnl : ((l.drop s).take n).length = n := by rw [List.length_take, List.length_drop]; omega
      have hnb : ∀ c ∈ (l.drop s).take n, c < 256 := fun c hc => hbt c (List.mem_of_mem_drop (List.mem_of_mem_take hc))
      clear hsl hbt
      obtain ⟨q, hq⟩ : ∃ q, (l.drop s).take n = q := ⟨_, rfl⟩
      rw [hq] at SL hnl hnb
      have QH : Hid ((l.drop s).take n = q) := hq
      clear hq
      go_enter Try.func13, Try.ntmps13
      go_wp2_with fail
      refine (rBytes_ok R D 0 9223372036854775807 k n s l w RH.out hp hn (by omega)).mono ?_
      rintro y w1 ⟨p, c, rfl, ho, T⟩
      have TH : Hid (Took w R D w1 0 (k + (s + n)) (l.drop (s + n))) := T
      rw [QH.out] at ho
      obtain ⟨a2, c2, e2, r2, o2⟩ := owns_reads ho hnb
      simp at e2
      obtain ⟨rfl, rfl⟩ := e2
      have R1 : Hid (Reads w1 p n c q) := r2
      have A1 : Hid (0 < n → ∀ a, p = some a → ¬ wfoot B v a.block) := fun _ a ha hf => by
        have h1 := (ho.lt _ (o2 a ha)).1
        rcases hf with hf | hf
        · have := block_lt WH.out.blk; omega
        · have := (WH.out.own.lt _ hf).2; omega
      clear T ho r2 o2
      go_wp2_with fail
      refine (rErr R D 0 _ _ w1 TH.out.isR).mono ?_
      rintro y w2 ⟨rfl, rfl⟩
      go_wp2_with fail
      refine (wBytes B v m p n c q w2 (TH.out.isW WH.out RH.out) R1.out A1.out (by rw [← P1]; omega)).mono ?_
      rintro y w3 ⟨rfl, v', P⟩
      have PH : Hid (Put w2 B v w3 0 v' (m ++ l.take (s + n))) := by
        rw [SL.out, ← List.append_assoc]; exact P
      clear P
      go_wp2_with fail
      go_end0
      exact ⟨rfl, Cop.ok WH.out RH.out ap TH.out PH.out (by omega)⟩
    · have := hr.quiet he
      subst this
      simp at P2
      omega
  · clear hw hr
    have hf : first e x ≠ 0 := by unfold first; split; exact hx; assumption
    have hf' : (first e x == 0) = false := by simpa using hf
    obtain ⟨f, hff⟩ : ∃ f, first e x = f := ⟨_, rfl⟩
    have FH : Hid (first e x = f) := hff
    rw [hff] at hf hf'
    clear hff
    go_enter Try.func13, Try.ntmps13
    go_wp2_with fail
    refine (rBytes_bad R D e 9223372036854775807 x k l w RH.out hx0 hx).mono ?_
    rintro y w1 ⟨p, c, rfl, _, T⟩
    rw [FH.out] at T
    have TH : Hid (Took w R D w1 f k []) := T
    clear T
    go_wp2_with fail
    refine (rErr R D f _ _ w1 TH.out.isR).mono ?_
    rintro y w2 ⟨rfl, rfl⟩
    go_wp2_with fail
    go_end0
    exact ⟨rfl, Cop.bad WH.out RH.out (by rw [FH.out]; exact TH.out) (hx)⟩
set_option maxRecDepth 100000 in
theorem copy_text (B : Nat) (v : Value) (m : List Nat) (R : Nat) (D : Option Nat) (e : Int) (k : Nat) (l : List Nat) (w : World) (hw : IsW w B 0 v m) (hr : IsR w R D e k l) (ap : Apart B v D) (hs : m.length + l.length ≤ 140737488355328) :
    Calls Try.prog 13 #[.pointer (some ⟨B, 0, none⟩), .pointer (some ⟨R, 0, none⟩), .int .i64 5] w fun x w' => x = .returned (.tuple #[]) ∧ Cop w B v m R D e k l w' := by
  have WH : Hid (IsW w B 0 v m) := hw
  have RH : Hid (IsR w R D e k l) := hr
  obtain ⟨x, hx0⟩ : ∃ x, cErr 9223372036854775807 l = x := ⟨_, rfl⟩
  by_cases hx : x = 0
  · subst hx
    obtain ⟨⟨n, s, y⟩, hp⟩ : ∃ q, Pk.parse 9223372036854775807 l = q := ⟨_, rfl⟩
    have hy : y = 0 ∧ s + n ≤ l.length := by
      unfold cErr at hx0
      rw [hp] at hx0
      simp only at hx0
      split at hx0
      · split at hx0
        · exact ⟨by assumption, by assumption⟩
        · omega
      · omega
    obtain ⟨rfl, hn⟩ := hy
    obtain ⟨P1, P2, P3, P4, P5, P6, P7⟩ := Pk.parse_ok hr.bytes hp
    by_cases he : e = 0
    · subst he
      have hbt := hr.bytes
      clear hw hr hx0
      have hsl : l.take (s + n) = l.take s ++ (l.drop s).take n := by rw [List.take_add]
      have SL : Hid (l.take (s + n) = Pk.form n ++ (l.drop s).take n) := by show l.take (s + n) = _; rw [hsl, P3]
      have hnl : ((l.drop s).take n).length = n := by rw [List.length_take, List.length_drop]; omega
      have hnb : ∀ c ∈ (l.drop s).take n, c < 256 := fun c hc => hbt c (List.mem_of_mem_drop (List.mem_of_mem_take hc))
      clear hsl hbt
      obtain ⟨q, hq⟩ : ∃ q, (l.drop s).take n = q := ⟨_, rfl⟩
      rw [hq] at SL hnl hnb
      have QH : Hid ((l.drop s).take n = q) := hq
      clear hq
      go_enter Try.func13, Try.ntmps13
      go_wp2_with fail
      refine (rText_ok R D 0 9223372036854775807 k n s l w RH.out hp hn).mono ?_
      rintro y w1 ⟨rfl, T⟩
      have TH : Hid (Took w R D w1 0 (k + (s + n)) (l.drop (s + n))) := T
      rw [QH.out]
      clear T
      go_wp2_with fail
      refine (rErr R D 0 _ _ w1 TH.out.isR).mono ?_
      rintro y w2 ⟨rfl, rfl⟩
      go_wp2_with fail
      refine (wText B v m (str q) w2 (TH.out.isW WH.out RH.out) (by rw [str_size, hnl, ← P1]; omega)).mono ?_
      rintro y w3 ⟨rfl, v', P⟩
      have PH : Hid (Put w2 B v w3 0 v' (m ++ l.take (s + n))) := by
        rw [SL.out, ← List.append_assoc]; rw [str_size, hnl, sb_str q hnb] at P; exact P
      clear P
      go_wp2_with fail
      go_end0
      exact ⟨rfl, Cop.ok WH.out RH.out ap TH.out PH.out (by omega)⟩
    · have := hr.quiet he
      subst this
      simp at P2
      omega
  · clear hw hr
    have hf : first e x ≠ 0 := by unfold first; split; exact hx; assumption
    have hf' : (first e x == 0) = false := by simpa using hf
    obtain ⟨f, hff⟩ : ∃ f, first e x = f := ⟨_, rfl⟩
    have FH : Hid (first e x = f) := hff
    rw [hff] at hf hf'
    clear hff
    go_enter Try.func13, Try.ntmps13
    go_wp2_with fail
    refine (rText_bad R D e 9223372036854775807 x k l w RH.out hx0 hx).mono ?_
    rintro y w1 ⟨rfl, T⟩
    rw [FH.out] at T
    have TH : Hid (Took w R D w1 f k []) := T
    clear T
    go_wp2_with fail
    refine (rErr R D f _ _ w1 TH.out.isR).mono ?_
    rintro y w2 ⟨rfl, rfl⟩
    go_wp2_with fail
    go_end0
    exact ⟨rfl, Cop.bad WH.out RH.out (by rw [FH.out]; exact TH.out) (hx)⟩

set_option maxRecDepth 100000 in
theorem copy_other (B : Nat) (v : Value) (m : List Nat) (R : Nat) (D : Option Nat) (e : Int) (k : Nat) (l : List Nat) (w : World) (kind : Int) (hw : IsW w B 0 v m) (hr : IsR w R D e k l) (h1 : kind ≠ 1) (h2 : kind ≠ 2) (h3 : kind ≠ 3) (h4 : kind ≠ 4) (h5 : kind ≠ 5) :
    Calls Try.prog 13 #[.pointer (some ⟨B, 0, none⟩), .pointer (some ⟨R, 0, none⟩), .int .i64 kind] w fun x w' => x = .returned (.tuple #[]) ∧ Cop w B v m R D e k l w' := by
  have C : Hid (Cop w B v m R D e k l w) := Cop.same hw hr
  clear hw hr
  have g1 : (kind == 1) = false := by simpa using h1
  have g2 : (kind == 2) = false := by simpa using h2
  have g3 : (kind == 3) = false := by simpa using h3
  have g4 : (kind == 4) = false := by simpa using h4
  have g5 : (kind == 5) = false := by simpa using h5
  go_enter Try.func13, Try.ntmps13
  go_wp2_with fail
  go_end0
  exact ⟨rfl, C.out⟩
theorem copy_any (B : Nat) (v : Value) (m : List Nat) (R : Nat) (D : Option Nat) (e : Int) (k : Nat) (l : List Nat) (w : World) (kind : Int) (hw : IsW w B 0 v m) (hr : IsR w R D e k l) (ap : Apart B v D) (hs : m.length + l.length ≤ 140737488355328) :
    Calls Try.prog 13 #[.pointer (some ⟨B, 0, none⟩), .pointer (some ⟨R, 0, none⟩), .int .i64 kind] w fun x w' => x = .returned (.tuple #[]) ∧ Cop w B v m R D e k l w' := by
  by_cases h1 : kind = 1
  · subst h1; exact copy_uint B v m R D e k l w hw hr ap hs
  by_cases h2 : kind = 2
  · subst h2; exact copy_byte B v m R D e k l w hw hr ap hs
  by_cases h3 : kind = 3
  · subst h3; exact copy_bool B v m R D e k l w hw hr ap hs
  by_cases h4 : kind = 4
  · subst h4; exact copy_bytes B v m R D e k l w hw hr ap hs
  by_cases h5 : kind = 5
  · subst h5; exact copy_text B v m R D e k l w hw hr ap hs
  exact copy_other B v m R D e k l w kind hw hr h1 h2 h3 h4 h5
end Go.Proofs.Ytgfglbbfoadiaaa
