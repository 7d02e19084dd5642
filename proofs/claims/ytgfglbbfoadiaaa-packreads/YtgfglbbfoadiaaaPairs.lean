import Derived.Test.YtgfglbbfoadiaaaRefR2
namespace Go.Proofs.Ytgfglbbfoadiaaa
open Go.RowKit

theorem TookQ.same {w w' : World} {Q : Nat} {E : Option Nat} {e : Int} {k : Nat} {L : List Nat} (h : IsQ w Q E e k L) (q : Kept (fun _ => False) w w') : TookQ w Q E w' e k L := ⟨h.kept q (fun f => f) (fun _ _ f => f), q.mono (fun _ _ f => f.elim)⟩
/-- Both readers stand alike. -/
structure Alike (e : Int) (k : Nat) (l L : List Nat) : Prop where
  rest : e = 0 → l = L.drop k
  quiet : e ≠ 0 → l = []
  bytes : ∀ c ∈ l, c < 256
  le : k ≤ L.length
  small : L.length ≤ 140737488351233
theorem Alike.len {k : Nat} {l L : List Nat} (h : Alike 0 k l L) : l.length = L.length - k := by rw [h.rest rfl, List.length_drop]
theorem first_cases (e x : Int) (hx : x ≠ 0) : first e x ≠ 0 := by unfold first; split; exact hx; assumption

theorem pairU (R : Nat) (D : Option Nat) (Q : Nat) (E : Option Nat) (e most : Int) (k : Nat) (l L : List Nat) (h : Alike e k l L) : ∃ (v : Int) (e2 : Int) (k2 : Nat) (l2 : List Nat),
    (∀ w, IsR w R D e k l → Calls Try.prog 19 #[.pointer (some ⟨R, 0, none⟩), .int .i64 most] w fun x w' => x = .returned (.int .i64 v) ∧ Took w R D w' e2 k2 l2) ∧
    (∀ w, IsQ w Q E e k L → Calls Try.prog 55 #[.pointer (some ⟨Q, 0, none⟩), .int .i64 most] w fun x w' => x = .returned (.int .i64 v) ∧ TookQ w Q E w' e2 k2 L) ∧ Alike e2 k2 l2 L := by
  by_cases he : e = 0
  · subst he
    have hl := h.rest rfl
    obtain ⟨⟨n, s, x⟩, hp⟩ : ∃ q, Pk.parse most l = q := ⟨_, rfl⟩
    have hp2 := hp
    rw [hl] at hp2
    by_cases hx : x = 0
    · subst hx
      obtain ⟨P1, P2, P3, P4, P5, P6, P7⟩ := Pk.parse_ok h.bytes hp
      have hll := h.len
      have hle := h.le
      refine ⟨(n : Int), 0, k + s, l.drop s, fun w hr => rUint_ok R D 0 most k n s l w hr hp, fun w hq => qUint Q E most 0 k n s L w hq hp2 (by omega) (by have := h.small; omega), ⟨fun _ => by rw [hl, List.drop_drop], fun q => absurd rfl q, fun c hc => h.bytes c (List.mem_of_mem_drop hc), by omega, h.small⟩⟩
    · obtain ⟨n0, s0, _⟩ := Pk.parse_err hp hx
      subst n0
      subst s0
      refine ⟨0, x, k, [], fun w hr => by have := rUint_bad R D 0 most x k 0 0 l w hr hp hx; rw [first_zero] at this; exact this, fun w hq => by have := qUint Q E most x k 0 0 L w hq hp2 (by have := h.le; omega) (by have := h.small; omega); exact this, ⟨fun q => absurd q hx, fun _ => rfl, fun c hc => by simp at hc, h.le, h.small⟩⟩
  · have hl := h.quiet he
    subst hl
    refine ⟨0, e, k, [], fun w hr => by have := rUint_bad R D e most 30 k 0 0 [] w hr (Pk.parse_nil most) (by omega); rw [first_ne e 30 he] at this; exact this, fun w hq => ?_, h⟩
    refine (qUint_err Q E e most k L w hq he).mono ?_
    rintro x w' ⟨rfl, rfl⟩
    exact ⟨rfl, TookQ.same hq (Kept.refl _ _)⟩
theorem pairB (R : Nat) (D : Option Nat) (Q : Nat) (E : Option Nat) (e : Int) (k : Nat) (l L : List Nat) (h : Alike e k l L) : ∃ (v : Nat) (e2 : Int) (k2 : Nat) (l2 : List Nat),
    (∀ w, IsR w R D e k l → Calls Try.prog 18 #[.pointer (some ⟨R, 0, none⟩)] w fun x w' => x = .returned (.int .u8 (v : Int)) ∧ Took w R D w' e2 k2 l2) ∧
    (∀ w, IsQ w Q E e k L → Calls Try.prog 56 #[.pointer (some ⟨Q, 0, none⟩)] w fun x w' => x = .returned (.int .u8 (v : Int)) ∧ TookQ w Q E w' e2 k2 L) ∧ Alike e2 k2 l2 L := by
  have hle := h.le
  by_cases he : e = 0
  · subst he
    have hl := h.rest rfl
    have hll := h.len
    cases l with
    | nil =>
      have hk : L.length = k := by simp at hll; omega
      exact ⟨0, 30, k, [], fun w hr => by have := rByte_bad R D 0 k w hr; rw [first_zero] at this; exact this, fun w hq => qByte_short Q E k L w hq hk, ⟨fun q => by omega, fun _ => rfl, fun c hc => by simp at hc, h.le, h.small⟩⟩
    | cons c t =>
      have hk : k < L.length := by simp at hll; omega
      have hd := drop_getD L k hk
      rw [← hl] at hd
      simp at hd
      exact ⟨c, 0, k + 1, t, fun w hr => rByte_ok R D 0 k c t w hr, fun w hq => qByte_ok Q E k L w hq hk (by have := h.small; omega) c (by rw [List.getD_eq_getElem?_getD]; exact hd.1.symm), ⟨fun _ => hd.2, fun q => absurd rfl q, fun d hd => h.bytes d (List.mem_cons_of_mem _ hd), by omega, h.small⟩⟩
  · have hl := h.quiet he
    subst hl
    refine ⟨0, e, k, [], fun w hr => by have := rByte_bad R D e k w hr; rw [first_ne e 30 he] at this; exact this, fun w hq => ?_, h⟩
    refine (qByte_err Q E e k L w hq he).mono ?_
    rintro x w' ⟨rfl, rfl⟩
    exact ⟨rfl, TookQ.same hq (Kept.refl _ _)⟩
theorem pairO (R : Nat) (D : Option Nat) (Q : Nat) (E : Option Nat) (e : Int) (k : Nat) (l L : List Nat) (h : Alike e k l L) : ∃ (v : Bool) (e2 : Int) (k2 : Nat) (l2 : List Nat),
    (∀ w, IsR w R D e k l → Calls Try.prog 37 #[.pointer (some ⟨R, 0, none⟩)] w fun x w' => x = .returned (.bool v) ∧ Took w R D w' e2 k2 l2) ∧
    (∀ w, IsQ w Q E e k L → Calls Try.prog 57 #[.pointer (some ⟨Q, 0, none⟩)] w fun x w' => x = .returned (.bool v) ∧ TookQ w Q E w' e2 k2 L) ∧ Alike e2 k2 l2 L := by
  have hle := h.le
  by_cases he : e = 0
  · subst he
    have hl := h.rest rfl
    have hll := h.len
    cases l with
    | nil =>
      have hk : L.length = k := by simp at hll; omega
      exact ⟨false, 30, k, [], fun w hr => by have := rBool_bad R D 0 k w hr; rw [first_zero] at this; exact this, fun w hq => qBool_short Q E k L w hq hk, ⟨fun q => by omega, fun _ => rfl, fun c hc => by simp at hc, h.le, h.small⟩⟩
    | cons c t =>
      have hk : k < L.length := by simp at hll; omega
      have hd := drop_getD L k hk
      rw [← hl] at hd
      simp at hd
      have hc : L.getD k 0 = c := by rw [List.getD_eq_getElem?_getD]; exact hd.1.symm
      by_cases h1 : 1 < c
      · exact ⟨false, 31, k, [], fun w hr => by have := rBool_form R D 0 k c t w hr h1; rw [first_zero] at this; exact this, fun w hq => qBool_form Q E k L w hq hk (by have := h.small; omega) c hc h1, ⟨fun q => by omega, fun _ => rfl, fun c hc => by simp at hc, h.le, h.small⟩⟩
      · obtain ⟨z, rfl⟩ : ∃ z, c = yn z := ⟨c == 1, by
          unfold yn
          by_cases h2 : c = 1
          · subst h2; rfl
          · have : c = 0 := by omega
            subst this; rfl⟩
        exact ⟨z, 0, k + 1, t, fun w hr => rBool_ok R D 0 k z t w hr, fun w hq => qBool_ok Q E k L w hq hk (by have := h.small; omega) z hc, ⟨fun _ => hd.2, fun q => absurd rfl q, fun d hd => h.bytes d (List.mem_cons_of_mem _ hd), by omega, h.small⟩⟩
  · have hl := h.quiet he
    subst hl
    refine ⟨false, e, k, [], fun w hr => by have := rBool_bad R D e k w hr; rw [first_ne e 30 he] at this; exact this, fun w hq => ?_, h⟩
    refine (qBool_err Q E e k L w hq he).mono ?_
    rintro x w' ⟨rfl, rfl⟩
    exact ⟨rfl, TookQ.same hq (Kept.refl _ _)⟩
theorem pairE (R : Nat) (D : Option Nat) (Q : Nat) (E : Option Nat) (e : Int) (k : Nat) (l L : List Nat) (h : Alike e k l L) : ∃ (e2 : Int) (k2 : Nat) (l2 : List Nat),
    (∀ w, IsR w R D e k l → Calls Try.prog 17 #[.pointer (some ⟨R, 0, none⟩)] w fun x w' => x = .returned (.tuple #[]) ∧ Took w R D w' e2 k2 l2) ∧
    (∀ w, IsQ w Q E e k L → Calls Try.prog 60 #[.pointer (some ⟨Q, 0, none⟩)] w fun x w' => x = .returned (.tuple #[]) ∧ TookQ w Q E w' e2 k2 L) ∧ Alike e2 k2 l2 L := by
  have hle := h.le
  have sameR : ∀ w, IsR w R D e k [] → Calls Try.prog 17 #[.pointer (some ⟨R, 0, none⟩)] w fun x w' => x = .returned (.tuple #[]) ∧ Took w R D w' e k [] := fun w hr => by
    refine (rEnd_ok R D e k w hr).mono ?_
    rintro x w' ⟨rfl, rfl⟩
    exact ⟨rfl, hr, Kept.refl _ _⟩
  by_cases he : e = 0
  · subst he
    have hl := h.rest rfl
    have hll := h.len
    cases l with
    | nil =>
      have hk : L.length = k := by simp at hll; omega
      refine ⟨0, k, [], sameR, fun w hq => ?_, h⟩
      refine (qEnd_ok Q E k L w hq hk).mono ?_
      rintro x w' ⟨rfl, q⟩
      exact ⟨rfl, TookQ.same hq q⟩
    | cons c t =>
      have hk : k < L.length := by simp at hll; omega
      exact ⟨35, k, [], fun w hr => by have := rEnd_rest R D 0 k c t w hr; rw [first_zero] at this; exact this, fun w hq => qEnd_rest Q E k L w hq hk, ⟨fun q => by omega, fun _ => rfl, fun c hc => by simp at hc, h.le, h.small⟩⟩
  · have hl := h.quiet he
    subst hl
    refine ⟨e, k, [], sameR, fun w hq => ?_, h⟩
    refine (qEnd_err Q E e k L w hq he).mono ?_
    rintro x w' ⟨rfl, q⟩
    exact ⟨rfl, TookQ.same hq q⟩
theorem pairY (R : Nat) (D : Option Nat) (Q : Nat) (E : Option Nat) (e most : Int) (k : Nat) (l L : List Nat) (h : Alike e k l L) : ∃ (m : List Nat) (e2 : Int) (k2 : Nat) (l2 : List Nat),
    (∀ w, IsR w R D e k l → Calls Try.prog 39 #[.pointer (some ⟨R, 0, none⟩), .int .i64 most] w fun x w' => ∃ p c, x = .returned (.slice p m.length c) ∧ w'.ownsRow w.heap.size 5 1 (.slice p m.length c) m.length (cellsOf m) ∧ Took w R D w' e2 k2 l2) ∧
    (∀ w, IsQ w Q E e k L → Calls Try.prog 58 #[.pointer (some ⟨Q, 0, none⟩), .int .i64 most] w fun x w' => ∃ p c, x = .returned (.slice p m.length c) ∧ Reads w' p m.length c m ∧ TookQ w Q E w' e2 k2 L) ∧
    (∀ w, IsR w R D e k l → Calls Try.prog 41 #[.pointer (some ⟨R, 0, none⟩), .int .i64 most] w fun x w' => x = .returned (.string (str m)) ∧ Took w R D w' e2 k2 l2) ∧
    (∀ w, IsQ w Q E e k L → Calls Try.prog 59 #[.pointer (some ⟨Q, 0, none⟩), .int .i64 most] w fun x w' => x = .returned (.string (str m)) ∧ TookQ w Q E w' e2 k2 L) ∧
    Alike e2 k2 l2 L ∧ (∀ c ∈ m, c < 256) ∧ m.length ≤ L.length := by
  have hle := h.le
  have hsm := h.small
  have bad : ∀ x : Int, x ≠ 0 → cErr most l = x → ∀ w, IsR w R D e k l → Calls Try.prog 39 #[.pointer (some ⟨R, 0, none⟩), .int .i64 most] w fun y w' => ∃ p c, y = .returned (.slice p ([] : List Nat).length c) ∧ w'.ownsRow w.heap.size 5 1 (.slice p ([] : List Nat).length c) ([] : List Nat).length (cellsOf []) ∧ Took w R D w' (first e x) k [] := fun x hx hc w hr => rBytes_bad R D e most x k l w hr hc hx
  have nilQ : ∀ {x : Int} {w w' : World}, TookQ w Q E w' x k L → ∃ p c, Ending.returned (.slice none 0 0) = Ending.returned (.slice p ([] : List Nat).length c) ∧ Reads w' p ([] : List Nat).length c [] ∧ TookQ w Q E w' x k L := fun t => ⟨none, 0, rfl, Reads.nil _, t⟩
  by_cases he : e = 0
  · subst he
    have hl := h.rest rfl
    have hll := h.len
    obtain ⟨⟨n, s, x⟩, hp⟩ : ∃ q, Pk.parse most l = q := ⟨_, rfl⟩
    have hp2 := hp
    rw [hl] at hp2
    have ce : cErr most l = if x = 0 then (if s + n ≤ l.length then 0 else 30) else x := by unfold cErr; rw [hp]
    by_cases hx : x = 0
    · subst hx
      obtain ⟨P1, P2, P3, P4, P5, P6, P7⟩ := Pk.parse_ok h.bytes hp
      rw [if_pos rfl] at ce
      by_cases hn : s + n ≤ l.length
      · have ml : ((l.drop s).take n).length = n := by rw [List.length_take, List.length_drop]; omega
        have em : (L.drop (k + s)).take n = (l.drop s).take n := by rw [hl, List.drop_drop]
        refine ⟨(l.drop s).take n, 0, k + (s + n), l.drop (s + n), fun w hr => ?_, fun w hq => ?_, fun w hr => rText_ok R D 0 most k n s l w hr hp hn, fun w hq => ?_, ⟨fun _ => by rw [hl, List.drop_drop], fun q => absurd rfl q, fun c hc => h.bytes c (List.mem_of_mem_drop hc), by omega, h.small⟩, fun c hc => h.bytes c (List.mem_of_mem_drop (List.mem_of_mem_take hc)), by omega⟩
        · rw [ml]; exact rBytes_ok R D 0 most k n s l w hr hp hn (by omega)
        · rw [ml, ← em]; exact qBytes_ok Q E most k n s L w hq hp2 (by omega) P6 (by omega)
        · rw [← em]; exact qText_ok Q E most k n s L w hq hp2 (by omega) P6 (by omega)
      · rw [if_neg hn] at ce
        refine ⟨[], 30, k, [], fun w hr => by have := bad 30 (by omega) ce w hr; rw [first_zero] at this; exact this, fun w hq => ?_, fun w hr => by have := rText_bad R D 0 most 30 k l w hr ce (by omega); rw [first_zero] at this; exact this, fun w hq => qText_short Q E most k n s L w hq hp2 (by omega) (by omega) P5 (by omega), ⟨fun q => by omega, fun _ => rfl, fun c hc => by simp at hc, h.le, h.small⟩, fun c hc => by simp at hc, by simp⟩
        refine (qBytes_short Q E most k n s L w hq hp2 (by omega) (by omega) P5 (by omega)).mono ?_
        rintro y w' ⟨rfl, t⟩
        exact nilQ t
    · rw [if_neg hx] at ce
      refine ⟨[], x, k, [], fun w hr => by have := bad x hx ce w hr; rw [first_zero] at this; exact this, fun w hq => ?_, fun w hr => by have := rText_bad R D 0 most x k l w hr ce hx; rw [first_zero] at this; exact this, fun w hq => qText_bad Q E most x k n s L w hq hp2 hx, ⟨fun q => absurd q hx, fun _ => rfl, fun c hc => by simp at hc, h.le, h.small⟩, fun c hc => by simp at hc, by simp⟩
      refine (qBytes_bad Q E most x k n s L w hq hp2 hx).mono ?_
      rintro y w' ⟨rfl, t⟩
      exact nilQ t
  · have hl := h.quiet he
    subst hl
    have ce : cErr most [] = 30 := by unfold cErr; rw [Pk.parse_nil]; rfl
    refine ⟨[], e, k, [], fun w hr => by have := bad 30 (by omega) ce w hr; rw [first_ne e 30 he] at this; exact this, fun w hq => ?_, fun w hr => by have := rText_bad R D e most 30 k [] w hr ce (by omega); rw [first_ne e 30 he] at this; exact this, fun w hq => ?_, h, fun c hc => by simp at hc, by simp⟩
    · refine (qBytes_err Q E e most k L w hq he).mono ?_
      rintro y w' ⟨rfl, rfl⟩
      exact nilQ (TookQ.same hq (Kept.refl _ _))
    · refine (qText_err Q E e most k L w hq he).mono ?_
      rintro y w' ⟨rfl, rfl⟩
      exact ⟨rfl, TookQ.same hq (Kept.refl _ _)⟩
end Go.Proofs.Ytgfglbbfoadiaaa
