import Derived.Test.YtojepeefphbekaaCompact
import Derived.Test.YtojepeefphbekaaAdd
import Derived.Shelf.SlSortCmp.NoneTotal
namespace Go.Proofs.Ytojepeefphbekaa
open Go.RowKit

theorem sort_nil (w : World) : Calls Try.prog 49 #[.slice none 0 0, .func (.func 10) #[] #[]] w fun o w' => o = .returned (.tuple #[]) ∧ w' = w := by
  have h := AnyF.slices_SortFunc_none Try.sortTag none 0 (.func (.func 10) #[] #[]) w
  change Calls Try.prog 49 _ _ _ at h
  exact h
/-- What NewSet answers. -/
def NewS (w : World) (l : List (Int × Int)) (o : Ending) (w' : World) : Prop :=
  ((∀ t ∈ l, isProper t.1 t.2 = true) ∧ ∃ B q m c S, o = .returned (.tuple #[.pointer (some ⟨B, 0, none⟩), .int .i64 0]) ∧ IsSet 96 w' B q m c S ∧ Rising S ∧ (∀ t, t ∈ S ↔ t ∈ l) ∧ w.heap.size ≤ B ∧ From w.heap.size q ∧ Below w.heap.size w w') ∨
  ((∃ t ∈ l, isProper t.1 t.2 = false) ∧ o = .returned (.tuple #[.pointer none, .int .i64 41]) ∧ Below w.heap.size w w')
theorem Kept.from {N g : Nat} {a b c : World} (B : Below N a b) (h : Kept (fun k => k = g) b c) (hN : N ≤ b.heap.size) (hg : N ≤ g) : Below N a c :=
  ⟨h.os.trans B.os, h.tape.trans B.tape, h.output.trans B.output, Nat.le_trans B.size h.size, fun k hk => (h.block k (by omega) (by omega)).trans (B.block k hk)⟩
/-- A new set around a list. -/
theorem IsSet.new {w : World} {q : Option Addr} {m c : Nat} {S : List (Int × Int)} (r : Row w q m c S) : IsSet 96 (w.alloc (.cells #[.slice q m c] 96)) w.heap.size q m c S :=
  ⟨heap_alloc_new w _, r.by ((Below.refl _ _).alloc (Nat.le_refl _) _), by decide⟩
set_option maxRecDepth 100000 in
set_option maxHeartbeats 2000000 in
theorem sNewSet (a : Option Addr) (len cap : Nat) (l : List (Int × Int)) (w : World) (r : TReads w a len cap l) (hn : a = none → cap = 0) (hb : (len + 1) * 16 ≤ 211106232532992) :
    Calls Try.prog 29 #[.slice a len cap] w (NewS w l) := by
  have hl := r.length
  have hr := r.room
  have hs := r.small
  unfold maxLen at hs
  have RH : Hid (TReads w a len cap l) := r
  have NH : Hid (a = none → cap = 0) := hn
  clear r hn
  go_enter Try.func29, Try.ntmps29
  go_wp2_with fail
  go_loopw [9] (fun x wr => ∃ (i : Nat), x = .int .i64 (i : Int) ∧ i ≤ len ∧ Hid ((∀ t ∈ l.take i, isProper t.1 t.2 = true) ∧ Below w.heap.size w wr)) (fun x _ => len - (intOf x).toNat)
  case atStart => exact ⟨0, rfl, Nat.zero_le _, fun t ht => absurd ht (by simp), Below.refl _ _⟩
  case round =>
    obtain ⟨i, rfl, hi, S⟩ := hrel
    by_cases hlt : i < len
    · obtain ⟨b, off, rfl, hc⟩ := (RH.out.by S.out.2).cells (by omega)
      obtain ⟨e0, e1⟩ := hc i hlt
      have MT : ∀ t ∈ l.take (i + 1), t ∈ l.take i ∨ t = l.getD i (0, 0) := fun t ht => by
        rw [List.take_succ_eq_append_getElem (by omega)] at ht
        rcases List.mem_append.1 ht with h | h
        · exact .inl h
        · rw [List.mem_singleton] at h
          exact .inr (by rw [getD_at l i (by omega), h])
      have GM : l.getD i (0, 0) ∈ l := by rw [getD_at l i (by omega)]; exact List.getElem_mem _
      obtain ⟨⟨x, y⟩, hxy⟩ : ∃ t, l.getD i (0, 0) = t := ⟨_, rfl⟩
      rw [hxy] at e0 e1 MT GM
      have HN : Hid ((∀ t ∈ l.take (i + 1), t ∈ l.take i ∨ t = (x, y)) ∧ (x, y) ∈ l) := ⟨MT, GM⟩
      have i1 : (i : Int) < (len : Int) := by omega
      have lb : b < wr.heap.size := World.block_lt_of_cell? wr _ e0
      clear hc hxy MT GM
      go_wp2_with fail
      refine (proper x y _).mono ?_
      rintro o w2 ⟨rfl, B2⟩
      have BW : Below w.heap.size w (wr.alloc (Obj.cells #[.int .i64 x, .int .i64 y] 29)) := S.out.2.alloc S.out.2.size _
      have B3 : Hid (Below w.heap.size w w2) := BW.trans (B2.mono BW.size)
      clear B2 BW e0 e1 lb
      cases hp : isProper x y
      · go_wp2_with fail
        go_ret2
        exact Or.inr ⟨⟨(x, y), HN.out.2, hp⟩, rfl, B3.out⟩
      · have S2 : Hid ((∀ t ∈ l.take (i + 1), isProper t.1 t.2 = true) ∧ Below w.heap.size w w2) := ⟨fun t ht => by
          rcases HN.out.1 t ht with q1 | q1
          · exact S.out.1 t q1
          · subst q1; exact hp, B3.out⟩
        go_wp2_with fail
        go_roundw
        case rel => exact ⟨i + 1, by go_num, by omega, S2.out⟩
        case measure => simp [intOf]; omega
    · obtain rfl : i = len := by omega
      have PR : Hid (∀ t ∈ l, isProper t.1 t.2 = true) := by
        have := S.out.1
        rwa [List.take_of_length_le (by omega)] at this
      have i1 : ¬ (i : Int) < (i : Int) := by omega
      go_wp2_with fail
      refine (clone a i cap l _ (RH.out.by S.out.2) NH.out (by omega)).mono ?_
      rintro o w1 ⟨p, c, rfl, R1, F1, B1⟩
      have B2 : Below w.heap.size w w1 := S.out.2.trans (B1.mono S.out.2.size)
      have F2 : From w.heap.size p := fun k hk => Nat.le_trans S.out.2.size (F1 k hk)
      have S1 : Hid (Row w1 p i c l ∧ From w.heap.size p ∧ Below w.heap.size w w1) := ⟨R1, F2, B2⟩
      clear B1 F1 B2 F2 S
      rcases R1.pos with ⟨rfl, hc0⟩ | ⟨g, off, cur, rfl, _⟩
      · obtain rfl : i = 0 := by have := R1.room; omega
        subst hc0
        clear R1
        have hl0 : l = [] := List.eq_nil_of_length_eq_zero hl
        go_wp2_with fail
        refine (sort_nil _).mono ?_
        rintro o w2 ⟨rfl, rfl⟩
        go_wp2_with fail
        refine (compact_nil _).mono ?_
        rintro o w3 ⟨rfl, rfl⟩
        go_wp2_with fail
        go_ret2
        refine Or.inl ⟨PR.out, _, none, 0, 0, [], rfl, IsSet.new (hl0 ▸ S1.out.1), List.Pairwise.nil, fun t => by rw [hl0], S1.out.2.2.size, fun k hk => by simp [blockOf] at hk, S1.out.2.2.alloc S1.out.2.2.size _⟩
      · clear R1
        go_wp2_with fail
        refine (sort_some g off i c l _ S1.out.1 (by omega)).mono ?_
        rintro o w2 ⟨rfl, S', hp, hsd, R2, K2⟩
        have S2 : Hid (S'.Perm l ∧ Sorted S' ∧ Row w2 (some ⟨g, off, none⟩) i c S' ∧ Below w.heap.size w w2 ∧ w.heap.size ≤ g) := ⟨hp, hsd, R2, Kept.from S1.out.2.2 K2 S1.out.2.2.size (S1.out.2.1 g rfl), S1.out.2.1 g rfl⟩
        clear hp hsd R2 K2 S1
        go_wp2_with fail
        refine (compact g off i c S' _ S2.out.2.2.1 (by omega)).mono ?_
        rintro o w3 ⟨rfl, R3, K3⟩
        have S3 : Hid (Row w3 (some ⟨g, off, none⟩) (comp S' i).length c (comp S' i) ∧ Below w.heap.size w w3) := ⟨R3, Kept.from S2.out.2.2.2.1 K3 S2.out.2.2.2.1.size S2.out.2.2.2.2⟩
        clear R3 K3
        go_wp2_with fail
        go_ret2
        have lS : S'.length = i := S2.out.2.2.1.length
        refine Or.inl ⟨PR.out, w3.heap.size, some ⟨g, off, none⟩, _, c, comp S' i, rfl, IsSet.new S3.out.1, comp_rising S' S2.out.2.1 i (by omega), fun t => ?_, S3.out.2.size, fun k hk => ?_, S3.out.2.alloc S3.out.2.size _⟩
        · rw [comp_mem S' t i (by omega), List.take_of_length_le (by omega)]
          exact S2.out.1.mem_iff
        · simp [blockOf] at hk
          have := S2.out.2.2.2.2
          omega
end Go.Proofs.Ytojepeefphbekaa
