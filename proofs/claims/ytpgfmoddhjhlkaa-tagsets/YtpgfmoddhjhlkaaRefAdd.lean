import Derived.Test.YtpgfmoddhjhlkaaRefFrom
import Derived.Test.YtpgfmoddhjhlkaaRow
import Derived.Deep.RegionLaw
namespace Go.Proofs.Ytpgfmoddhjhlkaa
open Go.RowKit

/-- A set: its block, and its list. -/
structure IsSet (ty : Nat) (w : World) (C : Nat) (q : Option Addr) (len cap : Nat) (R : List (Int × Int)) : Prop where
  blk : w.heap[C]? = some (.cells #[.slice q len cap] ty (0, 0))
  row : Row w q len cap R
  ne : ty ≠ 24
theorem IsSet.sv {ty : Nat} {w : World} {C : Nat} {q : Option Addr} {len cap : Nat} {R : List (Int × Int)} (h : IsSet ty w C q len cap R) : SV w C ty q len cap R := ⟨h.blk, h.row.reads⟩
theorem IsSet.by {ty : Nat} {w w' : World} {C : Nat} {q : Option Addr} {len cap : Nat} {R : List (Int × Int)} (h : IsSet ty w C q len cap R) (B : Below w.heap.size w w') : IsSet ty w' C q len cap R := ⟨(B.block C h.sv.lt).trans h.blk, h.row.by B, h.ne⟩
theorem IsSet.apart {ty : Nat} {w : World} {C : Nat} {q : Option Addr} {len cap : Nat} {R : List (Int × Int)} (h : IsSet ty w C q len cap R) : blockOf q ≠ some C := by
  rcases h.row.pos with ⟨rfl, _⟩ | ⟨g, off, cur, rfl, hg, _⟩
  · simp [blockOf]
  · intro e
    simp [blockOf] at e
    subst e
    rw [h.blk] at hg
    simp at hg
    exact h.ne hg.2
theorem IsSet.rowlt {ty : Nat} {w : World} {C : Nat} {q : Option Addr} {len cap : Nat} {R : List (Int × Int)} (h : IsSet ty w C q len cap R) : ∀ k, blockOf q = some k → k < w.heap.size := by
  intro k hk
  rcases h.row.pos with ⟨rfl, _⟩ | ⟨g, off, cur, rfl, hg, _⟩
  · simp [blockOf] at hk
  · simp [blockOf] at hk
    subst hk
    exact (Array.getElem?_eq_some_iff.1 hg).1
/-- Another list is laid into the set's block. -/
theorem IsSet.laid {ty : Nat} {w : World} {C : Nat} {q q' : Option Addr} {len cap len' cap' : Nat} {R' : List (Int × Int)} (hb : w.heap[C]? = some (.cells #[.slice q len cap] ty (0, 0))) (hn : ty ≠ 24) (r : Row w q' len' cap' R') : IsSet ty (w.setCell ⟨C, 0, none⟩ (.slice q' len' cap')) C q' len' cap' R' := by
  refine ⟨heap_set hb 0 _, ?_, hn⟩
  refine ⟨r.length, r.room, r.small, r.fit, ?_⟩
  rcases r.pos with e | ⟨g, off, cur, rfl, hg, hs, ht⟩
  · exact .inl e
  · refine .inr ⟨g, off, cur, rfl, ?_, hs, ht⟩
    rw [Below.heap_setCell w ⟨C, 0, none⟩ _ g (fun e => ?_)]
    · exact hg
    · have e : g = C := e
      subst e
      rw [hb] at hg
      simp at hg
      exact hn hg.2
/-- What changed: the set's own block and its own list's. -/
structure Moved (w w' : World) (C : Nat) (q q' : Option Addr) : Prop where
  kept : Kept (fun k => k = C ∨ blockOf q = some k) w w'
  near : ∀ k, blockOf q' = some k → blockOf q = some k ∨ w.heap.size ≤ k
theorem Moved.of_below {w w' : World} (B : Below w.heap.size w w') (C : Nat) (q : Option Addr) : Moved w w' C q q :=
  ⟨⟨B.os, B.tape, B.output, B.size, fun k hk _ => B.block k hk⟩, fun _ h => .inl h⟩
theorem Moved.appended {w w2 w3 w5 : World} {C : Nat} {q q5 : Option Addr} {v : Value} (B2 : Below w.heap.size w w2) (B3 : Below w2.heap.size w2 w3) (hg : w3.grownBy w5 (blockOf q)) (hn : q5 = q ∨ q5 = some ⟨w3.heap.size, 0, none⟩) : Moved w (w5.setCell ⟨C, 0, none⟩ v) C q q5 := by
  have B : Below w.heap.size w w3 := B2.trans (B3.mono B2.size)
  refine ⟨⟨hg.os.trans B.os, hg.tape.trans B.tape, hg.output.trans B.output, Nat.le_trans B.size (Nat.le_trans hg.size (by simp [World.setCell])), fun k hk hne => ?_⟩, fun k hk => ?_⟩
  · rw [Below.heap_setCell w5 ⟨C, 0, none⟩ v k (fun e => hne (.inl e))]
    exact (hg.block k (Nat.lt_of_lt_of_le hk B.size) (fun e => hne (.inr e.symm))).trans (B.block k hk)
  · rcases hn with rfl | rfl
    · exact .inl hk
    · simp [blockOf] at hk
      subst hk
      exact .inr B.size
/-- What Add makes of a list in no order. -/
def AddIs (R : List (Int × Int)) (x y : Int) (b : Bool) (e : Int) (R' : List (Int × Int)) : Prop :=
  (isProper x y = false ∧ b = false ∧ e = 41 ∧ R' = R) ∨ (isProper x y = true ∧ (x, y) ∈ R ∧ b = false ∧ e = 0 ∧ R' = R) ∨ (isProper x y = true ∧ (x, y) ∉ R ∧ b = true ∧ e = 0 ∧ R' = R ++ [(x, y)])
set_option maxRecDepth 100000 in
set_option maxHeartbeats 2000000 in
theorem rAdd (C : Nat) (q : Option Addr) (len cap : Nat) (R : List (Int × Int)) (x y : Int) (w : World) (h : IsSet 65 w C q len cap R) (hf : Fit [(x, y)]) (hb : (len + 1) * 16 ≤ 211106232532992) :
    Calls Try.prog 35 #[.pointer (some ⟨C, 0, none⟩), .agg #[.int .i64 x, .int .i64 y]] w fun o w' => ∃ b e q' len' cap' R', o = .returned (.tuple #[.bool b, .int .i64 e]) ∧ AddIs R x y b e R' ∧ IsSet 65 w' C q' len' cap' R' ∧ Moved w w' C q q' := by
  have B0 : Below w.heap.size w (w.alloc (Obj.cells #[.int .i64 x, .int .i64 y] 24)) := (Below.refl w.heap.size w).alloc (Nat.le_refl _) _
  have S0 : Hid (Below w.heap.size w (w.alloc (Obj.cells #[.int .i64 x, .int .i64 y] 24)) ∧ IsSet 65 (w.alloc (Obj.cells #[.int .i64 x, .int .i64 y] 24)) C q len cap R ∧ TagAt (w.alloc (Obj.cells #[.int .i64 x, .int .i64 y] 24)) w.heap.size x y) := ⟨B0, h.by B0, TagAt.new w x y⟩
  have HH : Hid (IsSet 65 w C q len cap R ∧ Fit [(x, y)]) := ⟨h, hf⟩
  clear B0 h hf
  go_enter Try.func35, Try.ntmps35
  go_wp2_with fail
  refine (rProper x y _).mono ?_
  rintro o w1 ⟨rfl, B1⟩
  have S1 : Hid (Below w.heap.size w w1 ∧ IsSet 65 w1 C q len cap R ∧ TagAt w1 w.heap.size x y) := ⟨S0.out.1.trans (B1.mono S0.out.1.size), S0.out.2.1.by B1, S0.out.2.2.by B1⟩
  clear B1 S0
  obtain ⟨t0, t1, _, _⟩ := S1.out.2.2.facts
  cases hp : isProper x y
  · go_wp2_with fail
    go_ret2
    exact ⟨false, 41, q, len, cap, R, rfl, .inl ⟨hp, rfl, rfl, rfl⟩, S1.out.2.1, Moved.of_below S1.out.1 C q⟩
  · go_wp2_with fail
    refine (rHas C q len cap R x y _ S1.out.2.1.sv).mono ?_
    rintro o w2 ⟨rfl, B2⟩
    have S2 : Hid (Below w.heap.size w w2 ∧ IsSet 65 w2 C q len cap R ∧ TagAt w2 w.heap.size x y) := ⟨S1.out.1.trans (B2.mono S1.out.1.size), S1.out.2.1.by B2, S1.out.2.2.by B2⟩
    clear B2 S1 t0 t1
    by_cases hm : (x, y) ∈ R
    · have d1 : decide ((x, y) ∈ R) = true := decide_eq_true hm
      have HM : Hid ((x, y) ∈ R) := hm
      clear hm
      go_wp2_with fail
      go_ret2
      exact ⟨false, 0, q, len, cap, R, rfl, .inr (.inl ⟨hp, HM.out, rfl, rfl, rfl⟩), S2.out.2.1, Moved.of_below S2.out.1 C q⟩
    · have d1 : decide ((x, y) ∈ R) = false := decide_eq_false hm
      have HM : Hid ((x, y) ∉ R) := hm
      obtain ⟨t0, t1, _, _⟩ := S2.out.2.2.facts
      have cC := S2.out.2.1.sv.cell
      have lC := S2.out.2.1.sv.lt
      have lt := S2.out.2.2.lt
      have R3 : Hid (Row ((w2.alloc (Obj.cells #[.int .i64 x, .int .i64 y] 24)).drew) q len cap R) := S2.out.2.1.row.by (((Below.refl _ _).alloc (Nat.le_refl _) _).drew)
      have ap := S2.out.2.1.apart
      have AP : Hid (blockOf q ≠ some C) := ap
      have B3 : Below w2.heap.size w2 ((w2.alloc (Obj.cells #[.int .i64 x, .int .i64 y] 24)).drew) := ((Below.refl _ _).alloc (Nat.le_refl _) _).drew
      have D4 : Hid (∀ w5, ((w2.alloc (Obj.cells #[.int .i64 x, .int .i64 y] 24)).drew).grownBy w5 (blockOf q) → w5.heap[C]? = some (.cells #[.slice q len cap] 65 (0, 0)) ∧ w5.cell? ⟨C, 0, none⟩ = some (.slice q len cap) ∧ w5.frozen? ⟨C, 0, none⟩ = false) := fun w5 hg => by
        have hb5 : w5.heap[C]? = some (.cells #[.slice q len cap] 65 (0, 0)) := (hg.block C (Nat.lt_of_lt_of_le lC B3.size) (fun e => AP.out e.symm)).trans ((B3.block C lC).trans S2.out.2.1.blk)
        exact ⟨hb5, by rw [cell_of_row w5 C 0 _ 65 (0, 0) hb5]; rfl, by simp [World.frozen?, hb5]⟩
      have NT : Hid (((w2.alloc (Obj.cells #[.int .i64 x, .int .i64 y] 24)).drew).cell? ⟨w2.heap.size, 0, none⟩ = some (.int .i64 x) ∧ ((w2.alloc (Obj.cells #[.int .i64 x, .int .i64 y] 24)).drew).cell? ⟨w2.heap.size, 1, none⟩ = some (.int .i64 y)) := ⟨(TagAt.new w2 x y).drew.facts.1, (TagAt.new w2 x y).drew.facts.2.1⟩
      clear hm ap B3
      go_upto_region 7 with fail
      go_region_law
        (first | (refine step_append_row _ (by rfl) (.tmp 18) (.tmp 20) (by rfl) q len cap R (by rfl) R3.out w2.heap.size (x, y) HH.out.2 (by rfl) NT.out.1 NT.out.2 hb ?_; intro q5 c5 w5 ho hg hn; obtain ⟨k0, k3, k4⟩ := D4.out w5 hg.out; have K0 : Hid (w5.heap[C]? = some (.cells #[.slice q len cap] 65 (0, 0))) := k0; clear k0) | fail)
      all_goals go_wp2_with fail
      all_goals go_ret2
      all_goals exact ⟨true, 0, q5, len + 1, c5, R ++ [(x, y)], rfl, .inr (.inr ⟨hp, HM.out, rfl, rfl, rfl⟩), IsSet.laid K0.out (by decide) ho.out, Moved.appended S2.out.1 (((Below.refl _ _).alloc (Nat.le_refl _) _).drew) hg.out hn.out⟩
end Go.Proofs.Ytpgfmoddhjhlkaa
