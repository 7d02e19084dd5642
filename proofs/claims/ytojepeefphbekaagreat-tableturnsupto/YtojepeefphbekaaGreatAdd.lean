import Derived.Test.YtojepeefphbekaaGreatInsert
namespace Go.Proofs.YtojepeefphbekaaGreat
open Go.RowKit

theorem Moved.ins {w w3 w5 : World} {C : Nat} {q q5 : Option Addr} {v : Value} (B3 : Below w.heap.size w w3) (hg : w3.grownBy w5 (blockOf q)) (hn : blockOf q5 = blockOf q ∨ blockOf q5 = some w3.heap.size) : Moved w (w5.setCell ⟨C, 0, none⟩ v) C q q5 := by
  refine ⟨⟨hg.os.trans B3.os, hg.tape.trans B3.tape, hg.output.trans B3.output, Nat.le_trans B3.size (Nat.le_trans hg.size (by simp [World.setCell])), fun k hk hne => ?_⟩, fun k hk => ?_⟩
  · rw [Below.heap_setCell w5 ⟨C, 0, none⟩ _ k (fun e => hne (.inl e))]
    exact (hg.block k (Nat.lt_of_lt_of_le hk B3.size) (fun e => hne (.inr e.symm))).trans (B3.block k hk)
  · rcases hn with e | e
    · exact .inl (by rw [← e]; exact hk)
    · rw [e] at hk
      have := B3.size
      right
      simp at hk
      omega
/-- What Add makes of a rising list. -/
def AddS (S : List (Int × Int)) (x y : Int) (b : Bool) (e : Int) (S' : List (Int × Int)) : Prop :=
  (isProper x y = false ∧ b = false ∧ e = 41 ∧ S' = S) ∨ (isProper x y = true ∧ (x, y) ∈ S ∧ b = false ∧ e = 0 ∧ S' = S) ∨ (isProper x y = true ∧ (x, y) ∉ S ∧ b = true ∧ e = 0 ∧ S' = put S (x, y))
set_option maxRecDepth 100000 in
set_option maxHeartbeats 2000000 in
/-- Add. -/
theorem sAdd (B : Nat) (q : Option Addr) (len cap : Nat) (S : List (Int × Int)) (x y : Int) (w : World) (h : IsSet 142 w B q len cap S) (hS : Rising S) (hf : Fit [(x, y)]) (hb : (len + 1) * 16 ≤ 211106232532992) :
    Calls Tryz.prog 69 #[.pointer (some ⟨B, 0, none⟩), .agg #[.int .i64 x, .int .i64 y]] w fun o w' => ∃ b e q' len' cap' S', o = .returned (.tuple #[.bool b, .int .i64 e]) ∧ AddS S x y b e S' ∧ IsSet 142 w' B q' len' cap' S' ∧ Moved w w' B q q' := by
  have B0 : Below w.heap.size w (w.alloc (Obj.cells #[.int .i64 x, .int .i64 y] 37)) := (Below.refl w.heap.size w).alloc (Nat.le_refl _) _
  have S0 : Hid (Below w.heap.size w (w.alloc (Obj.cells #[.int .i64 x, .int .i64 y] 37)) ∧ IsSet 142 (w.alloc (Obj.cells #[.int .i64 x, .int .i64 y] 37)) B q len cap S ∧ TagAt (w.alloc (Obj.cells #[.int .i64 x, .int .i64 y] 37)) w.heap.size x y) := ⟨B0, h.by B0, TagAt.new w x y⟩
  have HH : Hid (IsSet 142 w B q len cap S ∧ Fit [(x, y)] ∧ Rising S) := ⟨h, hf, hS⟩
  obtain ⟨A, hA⟩ : ∃ A, ahead S (x, y) = A := ⟨_, rfl⟩
  have hl := h.row.length
  have hAl : A ≤ len := by rw [← hA, ← hl]; exact ahead_le _ _
  have HA : Hid (ahead S (x, y) = A) := hA
  have cP : Hid (∀ w1, SV w1 B 142 q len cap S → Calls Tryz.prog 88 #[.pointer (some ⟨B, 0, none⟩), .agg #[.int .i64 x, .int .i64 y]] w1 fun o w' => o = .returned (.int .i64 (A : Int)) ∧ Below w1.heap.size w1 w') := fun w1 h1 => by
    have := place B q len cap S x y w1 h1 hS (by omega)
    rw [hA] at this
    exact this
  have cA : Hid (∀ w1, SV w1 B 142 q len cap S → Calls Tryz.prog 105 #[.pointer (some ⟨B, 0, none⟩), .int .i64 (A : Int), .agg #[.int .i64 x, .int .i64 y]] w1 fun o w' => o = .returned (.bool (decide ((x, y) ∈ S))) ∧ Below w1.heap.size w1 w') := fun w1 h1 => by
    have := sAt B q len cap S x y A w1 h1 hAl (by omega)
    have e : decide (S[A]? = some (x, y)) = decide ((x, y) ∈ S) := by
      rw [decide_eq_decide, ← hA]
      exact (mem_iff S (x, y) hS).symm
    rw [e] at this
    exact this
  clear B0 h hf hS hA
  go_enter Tryz.func69, Tryz.ntmps69
  go_wp2_with fail
  refine (proper x y _).mono ?_
  rintro o w1 ⟨rfl, B1⟩
  have S1 : Hid (Below w.heap.size w w1 ∧ IsSet 142 w1 B q len cap S ∧ TagAt w1 w.heap.size x y) := ⟨S0.out.1.trans (B1.mono S0.out.1.size), S0.out.2.1.by B1, S0.out.2.2.by B1⟩
  clear B1 S0
  obtain ⟨t0, t1, _, _⟩ := S1.out.2.2.facts
  cases hp : isProper x y
  · go_wp2_with fail
    go_ret2
    exact ⟨false, 41, q, len, cap, S, rfl, .inl ⟨hp, rfl, rfl, rfl⟩, S1.out.2.1, Moved.of_below S1.out.1 B q⟩
  · go_wp2_with fail
    refine (cP.out _ S1.out.2.1.sv).mono ?_
    rintro o w2 ⟨rfl, B2⟩
    have S2 : Hid (Below w.heap.size w w2 ∧ IsSet 142 w2 B q len cap S ∧ TagAt w2 w.heap.size x y) := ⟨S1.out.1.trans (B2.mono S1.out.1.size), S1.out.2.1.by B2, S1.out.2.2.by B2⟩
    clear B2 S1 t0 t1
    obtain ⟨t0, t1, _, _⟩ := S2.out.2.2.facts
    go_wp2_with fail
    refine (cA.out _ S2.out.2.1.sv).mono ?_
    rintro o w3 ⟨rfl, B3⟩
    have S3 : Hid (Below w.heap.size w w3 ∧ IsSet 142 w3 B q len cap S ∧ TagAt w3 w.heap.size x y) := ⟨S2.out.1.trans (B3.mono S2.out.1.size), S2.out.2.1.by B3, S2.out.2.2.by B3⟩
    clear B3 S2 t0 t1
    by_cases hm : (x, y) ∈ S
    · have d1 : decide ((x, y) ∈ S) = true := decide_eq_true hm
      have HM : Hid ((x, y) ∈ S) := hm
      clear hm
      go_wp2_with fail
      go_ret2
      exact ⟨false, 0, q, len, cap, S, rfl, .inr (.inl ⟨hp, HM.out, rfl, rfl, rfl⟩), S3.out.2.1, Moved.of_below S3.out.1 B q⟩
    · have d1 : decide ((x, y) ∈ S) = false := decide_eq_false hm
      have HM : Hid ((x, y) ∉ S) := hm
      obtain ⟨t0, t1, _, _⟩ := S3.out.2.2.facts
      have cC := S3.out.2.1.sv.cell
      have lC := S3.out.2.1.sv.lt
      have lt := S3.out.2.2.lt
      have AP : Hid (blockOf q ≠ some B) := S3.out.2.1.apart
      have B4 : Below w3.heap.size w3 ((w3.alloc (Obj.cells #[.int .i64 x, .int .i64 y] 37)).drew) := ((Below.refl _ _).alloc (Nat.le_refl _) _).drew
      have B3 : Hid (Below w.heap.size w ((w3.alloc (Obj.cells #[.int .i64 x, .int .i64 y] 37)).drew)) := S3.out.1.trans (B4.mono S3.out.1.size)
      have I3 : Hid (IsSet 142 ((w3.alloc (Obj.cells #[.int .i64 x, .int .i64 y] 37)).drew) B q len cap S) := S3.out.2.1.by B4
      have cI : Hid (Calls Tryz.prog 106 #[.slice q len cap, .int .i64 (A : Int), .slice (some ⟨w3.heap.size, 0, none⟩) 1 1] ((w3.alloc (Obj.cells #[.int .i64 x, .int .i64 y] 37)).drew) fun o w' => ∃ q' c', o = .returned (.slice q' (len + 1) c') ∧ Hid (InsIs ((w3.alloc (Obj.cells #[.int .i64 x, .int .i64 y] 37)).drew) w' q q' len c' S A x y) ∧ Hid (w'.heap[B]? = some (.cells #[.slice q len cap] 142 (0, 0))) ∧ w'.cell? ⟨B, 0, none⟩ = some (.slice q len cap) ∧ w'.frozen? ⟨B, 0, none⟩ = false) := by
        refine (insert q len cap S x y A w3.heap.size _ I3.out.row (TagAt.new w3 x y).drew HH.out.2.1 hAl (fun e => ?_) hb).mono ?_
        · have := S3.out.2.1.rowlt _ e
          omega
        · rintro o w' ⟨q', c', rfl, II⟩
          have hb5 : w'.heap[B]? = some (.cells #[.slice q len cap] 142 (0, 0)) := (II.2.1.block B (Nat.lt_of_lt_of_le lC B4.size) (fun e => AP.out e.symm)).trans I3.out.blk
          exact ⟨q', c', rfl, II, hb5, by rw [cell_of_row w' B 0 _ 142 (0, 0) hb5]; rfl, by simp [World.frozen?, hb5]⟩
      clear hm B4
      go_upto_region 8 with fail
      go_region_with (first | (go_at_call 106; refine cI.out.mono ?_; rintro o w5 ⟨q5, c5, rfl, II, K0, k3, k4⟩) | fail)
      all_goals go_wp2_with fail
      all_goals go_ret2
      all_goals exact ⟨true, 0, q5, len + 1, c5, put S (x, y), rfl, .inr (.inr ⟨hp, HM.out, rfl, rfl, rfl⟩), IsSet.laid K0.out (by decide) (by unfold put; rw [HA.out]; exact II.out.1), Moved.ins B3.out II.out.2.1 II.out.2.2⟩
end Go.Proofs.YtojepeefphbekaaGreat
