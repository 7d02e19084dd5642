import Derived.Test.YtpgfmoddhjhlkaaNewSet
namespace Go.Proofs.Ytpgfmoddhjhlkaa
open Go.RowKit

/-- The set and the document's set, side by side: all that is theirs lies from N on. -/
structure Pair (N : Nat) (w0 w : World) (B C : Nat) (q r : Option Addr) (len c1 m c2 : Nat) (S R : List (Int × Int)) : Prop where
  s : IsSet 62 w B q len c1 S
  rf : IsSet 65 w C r m c2 R
  apart : ∀ k, blockOf q = some k → blockOf r ≠ some k
  nB : N ≤ B
  nC : N ≤ C
  nq : From N q
  nr : From N r
  base : N ≤ w.heap.size
  below : Below N w0 w
structure Two (N : Nat) (w0 w : World) (B C : Nat) (q r : Option Addr) (len c1 m c2 : Nat) (S R : List (Int × Int)) : Prop extends Pair N w0 w B C q r len c1 m c2 S R where
  rise : Rising S
  perm : R.Perm S
theorem IsSet.kept {ty : Nat} {w w' : World} {C : Nat} {q : Option Addr} {len cap : Nat} {R : List (Int × Int)} (h : IsSet ty w C q len cap R) {K : Nat → Prop} (k : Kept K w w') (hC : ¬ K C) (hq : ∀ k, blockOf q = some k → ¬ K k) : IsSet ty w' C q len cap R :=
  ⟨k.get h.blk hC, h.row.kept k (fun p e => hq p.block (by rw [e]; rfl)), h.ne⟩
theorem IsSet.far {ty ty' : Nat} {w : World} {B C : Nat} {q r : Option Addr} {len cap m c : Nat} {S R : List (Int × Int)} (h : IsSet ty w B q len cap S) (g : IsSet ty' w C r m c R) : blockOf q ≠ some C := by
  intro e
  rcases h.row.pos with ⟨rfl, _⟩ | ⟨b, off, cur, rfl, hb, _⟩
  · simp [blockOf] at e
  · simp [blockOf] at e
    subst e
    have := g.blk
    rw [hb] at this
    simp at this
    exact g.ne this.2.symm
theorem Pair.ne {N : Nat} {w0 w : World} {B C : Nat} {q r : Option Addr} {len c1 m c2 : Nat} {S R : List (Int × Int)} (h : Pair N w0 w B C q r len c1 m c2 S R) : B ≠ C := by
  rintro rfl
  have := h.s.blk.symm.trans h.rf.blk
  simp at this
theorem Pair.movedS {N : Nat} {w0 w w' : World} {B C : Nat} {q r q' : Option Addr} {len c1 m c2 len' c' : Nat} {S R S' : List (Int × Int)} (h : Pair N w0 w B C q r len c1 m c2 S R) (i : IsSet 62 w' B q' len' c' S') (mv : Moved w w' B q q') : Pair N w0 w' B C q' r len' c' m c2 S' R := by
  obtain ⟨b, f⟩ := Moved.below h.below mv h.base h.nB h.nq
  have ne := h.ne
  refine ⟨i, h.rf.kept mv.kept (fun e => ?_) (fun k hk e => ?_), fun k hk e => ?_, h.nB, h.nC, f, h.nr, Nat.le_trans h.base mv.kept.size, b⟩
  · rcases e with e | e
    · exact ne e.symm
    · exact h.s.far h.rf e
  · rcases e with e | e
    · subst e; exact h.rf.far h.s hk
    · exact h.apart k e hk
  · rcases mv.near k hk with g | g
    · exact h.apart k g e
    · have := h.rf.rowlt k e; omega
theorem Pair.movedR {N : Nat} {w0 w w' : World} {B C : Nat} {q r r' : Option Addr} {len c1 m c2 m' c' : Nat} {S R R' : List (Int × Int)} (h : Pair N w0 w B C q r len c1 m c2 S R) (i : IsSet 65 w' C r' m' c' R') (mv : Moved w w' C r r') : Pair N w0 w' B C q r' len c1 m' c' S R' := by
  obtain ⟨b, f⟩ := Moved.below h.below mv h.base h.nC h.nr
  have ne := h.ne
  refine ⟨h.s.kept mv.kept (fun e => ?_) (fun k hk e => ?_), i, fun k hk e => ?_, h.nB, h.nC, h.nq, f, Nat.le_trans h.base mv.kept.size, b⟩
  · rcases e with e | e
    · exact ne e
    · exact h.rf.far h.s e
  · rcases e with e | e
    · subst e; exact h.s.far h.rf hk
    · exact h.apart k hk e
  · rcases mv.near k e with g | g
    · exact h.apart k hk g
    · have := h.s.rowlt k hk; omega
/-- One call of a script, as a value. -/
def opV (k x y n : Int) : Value := .agg #[.int .i64 k, .int .i64 x, .int .i64 y, .int .i64 n]
def opC (k x y n : Int) : Obj := .cells #[.int .i64 k, .int .i64 x, .int .i64 y, .int .i64 n] 52
theorem Two.by {N : Nat} {w0 w w' : World} {B C : Nat} {q r : Option Addr} {len c1 m c2 : Nat} {S R : List (Int × Int)} (h : Two N w0 w B C q r len c1 m c2 S R) (b : Below w.heap.size w w') : Two N w0 w' B C q r len c1 m c2 S R :=
  ⟨⟨h.s.by b, h.rf.by b, h.apart, h.nB, h.nC, h.nq, h.nr, Nat.le_trans h.base b.size, h.below.trans (b.mono h.base)⟩, h.rise, h.perm⟩
/-- What a step leaves. -/
def Stepped (N : Nat) (w0 : World) (B C len : Nat) (o : Ending) (w' : World) : Prop :=
  o = .returned (.bool true) ∧ ∃ q r len' c1 m c2 S R, Two N w0 w' B C q r len' c1 m c2 S R ∧ len' ≤ len + 1
set_option maxRecDepth 100000 in
set_option maxHeartbeats 1000000 in
theorem step_other (N : Nat) (w0 : World) (B C : Nat) (q r : Option Addr) (len c1 m c2 : Nat) (S R : List (Int × Int)) (k x y n : Int) (w : World) (h : Two N w0 w B C q r len c1 m c2 S R) (h0 : ¬ k = 0) (h1 : ¬ k = 1) (h2 : ¬ k = 2) (h3 : ¬ k = 3) (h4 : ¬ k = 4) :
    Calls Try.prog 21 #[.pointer (some ⟨B, 0, none⟩), .pointer (some ⟨C, 0, none⟩), opV k x y n] w (Stepped N w0 B C len) := by
  have H : Hid (Two N w0 (w.alloc (opC k x y n)) B C q r len c1 m c2 S R) := h.by ((Below.refl _ _).alloc (Nat.le_refl _) _)
  clear h
  unfold opV
  go_enter Try.func21, Try.ntmps21
  go_wp2_with fail
  go_ret
  exact ⟨rfl, q, r, len, c1, m, c2, S, R, H.out, by omega⟩
set_option maxRecDepth 100000 in
set_option maxHeartbeats 1000000 in
theorem step_has (N : Nat) (w0 : World) (B C : Nat) (q r : Option Addr) (len c1 m c2 : Nat) (S R : List (Int × Int)) (x y n : Int) (w : World) (h : Two N w0 w B C q r len c1 m c2 S R) (hb : (len + 1) * 16 ≤ 211106232532992) :
    Calls Try.prog 21 #[.pointer (some ⟨B, 0, none⟩), .pointer (some ⟨C, 0, none⟩), opV 1 x y n] w (Stepped N w0 B C len) := by
  have b1 : Below w.heap.size w (w.alloc (opC 1 x y n)) := (Below.refl _ _).alloc (Nat.le_refl _) _
  have H : Hid (∀ w1, Below w.heap.size w w1 → Two N w0 w1 B C q r len c1 m c2 S R) := fun w1 b => h.by b
  obtain ⟨bb, hbb⟩ : ∃ b, decide ((x, y) ∈ S) = b := ⟨_, rfl⟩
  have cS : Hid (∀ w1, Below w.heap.size w w1 → Calls Try.prog 12 #[.pointer (some ⟨B, 0, none⟩), .agg #[.int .i64 x, .int .i64 y]] w1 fun o w' => o = .returned (.bool bb) ∧ Below w1.heap.size w1 w') := fun w1 b => by
    have := sHas B q len c1 S x y w1 (h.by b).s.sv h.rise (by omega)
    rw [hbb] at this
    exact this
  have cR : Hid (∀ w1, Below w.heap.size w w1 → Calls Try.prog 37 #[.pointer (some ⟨C, 0, none⟩), .agg #[.int .i64 x, .int .i64 y]] w1 fun o w' => o = .returned (.bool bb) ∧ Below w1.heap.size w1 w') := fun w1 b => by
    have := rHas C r m c2 R x y w1 (h.by b).rf.sv
    have e : decide ((x, y) ∈ R) = bb := by rw [← hbb, decide_eq_decide]; exact h.perm.mem_iff
    rw [e] at this
    exact this
  have blk : (w.alloc (opC 1 x y n)).heap[w.heap.size]? = some (opC 1 x y n) := heap_alloc_new w _
  have t0 : (w.alloc (opC 1 x y n)).cell? ⟨w.heap.size, 1, none⟩ = some (.int .i64 x) := cell_blk blk 1 rfl
  have t1 : (w.alloc (opC 1 x y n)).cell? ⟨w.heap.size, 2, none⟩ = some (.int .i64 y) := cell_blk blk 2 rfl
  have S0 : Hid (Below w.heap.size w (w.alloc (opC 1 x y n)).drew) := b1.drew
  have KP : Hid (∀ w1 w2, Below w.heap.size w w1 → w1.cell? ⟨w.heap.size, 1, none⟩ = some (.int .i64 x) → w1.cell? ⟨w.heap.size, 2, none⟩ = some (.int .i64 y) → Below w1.heap.size w1 w2 → (w2.cell? ⟨w.heap.size, 1, none⟩ = some (.int .i64 x) ∧ w2.cell? ⟨w.heap.size, 2, none⟩ = some (.int .i64 y)) ∧ Below w.heap.size w w2) :=
    fun w1 w2 b1 e0 e1 b2 => ⟨⟨(b2.cell (World.block_lt_of_cell? w1 _ e0)).trans e0, (b2.cell (World.block_lt_of_cell? w1 _ e1)).trans e1⟩, b1.trans (b2.mono b1.size)⟩
  clear h b1 hbb blk
  unfold opV
  unfold opC at t0 t1 S0
  go_enter Try.func21, Try.ntmps21
  go_upto_region 7 with fail
  go_region_held3 (fun w' => w'.cell? ⟨w.heap.size, 1, none⟩ = some (.int .i64 x) ∧ w'.cell? ⟨w.heap.size, 2, none⟩ = some (.int .i64 y)) (go_keep)
    (first
      | (go_at_call 12; first | (refine (cS.out _ SR.out).mono ?_; rintro e w3 ⟨rfl, B2⟩; obtain ⟨⟨q0, q1⟩, SS⟩ := KP.out _ w3 SR.out (by assumption) (by assumption) B2; have SE : Hid (Below w.heap.size w w3) := SS; clear SS B2) | (refine (cS.out _ S0.out).mono ?_; rintro e w2 ⟨rfl, B2⟩; obtain ⟨⟨q0, q1⟩, SS⟩ := KP.out _ w2 S0.out (by first | assumption | exact t0) (by first | assumption | exact t1) B2; have SL : Hid (Below w.heap.size w w2) := SS; clear SS B2))
      | (go_at_call 37; first | (refine (cR.out _ SL.out).mono ?_; rintro e w3 ⟨rfl, B2⟩; obtain ⟨⟨q0, q1⟩, SS⟩ := KP.out _ w3 SL.out (by assumption) (by assumption) B2; have SE : Hid (Below w.heap.size w w3) := SS; clear SS B2) | (refine (cR.out _ S0.out).mono ?_; rintro e w2 ⟨rfl, B2⟩; obtain ⟨⟨q0, q1⟩, SS⟩ := KP.out _ w2 S0.out (by first | assumption | exact t0) (by first | assumption | exact t1) B2; have SR : Hid (Below w.heap.size w w2) := SS; clear SS B2))
      | fail)
  all_goals go_wp2_with fail
  all_goals go_ret
  all_goals exact ⟨rfl, q, r, len, c1, m, c2, S, R, H.out _ SE.out, by omega⟩
theorem add_same {S R S' R' : List (Int × Int)} {x y : Int} {b b' : Bool} {e e' : Int} (hS : Rising S) (hP : R.Perm S) (h1 : AddS S x y b e S') (h2 : AddIs R x y b' e' R') : b' = b ∧ e' = e ∧ Rising S' ∧ R'.Perm S' ∧ S'.length ≤ S.length + 1 := by
  have hm : (x, y) ∈ R ↔ (x, y) ∈ S := hP.mem_iff
  rcases h1 with ⟨a, rfl, rfl, rfl⟩ | ⟨a, c, rfl, rfl, rfl⟩ | ⟨a, c, rfl, rfl, rfl⟩ <;> rcases h2 with ⟨a2, rfl, rfl, rfl⟩ | ⟨a2, c2, rfl, rfl, rfl⟩ | ⟨a2, c2, rfl, rfl, rfl⟩
  · exact ⟨rfl, rfl, hS, hP, by omega⟩
  · rw [a] at a2; cases a2
  · rw [a] at a2; cases a2
  · rw [a] at a2; cases a2
  · exact ⟨rfl, rfl, hS, hP, by omega⟩
  · exact absurd (hm.2 c) c2
  · rw [a] at a2; cases a2
  · exact absurd (hm.1 c2) c
  · refine ⟨rfl, rfl, put_rising S (x, y) hS c, ?_, by rw [put_length]; exact Nat.le_refl _⟩
    refine List.Perm.trans ?_ (put_perm S (x, y)).symm
    exact (List.perm_append_comm (l₁ := R) (l₂ := [(x, y)])).trans (List.Perm.cons _ hP)
set_option maxRecDepth 100000 in
set_option maxHeartbeats 1000000 in
theorem step_add (N : Nat) (w0 : World) (B C : Nat) (q r : Option Addr) (len c1 m c2 : Nat) (S R : List (Int × Int)) (x y n : Int) (w : World) (h : Two N w0 w B C q r len c1 m c2 S R) (hf : Fit [(x, y)]) (hb : (len + 1) * 16 ≤ 211106232532992) :
    Calls Try.prog 21 #[.pointer (some ⟨B, 0, none⟩), .pointer (some ⟨C, 0, none⟩), opV 0 x y n] w (Stepped N w0 B C len) := by
  have b1 : Below w.heap.size w (w.alloc (opC 0 x y n)) := (Below.refl _ _).alloc (Nat.le_refl _) _
  have H : Hid (Two N w0 (w.alloc (opC 0 x y n)) B C q r len c1 m c2 S R) := h.by b1
  have HF : Hid (Fit [(x, y)]) := hf
  have hm : m = len := by
    have e1 := h.rf.row.length
    have e2 := h.s.row.length
    have := h.perm.length_eq
    omega
  have blk : (w.alloc (opC 0 x y n)).heap[w.heap.size]? = some (opC 0 x y n) := heap_alloc_new w _
  have NB : Hid (w.heap.size ≠ B ∧ blockOf q ≠ some w.heap.size) := ⟨fun e => by have := h.s.sv.lt; omega, fun e => by have := h.s.rowlt _ e; omega⟩
  have BK : Hid ((w.alloc (opC 0 x y n)).heap[w.heap.size]? = some (opC 0 x y n)) := blk
  clear h b1 hf blk
  unfold opV
  unfold opC at H BK
  go_enter Try.func21, Try.ntmps21
  go_wp2_with fail
  refine (sAdd B q len c1 S x y _ H.out.s H.out.rise HF.out hb).mono ?_
  rintro o w1 ⟨bb, ee, q', len', c', S', rfl, A1, I1, M1⟩
  have H1 : Hid (Pair N w0 w1 B C q' r len' c' m c2 S' R ∧ AddS S x y bb ee S' ∧ Rising S ∧ R.Perm S) := ⟨H.out.toPair.movedS I1 M1, A1, H.out.rise, H.out.perm⟩
  have bk1 : w1.heap[w.heap.size]? = some (.cells #[.int .i64 0, .int .i64 x, .int .i64 y, .int .i64 n] 52 (0, 0)) := M1.kept.get BK.out (fun e => by
    rcases e with e | e
    · exact NB.out.1 e
    · exact NB.out.2 e)
  have t0 := cell_blk bk1 1 (v := .int .i64 x) rfl
  have t1 := cell_blk bk1 2 (v := .int .i64 y) rfl
  clear A1 I1 M1 H bk1
  go_wp2_with fail
  refine (rAdd C r m c2 R x y _ H1.out.1.rf HF.out (by omega)).mono ?_
  rintro o w2 ⟨bb', ee', r', m', c2', R', rfl, A2, I2, M2⟩
  obtain ⟨rfl, rfl, hr, hp, hln⟩ := add_same H1.out.2.2.1 H1.out.2.2.2 H1.out.2.1 A2
  have e1 : S.length = len := by
    have := H1.out.2.2.2.length_eq
    have := H1.out.1.rf.row.length
    omega
  have H2 : Hid (Two N w0 w2 B C q' r' len' c' m' c2' S' R' ∧ len' ≤ len + 1) := ⟨⟨H1.out.1.movedR I2 M2, hr, hp⟩, by have := H1.out.1.s.row.length; omega⟩
  clear A2 I2 M2 H1 hr hp hln t0 t1
  go_wp2_with fail
  go_ret
  exact ⟨by simp, q', r', len', c', m', c2', S', R', H2.out⟩
end Go.Proofs.Ytpgfmoddhjhlkaa
