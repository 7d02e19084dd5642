import Derived.Test.YtpgfmoddhjhlkaaStep
namespace Go.Proofs.Ytpgfmoddhjhlkaa
open Go.RowKit

theorem op_kept {ty : Nat} {w w' : World} {B X : Nat} {q q' : Option Addr} {len cap : Nat} {S : List (Int × Int)} {cs : Array Value} (h : IsSet ty w B q len cap S) (mv : Moved w w' B q q') (ht : ty ≠ 52) (hx : w.heap[X]? = some (.cells cs 52 (0, 0))) : w'.heap[X]? = some (.cells cs 52 (0, 0)) := by
  refine mv.kept.get hx (fun e => ?_)
  rcases e with e | e
  · subst e
    have := h.blk.symm.trans hx
    simp at this
    exact ht this.2
  · rcases h.row.pos with ⟨rfl, _⟩ | ⟨b, off, cur, rfl, hb, _⟩
    · simp [blockOf] at e
    · simp [blockOf] at e
      subst e
      rw [hb] at hx
      simp at hx
set_option maxRecDepth 100000 in
set_option maxHeartbeats 1000000 in
theorem step_cut (N : Nat) (w0 : World) (B C : Nat) (q r : Option Addr) (len c1 m c2 : Nat) (S R : List (Int × Int)) (x y n : Int) (w : World) (h : Two N w0 w B C q r len c1 m c2 S R) (hb : (len + 1) * 16 ≤ 211106232532992) :
    Calls Try.prog 21 #[.pointer (some ⟨B, 0, none⟩), .pointer (some ⟨C, 0, none⟩), opV 4 x y n] w (Stepped N w0 B C len) := by
  have b1 : Below w.heap.size w (w.alloc (opC 4 x y n)) := (Below.refl _ _).alloc (Nat.le_refl _) _
  have H0 := h.by b1
  have hm : m = len := by
    have e1 := h.rf.row.length
    have e2 := h.s.row.length
    have := h.perm.length_eq
    omega
  obtain ⟨A, hA⟩ : ∃ A, ahead S (x, y) = A := ⟨_, rfl⟩
  obtain ⟨X, hX⟩ : ∃ X, w.heap.size = X := ⟨_, rfl⟩
  have fin : Hid (Rising (S.drop A)) := drop_rising S h.rise A
  have cS : Hid (∀ w1 r1 m1 c3 R1, Pair N w0 w1 B C q r1 len c1 m1 c3 S R1 → w1.heap[X]? = some (opC 4 x y n) → Calls Try.prog 14 #[.pointer (some ⟨B, 0, none⟩), .agg #[.int .i64 x, .int .i64 y]] w1 fun o w' => ∃ q' c', o = .returned (.int .i64 (A : Int)) ∧ Hid (Pair N w0 w' B C q' r1 (len - A) c' m1 c3 (S.drop A) R1 ∧ w'.heap[X]? = some (opC 4 x y n)) ∧ w'.cell? ⟨X, 1, none⟩ = some (.int .i64 x) ∧ w'.cell? ⟨X, 2, none⟩ = some (.int .i64 y)) := fun w1 r1 m1 c3 R1 hp hx => by
    refine (sCut B q len c1 S x y w1 hp.s h.rise (by omega)).mono ?_
    rintro o w' ⟨q', c', rfl, I, M⟩
    rw [hA] at I ⊢
    have hx' := op_kept hp.s M (by decide) hx
    exact ⟨q', c', rfl, ⟨hp.movedS I M, hx'⟩, cell_blk hx' 1 rfl, cell_blk hx' 2 rfl⟩
  have cR : Hid (∀ w1 q1 m1 c3 S1, Pair N w0 w1 B C q1 r m1 c3 m c2 S1 R → w1.heap[X]? = some (opC 4 x y n) → Calls Try.prog 40 #[.pointer (some ⟨C, 0, none⟩), .agg #[.int .i64 x, .int .i64 y]] w1 fun o w' => ∃ r' c', o = .returned (.int .i64 (A : Int)) ∧ Hid (Pair N w0 w' B C q1 r' m1 c3 (m - A) c' S1 (S.drop A) ∧ w'.heap[X]? = some (opC 4 x y n)) ∧ w'.cell? ⟨X, 1, none⟩ = some (.int .i64 x) ∧ w'.cell? ⟨X, 2, none⟩ = some (.int .i64 y)) := fun w1 q1 m1 c3 S1 hp hx => by
    refine (rCut C r m c2 R S x y w1 hp.rf h.rise h.perm (by omega)).mono ?_
    rintro o w' ⟨q', c', rfl, I, M⟩
    rw [hA] at I ⊢
    have hx' := op_kept hp.rf M (by decide) hx
    exact ⟨q', c', rfl, ⟨hp.movedR I M, hx'⟩, cell_blk hx' 1 rfl, cell_blk hx' 2 rfl⟩
  have blk : (w.alloc (opC 4 x y n)).heap[X]? = some (opC 4 x y n) := by rw [← hX]; exact heap_alloc_new w _
  have t0 : (w.alloc (opC 4 x y n)).cell? ⟨X, 1, none⟩ = some (.int .i64 x) := cell_blk blk 1 rfl
  have t1 : (w.alloc (opC 4 x y n)).cell? ⟨X, 2, none⟩ = some (.int .i64 y) := cell_blk blk 2 rfl
  have S0 : Hid (Pair N w0 (w.alloc (opC 4 x y n)).drew B C q r len c1 m c2 S R ∧ (w.alloc (opC 4 x y n)).drew.heap[X]? = some (opC 4 x y n)) := ⟨(H0.by ((Below.refl _ _).drew)).toPair, blk⟩
  have hX' : X = w.heap.size := hX.symm
  clear h b1 hA H0 hX
  unfold opV
  subst hX'
  unfold opC at t0 t1 S0
  go_enter Try.func21, Try.ntmps21
  go_upto_region 23 with fail
  go_region_held3 (fun w' => w'.cell? ⟨w.heap.size, 1, none⟩ = some (.int .i64 x) ∧ w'.cell? ⟨w.heap.size, 2, none⟩ = some (.int .i64 y)) (go_keep)
    (first
      | (go_at_call 14; first | (refine (cS.out _ _ _ _ _ SR.out.1 SR.out.2).mono ?_; rintro e w3 ⟨q5, c5, rfl, SE, q0, q1⟩) | (refine (cS.out _ _ _ _ _ S0.out.1 S0.out.2).mono ?_; rintro e w2 ⟨q5, c5, rfl, SL, q0, q1⟩))
      | (go_at_call 40; first | (refine (cR.out _ _ _ _ _ SL.out.1 SL.out.2).mono ?_; rintro e w3 ⟨r5, c6, rfl, SE, q0, q1⟩) | (refine (cR.out _ _ _ _ _ S0.out.1 S0.out.2).mono ?_; rintro e w2 ⟨r5, c6, rfl, SR, q0, q1⟩))
      | fail)
  all_goals go_wp2_with fail
  all_goals go_ret
  all_goals exact ⟨rfl, q5, r5, _, _, _, _, _, _, ⟨SE.out.1, fin.out, List.Perm.refl _⟩, by omega⟩
end Go.Proofs.Ytpgfmoddhjhlkaa
