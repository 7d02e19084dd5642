import Derived.Test.YtpgfmoddhjhlkaaStepHigh
import Derived.Test.YtpgfmoddhjhlkaaRefFrom
namespace Go.Proofs.Ytpgfmoddhjhlkaa
open Go.RowKit

/-- A tag written over one of a list. -/
theorem row_store {w : World} {g off len cap : Nat} {T : List (Int × Int)} (r : Row w (some ⟨g, off, none⟩) len cap T) (i : Nat) (hi : i < len) (u : Int × Int) (hu : Fit [u]) :
    Row ((w.setCell ⟨g, off + i * 2, none⟩ (.int .i64 u.1)).setCell ⟨g, off + i * 2 + 1, none⟩ (.int .i64 u.2)) (some ⟨g, off, none⟩) len cap (T.set i u) := by
  obtain ⟨cur, hb, hz, hat⟩ := row_atc r
  have hl := r.length
  have hr := r.room
  refine atc_row (heap_set (heap_set hb _ _) _ _) (by rw [Array.size_setIfInBounds, Array.size_setIfInBounds]; exact hz) (by rw [List.length_set]; exact hl) hr r.small (fun t ht => ?_) (fun j hj => ?_)
  · rcases List.mem_or_eq_of_mem_set ht with h | h
    · exact r.fit t h
    · exact hu t (by rw [h]; exact List.mem_cons_self ..)
  · by_cases e : j = i
    · subst e
      have : (T.set j u).getD j (0, 0) = u := by simp [List.getD, hl, hj]
      rw [this]
      exact AtC.new _ _ _ _ (by omega)
    · have : (T.set i u).getD j (0, 0) = T.getD j (0, 0) := by
        rw [List.getD_eq_getElem?_getD, List.getElem?_set_ne (fun f => e f.symm), ← List.getD_eq_getElem?_getD]
      rw [this]
      exact (hat j hj).set e
theorem row_cells {w : World} {g off len cap : Nat} {T : List (Int × Int)} (r : Row w (some ⟨g, off, none⟩) len cap T) (i : Nat) (hi : i < len) :
    (∃ a b, w.cell? ⟨g, off + i * 2, none⟩ = some a ∧ w.cell? ⟨g, off + i * 2 + 1, none⟩ = some b) ∧ w.frozen? ⟨g, off + i * 2, none⟩ = false ∧ w.frozen? ⟨g, off + i * 2 + 1, none⟩ = false := by
  obtain ⟨cur, hb, hz, hat⟩ := row_atc r
  obtain ⟨a, b⟩ := (hat i hi).cells hb
  exact ⟨⟨_, _, a, b⟩, by simp [World.frozen?, hb], by simp [World.frozen?, hb]⟩
set_option maxRecDepth 100000 in
set_option maxHeartbeats 1000000 in
theorem step_from (N : Nat) (w0 : World) (B C : Nat) (q r : Option Addr) (len c1 m c2 : Nat) (S R : List (Int × Int)) (x y n : Int) (w : World) (h : Two N w0 w B C q r len c1 m c2 S R) (hb : (len + 1) * 16 ≤ 140737488355328) :
    Calls Try.prog 21 #[.pointer (some ⟨B, 0, none⟩), .pointer (some ⟨C, 0, none⟩), opV 3 x y n] w (Stepped N w0 B C len) := by
  have b1 : Below w.heap.size w (w.alloc (opC 3 x y n)) := (Below.refl _ _).alloc (Nat.le_refl _) _
  have hm : m = len := by
    have e1 := h.rf.row.length
    have e2 := h.s.row.length
    have := h.perm.length_eq
    omega
  subst hm
  obtain ⟨A, hA⟩ : ∃ A, ahead S (x, y) = A := ⟨_, rfl⟩
  have cS : Hid (∀ w1, Below w.heap.size w w1 → Calls Try.prog 15 #[.pointer (some ⟨B, 0, none⟩), .agg #[.int .i64 x, .int .i64 y]] w1 fun o w' => ∃ p c, o = .returned (.slice p (m - A) c) ∧ Row w' p (m - A) c (S.drop A) ∧ From w1.heap.size p ∧ Below w1.heap.size w1 w') := fun w1 b => by
    have := sFrom B q m c1 S x y w1 (h.by b).s h.rise (by omega)
    rw [hA] at this
    exact this
  have cR : Hid (∀ w1, Below w.heap.size w w1 → Calls Try.prog 39 #[.pointer (some ⟨C, 0, none⟩), .agg #[.int .i64 x, .int .i64 y]] w1 fun o w' => ∃ p c, o = .returned (.slice p (m - A) c) ∧ TReads w' p (m - A) c (S.drop A) ∧ Below w1.heap.size w1 w') := fun w1 b => by
    have := rFrom C r m c2 R S x y w1 (h.by b).rf.sv h.rise h.perm (by omega)
    rw [hA] at this
    refine this.mono ?_
    rintro o w' ⟨p, c, rfl, O, B2⟩
    exact ⟨p, c, rfl, (Row.of_owns O (fit_drop h.s.row.fit A)).1.reads, B2⟩
  have H : Hid (∀ w1, Below w.heap.size w w1 → Two N w0 w1 B C q r m c1 m c2 S R) := fun w1 b => h.by b
  have blk : (w.alloc (opC 3 x y n)).heap[w.heap.size]? = some (opC 3 x y n) := heap_alloc_new w _
  have S0 : Hid (Below w.heap.size w (w.alloc (opC 3 x y n)) ∧ (w.alloc (opC 3 x y n)).heap[w.heap.size]? = some (opC 3 x y n)) := ⟨b1, blk⟩
  have Fzs : Hid (Fit (S.drop A)) := fit_drop h.s.row.fit A
  clear h b1 blk hA
  unfold opV
  unfold opC at S0
  go_enter Try.func21, Try.ntmps21
  go_wp2_with fail
  refine (cS.out _ S0.out.1).mono ?_
  rintro o w1 ⟨p, c, rfl, R1, F1, B1⟩
  have bk1 := (B1.block _ (block_lt S0.out.2)).trans S0.out.2
  have S1 : Hid (Below w.heap.size w w1 ∧ Row w1 p (m - A) c (S.drop A) ∧ From w.heap.size p) := ⟨S0.out.1.trans (B1.mono S0.out.1.size), R1, fun k hk => Nat.le_trans S0.out.1.size (F1 k hk)⟩
  have t0 : w1.cell? ⟨w.heap.size, 1, none⟩ = some (.int .i64 x) := cell_blk bk1 1 rfl
  have t1 : w1.cell? ⟨w.heap.size, 2, none⟩ = some (.int .i64 y) := cell_blk bk1 2 rfl
  clear R1 F1 B1 S0 bk1 cS
  go_wp2_with fail
  refine (cR.out _ S1.out.1).mono ?_
  rintro o w2 ⟨p2, c3, rfl, R2, B2⟩
  have S2 : Hid (Below w.heap.size w w2 ∧ Row w2 p (m - A) c (S.drop A) ∧ From w.heap.size p ∧ TReads w2 p2 (m - A) c3 (S.drop A)) := ⟨S1.out.1.trans (B2.mono S1.out.1.size), S1.out.2.1.by B2, S1.out.2.2, R2⟩
  clear R2 B2 S1 cR t0 t1
  go_wp2_with fail
  refine (same p p2 (m - A) c (m - A) c3 (S.drop A) (S.drop A) _ S2.out.2.1.reads S2.out.2.2.2).mono ?_
  rintro o w3 ⟨rfl, B3⟩
  have S3 : Hid (Below w.heap.size w w3 ∧ Row w3 p (m - A) c (S.drop A) ∧ From w.heap.size p) := ⟨S2.out.1.trans (B3.mono S2.out.1.size), S2.out.2.1.by B3, S2.out.2.2.1⟩
  clear B3 S2
  have dd : decide (S.drop A = S.drop A) = true := decide_eq_true rfl
  obtain ⟨L, hL⟩ : ∃ L, m - A = L := ⟨_, rfl⟩
  have hLm : L ≤ m := by omega
  rw [hL] at S3 ⊢
  clear hL
  go_wp2_with fail
  go_loopw [16] (fun x wr => ∃ (i : Nat) (T : List (Int × Int)), x = .int .i64 (i : Int) ∧ i ≤ L ∧ Hid (Below w.heap.size w wr ∧ Row wr p L c T ∧ From w.heap.size p)) (fun x _ => L - (intOf x).toNat)
  case atStart => exact ⟨0, S.drop A, rfl, Nat.zero_le _, S3.out⟩
  case round =>
    clear S3
    obtain ⟨i, T, rfl, hi, ST⟩ := hrel
    by_cases hlt : i < L
    · rcases ST.out.2.1.pos with ⟨_, hc⟩ | ⟨g, off, cur, rfl, _⟩
      · have := ST.out.2.1.room; omega
      · obtain ⟨⟨a0, a1, g0, g1⟩, f0, f1⟩ := row_cells ST.out.2.1 i hlt
        have i1 : (i : Int) < (L : Int) := by omega
        have S4 : Hid (Below w.heap.size w ((wr.setCell ⟨g, off + i * 2, none⟩ (.int .i64 3)).setCell ⟨g, off + i * 2 + 1, none⟩ (.int .i64 3)) ∧ Row ((wr.setCell ⟨g, off + i * 2, none⟩ (.int .i64 3)).setCell ⟨g, off + i * 2 + 1, none⟩ (.int .i64 3)) (some ⟨g, off, none⟩) L c (T.set i (3, 3)) ∧ From w.heap.size (some ⟨g, off, none⟩)) :=
          ⟨(ST.out.1.setCell (ST.out.2.2 g rfl) _).setCell (ST.out.2.2 g rfl) _, row_store ST.out.2.1 i hlt (3, 3) (fun t ht => by rw [List.mem_singleton] at ht; subst ht; exact ⟨by omega, by omega⟩), ST.out.2.2⟩
        go_wp2_with fail
        go_roundw
        case rel => exact ⟨i + 1, T.set i (3, 3), by go_num, by omega, S4.out⟩
        case measure => simp [intOf]; omega
    · have i1 : ¬ (i : Int) < (L : Int) := by omega
      have b5 : Below wr.heap.size wr (wr.alloc (.cells #[.int .i64 4, .int .i64 4] 24)) := (Below.refl _ _).alloc (Nat.le_refl _) _
      have S5 : Hid (Row (wr.alloc (.cells #[.int .i64 4, .int .i64 4] 24)) p L c T) := ST.out.2.1.by b5
      obtain ⟨t0, t1, _, _⟩ := (TagAt.new wr 4 4).facts
      have TT : Hid ((wr.alloc (.cells #[.int .i64 4, .int .i64 4] 24)).cell? ⟨wr.heap.size, 0, none⟩ = some (.int .i64 4) ∧ (wr.alloc (.cells #[.int .i64 4, .int .i64 4] 24)).cell? ⟨wr.heap.size, 1, none⟩ = some (.int .i64 4)) := ⟨t0, t1⟩
      have B6 : Hid (Below w.heap.size w (wr.alloc (.cells #[.int .i64 4, .int .i64 4] 24))) := ST.out.1.alloc ST.out.1.size _
      clear b5 t0 t1
      have l1 : IntKind.i64.wrap ((L : Int) + 1) = (L : Int) + 1 := by rw [IntKind.wrap_i64]; omega
      go_wp2_with (first | (at_builtin; refine wpList_append_row _ rfl (.tmp 102) (.tmp 104) rfl p L c T rfl S5.out wr.heap.size (4, 4) (fun t ht => by rw [List.mem_singleton] at ht; subst ht; exact ⟨by omega, by omega⟩) rfl TT.out.1 TT.out.2 (by omega) ?_; intro q5 c5 w5 ho hg hn) | fail)
      go_ret
      refine ⟨by simp, q, r, m, c1, m, c2, S, R, H.out _ ?_, by omega⟩
      exact B6.out.grown hg.out B6.out.size (fun k e => ST.out.2.2 k e)
/-- One step, of whatever kind. -/
theorem step (N : Nat) (w0 : World) (B C : Nat) (q r : Option Addr) (len c1 m c2 : Nat) (S R : List (Int × Int)) (k x y n : Int) (w : World) (h : Two N w0 w B C q r len c1 m c2 S R) (hf : Fit [(x, y)]) (hz : -9223372036854775808 ≤ n ∧ n < 9223372036854775808) (hb : (len + 1) * 16 ≤ 140737488355328) :
    Calls Try.prog 21 #[.pointer (some ⟨B, 0, none⟩), .pointer (some ⟨C, 0, none⟩), opV k x y n] w (Stepped N w0 B C len) := by
  by_cases h0 : k = 0
  · subst h0; exact step_add N w0 B C q r len c1 m c2 S R x y n w h hf hb
  · by_cases h1 : k = 1
    · subst h1; exact step_has N w0 B C q r len c1 m c2 S R x y n w h hb
    · by_cases h2 : k = 2
      · subst h2; exact step_high N w0 B C q r len c1 m c2 S R x y n w h hz hb
      · by_cases h3 : k = 3
        · subst h3; exact step_from N w0 B C q r len c1 m c2 S R x y n w h hb
        · by_cases h4 : k = 4
          · subst h4; exact step_cut N w0 B C q r len c1 m c2 S R x y n w h hb
          · exact step_other N w0 B C q r len c1 m c2 S R k x y n w h h0 h1 h2 h3 h4
end Go.Proofs.Ytpgfmoddhjhlkaa
