import Derived.Test.YthcnpijgfhinhaaShare
import Derived.Deep.DeepCutAuto
namespace Go.Proofs.Ythcnpijgfhinhaa
open Go.RowKit

theorem fits (N K D : Int) (w : World) : Calls Try.prog 30 #[.agg #[.int .i64 N, .int .i64 K, .int .i64 D]] w fun x w' => x = .returned (.bool (okB N K D)) ∧ Below w.heap.size w w' := by
  have bel : Hid (Below w.heap.size w (w.alloc (Obj.cells #[.int .i64 N, .int .i64 K, .int .i64 D] 23))) := (Below.refl w.heap.size w).alloc (Nat.le_refl _) _
  go_enter Try.func30, Try.ntmps30
  by_cases h : 1 ≤ K
  · by_cases h2 : K ≤ N
    · by_cases h3 : N ≤ 255
      · by_cases h4 : 0 ≤ D
        · by_cases h5 : D ≤ 4611686018427387903
          · rw [(okB_iff N K D).2 ⟨h, h2, h3, h4, h5⟩]
            go_wp2_with fail
            go_ret
            exact ⟨rfl, bel.out⟩
          · rw [(okB_not N K D).2 (by unfold okC; omega)]
            go_wp2_with fail
            go_ret
            exact ⟨rfl, bel.out⟩
        · rw [(okB_not N K D).2 (by unfold okC; omega)]
          go_wp2_with fail
          go_ret
          exact ⟨rfl, bel.out⟩
      · rw [(okB_not N K D).2 (by unfold okC; omega)]
        go_wp2_with fail
        go_ret
        exact ⟨rfl, bel.out⟩
    · rw [(okB_not N K D).2 (by unfold okC; omega)]
      go_wp2_with fail
      go_ret
      exact ⟨rfl, bel.out⟩
  · rw [(okB_not N K D).2 (by unfold okC; omega)]
    go_wp2_with fail
    go_ret
    exact ⟨rfl, bel.out⟩
theorem quorumOf (N K D : Int) (w : World) (h : okC N K D) : Calls Try.prog 31 #[.agg #[.int .i64 N, .int .i64 K, .int .i64 D]] w fun x w' => x = .returned (.int .i64 (quo N K)) ∧ Below w.heap.size w w' := by
  obtain ⟨a1, a2, a3, a4, a5⟩ := h
  have BB : Hid (Below w.heap.size w (w.alloc (Obj.cells #[.int .i64 N, .int .i64 K, .int .i64 D] 23))) := (Below.refl _ _).alloc (Nat.le_refl _) _
  go_enter Try.func31, Try.ntmps31
  go_wp2_with fail
  have c0 : (w.alloc (Obj.cells #[.int .i64 N, .int .i64 K, .int .i64 D] 23)).cell? ⟨w.heap.size, 0, none⟩ = some (.int .i64 N) := by simp
  have c1 : (w.alloc (Obj.cells #[.int .i64 N, .int .i64 K, .int .i64 D] 23)).cell? ⟨w.heap.size, 1, none⟩ = some (.int .i64 K) := by simp
  obtain ⟨w1, hw1⟩ : ∃ x, w.alloc (Obj.cells #[.int .i64 N, .int .i64 K, .int .i64 D] 23) = x := ⟨_, rfl⟩
  rw [hw1] at BB c0 c1 ⊢
  clear hw1
  go_loopw [3] (fun x wr => ∃ i : Nat, x = .int .i64 (i : Int) ∧ (i : Int) ≤ quo N K ∧ Hid (wr = w1)) (fun x _ => (quo N K).toNat - (intOf x).toNat)
  case atStart => exact ⟨0, rfl, by unfold quo; omega, rfl⟩
  case round =>
    obtain ⟨i, rfl, hi, H⟩ := hrel
    obtain rfl := H.out
    have qb : quo N K ≤ 255 := by unfold quo; omega
    by_cases hlt : 2 * (i : Int) < N + K
    · have hq : (i : Int) + 1 ≤ quo N K := by unfold quo; omega
      go_wp2_with fail
      go_roundw
      case rel => exact ⟨i + 1, by go_num, by omega, trivial⟩
      case measure => simp [intOf]; omega
    · have hq : quo N K = (i : Int) := by unfold quo at hi ⊢; omega
      go_wp2_with fail
      go_ret
      exact ⟨rfl, BB.out⟩
set_option maxRecDepth 100000 in
set_option maxHeartbeats 1000000 in
theorem hasInt (a : Option Addr) (len cap : Nat) (l : List Int) (y : Int) (w : World) (r : IReads w a len cap l) :
    Calls Try.prog 33 #[.slice a len cap, .int .i64 y] w fun x w' => x = .returned (.bool (decide (y ∈ l))) ∧ w' = w := by
  have hl := r.length
  have hr := r.room
  have hs := r.small
  unfold maxLen at hs
  have R : Hid (IReads w a len cap l) := r
  clear r
  go_enter Try.func33, Try.ntmps33
  go_wp2_with fail
  go_loopw [6, 9] (fun _ x wr => ∃ i : Nat, x = .int .i64 (i : Int) ∧ i ≤ len ∧ Hid (wr = w ∧ ¬ y ∈ l.take i)) (fun _ x _ => len - (intOf x).toNat)
  case atStart => exact ⟨0, rfl, Nat.zero_le _, rfl, by simp⟩
  case round =>
    obtain ⟨i, rfl, hi, H⟩ := hrel
    obtain ⟨rfl, hn⟩ := H.out
    by_cases hlt : i < len
    · obtain ⟨g, off, rfl, hc⟩ := R.out.cells (by omega)
      have e0 := hc i hlt
      obtain ⟨z, hz⟩ : ∃ z, l.getD i 0 = z := ⟨_, rfl⟩
      rw [hz] at e0
      have HZ : Hid (l.getD i 0 = z) := hz
      have i1 : (i : Int) < (len : Int) := by omega
      clear hc hz hn
      by_cases hzy : z = y
      · subst hzy
        have M : Hid (z ∈ l) := by
          show z ∈ l
          rw [← HZ.out, getD_at l i (by omega)]
          exact List.getElem_mem _
        go_wp2_with fail
        go_ret
        exact ⟨by rw [decide_eq_true M.out]; rfl, rfl⟩
      · have H2 : Hid (wr = wr ∧ ¬ y ∈ l.take (i + 1)) := by
          refine ⟨rfl, fun q => ?_⟩
          rw [List.take_succ_eq_append_getElem (by omega), ← getD_at l i (by omega), HZ.out] at q
          rcases List.mem_append.1 q with q | q
          · exact H.out.2 q
          · simp at q; exact hzy q.symm
        go_wp2_with fail
        go_roundw
        case rel => exact ⟨i + 1, by go_num, by omega, trivial, H2.out.2⟩
        case measure => simp [intOf]; omega
    · have M : Hid (¬ y ∈ l) := by
        show ¬ y ∈ l
        rw [List.take_of_length_le (by omega)] at hn
        exact hn
      clear hn
      go_wp2_with fail
      go_ret
      exact ⟨by rw [decide_eq_false M.out]; rfl, rfl⟩
/-- Where fill stands: the set, the config in a block of its own. -/
structure Fl (w wr : World) (b : Nat) (N K D : Int) (m : Nat → Bool) : Prop where
  set : IsS wr b N K D m
  cfg : wr.heap[w.heap.size]? = some (.cells #[.int .i64 N, .int .i64 K, .int .i64 D] 23 (0, 0))
  hb : b < w.heap.size
  kept : Kept (fun k => k = b) w wr
theorem Fl.cells {w wr : World} {b : Nat} {N K D : Int} {m : Nat → Bool} (f : Fl w wr b N K D m) : wr.cell? ⟨w.heap.size, 0, none⟩ = some (.int .i64 N) := cell_blk f.cfg 0 rfl
theorem Fl.add {w wr w' : World} {b : Nat} {N K D : Int} {m m' : Nat → Bool} (f : Fl w wr b N K D m) (h : IsS w' b N K D m') (k : Kept (fun k => k = b) wr w') : Fl w w' b N K D m' :=
  ⟨h, k.get f.cfg (by have := f.hb; omega), f.hb, f.kept.trans k (fun _ _ e => e)⟩
theorem sz_nil (N : Int) : sz (lset [] N) N = 0 := by
  unfold sz; rw [lset_nil]
  have : ∀ n, Q.cnt (fun _ => false) n = 0 := fun n => by induction n with | zero => rfl | succ n ih => simp only [Q.cnt]; rw [ih]; rfl
  exact this _
theorem sz_add (l : List Int) (N x : Int) : sz (lset (x :: l) N) N = sz (lset l N) N + (inN N x && !decide (x ∈ l)).toNat := by
  cases h : inN N x
  · rw [lset_out l N x h]; rfl
  · have h' : 0 ≤ x ∧ x < N := by unfold inN at h; exact of_decide_eq_true h
    rw [← lset_in l N x h]
    unfold sz
    rw [Q.cnt_put _ _ _ (by omega)]
    have := lset_mem l N x
    unfold memI at this
    rw [decide_eq_true h'.1, Bool.true_and, h, Bool.true_and] at this
    rw [this]; rfl
theorem IReads.far {w : World} {a : Option Addr} {len cap : Nat} {l : List Int} (r : IReads w a len cap l) {b : Nat} (hb : w.heap.size ≤ b) : 0 < len → ∀ g off, a = some ⟨g, off, none⟩ → g ≠ b := fun h0 g off e => by
  obtain ⟨g', off', e', hc⟩ := r.cells h0
  rw [e] at e'
  simp at e'
  have := World.block_lt_of_cell? w _ (hc 0 h0)
  have : g' < w.heap.size := this
  omega
theorem sz_le (m : Nat → Bool) (N : Int) : sz m N ≤ N.toNat := Q.cnt_le m N.toNat
set_option maxRecDepth 100000 in
set_option maxHeartbeats 2000000 in
theorem fill (b : Nat) (N K D : Int) (a : Option Addr) (len cap : Nat) (l : List Int) (w : World) (h : IsS w b N K D (lset [] N)) (r : IReads w a len cap l) (hab : 0 < len → ∀ g off, a = some ⟨g, off, none⟩ → g ≠ b) :
    Calls Try.prog 32 #[.pointer (some ⟨b, 0, none⟩), .agg #[.int .i64 N, .int .i64 K, .int .i64 D], .slice a len cap] w fun x w' => x = .returned (.int .i64 (sz (lset l N) N : Int)) ∧ IsS w' b N K D (lset l N) ∧ Kept (fun k => k = b) w w' := by
  have nb : 1 ≤ N ∧ N ≤ 255 := ⟨by have := h.ok.1; have := h.ok.2.1; omega, h.ok.2.2.1⟩
  have hl := r.length
  have hr := r.room
  have hs := r.small
  unfold maxLen at hs
  have R : Hid (IReads w a len cap l) := r
  have AB : Hid (0 < len → ∀ g off, a = some ⟨g, off, none⟩ → g ≠ b) := hab
  have F0 : Hid (Fl w (w.alloc (Obj.cells #[.int .i64 N, .int .i64 K, .int .i64 D] 23)) b N K D (lset (l.take 0) N)) := ⟨h.by ((Below.refl _ _).alloc (Nat.le_refl _) _), heap_alloc_new _ _, h.lt, (Kept.refl _ _).alloc _⟩
  have Z0 : sz (lset (l.take 0) N) N = 0 := sz_nil N
  clear r h hab
  go_enter Try.func32, Try.ntmps32
  go_wp2_with fail
  go_loopw [7, 8, 9, 10, 11, 12, 15] (fun s7 _ _ _ _ _ x wr => ∃ i : Nat, x = .int .i64 (i : Int) ∧ i ≤ len ∧ s7 = .int .i64 (sz (lset (l.take i) N) N : Int) ∧ Hid (Fl w wr b N K D (lset (l.take i) N))) (fun _ _ _ _ _ _ x _ => len - (intOf x).toNat)
  case atStart => exact ⟨0, rfl, Nat.zero_le _, by rw [Z0]; rfl, F0⟩
  case round =>
    obtain ⟨i, rfl, hi, rfl, F⟩ := hrel
    clear F0 Z0
    by_cases hlt : i < len
    · obtain ⟨g, off, rfl, hc⟩ := R.out.cells (by omega)
      have e0 := hc i hlt
      obtain ⟨y, hy⟩ : ∃ y, l.getD i 0 = y := ⟨_, rfl⟩
      rw [hy] at e0
      have d0 : wr.cell? ⟨g, off + i, none⟩ = some (.int .i64 y) := F.out.kept.cell e0 (AB.out (by omega) g off rfl)
      have i1 : (i : Int) < (len : Int) := by omega
      have HT : Hid (addM (lset (l.take i) N) N y = lset (l.take (i + 1)) N ∧ sz (lset (l.take (i + 1)) N) N = sz (lset (l.take i) N) N + (inN N y && !decide (y ∈ l.take i)).toNat) := by
        have e1 : lset (y :: l.take i) N = lset (l.take (i + 1)) N := by
          apply lset_congr
          intro x
          rw [List.take_succ_eq_append_getElem (by omega), ← getD_at l i (by omega), hy]
          simp only [List.mem_cons, List.mem_append, List.not_mem_nil, or_false]
          exact or_comm
        refine ⟨by rw [addM_lset, e1], by rw [← e1, sz_add]⟩
      have MI : Hid (memI (lset (l.take i) N) y = (inN N y && decide (y ∈ l.take i))) := lset_mem _ _ _
      have SL := sz_le (lset (l.take i) N) N
      have RT : Hid (∀ wx, Kept (fun k => k = b) w wx → IReads wx (some ⟨g, off, none⟩) i cap (l.take i)) := fun wx K => ⟨by rw [List.length_take]; omega, by omega, by unfold maxLen; omega, fun _ => ⟨g, off, rfl, fun j hj => by
        have e : (l.take i).getD j 0 = l.getD j 0 := by rw [List.getD_eq_getElem?_getD, List.getElem?_take_of_lt hj, List.getD_eq_getElem?_getD]
        rw [e]
        exact K.cell (hc j (by omega)) (AB.out (by omega) g off rfl)⟩⟩
      obtain ⟨z, hz⟩ : ∃ z, sz (lset (l.take i) N) N = z := ⟨_, rfl⟩
      rw [hz] at SL HT ⊢
      clear e0 hy hc hz
      go_wp2_with fail
      refine (add_any y _ F.out.set).mono ?_
      rw [MI.out]
      rintro e w3 ⟨rfl, h1, h2⟩
      rw [HT.out.1] at h1
      have F2 : Hid (Fl w w3 b N K D (lset (l.take (i + 1)) N)) := F.out.add h1 h2
      have c0 := F2.out.cells
      have HT2 : Hid (sz (lset (l.take (i + 1)) N) N = z + (inN N y && !decide (y ∈ l.take i)).toNat) := HT.out.2
      clear h1 h2 F MI HT d0
      cases hin : inN N y
      · have hy' : ¬ (0 ≤ y ∧ y < N) := by unfold inN at hin; exact of_decide_eq_false hin
        rw [hin] at HT2
        by_cases hy0 : 0 ≤ y
        · have hy1 : ¬ y < N := by omega
          go_wp2_with fail
          go_roundw
          case rel => exact ⟨i + 1, by go_num, by omega, by rw [HT2.out]; rfl, F2⟩
          case measure => simp [intOf]; omega
        · go_wp2_with fail
          go_roundw
          case rel => exact ⟨i + 1, by go_num, by omega, by rw [HT2.out]; rfl, F2⟩
          case measure => simp [intOf]; omega
      · have hy' : 0 ≤ y ∧ y < N := by unfold inN at hin; exact of_decide_eq_true hin
        rw [hin] at HT2
        cases hmm : decide (y ∈ l.take i)
        · rw [hmm] at HT2
          go_wp2_with fail
          refine (hasInt _ i cap (l.take i) y _ (RT.out _ F2.out.kept)).mono ?_
          rw [hmm]
          rintro e w4 ⟨rfl, rfl⟩
          go_wp2_with fail
          go_roundw
          case rel => exact ⟨i + 1, by go_num, by omega, by rw [HT2.out]; go_num, F2⟩
          case measure => simp [intOf]; omega
        · rw [hmm] at HT2
          go_wp2_with fail
          refine (hasInt _ i cap (l.take i) y _ (RT.out _ F2.out.kept)).mono ?_
          rw [hmm]
          rintro e w4 ⟨rfl, rfl⟩
          go_wp2_with fail
          go_roundw
          case rel => exact ⟨i + 1, by go_num, by omega, by rw [HT2.out]; rfl, F2⟩
          case measure => simp [intOf]; omega
    · have F1 : Hid (Fl w wr b N K D (lset l N)) := by
        have := F.out
        rw [List.take_of_length_le (by omega)] at this
        exact this
      have e : l.take i = l := List.take_of_length_le (by omega)
      rw [e]
      obtain ⟨z, hz⟩ : ∃ z, sz (lset l N) N = z := ⟨_, rfl⟩
      have HZ : Hid (sz (lset l N) N = z) := hz
      rw [hz]
      clear hz e F
      go_wp2_with fail
      go_ret
      exact ⟨by rw [← HZ.out]; rfl, F1.out.set, F1.out.kept⟩
end Go.Proofs.Ythcnpijgfhinhaa
