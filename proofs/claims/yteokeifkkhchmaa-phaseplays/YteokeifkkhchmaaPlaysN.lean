import Derived.Test.YteokeifkkhchmaaPlays2
namespace Go.Proofs.Yteokeifkkhchmaa
open Go.RowKit 

theorem IReads.nil (w : World) : IReads w none 0 0 [] := ⟨rfl, Nat.le_refl _, by unfold maxLen; omega, fun h => absurd h (by omega)⟩
theorem plays0_nil (p s v n : Int) (w : World) : Calls Try.prog 6 #[.pointer none, .pointer none, .agg #[.int .i64 0, .int .i64 p, .int .i64 s, .int .i64 v, .int .i64 n]] w fun o w' => o = .returned (.bool true) ∧ Kept (fun _ => False) w w' := by
  have K1 : Hid (Kept (fun _ => False) w (w.alloc (.cells #[.int .i64 0, .int .i64 p, .int .i64 s, .int .i64 v, .int .i64 n] 36))) := k0_alloc _ _
  go_enter Try.func6, Try.ntmps6
  go_wp2_with fail
  refine (rAnswer_nil s v _).mono ?_
  rintro o w1 ⟨rfl, rfl⟩
  go_wp2_with fail
  refine (answerI_nil s v _).mono ?_
  rintro o w1 ⟨rfl, rfl⟩
  go_wp2_with fail
  go_ret
  exact ⟨rfl, K1.out⟩
theorem plays2_nil (p s v n : Int) (w : World) : Calls Try.prog 6 #[.pointer none, .pointer none, .agg #[.int .i64 2, .int .i64 p, .int .i64 s, .int .i64 v, .int .i64 n]] w fun o w' => o = .returned (.bool true) ∧ Kept (fun _ => False) w w' := by
  have K1 : Hid (Kept (fun _ => False) w (w.alloc (.cells #[.int .i64 2, .int .i64 p, .int .i64 s, .int .i64 v, .int .i64 n] 36))) := k0_alloc _ _
  go_enter Try.func6, Try.ntmps6
  go_wp2_with fail
  refine (rGet_nil s _).mono ?_
  rintro o w1 ⟨rfl, rfl⟩
  go_wp2_with fail
  refine (getI_nil s _).mono ?_
  rintro o w1 ⟨rfl, rfl⟩
  go_wp2_with fail
  go_ret
  exact ⟨rfl, K1.out⟩
theorem plays3_nil (p s v n : Int) (w : World) : Calls Try.prog 6 #[.pointer none, .pointer none, .agg #[.int .i64 3, .int .i64 p, .int .i64 s, .int .i64 v, .int .i64 n]] w fun o w' => o = .returned (.bool true) ∧ Kept (fun _ => False) w w' := by
  obtain ⟨W, hW⟩ : ∃ W, W = w.alloc (.cells #[.int .i64 3, .int .i64 p, .int .i64 s, .int .i64 v, .int .i64 n] 36) := ⟨_, rfl⟩
  have K1 : Kept (fun _ => False) w W := by rw [hW]; exact k0_alloc _ _
  have B1 : W.heap[w.heap.size]? = some (.cells #[.int .i64 3, .int .i64 p, .int .i64 s, .int .i64 v, .int .i64 n] 36 (0, 0)) := by rw [hW]; exact heap_alloc_new _ _
  have H : Hid (Kept (fun _ => False) w W ∧ W.heap[w.heap.size]? = some (.cells #[.int .i64 3, .int .i64 p, .int .i64 s, .int .i64 v, .int .i64 n] 36 (0, 0))) := ⟨K1, B1⟩
  have EW : Hid (W = w.alloc (.cells #[.int .i64 3, .int .i64 p, .int .i64 s, .int .i64 v, .int .i64 n] 36)) := hW
  clear hW K1 B1
  go_enter Try.func6, Try.ntmps6
  go_wp2_with fail
  rw [← EW.out]
  refine (wanted_nil 3 p s v n W).mono ?_
  rintro o w1 ⟨rfl, k1⟩
  obtain ⟨c0, c1, c2, c3, c4⟩ := box_cells (k1.get H.out.2 (fun z => z))
  have H1 : Hid (Kept (fun _ => False) w w1) := H.out.1.and0 k1
  clear k1
  go_wp2_with fail
  refine (each_nil 3 p s v n w1).mono ?_
  rintro o w2 ⟨rfl, k2⟩
  have H2 : Hid (Kept (fun _ => False) w w2) := H1.out.and0 k2
  clear k2 c0 c1 c2 c3 c4
  go_wp2_with fail
  refine (sameInts none none 0 0 0 0 [] [] w2 (IReads.nil _) (IReads.nil _)).mono ?_
  rintro o w3 ⟨rfl, kk, rfl⟩
  rw [decide_eq_true rfl]
  have H3 : Hid (Kept (fun _ => False) w (w2.drewN kk)) := H2.out.drewN kk
  generalize w2.drewN kk = w4 at H3 ⊢
  go_wp2_with fail
  go_ret
  exact ⟨rfl, H3.out⟩
set_option maxRecDepth 100000 in
set_option maxHeartbeats 2000000 in
theorem playsX_nil (k p s v n : Int) (w : World) (h0 : ¬ k = 0) (h2 : ¬ k = 2) (h3 : ¬ k = 3) : Calls Try.prog 6 #[.pointer none, .pointer none, .agg #[.int .i64 k, .int .i64 p, .int .i64 s, .int .i64 v, .int .i64 n]] w fun o w' => o = .returned (.bool true) ∧ Kept (fun _ => False) w w' := by
  have K1 : Hid (Kept (fun _ => False) w (w.alloc (.cells #[.int .i64 k, .int .i64 p, .int .i64 s, .int .i64 v, .int .i64 n] 36))) := k0_alloc _ _
  go_enter Try.func6, Try.ntmps6
  go_wp2_with fail
  refine (misI_nil _).mono ?_
  rintro o w1 ⟨rfl, rfl⟩
  go_wp2_with fail
  refine (metI_nil _).mono ?_
  rintro o w1 ⟨rfl, k1, rfl⟩
  have H2 : Hid (Kept (fun _ => False) w ((w.alloc (.cells #[.int .i64 k, .int .i64 p, .int .i64 s, .int .i64 v, .int .i64 n] 36)).drewN k1)) := K1.out.drewN k1
  generalize (w.alloc (.cells #[.int .i64 k, .int .i64 p, .int .i64 s, .int .i64 v, .int .i64 n] 36)).drewN k1 = w2 at H2 ⊢
  clear K1
  go_wp2_with fail
  refine (rMet_nil _).mono ?_
  rintro o w1 ⟨rfl, rfl⟩
  go_wp2_with fail
  refine (lenI_nil _).mono ?_
  rintro o w1 ⟨rfl, rfl⟩
  go_wp2_with fail
  refine (rServers_nil true _).mono ?_
  rintro o w1 ⟨rfl, rfl⟩
  go_wp2_with fail
  refine (rServers_nil false _).mono ?_
  rintro o w1 ⟨rfl, rfl⟩
  go_wp2_with fail
  refine (sameInts none none 0 0 0 0 [] [] w1 (IReads.nil _) (IReads.nil _)).mono ?_
  rintro o w3 ⟨rfl, kk, rfl⟩
  rw [decide_eq_true rfl]
  have H3 : Hid (Kept (fun _ => False) w (w1.drewN kk)) := H2.out.drewN kk
  generalize w1.drewN kk = w4 at H3 ⊢
  clear H2
  go_wp2_with fail
  (try go_frame)
  go_loopw [106] (fun z wr => z = .int .i64 0 ∧ wr = w4) (fun _ _ => 0)
  case atStart => exact ⟨rfl, rfl⟩
  case round =>
    obtain ⟨rfl, rfl⟩ := hrel
    go_wp2_with fail
    refine (misI_nil _).mono ?_
    rintro o w1 ⟨rfl, rfl⟩
    go_wp2_with fail
    refine (rServers_nil false _).mono ?_
    rintro o w1 ⟨rfl, rfl⟩
    go_wp2_with fail
    refine (sameInts none none 0 0 0 0 [] [] _ (IReads.nil _) (IReads.nil _)).mono ?_
    rintro o w5 ⟨rfl, k5, rfl⟩
    rw [decide_eq_true rfl]
    have H5 : Hid (Kept (fun _ => False) w (w1.drewN k5)) := H3.out.drewN k5
    generalize w1.drewN k5 = w6 at H5 ⊢
    go_wp2_with fail
    go_ret
    exact ⟨rfl, H5.out⟩
/-- The values of a pair that may be none. -/
def pv (x : Option PX) : Value := .pointer (x.map fun y => ⟨y.pb, 0, none⟩)
def rv (x : Option PX) : Value := .pointer (x.map fun y => ⟨y.rb, 0, none⟩)
def Holds (w : World) (x : Option PX) : Prop := ∀ y, x = some y → Both w y
def Uses (x : Option PX) (j : Nat) : Prop := ∃ y, x = some y ∧ y.Uses j
/-- The same pair, another M. -/
def Like (x x' : Option PX) : Prop := (x = none ∧ x' = none) ∨ ∃ y M', x = some y ∧ x' = some { y with M := M' }
theorem Like.pv {x x' : Option PX} (h : Like x x') : Yteokeifkkhchmaa.pv x' = Yteokeifkkhchmaa.pv x ∧ Yteokeifkkhchmaa.rv x' = Yteokeifkkhchmaa.rv x := by
  rcases h with ⟨rfl, rfl⟩ | ⟨y, M', rfl, rfl⟩ <;> exact ⟨rfl, rfl⟩
theorem Like.uses {x x' : Option PX} (h : Like x x') (j : Nat) : Uses x' j ↔ Uses x j := by
  rcases h with ⟨rfl, rfl⟩ | ⟨y, M', rfl, rfl⟩
  · exact Iff.rfl
  · constructor
    · rintro ⟨z, e, u⟩; cases e; exact ⟨y, rfl, u⟩
    · rintro ⟨z, e, u⟩; cases e; exact ⟨_, rfl, u⟩
/-- One step, of any kind, on any pair. -/
theorem plays (x : Option PX) (k p s v n : Int) (w : World) (h : Holds w x) (kf : KF s) : Calls Try.prog 6 #[pv x, rv x, .agg #[.int .i64 k, .int .i64 p, .int .i64 s, .int .i64 v, .int .i64 n]] w fun o w' => o = .returned (.bool true) ∧ ∃ x', Like x x' ∧ Holds w' x' ∧ Kept (Uses x) w w' := by
  cases x with
  | none =>
    have z : ∀ o w', (o = Ending.returned (.bool true) ∧ Kept (fun _ => False) w w') → o = .returned (.bool true) ∧ ∃ x', Like none x' ∧ Holds w' x' ∧ Kept (Uses none) w w' := fun o w' ⟨e, K⟩ => ⟨e, none, .inl ⟨rfl, rfl⟩, fun _ q => (by cases q), K.mono (fun _ _ q => q.elim)⟩
    by_cases k0 : k = 0
    · subst k0; exact (plays0_nil p s v n w).mono z
    · by_cases k2 : k = 2
      · subst k2; exact (plays2_nil p s v n w).mono z
      · by_cases k3 : k = 3
        · subst k3; exact (plays3_nil p s v n w).mono z
        · exact (playsX_nil k p s v n w k0 k2 k3).mono z
  | some y =>
    have hy := h y rfl
    have z : ∀ o w', (o = Ending.returned (.bool true) ∧ ∃ M', Both w' { y with M := M' } ∧ Kept y.Uses w w') → o = .returned (.bool true) ∧ ∃ x', Like (some y) x' ∧ Holds w' x' ∧ Kept (Uses (some y)) w w' := fun o w' ⟨e, M', b, K⟩ => ⟨e, _, .inr ⟨y, M', rfl, rfl⟩, fun _ q => (by cases q; exact b), K.mono (fun j _ q => ⟨y, rfl, q⟩)⟩
    by_cases k0 : k = 0
    · subst k0; exact (plays0 y p s v n w hy).mono z
    · by_cases k2 : k = 2
      · subst k2; exact (plays2 y p s v n w hy kf).mono z
      · by_cases k3 : k = 3
        · subst k3; exact (plays3 y p s v n w hy).mono z
        · refine (playsX y k p s v n w hy k0 k2 k3).mono fun o w' ⟨e, b, K⟩ => z o w' ⟨e, y.M, b, K.mono (fun _ _ q => q.elim)⟩
end Go.Proofs.Yteokeifkkhchmaa
