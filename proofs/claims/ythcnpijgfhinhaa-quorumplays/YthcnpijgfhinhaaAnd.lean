import Derived.Test.YthcnpijgfhinhaaTaken
namespace Go.Proofs.Ythcnpijgfhinhaa
open Go.RowKit

/-- The new set while it is made: its words so far. -/
structure AndSt (w wr : World) (B : Nat) (N K D : Int) (a0 a1 a2 a3 : Nat) : Prop where
  blk : wr.heap[B]? = some (.cells #[.int .i64 N, .int .i64 K, .int .i64 D, .int .u64 (a0 : Int), .int .u64 (a1 : Int), .int .u64 (a2 : Int), .int .u64 (a3 : Int)] 63 (0, 0))
  bel : Below w.heap.size w wr
  high : w.heap.size ≤ B
theorem AndSt.cells {w wr : World} {B : Nat} {N K D : Int} {a0 a1 a2 a3 : Nat} (h : AndSt w wr B N K D a0 a1 a2 a3) : wr.cell? ⟨B, 3, none⟩ = some (.int .u64 (a0 : Int)) ∧ wr.cell? ⟨B, 4, none⟩ = some (.int .u64 (a1 : Int)) ∧ wr.cell? ⟨B, 5, none⟩ = some (.int .u64 (a2 : Int)) ∧ wr.cell? ⟨B, 6, none⟩ = some (.int .u64 (a3 : Int)) ∧
    wr.frozen? ⟨B, 3, none⟩ = false ∧ wr.frozen? ⟨B, 4, none⟩ = false ∧ wr.frozen? ⟨B, 5, none⟩ = false ∧ wr.frozen? ⟨B, 6, none⟩ = false :=
  ⟨cell_blk h.blk 3 rfl, cell_blk h.blk 4 rfl, cell_blk h.blk 5 rfl, cell_blk h.blk 6 rfl, soft_blk h.blk 3, soft_blk h.blk 4, soft_blk h.blk 5, soft_blk h.blk 6⟩
theorem AndSt.set0 {w wr : World} {B : Nat} {N K D : Int} {a0 a1 a2 a3 : Nat} (h : AndSt w wr B N K D a0 a1 a2 a3) (x : Nat) : AndSt w (wr.setCell ⟨B, 3, none⟩ (.int .u64 (x : Int))) B N K D x a1 a2 a3 := ⟨heap_set h.blk 3 _, h.bel.setCell (p := ⟨B, 3, none⟩) h.high _, h.high⟩
theorem AndSt.set1 {w wr : World} {B : Nat} {N K D : Int} {a0 a1 a2 a3 : Nat} (h : AndSt w wr B N K D a0 a1 a2 a3) (x : Nat) : AndSt w (wr.setCell ⟨B, 4, none⟩ (.int .u64 (x : Int))) B N K D a0 x a2 a3 := ⟨heap_set h.blk 4 _, h.bel.setCell (p := ⟨B, 4, none⟩) h.high _, h.high⟩
theorem AndSt.set2 {w wr : World} {B : Nat} {N K D : Int} {a0 a1 a2 a3 : Nat} (h : AndSt w wr B N K D a0 a1 a2 a3) (x : Nat) : AndSt w (wr.setCell ⟨B, 5, none⟩ (.int .u64 (x : Int))) B N K D a0 a1 x a3 := ⟨heap_set h.blk 5 _, h.bel.setCell (p := ⟨B, 5, none⟩) h.high _, h.high⟩
theorem AndSt.set3 {w wr : World} {B : Nat} {N K D : Int} {a0 a1 a2 a3 : Nat} (h : AndSt w wr B N K D a0 a1 a2 a3) (x : Nat) : AndSt w (wr.setCell ⟨B, 6, none⟩ (.int .u64 (x : Int))) B N K D a0 a1 a2 x := ⟨heap_set h.blk 6 _, h.bel.setCell (p := ⟨B, 6, none⟩) h.high _, h.high⟩
theorem and_bits (m n : Nat → Bool) (j : Nat) : bits .and .u64 ((Q.wd m j : Nat) : Int) ((Q.wd n j : Nat) : Int) = ((Q.wd (fun i => m i && n i) j : Nat) : Int) := by
  rw [u64_and_nat _ _ (Q.wd_lt m j) (Q.wd_lt n j), Q.wd_and]
theorem and_nil (v : Value) (w : World) : Calls Try.prog 22 #[.pointer none, v] w fun x w' => x = .returned (.tuple #[.pointer none, .int .i64 0]) ∧ w' = w := by
  go_enter Try.func22, Try.ntmps22
  go_wp2_with fail
  go_ret2
  exact ⟨rfl, rfl⟩
theorem and_none {b : Nat} {N K D : Int} {m : Nat → Bool} (w : World) (_ : IsS w b N K D m) : Calls Try.prog 22 #[.pointer (some ⟨b, 0, none⟩), .pointer none] w fun x w' => x = .returned (.tuple #[.pointer none, .int .i64 1]) ∧ Below w.heap.size w w' := by
  go_enter Try.func22, Try.ntmps22
  go_wp2_with fail
  go_quiet (fail)
  go_wp2_with fail
  go_ret2
  exact ⟨rfl, below_drewN _ _⟩
theorem and_other {b b2 : Nat} {N K D N2 K2 D2 : Int} {m m2 : Nat → Bool} (w : World) (h : IsS w b N K D m) (h2 : IsS w b2 N2 K2 D2 m2) (hd : ¬ (N2 = N ∧ K2 = K ∧ D2 = D)) : Calls Try.prog 22 #[.pointer (some ⟨b, 0, none⟩), .pointer (some ⟨b2, 0, none⟩)] w fun x w' => x = .returned (.tuple #[.pointer none, .int .i64 1]) ∧ Below w.heap.size w w' := by
  obtain ⟨c0, c1, c2, _⟩ := h.cells
  obtain ⟨d0, d1, d2, _⟩ := h2.cells
  clear h h2
  go_enter Try.func22, Try.ntmps22
  by_cases e0 : N2 = N
  · subst e0
    by_cases e1 : K2 = K
    · subst e1
      have e2 : ¬ D2 = D := fun e => hd ⟨rfl, rfl, e⟩
      have f2 : decide (D2 = D) = false := by simp [e2]
      clear hd
      go_wp2_with fail
      go_quiet (fail)
      go_wp2_with fail
      go_ret2
      exact ⟨rfl, below_drewN _ _⟩
    · have f2 : decide (K2 = K) = false := by simp [e1]
      clear hd
      go_wp2_with fail
      go_quiet (fail)
      go_wp2_with fail
      go_ret2
      exact ⟨rfl, below_drewN _ _⟩
  · have f2 : decide (N2 = N) = false := by simp [e0]
    clear hd
    go_wp2_with fail
    go_quiet (fail)
    go_wp2_with fail
    go_ret2
    exact ⟨rfl, below_drewN _ _⟩
theorem and_same {b b2 : Nat} {N K D : Int} {m m2 : Nat → Bool} (w : World) (h : IsS w b N K D m) (h2 : IsS w b2 N K D m2) : Calls Try.prog 22 #[.pointer (some ⟨b, 0, none⟩), .pointer (some ⟨b2, 0, none⟩)] w fun x w' => ∃ B, w.heap.size ≤ B ∧ x = .returned (.tuple #[.pointer (some ⟨B, 0, none⟩), .int .i64 0]) ∧ IsS w' B N K D (fun i => m i && m2 i) ∧ Below w.heap.size w w' := by
  obtain ⟨c0, c1, c2, c3, c4, c5, c6⟩ := h.cells
  obtain ⟨d0, d1, d2, d3, d4, d5, d6⟩ := h2.cells
  have OK : Hid (okC N K D) := h.ok
  have LW : Hid (∀ i, (m i && m2 i) = true → (i : Int) < N) := fun i q => h.low i (by simp at q; exact q.1)
  have A0 := and_bits m m2 0
  have A1 := and_bits m m2 1
  have A2 := and_bits m m2 2
  have A3 := and_bits m m2 3
  obtain ⟨i0, i1, i2, i3⟩ := index4 (Q.wd m2 0 : Nat) (Q.wd m2 1 : Nat) (Q.wd m2 2 : Nat) (Q.wd m2 3 : Nat)
  have H1 : Hid (IsS w b N K D m) := h
  have H2 : Hid (IsS w b2 N K D m2) := h2
  clear h h2
  go_enter Try.func22, Try.ntmps22
  go_wp2_with fail
  go_quiet (fail)
  have BW : Hid (Below w.heap.size w (w.drewN nq)) := below_drewN w nq
  have G1 : Hid (IsS (w.drewN nq) b N K D m) := H1.out.drewN nq
  have G2 : Hid (IsS (w.drewN nq) b2 N K D m2) := H2.out.drewN nq
  clear c0 c1 c2 c3 c4 c5 c6 d0 d1 d2 d3 d4 d5 d6
  obtain ⟨w1, hw1⟩ : ∃ w1, w.drewN nq = w1 := ⟨_, rfl⟩
  rw [hw1] at BW G1 G2 ⊢
  clear hw1
  obtain ⟨c0, c1, c2, c3, c4, c5, c6⟩ := G1.out.cells
  have B2 : Hid (Below w.heap.size w (w1.alloc (Obj.cells #[.int .i64 N, .int .i64 K, .int .i64 D, .int .u64 ((Q.wd m 0 : Nat) : Int), .int .u64 ((Q.wd m 1 : Nat) : Int), .int .u64 ((Q.wd m 2 : Nat) : Int), .int .u64 ((Q.wd m 3 : Nat) : Int)] 63))) := BW.out.alloc BW.out.size _
  have G3 : Hid (IsS (w1.alloc (Obj.cells #[.int .i64 N, .int .i64 K, .int .i64 D, .int .u64 ((Q.wd m 0 : Nat) : Int), .int .u64 ((Q.wd m 1 : Nat) : Int), .int .u64 ((Q.wd m 2 : Nat) : Int), .int .u64 ((Q.wd m 3 : Nat) : Int)] 63)) b2 N K D m2) := G2.out.by ((Below.refl _ _).alloc (Nat.le_refl _) _)
  obtain ⟨_, _, _, d3, d4, d5, d6⟩ := G3.out.cells
  have S0 : Hid (AndSt w (w1.alloc (Obj.cells #[.int .i64 N, .int .i64 K, .int .i64 D, .int .u64 ((Q.wd m 0 : Nat) : Int), .int .u64 ((Q.wd m 1 : Nat) : Int), .int .u64 ((Q.wd m 2 : Nat) : Int), .int .u64 ((Q.wd m 3 : Nat) : Int)] 63)) w1.heap.size N K D (Q.wd m 0) (Q.wd m 1) (Q.wd m 2) (Q.wd m 3)) := ⟨heap_alloc_new _ _, B2.out, BW.out.size⟩
  obtain ⟨B, hB⟩ : ∃ B, w1.heap.size = B := ⟨_, rfl⟩
  rw [hB] at S0
  go_wp2_with fail
  clear c0 c1 c2 c3 c4 c5 c6 d3 d4 d5 d6 hB B2 G3 BW
  go_loopw [7, 8, 31] (fun _ _ i wr => (i = .int .i64 0 ∧ Hid (AndSt w wr B N K D (Q.wd m 0) (Q.wd m 1) (Q.wd m 2) (Q.wd m 3))) ∨ (i = .int .i64 1 ∧ Hid (AndSt w wr B N K D (Q.wd (fun i => m i && m2 i) 0) (Q.wd m 1) (Q.wd m 2) (Q.wd m 3))) ∨ (i = .int .i64 2 ∧ Hid (AndSt w wr B N K D (Q.wd (fun i => m i && m2 i) 0) (Q.wd (fun i => m i && m2 i) 1) (Q.wd m 2) (Q.wd m 3))) ∨ (i = .int .i64 3 ∧ Hid (AndSt w wr B N K D (Q.wd (fun i => m i && m2 i) 0) (Q.wd (fun i => m i && m2 i) 1) (Q.wd (fun i => m i && m2 i) 2) (Q.wd m 3))) ∨ (i = .int .i64 4 ∧ Hid (AndSt w wr B N K D (Q.wd (fun i => m i && m2 i) 0) (Q.wd (fun i => m i && m2 i) 1) (Q.wd (fun i => m i && m2 i) 2) (Q.wd (fun i => m i && m2 i) 3)))) (fun _ _ i _ => 4 - (intOf i).toNat)
  case atStart => exact .inl ⟨rfl, S0⟩
  case round =>
    rcases hrel with ⟨rfl, S⟩ | ⟨rfl, S⟩ | ⟨rfl, S⟩ | ⟨rfl, S⟩ | ⟨rfl, S⟩
    · obtain ⟨e3, e4, e5, e6, f3, f4, f5, f6⟩ := S.out.cells
      go_wp2_with fail
      go_roundw
      case rel => exact .inr (.inl ⟨rfl, S.out.set0 _⟩)
      case measure => simp [intOf]
    · obtain ⟨e3, e4, e5, e6, f3, f4, f5, f6⟩ := S.out.cells
      go_wp2_with fail
      go_roundw
      case rel => exact .inr (.inr (.inl ⟨rfl, S.out.set1 _⟩))
      case measure => simp [intOf]
    · obtain ⟨e3, e4, e5, e6, f3, f4, f5, f6⟩ := S.out.cells
      go_wp2_with fail
      go_roundw
      case rel => exact .inr (.inr (.inr (.inl ⟨rfl, S.out.set2 _⟩)))
      case measure => simp [intOf]
    · obtain ⟨e3, e4, e5, e6, f3, f4, f5, f6⟩ := S.out.cells
      go_wp2_with fail
      go_roundw
      case rel => exact .inr (.inr (.inr (.inr ⟨rfl, S.out.set3 _⟩)))
      case measure => simp [intOf]
    · go_wp2_with fail
      go_ret2
      exact ⟨B, S.out.high, rfl, ⟨S.out.blk, OK.out, LW.out⟩, S.out.bel⟩
theorem copy_nil (w : World) : Calls Try.prog 43 #[.pointer none] w fun x w' => x = .returned (.pointer none) ∧ w' = w := by
  go_enter Try.func43, Try.ntmps43
  go_wp2_with fail
  go_ret
  exact ⟨rfl, rfl⟩
theorem copy {b : Nat} {N K D : Int} {m : Nat → Bool} (w : World) (h : IsS w b N K D m) : Calls Try.prog 43 #[.pointer (some ⟨b, 0, none⟩)] w fun x w' => ∃ B, w.heap.size ≤ B ∧ x = .returned (.pointer (some ⟨B, 0, none⟩)) ∧ IsS w' B N K D m ∧ Below w.heap.size w w' := by
  obtain ⟨c0, c1, c2, c3, c4, c5, c6⟩ := h.cells
  have H : Hid (IsS w b N K D m) := h
  clear h
  go_enter Try.func43, Try.ntmps43
  go_wp2_with fail
  go_ret
  exact ⟨w.heap.size, Nat.le_refl _, rfl, ⟨heap_alloc_new _ _, H.out.ok, H.out.low⟩, (Below.refl _ _).alloc (Nat.le_refl _) _⟩
/-- A number modulo n, not below 0. -/
theorem modp (x n : Int) (hn : 1 ≤ n ∧ n ≤ 255) : ∃ r, 0 ≤ r ∧ r < n ∧ (wrap64 (x.tmod n + n)).tmod n = r := by
  have a := Int.tmod_lt_of_pos x (b := n) (by omega)
  have b := Int.lt_tmod_of_pos x (b := n) (by omega)
  have e : wrap64 (x.tmod n + n) = x.tmod n + n := by
    generalize x.tmod n = y at a b
    unfold wrap64; omega
  rw [e, Int.tmod_eq_emod_of_nonneg (by omega)]
  exact ⟨_, Int.emod_nonneg _ (by omega), Int.emod_lt_of_pos _ (by omega), rfl⟩
theorem results_cfg {fn : Func} {p : Tmp} (h : fn.results = #[.cell p 23]) (tmps : Array Value) (w : World) (b : Nat) (N K D : Int) (hp : tmps.getD p undef = .pointer (some ⟨b, 0, none⟩)) (T : w.heap[b]? = some (.cells #[.int .i64 N, .int .i64 K, .int .i64 D] 23 (0, 0))) :
    (results fn tmps).run Try.prog w = .ok (.agg #[.int .i64 N, .int .i64 K, .int .i64 D]) w :=
  results_cell_row h tmps w b 23 _ (0, 0) _ hp T Try.underlying23 rfl (by kernel_rfl)
theorem may (N K D : Int) (w : World) : Calls Try.prog 8 #[.agg #[.int .i64 N, .int .i64 K, .int .i64 D]] w fun x w' => ∃ N' K' D', x = .returned (.agg #[.int .i64 N', .int .i64 K', .int .i64 D']) ∧ okC N' K' D' ∧ Below w.heap.size w w' := by
  obtain ⟨r, r0, r1, hr⟩ := modp N 255 (by omega)
  obtain ⟨n, hn⟩ : ∃ n, n = r + 1 := ⟨_, rfl⟩
  have e1 : wrap64 (r + 1) = n := by unfold wrap64; omega
  obtain ⟨s, s0, s1, hs⟩ := modp K n (by omega)
  obtain ⟨k, hk⟩ : ∃ k, k = s + 1 := ⟨_, rfl⟩
  have e2 : wrap64 (s + 1) = k := by unfold wrap64; omega
  have nz : ¬ n = 0 := by omega
  have B2 : ∀ o1 o2, Hid (Below w.heap.size w ((w.alloc o1).alloc o2)) := fun o1 o2 => ((Below.refl _ _).alloc (Nat.le_refl _) _).alloc (by simp) _
  have O : Hid (1 ≤ k ∧ k ≤ n ∧ n ≤ 255) := by
    show 1 ≤ k ∧ k ≤ n ∧ n ≤ 255
    omega
  clear hn hk r0 r1 s0 s1
  by_cases hD : D < 0
  · go_enter Try.func8, Try.ntmps8
    go_wp2_with fail
    refine bodyPost_ret (results_cfg rfl _ _ (w.heap.size + 1) n k 0 rfl ?_) rfl ⟨n, k, 0, rfl, ⟨O.out.1, O.out.2.1, O.out.2.2, by omega, by omega⟩, (B2 _ _).out⟩
    have := heap_alloc_new (w.alloc (Obj.cells #[.int .i64 N, .int .i64 K, .int .i64 D] 23)) (Obj.cells #[.int .i64 n, .int .i64 k, .int .i64 0] 23)
    rw [World.size_alloc] at this
    exact this
  · obtain ⟨d, hd⟩ : ∃ d, D % 100 = d := ⟨_, rfl⟩
    have hd2 : D.tmod 100 = d := by rw [Int.tmod_eq_emod_of_nonneg (by omega)]; exact hd
    have d0 : Hid (0 ≤ d ∧ d < 100) := by
      show 0 ≤ d ∧ d < 100
      omega
    go_enter Try.func8, Try.ntmps8
    go_wp2_with fail
    refine bodyPost_ret (results_cfg rfl _ _ (w.heap.size + 1) n k d rfl ?_) rfl ⟨n, k, d, rfl, ⟨O.out.1, O.out.2.1, O.out.2.2, d0.out.1, by have := d0.out; omega⟩, (B2 _ _).out⟩
    have := heap_alloc_new (w.alloc (Obj.cells #[.int .i64 N, .int .i64 K, .int .i64 D] 23)) (Obj.cells #[.int .i64 n, .int .i64 k, .int .i64 d] 23)
    rw [World.size_alloc] at this
    exact this
end Go.Proofs.Ythcnpijgfhinhaa
