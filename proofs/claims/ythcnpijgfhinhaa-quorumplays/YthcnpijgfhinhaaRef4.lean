import Derived.Test.YthcnpijgfhinhaaRef3
namespace Go.Proofs.Ythcnpijgfhinhaa
open Go.RowKit

theorem rAnd_nil (v : Value) (w : World) : Calls Try.prog 42 #[.pointer none, v] w fun x w' => x = .returned (.tuple #[.pointer none, .int .i64 0]) ∧ w' = w := by
  go_enter Try.func42, Try.ntmps42
  go_wp2_with fail
  go_ret2
  exact ⟨rfl, rfl⟩
theorem rAnd_none (r : Nat) (w : World) : Calls Try.prog 42 #[.pointer (some ⟨r, 0, none⟩), .pointer none] w fun x w' => x = .returned (.tuple #[.pointer none, .int .i64 1]) ∧ Below w.heap.size w w' := by
  go_enter Try.func42, Try.ntmps42
  go_wp2_with fail
  go_quiet (fail)
  go_wp2_with fail
  go_ret2
  exact ⟨rfl, below_drewN _ _⟩
theorem rAnd_other {r r2 : Nat} {N K D N2 K2 D2 : Int} {a a2 : Option Addr} {cap cap2 : Nat} {l l2 : List Int} (w : World) (h : IsR w r N K D a cap l) (h2 : IsR w r2 N2 K2 D2 a2 cap2 l2) (hd : ¬ (N2 = N ∧ K2 = K ∧ D2 = D)) : Calls Try.prog 42 #[.pointer (some ⟨r, 0, none⟩), .pointer (some ⟨r2, 0, none⟩)] w fun x w' => x = .returned (.tuple #[.pointer none, .int .i64 1]) ∧ Below w.heap.size w w' := by
  obtain ⟨c0, c1, c2, _⟩ := h.cells
  obtain ⟨d0, d1, d2, _⟩ := h2.cells
  clear h h2
  go_enter Try.func42, Try.ntmps42
  by_cases e0 : N2 = N
  · subst e0
    by_cases e1 : K2 = K
    · subst e1
      have e2 : ¬ D2 = D := fun e => hd ⟨rfl, rfl, e⟩
      have f2 : decide (D2 = D) = false := by simp [e2]
      clear hd
      go_wp2_with fail
      go_quiet (fail)
      go_wp2_with fail
      go_ret2
      exact ⟨rfl, below_drewN _ _⟩
    · have f2 : decide (K2 = K) = false := by simp [e1]
      clear hd
      go_wp2_with fail
      go_quiet (fail)
      go_wp2_with fail
      go_ret2
      exact ⟨rfl, below_drewN _ _⟩
  · have f2 : decide (N2 = N) = false := by simp [e0]
    clear hd
    go_wp2_with fail
    go_quiet (fail)
    go_wp2_with fail
    go_ret2
    exact ⟨rfl, below_drewN _ _⟩
/-- Those of a list that are in another. -/
def both (l l2 : List Int) : List Int := l.filter (fun x => decide (x ∈ l2))
theorem both_set (l l2 : List Int) (N : Int) : lset (both l l2) N = fun i => lset l N i && lset l2 N i := by
  funext i
  unfold lset both
  rw [Bool.eq_iff_iff]
  simp
  exact ⟨fun ⟨a, b, c⟩ => ⟨⟨a, b⟩, a, c⟩, fun ⟨⟨a, b⟩, _, c⟩ => ⟨a, b, c⟩⟩
theorem both_snoc (l l2 : List Int) (i : Nat) (h : i < l.length) : both (l.take (i + 1)) l2 = both (l.take i) l2 ++ (if l.getD i 0 ∈ l2 then [l.getD i 0] else []) := by
  unfold both
  rw [List.take_succ_eq_append_getElem h, List.filter_append, ← getD_at l i h]
  by_cases hm : l.getD i 0 ∈ l2
  · rw [if_pos hm, List.filter_cons_of_pos (by simpa using hm)]; rfl
  · rw [if_neg hm, List.filter_cons_of_neg (by simpa using hm)]; rfl
theorem both_sub (l l2 : List Int) : ∀ x ∈ both l l2, x ∈ l := fun _ hx => (List.mem_filter.1 hx).1
/-- Where And stands. -/
structure Rs (w wr : World) (B : Nat) (N K D : Int) (q : Option Addr) (c : Nat) (t : List Int) : Prop where
  blk : wr.heap[B]? = some (.cells #[.int .i64 N, .int .i64 K, .int .i64 D, .slice q t.length c] 78 (0, 0))
  row : Row wr 3 q t.length c (ints t)
  far : ∀ g, blockOf q = some g → w.heap.size ≤ g
  bel : Below w.heap.size w wr
  hB : w.heap.size ≤ B
set_option maxRecDepth 100000 in
set_option maxHeartbeats 2000000 in
theorem rAnd_same {r r2 : Nat} {N K D : Int} {a a2 : Option Addr} {cap cap2 : Nat} {l l2 : List Int} (w : World) (h : IsR w r N K D a cap l) (h2 : IsR w r2 N K D a2 cap2 l2) :
    Calls Try.prog 42 #[.pointer (some ⟨r, 0, none⟩), .pointer (some ⟨r2, 0, none⟩)] w fun x w' => ∃ B q c, w.heap.size ≤ B ∧ x = .returned (.tuple #[.pointer (some ⟨B, 0, none⟩), .int .i64 0]) ∧ Hid (IsR w' B N K D q c (both l l2) ∧ (∀ g, blockOf q = some g → w.heap.size ≤ g) ∧ Below w.heap.size w w') := by
  obtain ⟨c0, c1, c2, c3, _⟩ := h.cells
  obtain ⟨d0, d1, d2, d3, _⟩ := h2.cells
  have hl := h.len255.2
  have cm := h.row.room
  have cs := h.row.small
  unfold maxLen at cs
  have H1 : Hid (IsR w r N K D a cap l) := h
  have H2 : Hid (IsR w r2 N K D a2 cap2 l2) := h2
  clear h h2
  go_enter Try.func42, Try.ntmps42
  go_upto_region 3 with fail
  go_quiet (fail)
  go_upto_region 5 with fail
  have BW : Hid (Below w.heap.size w (w.drewN nq)) := below_drewN w nq
  have G1 : Hid (IsR (w.drewN nq) r N K D a cap l) := H1.out.drewN nq
  clear c0 c1 c2 c3 d0 d1 d2 d3
  obtain ⟨w1, hw1⟩ : ∃ w1, w.drewN nq = w1 := ⟨_, rfl⟩
  rw [hw1] at BW G1 ⊢
  clear hw1
  obtain ⟨c0, c1, c2, c3, _⟩ := G1.out.cells
  have G3 : Hid (IsR (w1.alloc (Obj.cells #[.int .i64 N, .int .i64 K, .int .i64 D, .slice none 0 0] 78)) r N K D a cap l) := G1.out.by ((Below.refl _ _).alloc (Nat.le_refl _) _)
  obtain ⟨_, _, _, e3, _⟩ := G3.out.cells
  have S0 : Hid (Rs w (w1.alloc (Obj.cells #[.int .i64 N, .int .i64 K, .int .i64 D, .slice none 0 0] 78)) w1.heap.size N K D none 0 (both (l.take 0) l2)) := ⟨heap_alloc_new _ _, Row.nil _ _, fun _ e => by simp [blockOf] at e, BW.out.alloc BW.out.size _, BW.out.size⟩
  obtain ⟨B, hB⟩ : ∃ B, w1.heap.size = B := ⟨_, rfl⟩
  rw [hB] at S0
  obtain ⟨len, hlen⟩ : ∃ n, l.length = n := ⟨_, rfl⟩
  rw [hlen] at hl cm c3 e3
  go_wp2_with fail
  clear c0 c1 c2 c3 e3 hB G3 BW G1
  go_loopw [8, 35] (fun _ x wr => ∃ (i c : Nat) (q : Option Addr), x = .int .i64 (i : Int) ∧ i ≤ len ∧ Hid (Rs w wr B N K D q c (both (l.take i) l2))) (fun _ x _ => len - (intOf x).toNat)
  case atStart => exact ⟨0, 0, none, rfl, Nat.zero_le _, S0⟩
  case round =>
    obtain ⟨i, c, q, rfl, hi, F⟩ := hrel
    clear S0
    by_cases hlt : i < len
    · have rd := (H1.out.by F.out.bel).row.ireads
      obtain ⟨g, off, rfl, hc⟩ := rd.cells (by omega)
      have e0 := hc i (by omega)
      obtain ⟨y, hy⟩ : ∃ y, l.getD i 0 = y := ⟨_, rfl⟩
      rw [hy] at e0
      have HB := both_snoc l l2 i (by omega)
      rw [hy] at HB
      have i1 : (i : Int) < (len : Int) := by omega
      have HY : Hid (y ∈ l) := by
        show y ∈ l
        rw [← hy, getD_at l i (by omega)]; exact List.getElem_mem _
      clear rd hc hy
      by_cases hm : y ∈ l2
      · rw [if_pos hm] at HB
        have HB' : Hid (both (l.take (i + 1)) l2 = both (l.take i) l2 ++ [y]) := HB
        have tl : (both (l.take i) l2).length ≤ i := by
          have := List.length_filter_le (fun x => decide (x ∈ l2)) (l.take i)
          rw [List.length_take] at this
          unfold both
          omega
        obtain ⟨n, hn⟩ : ∃ n, (both (l.take i) l2).length = n := ⟨_, rfl⟩
        have blk := F.out.blk
        have row := F.out.row
        rw [hn] at blk row tl
        have b3 := cell_blk blk 3 rfl
        have cm2 := row.room
        have cs2 := row.small
        unfold maxLen at cs2
        have RW : Hid (Row wr 3 q n c (ints (both (l.take i) l2))) := row
        have BK : Hid (wr.heap[B]? = some (.cells #[.int .i64 N, .int .i64 K, .int .i64 D, .slice q n c] 78 (0, 0))) := blk
        have n1 : (n + 1) * 8 ≤ 140737488355328 := Nat.le_trans (Nat.mul_le_mul_right 8 (by omega : n + 1 ≤ 256)) (by decide)
        have hm' : Hid (y ∈ l2) := hm
        clear HB hm row blk
        go_wp2_with fail
        refine (rHas y wr (H2.out.by F.out.bel)).mono ?_
        rw [decide_eq_true hm'.out]
        rintro o w2 ⟨rfl, rfl⟩
        go_wp2_with (first | (at_builtin; refine wpList_append_row _ rfl (.tmp 46) (.tmp 48) 24 3 (.int .i64 0) rfl Try.underlying24 int_info rfl q n c (ints (both (l.take i) l2)) rfl (RW.out.by ((Below.refl _ _).alloc (Nat.le_refl _) _)) w2.heap.size (.int .i64 y) rfl rfl (by simp) n1 ?_; intro q' c' w3 hr hg hq; have c5 := hr.out.room; have K3 : Hid (Kept (fun k => blockOf q = some k) w2 w3) := ((Kept.refl _ _).alloc _).grown hg.out (fun k _ e => e); have NR : Hid (¬ blockOf q = some B) := (fun e => by obtain ⟨cur, hc⟩ := RW.out.blk e; have := BK.out; rw [hc] at this; simp at this); have R3 := K3.out.get BK.out NR.out; have d3 := cell_blk R3 3 rfl; have g3 := soft_blk R3 3; clear R3) | fail)
        have F2 : Hid (Rs w (w3.setCell ⟨B, 3, none⟩ (.slice q' (n + 1) c')) B N K D q' c' (both (l.take (i + 1)) l2)) := by
          have R3 := K3.out.get BK.out NR.out
          have hr' := hr.out
          rw [ints_snoc, ← HB'.out] at hr'
          have hl2 : (both (l.take (i + 1)) l2).length = n + 1 := by rw [HB'.out, List.length_append, hn]; rfl
          have rne : ∀ g, blockOf q' = some g → g ≠ B := fun g e e2 => by
            subst e2
            obtain ⟨cur, hc⟩ := hr'.blk e
            rw [R3] at hc
            simp at hc
          refine ⟨by rw [hl2]; exact heap_set R3 3 _, by rw [hl2]; exact hr'.kept ((Kept.refl (fun k => k = B) w3).setCell (p := ⟨B, 3, none⟩) (fun _ => rfl) _) (fun g e => rne g e), fun g e => ?_, ?_, F.out.hB⟩
          · rcases hq.out with h | h
            · rw [h] at e; exact F.out.far g e
            · rw [h, blockOf_some] at e
              simp at e
              have := F.out.bel.size
              omega
          · exact (F.out.bel.trans (K3.out.below F.out.bel.size (fun k e => F.out.far k e))).setCell (p := ⟨B, 3, none⟩) F.out.hB _
        clear hr hg hq F c5 K3 NR RW BK d3 g3
        go_roundw
        case rel => exact ⟨i + 1, c', q', by go_num, by omega, F2⟩
        case measure => simp [intOf]; omega
      · rw [if_neg hm, List.append_nil] at HB
        have F2 : Hid (Rs w wr B N K D q c (both (l.take (i + 1)) l2)) := by
          show Rs w wr B N K D q c (both (l.take (i + 1)) l2)
          rw [HB]; exact F.out
        have hm' : Hid (¬ y ∈ l2) := hm
        clear HB hm
        go_wp2_with fail
        refine (rHas y wr (H2.out.by F.out.bel)).mono ?_
        rw [decide_eq_false hm'.out]
        rintro o w2 ⟨rfl, rfl⟩
        go_wp2_with fail
        go_roundw
        case rel => exact ⟨i + 1, c, q, by go_num, by omega, F2⟩
        case measure => simp [intOf]; omega
    · have F2 : Hid (IsR wr B N K D q c (both l l2) ∧ (∀ g, blockOf q = some g → w.heap.size ≤ g) ∧ Below w.heap.size w wr) := by
        have := F.out
        rw [List.take_of_length_le (by omega)] at this
        exact ⟨⟨this.blk, this.row, H1.out.ok, fun x hx => H1.out.low x (both_sub l l2 x hx), H1.out.nodup.filter _⟩, this.far, this.bel⟩
      have HB : Hid (w.heap.size ≤ B) := F.out.hB
      clear F
      go_wp2_with fail
      go_ret2
      exact ⟨B, q, c, HB.out, rfl, F2⟩
end Go.Proofs.Ythcnpijgfhinhaa
