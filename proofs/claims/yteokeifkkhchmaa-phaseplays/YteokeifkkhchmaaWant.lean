import Derived.Test.YteokeifkkhchmaaEach
namespace Go.Proofs.Yteokeifkkhchmaa
open Go.RowKit 

theorem pick_prs (M : Int → Option Int) (n : Nat) : pick M true n = (prs M n).map fun e => e.1 := by
  induction n with
  | zero => rfl
  | succ n ih =>
    cases h : M (n : Int) with
    | none => rw [prs_none M n h, pick_miss M true n (by rw [h]; decide), ih]
    | some v => rw [prs_some M n v h, pick_hit M true n (by rw [h]; rfl), ih, List.map_append]; rfl
theorem Row.take {w : World} {e : TypeId} {a : Option Addr} {len cap : Nat} {xs : List Value} (r : Row w e a len cap xs) (k : Nat) (hk : k ≤ len) : Row w e a k cap (xs.take k) := by
  refine ⟨by rw [List.length_take, r.length]; omega, Nat.le_trans hk r.room, r.small, fun u hu => r.one u (List.mem_of_mem_take hu), ?_⟩
  rcases r.pos with q | ⟨g, cur, rfl, hg, hs, ht⟩
  · exact .inl q
  · refine .inr ⟨g, cur, rfl, hg, hs, ?_⟩
    rw [← ht, List.take_take, Nat.min_eq_left hk]
theorem ints_take (l : List Int) (k : Nat) : (ints l).take k = ints (l.take k) := by unfold ints; rw [List.map_take]
theorem ints_at (l : List Int) (i : Nat) (x : Int) (h : l[i]? = some x) : (ints l)[i]? = some (.int .i64 x) := by unfold ints; rw [List.getElem?_map, h]; rfl
theorem wanted_nil (k p s v n : Int) (w : World) : Calls Try.prog 14 #[.pointer none, .agg #[.int .i64 k, .int .i64 p, .int .i64 s, .int .i64 v, .int .i64 n]] w fun o w' => o = .returned (.slice none 0 0) ∧ Kept (fun _ => False) w w' := by
  have K3 : Hid (Kept (fun _ => False) w (w.alloc (.cells #[.int .i64 k, .int .i64 p, .int .i64 s, .int .i64 v, .int .i64 n] 36))) := k0_alloc _ _
  go_enter Try.func14, Try.ntmps14
  go_wp2_with fail
  refine (rServers_nil true _).mono ?_
  rintro o w1 ⟨rfl, rfl⟩
  go_wp2_with fail
  go_loopw [5, 13] (fun y z wr => y = .slice none 0 0 ∧ z = .int .i64 0 ∧ wr = (w.alloc (.cells #[.int .i64 k, .int .i64 p, .int .i64 s, .int .i64 v, .int .i64 n] 36))) (fun _ _ _ => 0)
  case atStart => exact ⟨rfl, rfl, rfl⟩
  case round =>
    obtain ⟨rfl, rfl, rfl⟩ := hrel
    by_cases hn : 0 < n
    · have hn2 : ¬ n < 0 := by omega
      go_wp2_with fail
      go_ret
      exact ⟨rfl, K3.out⟩
    · go_wp2_with fail
      go_ret
      exact ⟨rfl, K3.out⟩
set_option maxRecDepth 100000 in
set_option maxHeartbeats 4000000 in
theorem wanted {rb cb lb N : Nat} {K D : Int} {M : Int → Option Int} (k p s v n : Int) (w : World) (h : IsR w rb cb lb N K D M) : Calls Try.prog 14 #[.pointer (some ⟨rb, 0, none⟩), .agg #[.int .i64 k, .int .i64 p, .int .i64 s, .int .i64 v, .int .i64 n]] w fun o w' => ∃ q c, o = .returned (.slice q (2 * stopAt n (cntM M N)) c) ∧ Hid (Row w' 3 q (2 * stopAt n (cntM M N)) c (ints (flat ((prs M N).take (stopAt n (cntM M N))))) ∧ (∀ g, blockOf q = some g → w.heap.size ≤ g) ∧ IsR w' rb cb lb N K D (lastM M (N : Int) v (cntM M N)) ∧ Kept (fun j => j = cb ∨ j = lb) w w') := by
  obtain ⟨m, hm⟩ : ∃ m, m = cntM M N := ⟨_, rfl⟩
  obtain ⟨P, hP⟩ : ∃ P, P = prs M N := ⟨_, rfl⟩
  have lP : P.length = m := by rw [hP, hm, prs_len]
  have m255 : m ≤ 255 := by have := cntM_le M N; have := h.ok.2.2.1; omega
  have HM : Hid (m = cntM M N ∧ P = prs M N ∧ P.length = m) := ⟨hm, hP, lP⟩
  obtain ⟨W, hW⟩ : ∃ W, W = w.alloc (.cells #[.int .i64 k, .int .i64 p, .int .i64 s, .int .i64 v, .int .i64 n] 36) := ⟨_, rfl⟩
  have K1 : Kept (fun _ => False) w W := by rw [hW]; exact k0_alloc _ _
  have B1 : W.heap[w.heap.size]? = some (.cells #[.int .i64 k, .int .i64 p, .int .i64 s, .int .i64 v, .int .i64 n] 36 (0, 0)) := by rw [hW]; exact heap_alloc_new _ _
  have H : Hid (IsR W rb cb lb N K D M ∧ Kept (fun _ => False) w W ∧ W.heap[w.heap.size]? = some (.cells #[.int .i64 k, .int .i64 p, .int .i64 s, .int .i64 v, .int .i64 n] 36 (0, 0)) ∧ rb < w.heap.size ∧ cb < w.heap.size ∧ lb < w.heap.size) := ⟨h.k0 K1, K1, B1, h.lt⟩
  have EW : Hid (W = w.alloc (.cells #[.int .i64 k, .int .i64 p, .int .i64 s, .int .i64 v, .int .i64 n] 36)) := hW
  rw [← hm, ← hP]
  clear h hm hP lP hW K1 B1
  go_enter Try.func14, Try.ntmps14
  go_wp2_with fail
  rw [← EW.out]
  refine (rServers true W H.out.1).mono ?_
  rintro o w2 ⟨qs, ns, cs, rfl, R⟩
  have ens : ns = m := by have := R.out.1.length; rw [ints_length, pick_len] at this; rw [HM.out.1]; exact this.symm
  subst ens
  have rs := R.out.1.room
  have ss := R.out.1.small
  unfold maxLen at ss
  have R2 : Hid (Row w2 3 qs ns cs (ints (P.map fun e => e.1)) ∧ Kept (fun _ => False) w w2 ∧ w2.heap[w.heap.size]? = some (.cells #[.int .i64 k, .int .i64 p, .int .i64 s, .int .i64 v, .int .i64 n] 36 (0, 0)) ∧ w.heap.size ≤ w2.heap.size) := by
    have := R.out.1
    rw [pick_prs, ← HM.out.2.1] at this
    exact ⟨this, H.out.2.1.and0 R.out.2.2, R.out.2.2.get H.out.2.2.1 (fun z => z), (H.out.2.1.and0 R.out.2.2).size⟩
  have F0 : Hid (Ts w2 w2 rb cb lb N K D M none 0 0 (flat (P.take 0))) := ⟨H.out.1.k0 R.out.2.2, Row.nil _ _, fun _ e => by simp [blockOf] at e, Kept.refl _ _⟩
  clear R
  go_wp2_with fail
  (try go_frame)
  go_loopw [5, 13] (fun y z wr => ∃ (i c : Nat) (q : Option Addr), z = .int .i64 (i : Int) ∧ y = .slice q (2 * i) c ∧ i ≤ ns ∧ Hid (Ts w2 wr rb cb lb N K D M q (2 * i) c (flat (P.take i)))) (fun _ z _ => ns - (intOf z).toNat)
  case atStart => exact ⟨0, 0, none, rfl, rfl, Nat.zero_le _, F0⟩
  case round =>
    obtain ⟨i, c, q, rfl, rfl, hi, F⟩ := hrel
    clear F0
    have cm := F.out.row.room
    have cs2 := F.out.row.small
    unfold maxLen at cs2
    by_cases hlt : i < ns
    · obtain ⟨x, y, he, _, _, ef⟩ := prs_at P i (by rw [HM.out.2.2]; exact hlt)
      have hx : M x = some y := by
        have : (x, y) ∈ prs M N := by rw [← HM.out.2.1, ← he]; exact List.getElem_mem _
        exact ((prs_mem M N (x, y)).1 this).2.2
      obtain ⟨gs, rfl⟩ := R2.out.1.some_of (by omega)
      have d0 : w2.cell? ⟨gs, i, none⟩ = some (.int .i64 x) := R2.out.1.cell i _ (ints_at _ i x (by rw [List.getElem?_map, List.getElem?_eq_getElem (by rw [HM.out.2.2]; exact hlt), he]; rfl))
      have d0 := F.out.kept.cell d0 (fun z => z)
      have hlt' : (i : Int) < (ns : Int) := by omega
      have EF : Hid (flat (P.take (i + 1)) = flat (P.take i) ++ [x, y]) := ef
      have HX : Hid (M x = some y) := hx
      clear he ef hx
      go_wp2_with fail
      refine (rGet x wr F.out.ph).mono ?_
      rw [HX.out]
      rintro o w3 ⟨rfl, rfl⟩
      go_wp2_with (first | (at_builtin; refine wpList_append_row _ rfl (.tmp 23) (.tmp 26) 42 3 (.int .i64 0) rfl Try.underlying42 int_info rfl q (2 * i) c 2 (ints (flat (P.take i))) [.int .i64 x, .int .i64 y] rfl (F.out.row.kept (k0_alloc _ _) (fun _ _ z => z)) w3.heap.size rfl (by omega) (fun u hu => by simp at hu; rcases hu with rfl | rfl <;> rfl) rfl (two_src (by simp) (by simp)) (by omega) ?_; intro q' c' w4 hr hg hq; have c5 := hr.out.room) | fail)
      have F2 : Hid (Ts w2 w4 rb cb lb N K D M q' (2 * (i + 1)) c' (flat (P.take (i + 1)))) := by
        have kk : Kept (fun k => w2.heap.size ≤ k) w3 w4 := ((Kept.refl _ _).alloc _).grown hg.out (fun k _ e => F.out.far k e)
        have hr' := hr.out
        have e1 : ints (flat (P.take i)) ++ [.int .i64 x, .int .i64 y] = ints (flat (P.take (i + 1))) := by rw [EF.out]; exact ints_app _ [x, y]
        rw [e1] at hr'
        have hB := F.out.kept.size
        have l1 := R2.out.2.2.2
        have l2 := H.out.2.2.2
        refine ⟨F.out.ph.kept kk (by omega) (by omega) (by omega), hr', fun g e => ?_, F.out.kept.trans kk (fun j hj z => by have z : w2.heap.size ≤ j := z; omega)⟩
        rcases hq.out with h | h
        · rw [h] at e; exact F.out.far g e
        · rw [h, blockOf_some] at e
          simp at e
          omega
      clear hr hg hq F d0
      go_roundw
      case rel => exact ⟨i + 1, c', q', by go_num, rfl, by omega, F2⟩
      case measure => simp [intOf]; omega
    · have ei : i = ns := by omega
      subst ei
      have PT : P.take i = P := List.take_of_length_le (by rw [HM.out.2.2]; exact Nat.le_refl _)
      have td : ((2 * i : Nat) : Int).tdiv 2 = (i : Int) := by rw [Int.tdiv_eq_ediv_of_nonneg (by omega)]; omega
      have b0 := cell_blk (F.out.kept.get R2.out.2.2.1 (fun z => z)) 3 (v := .int .i64 v) rfl
      have b1 := cell_blk (F.out.kept.get R2.out.2.2.1 (fun z => z)) 4 (v := .int .i64 n) rfl
      have KW : Hid (Kept (fun _ => False) w wr) := R2.out.2.1.and0 F.out.kept
      have FAR : Hid (∀ g, blockOf q = some g → w.heap.size ≤ g) := fun g e => Nat.le_trans R2.out.2.2.2 (F.out.far g e)
      have RW : Hid (Row wr 3 q (2 * i) c (ints (flat P)) ∧ IsR wr rb cb lb N K D M) := by
        have := F.out.row; rw [PT] at this; exact ⟨this, F.out.ph⟩
      have BX : Hid (wr.heap[w.heap.size]? = some (.cells #[.int .i64 k, .int .i64 p, .int .i64 s, .int .i64 v, .int .i64 n] 36 (0, 0))) := F.out.kept.get R2.out.2.2.1 (fun z => z)
      clear PT F R2
      by_cases i0 : i = 0
      · subst i0
        have e1 : stopAt n 0 = 0 := by unfold stopAt; split <;> omega
        have e2 : lastM M (N : Int) v 0 = M := by unfold lastM; rw [if_pos rfl]
        have e3 : ints (flat (P.take 0)) = ints (flat P) := by
          have : P = [] := List.eq_nil_of_length_eq_zero HM.out.2.2
          rw [this]; rfl
        have G : Hid (Row wr 3 q (2 * stopAt n 0) c (ints (flat (P.take (stopAt n 0)))) ∧ (∀ g, blockOf q = some g → w.heap.size ≤ g) ∧ IsR wr rb cb lb N K D (lastM M (N : Int) v 0) ∧ Kept (fun j => j = cb ∨ j = lb) w wr) := by
          rw [e1, e2, e3]
          exact ⟨RW.out.1, FAR.out, RW.out.2, KW.out.mono (fun _ _ z => z.elim)⟩
        have E1 : Hid (stopAt n 0 = 0) := e1
        clear e1 e2 e3 td
        by_cases hn : 0 < n
        · have hn2 : ¬ n < 0 := by omega
          go_wp2_with fail
          go_ret
          exact ⟨q, c, by rw [E1.out]; rfl, G⟩
        · go_wp2_with fail
          go_ret
          exact ⟨q, c, by rw [E1.out]; rfl, G⟩
      · have i1 : (0 : Int) < ((2 * i : Nat) : Int) := by omega
        go_wp2_with fail
        refine (rAnswer v 4444 wr RW.out.2).mono ?_
        rintro o w5 ⟨rfl, ir, k5⟩
        have G5 : Hid (IsR w5 rb cb lb N K D (lastM M (N : Int) v i) ∧ Kept (fun j => j = cb ∨ j = lb) w w5 ∧ Row w5 3 q (2 * i) c (ints (flat P)) ∧ w5.heap[w.heap.size]? = some (.cells #[.int .i64 k, .int .i64 p, .int .i64 s, .int .i64 v, .int .i64 n] 36 (0, 0))) := by
          have l2 := H.out.2.2.2
          refine ⟨?_, (KW.out.mono (fun _ _ z => z.elim)).trans k5 (fun _ _ z => z), RW.out.1.kept k5 (fun g hg z => by have := FAR.out g hg; omega), k5.get BX.out (fun z => by omega)⟩
          unfold lastM
          rw [if_neg i0]
          exact ir
        clear ir k5 b0 b1
        have b1 := cell_blk G5.out.2.2.2 4 (v := .int .i64 n) rfl
        by_cases hn : 0 < n
        · by_cases hn2 : n < (i : Int)
          · obtain ⟨t, rfl⟩ : ∃ t : Nat, n = (t : Int) := ⟨n.toNat, by omega⟩
            have E1 : Hid (stopAt (t : Int) i = t) := by
              show stopAt (t : Int) i = t
              unfold stopAt
              rw [if_pos (by omega)]
              omega
            have wm : IntKind.i64.wrap (2 * (t : Int)) = ((2 * t : Nat) : Int) := by rw [IntKind.wrap_i64]; omega
            have bd : 2 * t ≤ c := by omega
            go_wp2_with fail
            go_ret
            refine ⟨q, c, by rw [E1.out]; rfl, ?_, FAR.out, G5.out.1, G5.out.2.1⟩
            rw [E1.out, flat_take, ← ints_take]
            exact G5.out.2.2.1.take (2 * t) (by omega)
          · have E1 : Hid (stopAt n i = i) := by
              show stopAt n i = i
              unfold stopAt
              rw [if_neg (by omega)]
            go_wp2_with fail
            go_ret
            refine ⟨q, c, by rw [E1.out]; rfl, ?_, FAR.out, G5.out.1, G5.out.2.1⟩
            rw [E1.out, List.take_of_length_le (by rw [HM.out.2.2]; exact Nat.le_refl _)]
            exact G5.out.2.2.1
        · have E1 : Hid (stopAt n i = i) := by
            show stopAt n i = i
            unfold stopAt
            rw [if_neg (by omega)]
          go_wp2_with fail
          go_ret
          refine ⟨q, c, by rw [E1.out]; rfl, ?_, FAR.out, G5.out.1, G5.out.2.1⟩
          rw [E1.out, List.take_of_length_le (by rw [HM.out.2.2]; exact Nat.le_refl _)]
          exact G5.out.2.2.1
end Go.Proofs.Yteokeifkkhchmaa
