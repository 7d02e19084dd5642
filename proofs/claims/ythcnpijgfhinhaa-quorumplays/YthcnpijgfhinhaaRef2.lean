import Derived.Test.YthcnpijgfhinhaaRef
import Derived.Test.YthcnpijgfhinhaaMeets
namespace Go.Proofs.Ythcnpijgfhinhaa
open Go.RowKit

theorem int_info : (Try.prog.info? 3).map (fun i => (i.zero, i.size, i.bytes)) = some (some (.int .i64 0), 1, 8) := Try.info3
theorem blockOf_some (g off : Nat) : blockOf (some ⟨g, off, none⟩) = some g := rfl
theorem ints_snoc (l : List Int) (x : Int) : ints l ++ [.int .i64 x] = ints (l ++ [x]) := by unfold ints; simp
theorem lset_at (l : List Int) (N : Int) (i : Nat) (h : (i : Int) < N) : lset l N i = decide ((i : Int) ∈ l) := by unfold lset; simp [h]
theorem those_nil (x : Bool) (w : World) : Calls Try.prog 50 #[.pointer none, .bool x] w fun o w' => o = .returned (.slice none 0 0) ∧ w' = w := by
  go_enter Try.func50, Try.ntmps50
  go_wp2_with fail
  go_ret
  exact ⟨rfl, rfl⟩
/-- Where those stands. -/
structure Ts (w wr : World) (r : Nat) (N K D : Int) (a : Option Addr) (cap : Nat) (l : List Int) (q : Option Addr) (n c : Nat) (t : List Int) : Prop where
  set : IsR wr r N K D a cap l
  row : Row wr 3 q n c (ints t)
  far : ∀ g, blockOf q = some g → w.heap.size ≤ g
  bel : Below w.heap.size w wr
set_option maxRecDepth 100000 in
set_option maxHeartbeats 2000000 in
theorem those {r : Nat} {N K D : Int} {a : Option Addr} {cap : Nat} {l : List Int} (x : Bool) (w : World) (h : IsR w r N K D a cap l) :
    Calls Try.prog 50 #[.pointer (some ⟨r, 0, none⟩), .bool x] w fun o w' => ∃ q n c, o = .returned (.slice q n c) ∧ Hid (Row w' 3 q n c (ints (pick (lset l N) x N.toNat)) ∧ (∀ g, blockOf q = some g → w.heap.size ≤ g) ∧ Below w.heap.size w w') := by
  have nb : 1 ≤ N ∧ N ≤ 255 := ⟨by have := h.ok.1; have := h.ok.2.1; omega, h.ok.2.2.1⟩
  have F0 : Hid (Ts w w r N K D a cap l none 0 0 (pick (lset l N) x 0)) := ⟨h, Row.nil _ _, fun _ e => by simp [blockOf] at e, Below.refl _ _⟩
  have HL : Hid (r < w.heap.size ∧ ∀ g, blockOf a = some g → g < w.heap.size) := ⟨h.lt, fun g e => h.row.lt e⟩
  clear h
  go_enter Try.func50, Try.ntmps50
  go_wp2_with fail
  go_loopw [5, 6] (fun y z wr => ∃ (i n c : Nat) (q : Option Addr), z = .int .i64 (i : Int) ∧ y = .slice q n c ∧ (i : Int) ≤ N ∧ n ≤ i ∧ Hid (Ts w wr r N K D a cap l q n c (pick (lset l N) x i))) (fun _ z _ => N.toNat - (intOf z).toNat)
  case atStart => exact ⟨0, 0, 0, none, rfl, rfl, by omega, Nat.le_refl _, F0⟩
  case round =>
    obtain ⟨i, n, c, q, rfl, rfl, hi, hn, F⟩ := hrel
    clear F0
    obtain ⟨c0, c1, c2, c3, _⟩ := F.out.set.cells
    have cm := F.out.row.room
    have cs := F.out.row.small
    unfold maxLen at cs
    by_cases hlt : (i : Int) < N
    · have e1 := lset_at l N i hlt
      by_cases hx : lset l N i = x
      · have HP : Hid (pick (lset l N) x (i + 1) = pick (lset l N) x i ++ [(i : Int)]) := pick_hit _ _ _ hx
        rw [e1] at hx
        go_wp2_with fail
        refine (rHas (i : Int) wr F.out.set).mono ?_
        rw [hx]
        rintro o w2 ⟨rfl, rfl⟩
        have hB := F.out.bel.size
        go_wp2_with (first | (at_builtin; refine wpList_append_row _ rfl (.tmp 24) (.tmp 26) 24 3 (.int .i64 0) rfl Try.underlying24 int_info rfl q n c (ints (pick (lset l N) x i)) rfl (F.out.row.by ((Below.refl _ _).alloc (Nat.le_refl _) _)) w2.heap.size (.int .i64 (i : Int)) rfl rfl (by simp) (by omega) ?_; intro q' c' w3 hr hg hq; have c5 := hr.out.room) | fail)
        have F2 : Hid (Ts w w3 r N K D a cap l q' (n + 1) c' (pick (lset l N) x (i + 1))) := by
          have kk : Kept (fun k => w.heap.size ≤ k) w2 w3 := ((Kept.refl _ _).alloc _).grown hg.out (fun k _ e => F.out.far k e)
          have hr' := hr.out
          rw [ints_snoc, ← HP.out] at hr'
          refine ⟨F.out.set.kept kk (by have := HL.out.1; omega) (fun g e => by have := HL.out.2 g e; omega), hr', fun g e => ?_, F.out.bel.trans (kk.below hB (fun k e => e))⟩
          rcases hq.out with h | h
          · rw [h] at e; exact F.out.far g e
          · rw [h, blockOf_some] at e
            simp at e
            omega
        clear hr hg hq F c5
        go_roundw
        case rel => exact ⟨i + 1, n + 1, c', q', by go_num, rfl, by omega, by omega, F2⟩
        case measure => simp [intOf]; omega
      · have HP : Hid (pick (lset l N) x (i + 1) = pick (lset l N) x i) := pick_miss _ _ _ hx
        have F2 : Hid (Ts w wr r N K D a cap l q n c (pick (lset l N) x (i + 1))) := by
          show Ts w wr r N K D a cap l q n c (pick (lset l N) x (i + 1))
          rw [HP.out]; exact F.out
        rw [e1] at hx
        have hx2 : decide ((i : Int) ∈ l) = !x := by cases x <;> cases q : decide ((i : Int) ∈ l) <;> simp_all
        cases x
        · go_wp2_with fail
          refine (rHas (i : Int) wr F.out.set).mono ?_
          rw [hx2]
          rintro o w2 ⟨rfl, rfl⟩
          go_wp2_with fail
          go_roundw
          case rel => exact ⟨i + 1, n, c, q, by go_num, rfl, by omega, by omega, F2⟩
          case measure => simp [intOf]; omega
        · go_wp2_with fail
          refine (rHas (i : Int) wr F.out.set).mono ?_
          rw [hx2]
          rintro o w2 ⟨rfl, rfl⟩
          go_wp2_with fail
          go_roundw
          case rel => exact ⟨i + 1, n, c, q, by go_num, rfl, by omega, by omega, F2⟩
          case measure => simp [intOf]; omega
    · have F2 : Hid (Row wr 3 q n c (ints (pick (lset l N) x N.toNat)) ∧ (∀ g, blockOf q = some g → w.heap.size ≤ g) ∧ Below w.heap.size w wr) := by
        have e : N.toNat = i := by omega
        rw [e]; exact ⟨F.out.row, F.out.far, F.out.bel⟩
      clear F
      go_wp2_with fail
      go_ret
      exact ⟨q, n, c, rfl, F2⟩
theorem rList {r : Nat} {N K D : Int} {a : Option Addr} {cap : Nat} {l : List Int} (w : World) (h : IsR w r N K D a cap l) :
    Calls Try.prog 47 #[.pointer (some ⟨r, 0, none⟩)] w fun o w' => ∃ q n c, o = .returned (.slice q n c) ∧ Hid (Row w' 3 q n c (ints (pick (lset l N) true N.toNat)) ∧ (∀ g, blockOf q = some g → w.heap.size ≤ g) ∧ Below w.heap.size w w') := by
  have H : Hid (IsR w r N K D a cap l) := h
  clear h
  go_enter Try.func47, Try.ntmps47
  go_wp2_with fail
  refine (those true w H.out).mono ?_
  rintro o w1 ⟨q, n, c, rfl, R⟩
  have c5 := R.out.1.room
  go_wp2_with fail
  go_ret
  exact ⟨q, n, c, rfl, R⟩
theorem rRest {r : Nat} {N K D : Int} {a : Option Addr} {cap : Nat} {l : List Int} (w : World) (h : IsR w r N K D a cap l) :
    Calls Try.prog 48 #[.pointer (some ⟨r, 0, none⟩)] w fun o w' => ∃ q n c, o = .returned (.slice q n c) ∧ Hid (Row w' 3 q n c (ints (pick (lset l N) false N.toNat)) ∧ (∀ g, blockOf q = some g → w.heap.size ≤ g) ∧ Below w.heap.size w w') := by
  have H : Hid (IsR w r N K D a cap l) := h
  clear h
  go_enter Try.func48, Try.ntmps48
  go_wp2_with fail
  refine (those false w H.out).mono ?_
  rintro o w1 ⟨q, n, c, rfl, R⟩
  have c5 := R.out.1.room
  go_wp2_with fail
  go_ret
  exact ⟨q, n, c, rfl, R⟩
theorem rList_nil (w : World) : Calls Try.prog 47 #[.pointer none] w fun o w' => o = .returned (.slice none 0 0) ∧ w' = w := by
  go_enter Try.func47, Try.ntmps47
  go_wp2_with fail
  refine (those_nil true w).mono ?_
  rintro o w1 ⟨rfl, rfl⟩
  go_wp2_with fail
  go_ret
  exact ⟨rfl, rfl⟩
theorem rRest_nil (w : World) : Calls Try.prog 48 #[.pointer none] w fun o w' => o = .returned (.slice none 0 0) ∧ w' = w := by
  go_enter Try.func48, Try.ntmps48
  go_wp2_with fail
  refine (those_nil false w).mono ?_
  rintro o w1 ⟨rfl, rfl⟩
  go_wp2_with fail
  go_ret
  exact ⟨rfl, rfl⟩
/-- The blocks that a set of the document owns. -/
def foot (r : Nat) (a : Option Addr) : Nat → Prop := fun k => k = r ∨ blockOf a = some k
theorem rAdd_nil (y : Int) (w : World) : Calls Try.prog 40 #[.pointer none, .int .i64 y] w fun o w' => o = .returned (.tuple #[.bool false, .int .i64 0]) ∧ w' = w := by
  go_enter Try.func40, Try.ntmps40
  go_wp2_with fail
  go_ret2
  exact ⟨rfl, rfl⟩
/-- What Add makes of the document's list. -/
def addL (l : List Int) (N y : Int) : List Int := if inN N y && !decide (y ∈ l) then l ++ [y] else l
theorem addL_set (l : List Int) (N y : Int) : lset (addL l N y) N = addM (lset l N) N y := by
  rw [addM_lset]
  unfold addL
  cases h : inN N y
  · rw [lset_out l N y h]; rfl
  · by_cases hm : y ∈ l
    · rw [decide_eq_true hm]
      apply lset_congr
      intro z
      simp only [Bool.not_true, Bool.and_false, Bool.false_eq_true, if_false, List.mem_cons]
      exact ⟨.inr, fun q => q.elim (fun e => e ▸ hm) id⟩
    · rw [decide_eq_false hm]
      apply lset_congr
      intro z
      simp only [Bool.not_false, Bool.and_true, if_true, List.mem_cons, List.mem_append, List.not_mem_nil, or_false]
      exact or_comm
set_option maxRecDepth 100000 in
set_option maxHeartbeats 2000000 in
theorem rAdd {r : Nat} {N K D : Int} {a : Option Addr} {cap : Nat} {l : List Int} (y : Int) (w : World) (h : IsR w r N K D a cap l) :
    Calls Try.prog 40 #[.pointer (some ⟨r, 0, none⟩), .int .i64 y] w fun o w' => o = .returned (.tuple #[.bool (inN N y && !decide (y ∈ l)), .int .i64 (if inN N y then 0 else 51)]) ∧ ∃ a' cap', Hid (IsR w' r N K D a' cap' (addL l N y) ∧ Kept (foot r a) w w' ∧ ∀ g, blockOf a' = some g → blockOf a = some g ∨ w.heap.size ≤ g) := by
  obtain ⟨c0, c1, c2, c3, f3⟩ := h.cells
  have hl := h.len255.2
  have H : Hid (IsR w r N K D a cap l) := h
  have cm := h.row.room
  have cs := h.row.small
  unfold maxLen at cs
  have same : Hid (IsR w r N K D a cap l ∧ Kept (foot r a) w w ∧ ∀ g, blockOf a = some g → blockOf a = some g ∨ w.heap.size ≤ g) := ⟨h, Kept.refl _ _, fun g e => .inl e⟩
  clear h
  cases hin : inN N y
  · have hy : ¬ (0 ≤ y ∧ y < N) := by unfold inN at hin; exact of_decide_eq_false hin
    have e : addL l N y = l := by unfold addL; rw [hin]; rfl
    rw [e]
    by_cases hy0 : 0 ≤ y
    · have hy1 : ¬ y < N := by omega
      go_enter Try.func40, Try.ntmps40
      go_wp2_with fail
      go_ret2
      exact ⟨rfl, a, cap, same⟩
    · go_enter Try.func40, Try.ntmps40
      go_wp2_with fail
      go_ret2
      exact ⟨rfl, a, cap, same⟩
  · have hy : 0 ≤ y ∧ y < N := by unfold inN at hin; exact of_decide_eq_true hin
    by_cases hm : y ∈ l
    · have e : addL l N y = l := by unfold addL; rw [hin, decide_eq_true hm]; rfl
      rw [e, decide_eq_true hm]
      have hm' : Hid (y ∈ l) := hm
      clear hm
      go_enter Try.func40, Try.ntmps40
      go_wp2_with fail
      refine (rHas y w H.out).mono ?_
      rw [decide_eq_true hm'.out]
      rintro o w1 ⟨rfl, rfl⟩
      go_wp2_with fail
      go_ret2
      exact ⟨rfl, a, cap, same⟩
    · have e : addL l N y = l ++ [y] := by unfold addL; rw [hin, decide_eq_false hm]; rfl
      rw [e, decide_eq_false hm]
      have hm' : Hid (¬ y ∈ l) := hm
      clear hm same
      go_enter Try.func40, Try.ntmps40
      go_wp2_with fail
      refine (rHas y w H.out).mono ?_
      rw [decide_eq_false hm'.out]
      rintro o w1 ⟨rfl, rfl⟩
      have n1 : (l.length + 1) * 8 ≤ 140737488355328 := Nat.le_trans (Nat.mul_le_mul_right 8 (by omega : l.length + 1 ≤ 256)) (by decide)
      go_wp2_with (first | (at_builtin; refine wpList_append_row _ rfl (.tmp 26) (.tmp 28) 24 3 (.int .i64 0) rfl Try.underlying24 int_info rfl a l.length cap (ints l) rfl (H.out.row.by ((Below.refl _ _).alloc (Nat.le_refl _) _)) w1.heap.size (.int .i64 y) rfl rfl (by simp) n1 ?_; intro q' c' w3 hr hg hq; have c5 := hr.out.room; have K3 : Hid (Kept (fun k => blockOf a = some k) w1 w3) := ((Kept.refl _ _).alloc _).grown hg.out (fun k _ e => e); have NR : Hid (¬ blockOf a = some r) := (fun e => by obtain ⟨cur, hc⟩ := H.out.row.blk e; have := H.out.blk; rw [hc] at this; simp at this); have R3 := K3.out.get H.out.blk NR.out; have d3 := cell_blk R3 3 rfl; have g3 := soft_blk R3 3; clear R3) | fail)
      go_ret2
      refine ⟨rfl, q', c', ?_⟩
      have R3 := K3.out.get H.out.blk NR.out
      have hr' := hr.out
      rw [ints_snoc] at hr'
      have hl2 : (l ++ [y]).length = l.length + 1 := by simp
      have rne : ∀ g, blockOf q' = some g → g ≠ r := fun g e e2 => by
        subst e2
        obtain ⟨cur, hc⟩ := hr'.blk e
        rw [R3] at hc
        simp at hc
      refine ⟨⟨?_, ?_, H.out.ok, ?_, ?_⟩, ?_, ?_⟩
      · rw [hl2]; exact heap_set R3 3 _
      · rw [hl2]
        exact hr'.kept ((Kept.refl (fun k => k = r) w3).setCell (p := ⟨r, 3, none⟩) (fun _ => rfl) _) (fun g e => rne g e)
      · intro x hx
        rcases List.mem_append.1 hx with q | q
        · exact H.out.low x q
        · rw [List.mem_singleton] at q; subst q; exact hy
      · rw [List.nodup_append]
        refine ⟨H.out.nodup, by simp, fun x hx z hz => ?_⟩
        rw [List.mem_singleton] at hz
        subst hz
        exact fun e => hm'.out (e ▸ hx)
      · exact (K3.out.mono (fun k _ e => .inr e)).setCell (p := ⟨r, 3, none⟩) (fun _ => .inl rfl) _
      · intro g e
        rcases hq.out with q | q
        · rw [q] at e; exact .inl e
        · rw [q, blockOf_some] at e
          simp at e
          exact .inr (by omega)
end Go.Proofs.Ythcnpijgfhinhaa
