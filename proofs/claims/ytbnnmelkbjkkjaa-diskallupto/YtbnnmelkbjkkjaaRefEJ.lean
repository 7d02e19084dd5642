import Derived.Test.YtbnnmelkbjkkjaaRefCJ
import Derived.Test.YtbnnmelkbjkkjaaStops
namespace Go.Proofs.Ytbnnmelkbjkkjaa
open Go.RowKit

set_option maxRecDepth 100000 in
theorem rNew (w : World) : Calls Try.prog 31 #[] w fun x w' => x = .returned (.pointer (some ⟨w.heap.size, 0, none⟩)) ∧ ∃ r, IsR w.heap.size w' w.heap.size r ∧ r.ab = A1 ∧ Kept (fun _ => False) w w' ∧ ∀ k, r.Uses w.heap.size k → k = w.heap.size := by
  go_enter Try.func31, Try.ntmps31
  go_wp2_with fail
  go_ret
  refine ⟨rfl, ⟨⟨none, 0, 0, [], none, 0, 0, []⟩, ⟨none, 0, 0, [], none, 0, 0, []⟩, 0, 0, 0, false, false⟩, ?_, rfl, alloc_kept0 _ _, ?_⟩
  · have ze : ∀ W : World, IsRS w.heap.size W ⟨none, 0, 0, [], none, 0, 0, []⟩ := fun W => ⟨World.ownsRow_nil _ _ _ _, fun c hc => by simp at hc, World.ownsRow_nil _ _ _ _, fun e he => by simp at he, fun k _ e he => by simp at he⟩
    have nu : ∀ k, ¬ RSl.Uses ⟨none, 0, 0, [], none, 0, 0, []⟩ k := fun k z => by
      rcases z with z | z | ⟨e, he, _⟩
      · simp [blockOf] at z
      · simp [blockOf] at z
      · simp at he
    exact ⟨alloc_new _ _, Nat.le_refl _, ze _, ze _, nu _, nu _, fun k _ => nu k, fun k _ => nu k, by decide⟩
  · intro k hk
    rcases hk with z | z | z
    · exact z
    all_goals
      rcases z with z | z | ⟨e, he, _⟩
      · simp [blockOf] at z
      · simp [blockOf] at z
      · simp at he
set_option maxRecDepth 100000 in
theorem rDead (base B : Nat) (d : RK) (w : World) (h : IsR base w B d) : Calls Try.prog 57 #[.pointer (some ⟨B, 0, none⟩)] w fun x w' => x = .returned (.bool d.dead) ∧ w' = w := by
  have c6 : w.cell? ⟨B, 8, none⟩ = some (.bool d.dead) := h.cell 8 rfl
  clear h
  go_enter Try.func57, Try.ntmps57
  go_wp2_with fail
  go_ret
  exact ⟨rfl, rfl⟩
set_option maxRecDepth 100000 in
theorem rActs (base B : Nat) (d : RK) (w : World) (h : IsR base w B d) : Calls Try.prog 55 #[.pointer (some ⟨B, 0, none⟩)] w fun x w' => x = .returned (.int .i64 (d.acts : Int)) ∧ w' = w := by
  have c5 : w.cell? ⟨B, 5, none⟩ = some (.int .i64 (d.acts : Int)) := h.cell 5 rfl
  clear h
  go_enter Try.func55, Try.ntmps55
  go_wp2_with fail
  go_ret
  exact ⟨rfl, rfl⟩
set_option maxRecDepth 100000 in
theorem rCurrent (base B : Nat) (d : RK) (w : World) (h : IsR base w B d) : Calls Try.prog 54 #[.pointer (some ⟨B, 0, none⟩)] w fun x w' => x = .returned (.int .i64 (if d.dead = true then (0 : Int) else (d.cur : Int))) ∧ w' = w := by
  have c6 : w.cell? ⟨B, 8, none⟩ = some (.bool d.dead) := h.cell 8 rfl
  have c4 : w.cell? ⟨B, 4, none⟩ = some (.int .i64 (d.cur : Int)) := h.cell 4 rfl
  clear h
  cases hd : d.dead with
  | true =>
    rw [hd] at c6
    clear hd
    go_enter Try.func54, Try.ntmps54
    go_wp2_with fail
    go_ret
    exact ⟨rfl, rfl⟩
  | false =>
    rw [hd] at c6
    clear hd
    go_enter Try.func54, Try.ntmps54
    go_wp2_with fail
    go_ret
    exact ⟨rfl, rfl⟩
set_option maxRecDepth 100000 in
theorem rPending (base B : Nat) (d : RK) (w : World) (h : IsR base w B d) (ok : d.ab.Ok) :
    Calls Try.prog 56 #[.pointer (some ⟨B, 0, none⟩)] w fun x w' => x = .returned (.int .i64 ((d.ab.X0.length + d.ab.X1.length : Nat) : Int)) ∧ Kept (fun _ => False) w w' := by
  have c1 : w.cell? ⟨B, 2, none⟩ = some (.slice d.s0.la d.s0.ln d.s0.lc) := h.cell 2 rfl
  have c3 : w.cell? ⟨B, 3, none⟩ = some (.slice d.s1.la d.s1.ln d.s1.lc) := h.cell 3 rfl
  have l0 : d.ab.X0.length = d.s0.ln := h.z0.xlen
  have l1 : d.ab.X1.length = d.s1.ln := h.z1.xlen
  have n0 := ok.n0
  have n1 := ok.n1
  unfold Lim at n0 n1
  obtain ⟨m, hm⟩ : ∃ m, d.s0.ln + d.s1.ln = m := ⟨_, rfl⟩
  have wm : IntKind.i64.wrap ((d.s0.ln : Int) + (d.s1.ln : Int)) = (m : Int) := by rw [IntKind.wrap_i64]; omega
  have E : Hid (d.ab.X0.length + d.ab.X1.length = m) := by show d.ab.X0.length + d.ab.X1.length = m; omega
  clear h ok l0 l1 n0 n1
  go_enter Try.func56, Try.ntmps56
  go_wp2_with fail
  go_quiet (fail)
  go_wp2_with fail
  go_ret
  exact ⟨by rw [E.out]; rfl, (Kept.refl _ _).drewN nq⟩
/-- What Read tells. -/
def readL (A : AB) (i : Int) : List Nat := if lookE A i = 0 then A.now i.toNat else []
set_option maxRecDepth 100000 in
theorem rRead (base B : Nat) (d : RK) (i : Int) (w : World) (h : IsR base w B d) (ok : d.ab.Ok) :
    Calls Try.prog 51 #[.pointer (some ⟨B, 0, none⟩), .int .i64 i] w fun x w' => ∃ a n c, x = .returned (.tuple #[.slice a n c, .int .i64 (lookE d.ab i)]) ∧ w'.ownsRow w.heap.size 5 1 (.slice a n c) n (cellsOf (readL d.ab i)) ∧ Kept (fun _ => False) w w' := by
  have H : Hid (IsR base w B d ∧ d.ab.Ok) := ⟨h, ok⟩
  have c8 : w.cell? ⟨B, 8, none⟩ = some (.bool d.dead) := h.cell 8 rfl
  clear h ok
  cases hd : d.dead with
  | true =>
    have E : Hid (lookE d.ab i = 60) := look_dead hd i
    rw [hd] at c8
    clear hd
    go_enter Try.func51, Try.ntmps51
    go_wp2_with fail
    go_ret2
    exact ⟨none, 0, 0, by rw [E.out]; rfl, by rw [show readL d.ab i = [] from by unfold readL; rw [E.out]; rfl]; exact World.ownsRow_nil _ _ _ _, Kept.refl _ _⟩
  | false =>
    rw [hd] at c8
    by_cases h0 : i = 0
    · subst h0
      have E : Hid (lookE d.ab 0 = 0) := by show lookE d.ab 0 = 0; unfold lookE; rw [if_neg (by show ¬ d.dead = true; rw [hd]; decide), if_pos (by decide)]
      clear hd
      go_enter Try.func51, Try.ntmps51
      go_wp2_with fail
      refine (rnow_0 base B d.s0 w H.out.1.z0 (H.out.1.cell 0 rfl) (H.out.1.cell 2 rfl) H.out.2.w0).mono ?_
      rintro x w2 ⟨a, n, c, rfl, q⟩
      have Q : Hid (w2.ownsRow w.heap.size 5 1 (.slice a n c) n (cellsOf (redoL d.s0.l d.s0.xs)) ∧ Kept (fun _ => False) w w2) := q
      clear q
      go_wp2_with fail
      go_ret2
      exact ⟨a, n, c, by rw [E.out]; rfl, by rw [show readL d.ab 0 = redoL d.s0.l d.s0.xs from by unfold readL; rw [E.out]; rfl]; exact Q.out.1, Q.out.2⟩
    · by_cases h1 : i = 1
      · subst h1
        have E : Hid (lookE d.ab 1 = 0) := by show lookE d.ab 1 = 0; unfold lookE; rw [if_neg (by show ¬ d.dead = true; rw [hd]; decide), if_pos (by decide)]
        clear hd h0
        go_enter Try.func51, Try.ntmps51
        go_wp2_with fail
        refine (rnow_1 base B d.s1 w H.out.1.z1 (H.out.1.cell 1 rfl) (H.out.1.cell 3 rfl) H.out.2.w1).mono ?_
        rintro x w2 ⟨a, n, c, rfl, q⟩
        have Q : Hid (w2.ownsRow w.heap.size 5 1 (.slice a n c) n (cellsOf (redoL d.s1.l d.s1.xs)) ∧ Kept (fun _ => False) w w2) := q
        clear q
        go_wp2_with fail
        go_ret2
        exact ⟨a, n, c, by rw [E.out]; rfl, by rw [show readL d.ab 1 = redoL d.s1.l d.s1.xs from by unfold readL; rw [E.out]; rfl]; exact Q.out.1, Q.out.2⟩
      · have E : Hid (lookE d.ab i = 61) := look_off hd (by omega)
        have n0 : (i != 0) = true := by simp [h0]
        have n1 : (i != 1) = true := by simp [h1]
        clear hd
        go_enter Try.func51, Try.ntmps51
        go_wp2_with fail
        go_ret2
        exact ⟨none, 0, 0, by rw [E.out]; rfl, by rw [show readL d.ab i = [] from by unfold readL; rw [E.out]; rfl]; exact World.ownsRow_nil _ _ _ _, Kept.refl _ _⟩
set_option maxRecDepth 100000 in
theorem dRead_off (base B : Nat) (d : DK) (i : Int) (w : World) (h : IsD base w B d) (he : lookE d.ab i ≠ 0) :
    Calls Try.prog 15 #[.pointer (some ⟨B, 0, none⟩), .int .i64 i] w fun x w' => x = .returned (.tuple #[.slice none 0 0, .int .i64 (lookE d.ab i)]) ∧ w' = w := by
  have H : Hid (IsD base w B d) := h
  obtain ⟨v, hv⟩ : ∃ v, v = lookE d.ab i := ⟨_, rfl⟩
  rw [← hv] at he
  have HV : Hid (lookE d.ab i = v) := hv.symm
  have ne : ¬ v = 0 := he
  clear h he hv
  go_enter Try.func15, Try.ntmps15
  go_wp2_with fail
  refine (look base B d i w H.out).mono ?_
  rintro x w1 ⟨rfl, rfl⟩
  rw [HV.out]
  go_wp2_with fail
  go_ret2
  exact ⟨by rw [HV.out]; rfl, rfl⟩
theorem gRead (base B : Nat) (d : DK) (i : Int) (w : World) (h : IsD base w B d) (ok : d.ab.Ok) :
    Calls Try.prog 15 #[.pointer (some ⟨B, 0, none⟩), .int .i64 i] w fun x w' => ∃ a n c, x = .returned (.tuple #[.slice a n c, .int .i64 (lookE d.ab i)]) ∧ w'.ownsRow w.heap.size 5 1 (.slice a n c) n (cellsOf (readL d.ab i)) ∧ Kept (fun _ => False) w w' := by
  by_cases he : lookE d.ab i = 0
  · have hd : d.dead = false := by
      cases hd : d.dead with
      | true => rw [look_dead hd] at he; simp at he
      | false => rfl
    have hi : i = 0 ∨ i = 1 := by
      rcases Classical.em (i = 0 ∨ i = 1) with q | q
      · exact q
      · rw [look_off hd q] at he; simp at he
    have hr : readL d.ab i = d.ab.now i.toNat := by unfold readL; rw [if_pos he]
    rw [he, hr]
    rcases hi with rfl | rfl
    · exact dRead_0 base B d w h hd ok
    · exact dRead_1 base B d w h hd ok
  · have hr : readL d.ab i = [] := by unfold readL; rw [if_neg he]
    rw [hr]
    refine (dRead_off base B d i w h he).mono ?_
    rintro x w' ⟨rfl, rfl⟩
    exact ⟨none, 0, 0, rfl, World.ownsRow_nil _ _ _ _, Kept.refl _ _⟩
end Go.Proofs.Ytbnnmelkbjkkjaa

namespace Go.Proofs.Ytbnnmelkbjkkjaa
open Go.RowKit

set_option maxRecDepth 100000 in
theorem rmodulo (x : Int) (m : Nat) (w : World) (hm : 0 < m) (hb : m < 4611686018427387904) : Calls Try.prog 67 #[.int .i64 x, .int .i64 (m : Int)] w fun y w' => y = .returned (.int .i64 (x % (m : Int))) ∧ w' = w := by
  have m0 : ¬ ((m : Int) = 0) := by omega
  have t1 := Int.tmod_lt_of_pos x (show (0 : Int) < (m : Int) by omega)
  have t2 : -(m : Int) < x.tmod (m : Int) := by
    rcases Int.le_total 0 x with h1 | h1
    · have := Int.tmod_nonneg (m : Int) h1; omega
    · have := Int.tmod_lt_of_pos (-x) (show (0 : Int) < (m : Int) by omega)
      rw [Int.neg_tmod] at this
      omega
  obtain ⟨t, ht⟩ : ∃ t, x.tmod (m : Int) = t := ⟨_, rfl⟩
  have em : x % (m : Int) = if t < 0 then t + (m : Int) else t := by
    rw [← ht, Int.tmod_eq_emod]
    have e1 := Int.emod_nonneg x (show (m : Int) ≠ 0 by omega)
    have e2 := Int.emod_lt_of_pos x (show (0 : Int) < (m : Int) by omega)
    have e3 : ((m : Int).natAbs : Int) = (m : Int) := by omega
    by_cases h1 : 0 ≤ x ∨ (m : Int) ∣ x
    · rw [if_pos h1]
      rw [if_neg (by omega)]
      omega
    · rw [if_neg h1, e3, if_pos (by omega)]
      omega
  rw [ht] at t1 t2
  by_cases hneg : t < 0
  · rw [if_pos hneg] at em
    have wu : IntKind.i64.wrap (t + (m : Int)) = t + (m : Int) := by rw [IntKind.wrap_i64]; omega
    have E : Hid (x % (m : Int) = t + (m : Int)) := em
    clear em
    go_enter Try.func67, Try.ntmps67
    go_wp2_with fail
    go_ret
    exact ⟨by rw [E.out]; rfl, rfl⟩
  · rw [if_neg hneg] at em
    have E : Hid (x % (m : Int) = t) := em
    clear em
    go_enter Try.func67, Try.ntmps67
    go_wp2_with fail
    go_ret
    exact ⟨by rw [E.out]; rfl, rfl⟩
set_option maxRecDepth 100000 in
/-- Stop, of the document's disk. -/
theorem rStop_dead (base B : Nat) (d : RK) (n : Int) (done : Bool) (w : World) (h : IsR base w B d) (hd : d.dead = true) :
    Calls Try.prog 66 #[.pointer (some ⟨B, 0, none⟩), .int .i64 n, .bool done] w fun x w' => x = .returned (.int .i64 60) ∧ w' = w := by
  have c6 : w.cell? ⟨B, 8, none⟩ = some (.bool true) := by rw [← hd]; exact h.cell 8 rfl
  clear h hd
  go_enter Try.func66, Try.ntmps66
  go_wp2_with fail
  go_ret
  exact ⟨rfl, rfl⟩
set_option maxRecDepth 100000 in
theorem rStopM (base B : Nat) (d : RK) (n m : Int) (hm : m = if n > 0 then n else 0) (done : Bool) (w : World) (h : IsR base w B d) (hd : d.dead = false) :
    Calls Try.prog 66 #[.pointer (some ⟨B, 0, none⟩), .int .i64 n, .bool done] w fun x w' => x = .returned (.int .i64 0) ∧ ∃ d', IsR base w' B d' ∧ RM w w' B d d' ∧ d'.ab = { d.ab with named := m, done := done } := by
  have c8 : w.cell? ⟨B, 8, none⟩ = some (.bool false) := by rw [← hd]; exact h.cell 8 rfl
  have c6 : w.cell? ⟨B, 6, none⟩ = some (.int .i64 d.named) := h.cell 6 rfl
  have c7 : w.cell? ⟨B, 7, none⟩ = some (.bool d.done) := h.cell 7 rfl
  have s6 := h.soft 6
  have s7 := h.soft 7
  obtain ⟨p1, p2⟩ := h.put (d' := { d with named := 0 }) 6 (.int .i64 0) rfl rfl rfl h.two
  by_cases hn : n > 0
  · have em : m = n := by rw [hm, if_pos hn]
    subst em
    clear hm
    obtain ⟨q1, q2⟩ := p1.put (d' := { d with named := m }) 6 (.int .i64 m) rfl rfl rfl h.two
    obtain ⟨t1, t2⟩ := q1.put (d' := { d with named := m, done := done }) 7 (.bool done) rfl rfl rfl h.two
    have W2 : Hid (IsR base (((w.setCell ⟨B, 6, none⟩ (.int .i64 0)).setCell ⟨B, 6, none⟩ (.int .i64 m)).setCell ⟨B, 7, none⟩ (.bool done)) B { d with named := m, done := done } ∧ RM w (((w.setCell ⟨B, 6, none⟩ (.int .i64 0)).setCell ⟨B, 6, none⟩ (.int .i64 m)).setCell ⟨B, 7, none⟩ (.bool done)) B d { d with named := m, done := done }) := ⟨t1, (p2.trans q2).trans t2⟩
    clear h hd p1 p2 q1 q2 t1 t2
    go_enter Try.func66, Try.ntmps66
    go_wp2_with fail
    go_ret
    exact ⟨rfl, _, W2.out.1, W2.out.2, rfl⟩
  · have em : m = 0 := by rw [hm, if_neg hn]
    subst em
    clear hm
    obtain ⟨t1, t2⟩ := p1.put (d' := { d with named := 0, done := done }) 7 (.bool done) rfl rfl rfl h.two
    have W2 : Hid (IsR base ((w.setCell ⟨B, 6, none⟩ (.int .i64 0)).setCell ⟨B, 7, none⟩ (.bool done)) B { d with named := 0, done := done } ∧ RM w ((w.setCell ⟨B, 6, none⟩ (.int .i64 0)).setCell ⟨B, 7, none⟩ (.bool done)) B d { d with named := 0, done := done }) := ⟨t1, p2.trans t2⟩
    clear h hd p1 p2 t1 t2
    go_enter Try.func66, Try.ntmps66
    go_wp2_with fail
    go_ret
    exact ⟨rfl, _, W2.out.1, W2.out.2, rfl⟩
theorem rStop (base B : Nat) (d : RK) (n : Int) (done : Bool) (w : World) (h : IsR base w B d) (hd : d.dead = false) :
    Calls Try.prog 66 #[.pointer (some ⟨B, 0, none⟩), .int .i64 n, .bool done] w fun x w' => x = .returned (.int .i64 0) ∧ ∃ d', IsR base w' B d' ∧ RM w w' B d d' ∧ d'.ab = { d.ab with named := if n < 0 then 0 else n, done := done } :=
  rStopM base B d n _ (by split <;> split <;> omega) done w h hd
end Go.Proofs.Ytbnnmelkbjkkjaa
