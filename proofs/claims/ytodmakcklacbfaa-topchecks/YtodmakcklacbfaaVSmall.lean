import Derived.Test.YtodmakcklacbfaaPSmallJ
import Derived.Test.YtodmakcklacbfaaPExJ
namespace Go.Proofs.Ytodmakcklacbfaa
open Go.RowKit 

theorem reads_set {w : World} {B : Nat} {a : Option Addr} {n c : Nat} {l : List Nat} (r : Reads w a n c l) (hb : ∀ p : Addr, a = some p → p.block ≠ B) (i : Nat) (v : Value) : Reads (w.setCell ⟨B, i, none⟩ v) a n c l :=
  Reads.kept (S := fun j => j = B) ((Kept.refl (fun j => j = B) w).setCell (p := ⟨B, i, none⟩) (fun _ => rfl) v) r (fun p hp z => hb p hp z)
theorem kept_setv {w w' : World} (K : Kept (fun _ => False) w w') {B : Nat} (hb : w.heap.size ≤ B) (i : Nat) (v : Value) : Kept (fun _ => False) w (w'.setCell ⟨B, i, none⟩ v) := K.setCell (p := ⟨B, i, none⟩) (fun z => by have z : B < w.heap.size := z; omega) v
/-- 2 for a call that must be in, 1 for one that may be. -/
def Cm.pn (m : Cm) : Int := if m.cl.part = true then (if m.cl.open_ = true then 1 else 2) else 0
set_option maxRecDepth 100000 in
theorem tPart (m : Cm) (w : World) : Calls Try.prog 25 #[m.agg] w fun o w' => o = .returned (.int .i64 m.pn) ∧ Kept (fun _ => False) w w' := by
  obtain ⟨cl, op, pu, ke, va, vn, vc, st, fr, too, on, tx, ty, vl⟩ := m
  obtain ⟨r, hr⟩ : ∃ r, r = Cm.pn ⟨cl, op, pu, ke, va, vn, vc, st, fr, too, on, tx, ty, vl⟩ := ⟨_, rfl⟩
  rw [← hr]
  have E : r = if (pu || (decide (0 ≤ too) && (decide (st = 0) || decide (st = 76)))) = true then (if (pu && on) = true then 1 else 2) else 0 := hr
  clear hr
  unfold Cm.agg
  dsimp only
  obtain ⟨b2, h2⟩ : ∃ b, (st == 0) = b := ⟨_, rfl⟩
  obtain ⟨b3, h3⟩ : ∃ b, (st == 76) = b := ⟨_, rfl⟩
  have e2 : decide (st = 0) = b2 := h2
  have e3 : decide (st = 76) = b3 := h3
  rw [e2, e3] at E
  clear e2 e3
  go_enter Try.func25, Try.ntmps25
  cases pu
  · by_cases h1 : 0 ≤ too
    · have h1' : decide (0 ≤ too) = true := decide_eq_true h1
      rw [h1'] at E
      cases b2
      · cases b3
        · replace E : r = 0 := E
          subst E
          go_wp2_with fail
          go_ret
          exact ⟨rfl, (Kept.refl _ _).alloc _⟩
        · replace E : r = 2 := E
          subst E
          go_wp2_with fail
          go_ret
          exact ⟨rfl, (Kept.refl _ _).alloc _⟩
      · replace E : r = 2 := by rw [E]; rfl
        subst E
        go_wp2_with fail
        go_ret
        exact ⟨rfl, (Kept.refl _ _).alloc _⟩
    · have h1' : decide (0 ≤ too) = false := decide_eq_false h1
      rw [h1'] at E
      replace E : r = 0 := E
      subst E
      go_wp2_with fail
      go_ret
      exact ⟨rfl, (Kept.refl _ _).alloc _⟩
  · cases on
    · replace E : r = 2 := E
      subst E
      go_wp2_with fail
      go_ret
      exact ⟨rfl, (Kept.refl _ _).alloc _⟩
    · replace E : r = 1 := E
      subst E
      go_wp2_with fail
      go_ret
      exact ⟨rfl, (Kept.refl _ _).alloc _⟩
theorem pn_two {m : Cm} : m.pn = 2 ↔ m.cl.must = true := by
  unfold Cm.pn Cl.must
  cases m.cl.part <;> cases m.cl.open_ <;> simp
theorem pn_zero {m : Cm} : m.pn = 0 ↔ m.cl.part = false := by
  unfold Cm.pn
  cases m.cl.part <;> cases m.cl.open_ <;> simp
theorem pn_one {m : Cm} : m.pn = 1 ↔ m.cl.open_ = true := by
  unfold Cm.pn Cl.open_ Cl.part Cm.cl
  dsimp only
  cases m.put <;> cases m.opn <;> simp <;> split <;> simp
theorem pn_cases (m : Cm) : m.pn = 0 ∨ m.pn = 1 ∨ m.pn = 2 := by
  unfold Cm.pn
  cases m.cl.part <;> cases m.cl.open_ <;> simp
set_option maxRecDepth 100000 in
theorem tSame {w : World} {a c : Option Addr} {n nc m mc : Nat} {l k : List Nat} (ra : Reads w a n nc l) (rb : Reads w c m mc k) : Calls Try.prog 84 #[.slice a n nc, .slice c m mc] w fun o w' => o = .returned (.bool (decide (l = k))) ∧ Kept (fun _ => False) w w' := by
  obtain ⟨v, hv⟩ : ∃ v, v = decide (l = k) := ⟨_, rfl⟩
  rw [← hv]
  have H : Hid (v = decide (l = k) ∧ Reads w a n nc l ∧ Reads w c m mc k) := ⟨hv, ra, rb⟩
  have r1 := ra.room
  have r2 := rb.room
  have s1 := ra.small
  have s2 := rb.small
  unfold maxLen at s1 s2
  clear ra rb hv
  go_enter Try.func84, Try.ntmps84
  by_cases hnm : n = m
  · subst hnm
    have P0 : Hid (∀ j, j < 0 → l[j]? = k[j]?) := fun j hj => absurd hj (Nat.not_lt_zero _)
    go_wp2_with fail
    go_loopw [5, 13] (fun _ u13 wr => ∃ i : Nat, u13 = .int .i64 (i : Int) ∧ i ≤ n ∧ Hid (Kept (fun _ => False) w wr) ∧ Hid (∀ j, j < i → l[j]? = k[j]?)) (fun _ u13 _ => n - (intOf u13).toNat)
    case atStart => exact ⟨0, rfl, Nat.zero_le _, Kept.refl _ _, P0⟩
    case round =>
      obtain ⟨i, rfl, hi, K, P⟩ := hrel
      clear P0
      by_cases hlt : i < n
      · have i1 : (i : Int) < (n : Int) := by omega
        obtain ⟨ba, oa, rfl, ca⟩ := (Reads.kept K.out H.out.2.1 (fun _ _ z => z)).cells (by omega)
        obtain ⟨bb, ob, rfl, cb⟩ := (Reads.kept K.out H.out.2.2 (fun _ _ z => z)).cells (by omega)
        have c1 := ca i hlt
        have c2 := cb i hlt
        obtain ⟨x, hx⟩ : ∃ x, x = l.getD i 0 := ⟨_, rfl⟩
        obtain ⟨y, hy⟩ : ∃ y, y = k.getD i 0 := ⟨_, rfl⟩
        rw [← hx] at c1
        rw [← hy] at c2
        have HR : Hid (l[i]? = some x ∧ k[i]? = some y) := by
          have h1 : i < l.length := by rw [H.out.2.1.length]; exact hlt
          have h2 : i < k.length := by rw [H.out.2.2.length]; exact hlt
          rw [hx, hy, List.getD_eq_getElem?_getD, List.getD_eq_getElem?_getD, List.getElem?_eq_getElem h1, List.getElem?_eq_getElem h2]
          exact ⟨rfl, rfl⟩
        clear ca cb hx hy
        go_upto_region 6 with fail
        by_cases e : x = y
        · subst e
          go_quiet (fail)
          go_wp2_with fail
          go_roundw
          case rel =>
            refine ⟨i + 1, by go_num, by omega, K.out.drewN _, fun j hj => ?_⟩
            rcases Nat.lt_succ_iff_lt_or_eq.1 hj with z | z
            · exact P.out j z
            · rw [z, HR.out.1, HR.out.2]
          case measure => simp [intOf] <;> omega
        · have e1 : ((x : Int) == (y : Int)) = false := by simp; omega
          have hvF : v = false := by
            rw [H.out.1]
            refine decide_eq_false (fun z => e ?_)
            have := HR.out.1
            rw [z, HR.out.2] at this
            exact (Option.some.inj this).symm
          subst hvF
          go_quiet (fail)
          go_wp2_with fail
          go_ret
          exact ⟨rfl, K.out.drewN _⟩
      · have i1 : ¬ (i : Int) < (n : Int) := by omega
        have hvT : v = true := by
          rw [H.out.1]
          refine decide_eq_true (List.ext_getElem? (fun j => ?_))
          by_cases hj : j < i
          · exact P.out j hj
          · rw [List.getElem?_eq_none (by rw [H.out.2.1.length]; omega), List.getElem?_eq_none (by rw [H.out.2.2.length]; omega)]
        subst hvT
        go_wp2_with fail
        go_ret
        exact ⟨rfl, K.out⟩
  · have e1 : ((n : Int) == (m : Int)) = false := by simp; omega
    have hvF : v = false := by
      rw [H.out.1]
      refine decide_eq_false (fun z => hnm ?_)
      rw [← H.out.2.1.length, ← H.out.2.2.length, z]
    subst hvF
    go_wp2_with fail
    go_ret
    exact ⟨rfl, Kept.refl _ _⟩
end Go.Proofs.Ytodmakcklacbfaa
