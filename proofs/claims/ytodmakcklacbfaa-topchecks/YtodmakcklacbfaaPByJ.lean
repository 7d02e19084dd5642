import Derived.Test.YtodmakcklacbfaaPTagJ
namespace Go.Proofs.Ytodmakcklacbfaa
open Go.RowKit Go.Sort

theorem keptB {w w' : World} (h : Below w.heap.size w w') : Kept (fun _ => False) w w' := (Kept.of_below h).mono (fun j hj z => by have z : w.heap.size ≤ j := z; omega)
/-- A tag that a value may have. -/
theorem oProper (a b : Int) (w : World) : Calls Try.prog 68 #[.agg #[.int .i64 a, .int .i64 b]] w fun x w' => x = .returned (.bool (kIsProper a b)) ∧ Kept (fun _ => False) w w' := by
  obtain ⟨v, hv⟩ : ∃ v, v = (kIsZero a b || kIsProper a b) := ⟨_, rfl⟩
  obtain ⟨z, hz⟩ : ∃ z, z = kIsZero a b := ⟨_, rfl⟩
  have RV : Hid (∀ V, Calls Try.prog 87 #[.agg #[.int .i64 a, .int .i64 b]] V fun o w' => o = .returned (.bool v) ∧ Kept (fun _ => False) V w') := fun V => by rw [hv]; exact (kValid a b V).mono (fun o w' ⟨e, h⟩ => ⟨e, keptB h⟩)
  have RZ : Hid (∀ V, Calls Try.prog 12 #[.agg #[.int .i64 a, .int .i64 b]] V fun o w' => o = .returned (.bool z) ∧ Kept (fun _ => False) V w') := fun V => by rw [hz]; exact (kZero a b V).mono (fun o w' ⟨e, h⟩ => ⟨e, keptB h⟩)
  have HV : Hid (kIsProper a b = (v && !z)) := by
    show kIsProper a b = (v && !z)
    rw [hv, hz]
    unfold kIsProper kIsZero
    rw [Bool.eq_iff_iff]
    simp
    omega
  obtain ⟨r, hr⟩ : ∃ r, r = kIsProper a b := ⟨_, rfl⟩
  rw [← hr] at HV ⊢
  clear hv hz hr
  go_enter Try.func68, Try.ntmps68
  go_wp2_with fail
  refine (RV.out _).mono ?_
  rintro o w1 ⟨rfl, K1⟩
  have b1 : w1.heap[w.heap.size]? = some (.cells #[.int .i64 a, .int .i64 b] 35 (0, 0)) := K1.get (alloc_new _ _) (fun z => z)
  have K2 : Hid (Kept (fun _ => False) w w1) := ((Kept.refl _ _).alloc _).trans K1 (fun _ _ z => z)
  have d0 := cell_blk b1 0 (v := .int .i64 a) rfl
  have d1 := cell_blk b1 1 (v := .int .i64 b) rfl
  clear b1 K1 RV
  cases v
  · go_wp2_with fail
    go_ret
    exact ⟨by rw [HV.out]; first | rfl | simp, K2.out⟩
  · go_wp2_with fail
    refine (RZ.out _).mono ?_
    rintro o w2 ⟨rfl, K3⟩
    have K4 : Hid (Kept (fun _ => False) w w2) := K2.out.trans K3 (fun _ _ z => z)
    clear K3
    go_wp2_with fail
    go_ret
    exact ⟨by rw [HV.out]; first | rfl | simp, K4.out⟩
/-- Does a call tell a tag by itself? -/
def Cm.tells (m : Cm) : Bool := if m.opn = true then !kIsZero m.tx m.ty else (m.put || (!m.put && decide (0 ≤ m.to) && decide (m.st = 0)))
set_option maxRecDepth 100000 in
set_option maxHeartbeats 4000000 in
theorem oTells (m : Cm) (w : World) : Calls Try.prog 36 #[m.agg] w fun o w' => o = .returned (.bool m.tells) ∧ Kept (fun _ => False) w w' := by
  obtain ⟨v, hv⟩ : ∃ v, v = m.tells := ⟨_, rfl⟩
  rw [← hv]
  obtain ⟨pu, hpu⟩ : ∃ pu, m.put = pu := ⟨_, rfl⟩
  obtain ⟨op, hop⟩ : ∃ op, m.opn = op := ⟨_, rfl⟩
  obtain ⟨rb, hrb⟩ : ∃ rb, rb = (!m.put && decide (0 ≤ m.to) && decide (m.st = 0)) := ⟨_, rfl⟩
  obtain ⟨z, hz⟩ : ∃ z, z = kIsZero m.tx m.ty := ⟨_, rfl⟩
  have RR : Hid (∀ V, Calls Try.prog 63 #[m.agg] V fun o w' => o = .returned (.bool rb) ∧ Kept (fun _ => False) V w') := fun V => by rw [hrb]; exact oRead m V
  have RZ : Hid (∀ V, Calls Try.prog 12 #[.agg #[.int .i64 m.tx, .int .i64 m.ty]] V fun o w' => o = .returned (.bool z) ∧ Kept (fun _ => False) V w') := fun V => by rw [hz]; exact (kZero _ _ V).mono (fun o w' ⟨e, h⟩ => ⟨e, keptB h⟩)
  have HV : Hid (v = if op = true then !z else (pu || rb)) := by
    show v = _
    rw [hv, hrb, hz]
    unfold Cm.tells
    rw [hop, hpu]
  have HP : Hid (m.put = pu ∧ m.opn = op) := ⟨hpu, hop⟩
  clear hv hpu hrb hop hz
  unfold Cm.agg at RR ⊢
  rw [HP.out.1, HP.out.2] at RR ⊢
  go_enter Try.func36, Try.ntmps36
  cases op
  · cases pu
    · go_wp2_with fail
      refine (RR.out _).mono ?_
      rintro o w1 ⟨rfl, K1⟩
      have K2 : Hid (Kept (fun _ => False) w w1) := ((Kept.refl _ _).alloc _).trans K1 (fun _ _ z => z)
      clear K1 RR
      go_wp2_with fail
      go_ret
      exact ⟨by rw [HV.out]; first | rfl | simp, K2.out⟩
    · go_wp2_with fail
      go_ret
      exact ⟨by rw [HV.out]; first | rfl | simp, (Kept.refl _ _).alloc _⟩
  · go_wp2_with fail
    refine (RZ.out _).mono ?_
    rintro o w1 ⟨rfl, K1⟩
    have K2 : Hid (Kept (fun _ => False) w w1) := ((Kept.refl _ _).alloc _).trans K1 (fun _ _ z => z)
    clear K1 RR
    go_wp2_with fail
    go_ret
    exact ⟨by rw [HV.out]; first | rfl | simp, K2.out⟩
end Go.Proofs.Ytodmakcklacbfaa

namespace Go.Proofs.Ytodmakcklacbfaa
open Go.RowKit Go.Sort

/-- Only drawn, and more blocks. -/
def Grown (w w' : World) : Prop := ∃ q os, w' = grow (w.drewN q) os
theorem kept_grow {w : World} (os : Array Obj) : Kept (fun _ => False) w (grow w os) := by
  refine ⟨rfl, rfl, rfl, ?_, fun k hk _ => ?_⟩
  · unfold grow; simp
  · unfold grow
    show (w.heap ++ os)[k]? = w.heap[k]?
    rw [Array.getElem?_append_left hk]
theorem Grown.kept {w w' : World} (h : Grown w w') : Kept (fun _ => False) w w' := by
  obtain ⟨q, os, rfl⟩ := h
  exact ((Kept.refl _ _).drewN q).trans (kept_grow os) (fun _ _ z => z)
/-- By their beginnings. -/
def byFromI (i j : Nat) (a b : Int) : Int := kOrI (kIcmp a b) (kIcmp (i : Int) (j : Int))
set_option maxRecDepth 100000 in
theorem oByFrom {w : World} {p : Option Addr} {n c : Nat} {ms : List Cm} (h : CRd w p n c ms) {CB : Nat} (c1 : w.cell? ⟨CB, 0, none⟩ = some (.slice p n c)) {i j : Nat} {mi mj : Cm} (hi : ms[i]? = some mi) (hj : ms[j]? = some mj) :
    Calls Try.prog 29 #[.int .i64 (i : Int), .int .i64 (j : Int), .pointer (some ⟨CB, 0, none⟩)] w fun x w' => x = .returned (.int .i64 (byFromI i j mi.frm mj.frm)) ∧ Grown w w' := by
  unfold byFromI
  have hin : i < n := by rw [← h.len]; exact (List.getElem?_eq_some_iff.1 hi).1
  have hjn : j < n := by rw [← h.len]; exact (List.getElem?_eq_some_iff.1 hj).1
  have rm := h.room
  have sm := h.small
  unfold maxLen at sm
  obtain ⟨b, off, m2, rfl, hm2, _, _, _, _, _, _, d1, _⟩ := h.at hin
  obtain ⟨b', off', m3, e3, hm3, _, _, _, _, _, _, d2, _⟩ := h.at hjn
  cases e3
  rw [hi] at hm2
  have hm2 := Option.some.inj hm2
  subst hm2
  rw [hj] at hm3
  have hm3 := Option.some.inj hm3
  subst hm3
  have i1 : (i : Int) < (n : Int) := by omega
  have i0 : (0 : Int) ≤ (i : Int) := by omega
  have j1 : (j : Int) < (n : Int) := by omega
  have j0 : (0 : Int) ≤ (j : Int) := by omega
  obtain ⟨x, hx⟩ : ∃ x, x = mi.frm := ⟨_, rfl⟩
  obtain ⟨y, hy⟩ : ∃ y, y = mj.frm := ⟨_, rfl⟩
  rw [← hx] at d1 ⊢
  rw [← hy] at d2 ⊢
  clear h hi hj hx hy
  go_enter Try.func29, Try.ntmps29
  go_wp2_with fail
  go_region_held3 (fun w' => w'.cell? ⟨CB, 0, none⟩ = some (.slice (some ⟨b, off, none⟩) n c) ∧ w'.cell? ⟨b, off + i * 11 + 6, none⟩ = some (.int .i64 x) ∧ w'.cell? ⟨b, off + j * 11 + 6, none⟩ = some (.int .i64 y))
    (go_keep) (first | (go_at_call 31; refine (kCmpInt _ _ _).mono ?_; rintro x w2 ⟨rfl, rfl⟩) | (go_at_call 30; refine (kOr2 (kIcmp x y) (kIcmp (i : Int) (j : Int)) _ _ _ (by simp) (by simp)).mono ?_; rintro x w2 ⟨rfl, rfl⟩) | fail)
  go_wp2_with fail
  go_ret
  refine ⟨rfl, 1, #[Obj.cells #[.int .i64 (kIcmp x y), .int .i64 (kIcmp (i : Int) (j : Int))] 3], ?_⟩
  rw [alloc_eq_grow]
  rfl
end Go.Proofs.Ytodmakcklacbfaa
