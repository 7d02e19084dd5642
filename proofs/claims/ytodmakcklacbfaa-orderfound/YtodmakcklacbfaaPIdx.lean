import Derived.Test.YtodmakcklacbfaaPSortJ
namespace Go.Proofs.Ytodmakcklacbfaa
open Go.RowKit Go.Shelf Go.Lib Go.Sort

set_option maxRecDepth 100000 in
/-- Has a call another tag? -/
theorem closure65 {w : World} {p : Option Addr} {n c : Nat} {ms : List Cm} (h : CRd w p n c ms) {CB TB : Nat} {tx ty : Int} (c1 : w.cell? ⟨CB, 0, none⟩ = some (.slice p n c)) (t0 : w.cell? ⟨TB, 0, none⟩ = some (.int .i64 tx)) (t1 : w.cell? ⟨TB, 1, none⟩ = some (.int .i64 ty)) {i : Nat} {m : Cm} (hi : ms[i]? = some m) :
    Calls Try.prog 65 #[.int .i64 (i : Int), .pointer (some ⟨CB, 0, none⟩), .pointer (some ⟨TB, 0, none⟩)] w fun o w' => o = .returned (.bool (!decide (m.tx = tx ∧ m.ty = ty))) ∧ Kept (fun _ => False) w w' := by
  have hin : i < n := by rw [← h.len]; exact (List.getElem?_eq_some_iff.1 hi).1
  have rm := h.room
  have sm := h.small
  unfold maxLen at sm
  obtain ⟨b, off, m2, rfl, hm2, _, _, _, _, _, _, _, _, _, d1, d2, _⟩ := h.at hin
  rw [hi] at hm2
  have hm2 := Option.some.inj hm2
  subst hm2
  have i1 : (i : Int) < (n : Int) := by omega
  have i0 : (0 : Int) ≤ (i : Int) := by omega
  obtain ⟨x1, hx1⟩ : ∃ x, x = m.tx := ⟨_, rfl⟩
  obtain ⟨x2, hx2⟩ : ∃ x, x = m.ty := ⟨_, rfl⟩
  rw [← hx1] at d1 ⊢
  rw [← hx2] at d2 ⊢
  clear h hi hx1 hx2
  by_cases e1 : x1 = tx
  · by_cases e2 : x2 = ty
    · subst e1
      subst e2
      go_enter Try.func65, Try.ntmps65
      go_upto_region 1 with fail
      go_quiet (fail)
      go_wp2_with fail
      go_ret
      exact ⟨by simp, (Kept.refl _ _).drewN _⟩
    · subst e1
      go_enter Try.func65, Try.ntmps65
      go_upto_region 1 with fail
      go_quiet (fail)
      go_wp2_with fail
      go_ret
      exact ⟨by simp, (Kept.refl _ _).drewN _⟩
  · go_enter Try.func65, Try.ntmps65
    go_upto_region 1 with fail
    go_quiet (fail)
    go_wp2_with fail
    go_ret
    exact ⟨by simp, (Kept.refl _ _).drewN _⟩
/-- Where the first one stands. -/
def FirstAt (P : Int → Bool) (R : List Int) (a : Int) : Prop := (a = -1 ∧ ∀ x ∈ R, P x = false) ∨ ∃ (j : Nat) (x : Int), a = (j : Int) ∧ R[j]? = some x ∧ P x = true ∧ ∀ y ∈ R.take j, P y = false
set_option maxRecDepth 100000 in
set_option maxHeartbeats 4000000 in
theorem index65 {w : World} {q : Option Addr} {k kc : Nat} {R : List Int} (ir : IRd w q k kc R) {CB TB : Nat} (P : Int → Bool) (CC : ∀ x ∈ R, ∀ V, Kept (fun _ => False) w V → Calls Try.prog 65 #[.int .i64 x, .pointer (some ⟨CB, 0, none⟩), .pointer (some ⟨TB, 0, none⟩)] V fun o w' => o = .returned (.bool (P x)) ∧ Kept (fun _ => False) V w') :
    Calls Try.prog 64 #[.slice q k kc, .func (.func 65) #[] #[.pointer (some ⟨CB, 0, none⟩), .pointer (some ⟨TB, 0, none⟩)]] w fun o w' => ∃ a : Int, o = .returned (.int .i64 a) ∧ Hid (FirstAt P R a ∧ Kept (fun _ => False) w w') := by
  have rk := ir.room
  have sk := ir.small
  unfold maxLen at sk
  have H : Hid (IRd w q k kc R ∧ ∀ x ∈ R, ∀ V, Kept (fun _ => False) w V → Calls Try.prog 65 #[.int .i64 x, .pointer (some ⟨CB, 0, none⟩), .pointer (some ⟨TB, 0, none⟩)] V fun o w' => o = .returned (.bool (P x)) ∧ Kept (fun _ => False) V w') := ⟨ir, CC⟩
  have S0 : Hid ((∀ y ∈ R.take 0, P y = false) ∧ Kept (fun _ => False) w w) := ⟨fun r hr => by simp at hr, Kept.refl _ _⟩
  clear ir CC
  go_enter Try.func64, Try.ntmps64
  go_wp2_with fail
  go_loopw [5, 8] (fun _ u8 wr => ∃ (j : Nat), u8 = .int .i64 (j : Int) ∧ j ≤ k ∧ Hid ((∀ y ∈ R.take j, P y = false) ∧ Kept (fun _ => False) w wr)) (fun _ u8 _ => k - (intOf u8).toNat)
  case atStart => exact ⟨0, rfl, Nat.zero_le _, S0⟩
  case round =>
    obtain ⟨j, rfl, hj, S⟩ := hrel
    clear S0
    by_cases hlt : j < k
    · have j1 : (j : Int) < (k : Int) := by omega
      obtain ⟨g, off, r, rfl, hr, cr⟩ := (H.out.1.k0 S.out.2).at hlt
      obtain ⟨eq, heq⟩ : ∃ eq, P r = eq := ⟨_, rfl⟩
      have CC : Hid (Calls Try.prog 65 #[.int .i64 r, .pointer (some ⟨CB, 0, none⟩), .pointer (some ⟨TB, 0, none⟩)] wr fun o w' => o = .returned (.bool eq) ∧ Kept (fun _ => False) wr w') := by
        rw [← heq]
        exact H.out.2 r (List.mem_of_getElem? hr) wr S.out.2
      have HE : Hid (P r = eq ∧ R[j]? = some r) := ⟨heq, hr⟩
      clear heq hr
      go_wp2_with fail
      refine CC.out.mono ?_
      rintro o w2 ⟨rfl, K2⟩
      have K3 : Hid (Kept (fun _ => False) w w2) := S.out.2.trans K2 (fun _ _ z => z.elim)
      clear K2 CC cr
      cases eq
      · have N : Hid (∀ y ∈ R.take (j + 1), P y = false) := by
          intro s hs
          rw [List.take_add_one, HE.out.2] at hs
          rcases List.mem_append.1 hs with z | z
          · exact S.out.1 s z
          · have z : s = r := by simpa using z
            rw [z]
            exact HE.out.1
        clear S
        go_wp2_with fail
        go_roundw
        case rel => exact ⟨j + 1, by go_num, by omega, N.out, K3.out⟩
        case measure => simp [intOf] <;> omega
      · have G : Hid (FirstAt P R (j : Int)) := .inr ⟨j, r, rfl, HE.out.2, HE.out.1, S.out.1⟩
        clear S
        go_wp2_with fail
        go_ret
        exact ⟨(j : Int), rfl, G.out, K3.out⟩
    · have j1 : ¬ (j : Int) < (k : Int) := by omega
      have G : Hid (FirstAt P R (-1) ∧ Kept (fun _ => False) w wr) := by
        refine ⟨.inl ⟨rfl, ?_⟩, S.out.2⟩
        have := S.out.1
        rw [List.take_of_length_le (by rw [H.out.1.len]; omega)] at this
        exact this
      clear S
      go_wp2_with fail
      go_ret
      exact ⟨-1, rfl, G⟩
end Go.Proofs.Ytodmakcklacbfaa
