import Derived.Test.YtodmakcklacbfaaPDelFJ
namespace Go.Proofs.Ytodmakcklacbfaa
open Go.RowKit Go.Shelf Go.Lib Go.Sort

set_option maxRecDepth 100000 in
set_option maxHeartbeats 4000000 in
theorem oDelete {w0 w : World} {b0 : Nat} {q : Option Addr} {k c : Nat} {R : List Nat} (r : NRow b0 w q k c R) (K0 : Kept (fun _ => False) w0 w) (hb0 : w0.heap.size ≤ b0) {CB : Nat} (P : Nat → Bool) (CC : ∀ x ∈ R, ∀ V, Kept (fun _ => False) w0 V → Calls Try.prog 67 #[.int .i64 (x : Int), .pointer (some ⟨CB, 0, none⟩)] V fun o w' => o = .returned (.bool (P x)) ∧ Kept (fun _ => False) V w') :
    Calls Try.prog 66 #[.slice q k c, .func (.func 67) #[] #[.pointer (some ⟨CB, 0, none⟩)]] w fun o w' => ∃ k', o = .returned (.slice q k' c) ∧ Hid (NRow b0 w' q k' c (R.filter fun x => !P x) ∧ Kept (fun _ => False) w0 w' ∧ Kept (fun j => blockOf q = some j) w w') := by
  have rm := own_room r.row
  unfold maxLen at rm
  obtain ⟨rm1, rm2⟩ := rm
  have CI : Hid (Calls Try.prog 64 #[.slice q k c, .func (.func 67) #[] #[.pointer (some ⟨CB, 0, none⟩)]] w fun o w' => ∃ a : Int, o = .returned (.int .i64 a) ∧ Hid (FirstAt (fun x => P x.toNat) (R.map fun x : Nat => (x : Int)) a ∧ Kept (fun _ => False) w w')) := by
    refine index67 r.ird (fun x => P x.toNat) (fun x hx V K => ?_)
    obtain ⟨y, hy, rfl⟩ := List.mem_map.1 hx
    rw [Int.toNat_natCast]
    exact CC y hy V (K0.trans K (fun _ _ z => z))
  have H : Hid (NRow b0 w q k c R ∧ Kept (fun _ => False) w0 w ∧ w0.heap.size ≤ b0 ∧ ∀ x ∈ R, ∀ V, Kept (fun _ => False) w0 V → Calls Try.prog 67 #[.int .i64 (x : Int), .pointer (some ⟨CB, 0, none⟩)] V fun o w' => o = .returned (.bool (P x)) ∧ Kept (fun _ => False) V w') := ⟨r, K0, hb0, CC⟩
  clear r K0 hb0 CC
  go_enter Try.func66, Try.ntmps66
  go_wp2_with fail
  refine CI.out.mono ?_
  rintro o w1 ⟨a, rfl, FA⟩
  clear CI
  by_cases ha : a = -1
  · have F : Hid (NRow b0 w1 q k c (R.filter fun x => !P x) ∧ Kept (fun _ => False) w0 w1 ∧ Kept (fun j => blockOf q = some j) w w1) := by
      have e : (R.filter fun x => !P x) = R := by
        rw [List.filter_eq_self]
        intro x hx
        rcases FA.out.1 with ⟨_, z⟩ | ⟨j, _, z, _⟩
        · have := z (x : Int) (List.mem_map.2 ⟨x, hx, rfl⟩)
          simp at this
          simp [this]
        · omega
      rw [e]
      exact ⟨H.out.1.k0 FA.out.2, H.out.2.1.trans FA.out.2 (fun _ _ z => z), (Kept.refl _ w).trans FA.out.2 (fun _ _ z => z.elim)⟩
    subst ha
    go_wp2_with fail
    go_ret
    exact ⟨k, rfl, F⟩
  · obtain ⟨s, hs⟩ : ∃ s : Nat, a = (s : Int) ∧ s < k ∧ ∃ r, R[s]? = some r ∧ P r = true ∧ ∀ y ∈ R.take s, P y = false := by
      rcases FA.out.1 with ⟨z, _⟩ | ⟨j, x, z, hx, hp, hb⟩
      · exact absurd z ha
      · rw [List.getElem?_map] at hx
        obtain ⟨r, hr, rfl⟩ := Option.map_eq_some_iff.1 hx
        have hj := (List.getElem?_eq_some_iff.1 hr).1
        rw [H.out.1.len] at hj
        refine ⟨j, z, hj, r, hr, by simpa using hp, fun y hy => ?_⟩
        have := hb (y : Int) (by rw [← List.map_take]; exact List.mem_map.2 ⟨y, hy, rfl⟩)
        simpa using this
    obtain ⟨rfl, hsk, HS⟩ := hs
    have S0 : Hid (DQ w0 w b0 q k c P R s (s + 1) w1) := by
      obtain ⟨r, hr, hp, hb⟩ := HS
      have D0 : DQ w0 w b0 q k c P R s s w := ⟨⟨R, H.out.1, by rw [List.filter_eq_self.2 (fun x hx => by rw [hb x hx]; rfl)], rfl⟩, H.out.2.1, Kept.refl _ _⟩
      exact D0.skip hr hp FA.out.2
    have sne : ((s : Int) == -1) = false := by simp
    clear FA HS ha
    go_wp2_with fail
    go_loopw [5, 6, 7] (fun u5 u6 _ wr => ∃ (i j : Nat), u5 = .int .i64 (i : Int) ∧ u6 = .int .i64 (j : Int) ∧ i < j ∧ j ≤ k ∧ Hid (DQ w0 w b0 q k c P R i j wr)) (fun _ u6 _ _ => k - (intOf u6).toNat)
    case atStart => exact ⟨s, s + 1, rfl, by go_num, by omega, by omega, S0⟩
    case round =>
      obtain ⟨i, j, rfl, rfl, hij, hjk, S⟩ := hrel
      clear S0
      obtain ⟨wo, hwo⟩ : ∃ wo, wo = wr := ⟨_, rfl⟩
      rw [← hwo] at S ⊢
      clear hwo
      by_cases hlt : j < k
      · have j1 : (j : Int) < (k : Int) := by omega
        obtain ⟨g, r, rfl, hr, cr⟩ := S.out.at hlt
        obtain ⟨eq, heq⟩ : ∃ eq, P r = eq := ⟨_, rfl⟩
        have CC : Hid (Calls Try.prog 67 #[.int .i64 (r : Int), .pointer (some ⟨CB, 0, none⟩)] wo fun o w' => o = .returned (.bool eq) ∧ Kept (fun _ => False) wo w') := by
          rw [← heq]
          exact H.out.2.2.2 r (List.mem_of_getElem? hr) wo S.out.k0
        have HE : Hid (P r = eq ∧ R[j]? = some r) := ⟨heq, hr⟩
        clear heq hr
        go_wp2_with fail
        refine CC.out.mono ?_
        rintro o w2 ⟨rfl, K2⟩
        have K3 : Hid (Kept (fun _ => False) wo w2) := K2
        clear K2 CC cr
        cases eq
        · have D2 : Hid (DQ w0 w b0 (some ⟨g, 0, none⟩) k c P R (i + 1) (j + 1) (w2.setCell ⟨g, i, none⟩ (.int .i64 (r : Int)))) := S.out.keep H.out.2.2.1 hij hlt HE.out.2 HE.out.1 K3.out
          obtain ⟨R', n1, _, _⟩ := S.out.row
          obtain ⟨g', r', e', _, ci⟩ := (n1.k0 K3.out).at (show i < k by omega)
          cases e'
          have fz : w2.frozen? ⟨g, i, none⟩ = false := by
            rcases (n1.k0 K3.out).row.2 with ⟨z, _⟩ | ⟨g2, cap, cur, z, _, h2, _⟩
            · cases z
            · have z : Value.slice (some ⟨g, 0, none⟩) k c = .slice (some ⟨g2, 0, none⟩) k cap := z
              injection z with z1
              have z1 : (⟨g, 0, none⟩ : Addr) = ⟨g2, 0, none⟩ := Option.some.inj z1
              injection z1 with z1
              subst z1
              exact soft_blk h2 i
          have ik : (i : Int) < (k : Int) := by omega
          clear n1
          go_wp2_with fail
          go_roundw
          case rel => exact ⟨i + 1, j + 1, by go_num, by go_num, by omega, by omega, D2⟩
          case measure => simp [intOf] <;> omega
        · have D2 : Hid (DQ w0 w b0 (some ⟨g, 0, none⟩) k c P R i (j + 1) w2) := S.out.skip HE.out.2 HE.out.1 K3.out
          go_wp2_with fail
          go_roundw
          case rel => exact ⟨i, j + 1, rfl, by go_num, by omega, by omega, D2⟩
          case measure => simp [intOf] <;> omega
      · have j1 : ¬ (j : Int) < (k : Int) := by omega
        have ej : j = k := by omega
        subst ej
        obtain ⟨R', n1, t1, _⟩ := S.out.row
        obtain ⟨g, r', rfl, _, _⟩ := n1.at hij
        have hl := n1.len
        have cl := run_clear_slice (P := Try.prog) wo 22 3 0 (.int .i64 0) Try.underlying22 Try.zeroValue3 rfl rfl g i (j - i) (c - i) (by omega) (fun x hx => by
          obtain ⟨g', r2, e', _, ci⟩ := n1.at (show i + x < j by omega)
          cases e'
          rw [ci]
          rfl) (fun x hx => by
          rcases n1.row.2 with ⟨z, _⟩ | ⟨g2, cap, cur, z, _, h2, _⟩
          · cases z
          · have z : Value.slice (some ⟨g, 0, none⟩) j c = .slice (some ⟨g2, 0, none⟩) j cap := z
            injection z with z1
            have z1 : (⟨g, 0, none⟩ : Addr) = ⟨g2, 0, none⟩ := Option.some.inj z1
            injection z1 with z1
            subst z1
            exact soft_blk h2 _)
        obtain ⟨R2, z1, z2, z3, z4⟩ := n1.zeros (w1 := w) H.out.2.2.1 (j - i) i S.out.k0 S.out.k1
        have F : Hid (NRow b0 (wo.setCells g i (List.replicate (j - i) (.int .i64 0))) (some ⟨g, 0, none⟩) i c (R.filter fun x => !P x) ∧ Kept (fun _ => False) w0 (wo.setCells g i (List.replicate (j - i) (.int .i64 0))) ∧ Kept (fun x => blockOf (some (⟨g, 0, none⟩ : Addr)) = some x) w (wo.setCells g i (List.replicate (j - i) (.int .i64 0)))) := by
          refine ⟨?_, z3, z4⟩
          have e := z1.cut (i := i) (by omega)
          rw [z2, t1, List.take_of_length_le (by rw [H.out.1.len]; exact Nat.le_refl _)] at e
          exact e
        generalize wo.setCells g i (List.replicate (j - i) (.int .i64 0)) = wz at cl F
        have ij : (i : Int) ≤ (j : Int) := by omega
        have jc : (j : Int) ≤ (c : Int) := by omega
        have ic : (i : Int) ≤ (c : Int) := by omega
        clear z1 z2 z3 z4 n1 t1 hl
        go_wp2_with fail
        go_ret
        exact ⟨i, rfl, F⟩
end Go.Proofs.Ytodmakcklacbfaa
