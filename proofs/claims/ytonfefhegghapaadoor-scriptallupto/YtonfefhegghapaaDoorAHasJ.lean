import Derived.Test.YtonfefhegghapaaDoorUOw
namespace Go.Proofs.YtonfefhegghapaaDoor
open Go.RowKit 

theorem and_back : ∀ f u : Fin 32, (f.val % 2 = 1 → u.val % 2 = 1) ∧ (f.val / 2 % 2 = 1 → u.val / 2 % 2 = 1) ∧ (f.val / 4 % 2 = 1 → u.val / 4 % 2 = 1) ∧ (f.val / 8 % 2 = 1 → u.val / 8 % 2 = 1) ∧ (f.val / 16 % 2 = 1 → u.val / 16 % 2 = 1) → bits .andNot .u8 (f.val : Int) (u.val : Int) = 0 := by decide +kernel
theorem five_back {x1 x2 x3 x4 x5 : Nat} (q1 : x1 = 0 ∨ x1 = 1) (q2 : x2 = 0 ∨ x2 = 2) (q3 : x3 = 0 ∨ x3 = 4) (q4 : x4 = 0 ∨ x4 = 8) (q5 : x5 = 0 ∨ x5 = 16) : ((x1 + x2 + x3 + x4 + x5) % 2 = 1 → x1 = 1) ∧ ((x1 + x2 + x3 + x4 + x5) / 2 % 2 = 1 → x2 = 2) ∧ ((x1 + x2 + x3 + x4 + x5) / 4 % 2 = 1 → x3 = 4) ∧ ((x1 + x2 + x3 + x4 + x5) / 8 % 2 = 1 → x4 = 8) ∧ ((x1 + x2 + x3 + x4 + x5) / 16 % 2 = 1 → x5 = 16) := by
  rcases q1 with rfl | rfl <;> rcases q2 with rfl | rfl <;> rcases q3 with rfl | rfl <;> rcases q4 with rfl | rfl <;> rcases q5 with rfl | rfl <;> decide
theorem b2_is {p : Prop} [Decidable p] {n : Nat} (h0 : n ≠ 0) (h : b2 p n = n) : p := by
  unfold b2 at h
  split at h
  · assumption
  · exact absurd h.symm h0
/-- When a step may be. -/
structure Fit (s : St) : Prop where
  lo : 1 ≤ s.kind
  hi : s.kind ≤ 16
  a : ¬ useN s.kind.toNat % 2 = 1 → s.a = 0
  b : ¬ useN s.kind.toNat / 2 % 2 = 1 → s.b = 0
  key : ¬ useN s.kind.toNat / 4 % 2 = 1 → s.key = []
  val : ¬ useN s.kind.toNat / 8 % 2 = 1 → s.val = []
  l : ¬ useN s.kind.toNat / 16 % 2 = 1 → s.l = []
  pat : s.kind = 9 → isPat s.l = true
theorem chk_fit {s : St} : chkS s = 0 ↔ Fit s := by
  constructor
  · intro h
    obtain ⟨k1, k2, z1, z2, z3, z4, z5⟩ := chk_zero h
    refine ⟨k1, k2, z1, z2, z3, z4, z5, fun hk => ?_⟩
    unfold chkS chkN at h
    rw [if_neg (by omega)] at h
    by_cases hu : bits .andNot .u8 (filS s : Int) (useN s.kind.toNat : Int) ≠ 0
    · rw [if_pos hu] at h
      omega
    · rw [if_neg hu] at h
      by_cases hp : isPat s.l = true
      · exact hp
      · rw [if_pos ⟨hk, by simpa using hp⟩] at h
        omega
  · intro h
    have h1 := h.lo
    have h2 := h.hi
    have q1 := b2_two (s.a ≠ 0) 1
    have q2 := b2_two (s.b ≠ 0) 2
    have q3 := b2_two (0 < s.key.length) 4
    have q4 := b2_two (0 < s.val.length) 8
    have q5 := b2_two (0 < s.l.length) 16
    obtain ⟨hf, _⟩ := five q1 q2 q3 q4 q5
    obtain ⟨g1, g2, g3, g4, g5⟩ := five_back q1 q2 q3 q4 q5
    have k := and_back ⟨filS s, hf⟩ ⟨useN s.kind.toNat, useN_lt _⟩ ⟨fun z => Classical.byContradiction fun y => b2_is (by decide) (g1 z) (h.a y), fun z => Classical.byContradiction fun y => b2_is (by decide) (g2 z) (h.b y), fun z => Classical.byContradiction fun y => by
        have := b2_is (by decide) (g3 z)
        rw [h.key y] at this
        exact absurd this (by decide), fun z => Classical.byContradiction fun y => by
        have := b2_is (by decide) (g4 z)
        rw [h.val y] at this
        exact absurd this (by decide), fun z => Classical.byContradiction fun y => by
        have := b2_is (by decide) (g5 z)
        rw [h.l y] at this
        exact absurd this (by decide)⟩
    unfold chkS chkN
    rw [if_neg (fun z => by omega), if_neg (fun z => z k), if_neg]
    intro z
    have := h.pat z.1
    rw [z.2] at this
    cases this
theorem pat_len {l : List Int} (h : l.length ≠ 1) : isPat l = false := by
  match l with
  | [] => rfl
  | [_] => exact absurd rfl h
  | _ :: _ :: _ => rfl
set_option maxRecDepth 100000 in
set_option maxHeartbeats 8000000 in
/-- stepFits. -/
theorem hFits {w : World} {x : Sm} {s : St} (R : SRd w x s) (hk : KI s.kind) : Calls Tryd.prog 26 #[.agg x.cs] w fun o w' => o = .returned (.bool (decide (chkS s = 0))) ∧ Kept (fun _ => False) w w' := by
  obtain ⟨kind, a, b, key, va, vn, vc, la, ln, lc⟩ := x
  obtain ⟨skind, sa, sb, skey, sval, sl⟩ := s
  obtain rfl : kind = skind := R.kind
  obtain rfl : a = sa := R.a
  obtain rfl : b = sb := R.b
  obtain rfl : key = ofL skey := R.key
  have k1 : -9223372036854775808 ≤ kind := hk.1
  have k2 : kind ≤ 9223372036854775807 := hk.2
  have a1 : -9223372036854775808 ≤ a := R.ka.1
  have a2 : a ≤ 9223372036854775807 := R.ka.2
  have b1 : -9223372036854775808 ≤ b := R.kb.1
  have b2 : b ≤ 9223372036854775807 := R.kb.2
  have hv : sval.length = vn := R.v.len
  have hl : sl.length = ln := R.l.len
  have hsm : skey.length + sval.length + sl.length ≤ 134217728 := R.sm
  have vz : vn ≤ 134217728 := by omega
  have lz : ln ≤ 134217728 := by omega
  obtain ⟨key, hkey⟩ : ∃ key, ofL skey = key := ⟨_, rfl⟩
  have HX : Hid (IRd w la ln lc sl) := R.l
  obtain ⟨r, hr⟩ : ∃ r, decide (chkS ⟨kind, a, b, skey, sval, sl⟩ = 0) = r := ⟨_, rfl⟩
  have YES : Fit ⟨kind, a, b, skey, sval, sl⟩ → r = true := fun z => by rw [← hr]; exact decide_eq_true (chk_fit.2 z)
  have NO : ¬ Fit ⟨kind, a, b, skey, sval, sl⟩ → r = false := fun z => by rw [← hr]; exact decide_eq_false (fun y => z (chk_fit.1 y))
  have KE : skey = [] → key.toList.isEmpty = true := fun z => emp_yes (by rw [← hkey, z]; rfl)
  have KN : ¬ skey = [] → key.toList.isEmpty = false := fun z => emp_no (fun y => z (by
    have := congrArg (fun b : ByteArray => b.data.toList) (hkey.trans y.symm)
    exact this))
  have VE : sval = [] ↔ vn = 0 := by rw [← hv]; exact List.length_eq_zero_iff.symm
  have LE : sl = [] ↔ ln = 0 := by rw [← hl]; exact List.length_eq_zero_iff.symm
  have HH : Hid ((Fit ⟨kind, a, b, skey, sval, sl⟩ → r = true) ∧ (¬ Fit ⟨kind, a, b, skey, sval, sl⟩ → r = false) ∧ (skey = [] → key.toList.isEmpty = true) ∧ (¬ skey = [] → key.toList.isEmpty = false) ∧ (sval = [] ↔ vn = 0) ∧ (sl = [] ↔ ln = 0) ∧ sl.length = ln) := ⟨YES, NO, KE, KN, VE, LE, hl⟩
  show Calls Tryd.prog 26 #[.agg #[.int .i64 kind, .int .i64 a, .int .i64 b, .string (ofL skey), .slice va vn vc, .slice la ln lc]] w fun o w' => o = .returned (.bool (decide (chkS ⟨kind, a, b, skey, sval, sl⟩ = 0))) ∧ Kept (fun _ => False) w w'
  rw [hr, hkey]
  clear YES NO KE KN VE LE hl hv hsm hkey hr R hk
  by_cases c1 : kind < 1
  · have e : r = false := HH.out.2.1 (fun z => by have := z.lo; dsimp only at this; omega)
    clear HH
    subst e
    go_enter Tryd.func26, Tryd.ntmps26
    go_wp2_with fail
    go_ret
    exact ⟨by first | rfl | (simp; done) | (simp; omega), (Kept.refl _ _).alloc _⟩
  by_cases c2 : 16 < kind
  · have e : r = false := HH.out.2.1 (fun z => by have := z.hi; dsimp only at this; omega)
    clear HH
    subst e
    go_enter Tryd.func26, Tryd.ntmps26
    go_wp2_with fail
    go_ret
    exact ⟨by first | rfl | (simp; done) | (simp; omega), (Kept.refl _ _).alloc _⟩
  by_cases d1 : kind = 1
  · subst d1
    by_cases tb : b = 0
    rotate_left
    · have e : r = false := HH.out.2.1 (fun z => tb (z.b (show ¬ useN 1 / 2 % 2 = 1 by decide)))
      clear HH
      subst e
      go_enter Tryd.func26, Tryd.ntmps26
      go_wp2_with fail
      go_ret
      exact ⟨by first | rfl | (simp; done) | (simp; omega), (Kept.refl _ _).alloc _⟩
    by_cases tl : ln = 0
    rotate_left
    · have e : r = false := HH.out.2.1 (fun z => tl (HH.out.2.2.2.2.2.1.1 (z.l (show ¬ useN 1 / 16 % 2 = 1 by decide))))
      have ti : ¬ (ln : Int) = 0 := by omega
      clear HH
      subst e
      go_enter Tryd.func26, Tryd.ntmps26
      go_wp2_with fail
      go_ret
      exact ⟨by first | rfl | (simp; done) | (simp; omega), (Kept.refl _ _).alloc _⟩
    have tli : (ln : Int) = 0 := by omega
    have e : r = true := HH.out.1 ⟨show (1 : Int) ≤ 1 by decide, show (1 : Int) ≤ 16 by decide, fun z => absurd (show useN 1 % 2 = 1 from rfl) z, fun _ => tb, fun z => absurd (show useN 1 / 4 % 2 = 1 from rfl) z, fun z => absurd (show useN 1 / 8 % 2 = 1 from rfl) z, fun _ => HH.out.2.2.2.2.2.1.2 tl, fun z => absurd z (show ¬ (1 : Int) = 9 by decide)⟩
    clear HH
    subst e
    go_enter Tryd.func26, Tryd.ntmps26
    go_wp2_with fail
    go_ret
    exact ⟨by first | rfl | (simp; done) | (simp; omega), (Kept.refl _ _).alloc _⟩
  by_cases d2 : kind = 2
  · subst d2
    by_cases tb : b = 0
    rotate_left
    · have e : r = false := HH.out.2.1 (fun z => tb (z.b (show ¬ useN 2 / 2 % 2 = 1 by decide)))
      clear HH
      subst e
      go_enter Tryd.func26, Tryd.ntmps26
      go_wp2_with fail
      go_ret
      exact ⟨by first | rfl | (simp; done) | (simp; omega), (Kept.refl _ _).alloc _⟩
    by_cases tval : vn = 0
    rotate_left
    · have e : r = false := HH.out.2.1 (fun z => tval (HH.out.2.2.2.2.1.1 (z.val (show ¬ useN 2 / 8 % 2 = 1 by decide))))
      have ti : ¬ (vn : Int) = 0 := by omega
      clear HH
      subst e
      go_enter Tryd.func26, Tryd.ntmps26
      go_wp2_with fail
      go_ret
      exact ⟨by first | rfl | (simp; done) | (simp; omega), (Kept.refl _ _).alloc _⟩
    have tvi : (vn : Int) = 0 := by omega
    by_cases tl : ln = 0
    rotate_left
    · have e : r = false := HH.out.2.1 (fun z => tl (HH.out.2.2.2.2.2.1.1 (z.l (show ¬ useN 2 / 16 % 2 = 1 by decide))))
      have ti : ¬ (ln : Int) = 0 := by omega
      clear HH
      subst e
      go_enter Tryd.func26, Tryd.ntmps26
      go_wp2_with fail
      go_ret
      exact ⟨by first | rfl | (simp; done) | (simp; omega), (Kept.refl _ _).alloc _⟩
    have tli : (ln : Int) = 0 := by omega
    have e : r = true := HH.out.1 ⟨show (1 : Int) ≤ 2 by decide, show (2 : Int) ≤ 16 by decide, fun z => absurd (show useN 2 % 2 = 1 from rfl) z, fun _ => tb, fun z => absurd (show useN 2 / 4 % 2 = 1 from rfl) z, fun _ => HH.out.2.2.2.2.1.2 tval, fun _ => HH.out.2.2.2.2.2.1.2 tl, fun z => absurd z (show ¬ (2 : Int) = 9 by decide)⟩
    clear HH
    subst e
    go_enter Tryd.func26, Tryd.ntmps26
    go_wp2_with fail
    go_ret
    exact ⟨by first | rfl | (simp; done) | (simp; omega), (Kept.refl _ _).alloc _⟩
  by_cases d10 : kind = 10
  · subst d10
    by_cases tkey : skey = []
    rotate_left
    · have e : r = false := HH.out.2.1 (fun z => tkey (z.key (show ¬ useN 10 / 4 % 2 = 1 by decide)))
      have ek := HH.out.2.2.2.1 tkey
      clear HH
      subst e
      go_enter Tryd.func26, Tryd.ntmps26
      go_wp2_with fail
      go_ret
      exact ⟨by first | rfl | (simp; done) | (simp; omega), (Kept.refl _ _).alloc _⟩
    have ek := HH.out.2.2.1 tkey
    by_cases tval : vn = 0
    rotate_left
    · have e : r = false := HH.out.2.1 (fun z => tval (HH.out.2.2.2.2.1.1 (z.val (show ¬ useN 10 / 8 % 2 = 1 by decide))))
      have ti : ¬ (vn : Int) = 0 := by omega
      clear HH
      subst e
      go_enter Tryd.func26, Tryd.ntmps26
      go_wp2_with fail
      go_ret
      exact ⟨by first | rfl | (simp; done) | (simp; omega), (Kept.refl _ _).alloc _⟩
    have tvi : (vn : Int) = 0 := by omega
    by_cases tl : ln = 0
    rotate_left
    · have e : r = false := HH.out.2.1 (fun z => tl (HH.out.2.2.2.2.2.1.1 (z.l (show ¬ useN 10 / 16 % 2 = 1 by decide))))
      have ti : ¬ (ln : Int) = 0 := by omega
      clear HH
      subst e
      go_enter Tryd.func26, Tryd.ntmps26
      go_wp2_with fail
      go_ret
      exact ⟨by first | rfl | (simp; done) | (simp; omega), (Kept.refl _ _).alloc _⟩
    have tli : (ln : Int) = 0 := by omega
    have e : r = true := HH.out.1 ⟨show (1 : Int) ≤ 10 by decide, show (10 : Int) ≤ 16 by decide, fun z => absurd (show useN 10 % 2 = 1 from rfl) z, fun z => absurd (show useN 10 / 2 % 2 = 1 from rfl) z, fun _ => tkey, fun _ => HH.out.2.2.2.2.1.2 tval, fun _ => HH.out.2.2.2.2.2.1.2 tl, fun z => absurd z (show ¬ (10 : Int) = 9 by decide)⟩
    clear HH
    subst e
    go_enter Tryd.func26, Tryd.ntmps26
    go_wp2_with fail
    go_ret
    exact ⟨by first | rfl | (simp; done) | (simp; omega), (Kept.refl _ _).alloc _⟩
  by_cases d12 : kind = 12
  · subst d12
    by_cases tb : b = 0
    rotate_left
    · have e : r = false := HH.out.2.1 (fun z => tb (z.b (show ¬ useN 12 / 2 % 2 = 1 by decide)))
      clear HH
      subst e
      go_enter Tryd.func26, Tryd.ntmps26
      go_wp2_with fail
      go_ret
      exact ⟨by first | rfl | (simp; done) | (simp; omega), (Kept.refl _ _).alloc _⟩
    by_cases tkey : skey = []
    rotate_left
    · have e : r = false := HH.out.2.1 (fun z => tkey (z.key (show ¬ useN 12 / 4 % 2 = 1 by decide)))
      have ek := HH.out.2.2.2.1 tkey
      clear HH
      subst e
      go_enter Tryd.func26, Tryd.ntmps26
      go_wp2_with fail
      go_ret
      exact ⟨by first | rfl | (simp; done) | (simp; omega), (Kept.refl _ _).alloc _⟩
    have ek := HH.out.2.2.1 tkey
    by_cases tval : vn = 0
    rotate_left
    · have e : r = false := HH.out.2.1 (fun z => tval (HH.out.2.2.2.2.1.1 (z.val (show ¬ useN 12 / 8 % 2 = 1 by decide))))
      have ti : ¬ (vn : Int) = 0 := by omega
      clear HH
      subst e
      go_enter Tryd.func26, Tryd.ntmps26
      go_wp2_with fail
      go_ret
      exact ⟨by first | rfl | (simp; done) | (simp; omega), (Kept.refl _ _).alloc _⟩
    have tvi : (vn : Int) = 0 := by omega
    have e : r = true := HH.out.1 ⟨show (1 : Int) ≤ 12 by decide, show (12 : Int) ≤ 16 by decide, fun z => absurd (show useN 12 % 2 = 1 from rfl) z, fun _ => tb, fun _ => tkey, fun _ => HH.out.2.2.2.2.1.2 tval, fun z => absurd (show useN 12 / 16 % 2 = 1 from rfl) z, fun z => absurd z (show ¬ (12 : Int) = 9 by decide)⟩
    clear HH
    subst e
    go_enter Tryd.func26, Tryd.ntmps26
    go_wp2_with fail
    go_ret
    exact ⟨by first | rfl | (simp; done) | (simp; omega), (Kept.refl _ _).alloc _⟩
  by_cases d14 : kind = 14
  · subst d14
    by_cases tkey : skey = []
    rotate_left
    · have e : r = false := HH.out.2.1 (fun z => tkey (z.key (show ¬ useN 14 / 4 % 2 = 1 by decide)))
      have ek := HH.out.2.2.2.1 tkey
      clear HH
      subst e
      go_enter Tryd.func26, Tryd.ntmps26
      go_wp2_with fail
      go_ret
      exact ⟨by first | rfl | (simp; done) | (simp; omega), (Kept.refl _ _).alloc _⟩
    have ek := HH.out.2.2.1 tkey
    by_cases tval : vn = 0
    rotate_left
    · have e : r = false := HH.out.2.1 (fun z => tval (HH.out.2.2.2.2.1.1 (z.val (show ¬ useN 14 / 8 % 2 = 1 by decide))))
      have ti : ¬ (vn : Int) = 0 := by omega
      clear HH
      subst e
      go_enter Tryd.func26, Tryd.ntmps26
      go_wp2_with fail
      go_ret
      exact ⟨by first | rfl | (simp; done) | (simp; omega), (Kept.refl _ _).alloc _⟩
    have tvi : (vn : Int) = 0 := by omega
    have e : r = true := HH.out.1 ⟨show (1 : Int) ≤ 14 by decide, show (14 : Int) ≤ 16 by decide, fun z => absurd (show useN 14 % 2 = 1 from rfl) z, fun z => absurd (show useN 14 / 2 % 2 = 1 from rfl) z, fun _ => tkey, fun _ => HH.out.2.2.2.2.1.2 tval, fun z => absurd (show useN 14 / 16 % 2 = 1 from rfl) z, fun z => absurd z (show ¬ (14 : Int) = 9 by decide)⟩
    clear HH
    subst e
    go_enter Tryd.func26, Tryd.ntmps26
    go_wp2_with fail
    go_ret
    exact ⟨by first | rfl | (simp; done) | (simp; omega), (Kept.refl _ _).alloc _⟩
  by_cases d16 : kind = 16
  · subst d16
    by_cases ta : a = 0
    rotate_left
    · have e : r = false := HH.out.2.1 (fun z => ta (z.a (show ¬ useN 16 % 2 = 1 by decide)))
      clear HH
      subst e
      go_enter Tryd.func26, Tryd.ntmps26
      go_wp2_with fail
      go_ret
      exact ⟨by first | rfl | (simp; done) | (simp; omega), (Kept.refl _ _).alloc _⟩
    by_cases tkey : skey = []
    rotate_left
    · have e : r = false := HH.out.2.1 (fun z => tkey (z.key (show ¬ useN 16 / 4 % 2 = 1 by decide)))
      have ek := HH.out.2.2.2.1 tkey
      clear HH
      subst e
      go_enter Tryd.func26, Tryd.ntmps26
      go_wp2_with fail
      go_ret
      exact ⟨by first | rfl | (simp; done) | (simp; omega), (Kept.refl _ _).alloc _⟩
    have ek := HH.out.2.2.1 tkey
    by_cases tval : vn = 0
    rotate_left
    · have e : r = false := HH.out.2.1 (fun z => tval (HH.out.2.2.2.2.1.1 (z.val (show ¬ useN 16 / 8 % 2 = 1 by decide))))
      have ti : ¬ (vn : Int) = 0 := by omega
      clear HH
      subst e
      go_enter Tryd.func26, Tryd.ntmps26
      go_wp2_with fail
      go_ret
      exact ⟨by first | rfl | (simp; done) | (simp; omega), (Kept.refl _ _).alloc _⟩
    have tvi : (vn : Int) = 0 := by omega
    have e : r = true := HH.out.1 ⟨show (1 : Int) ≤ 16 by decide, show (16 : Int) ≤ 16 by decide, fun _ => ta, fun z => absurd (show useN 16 / 2 % 2 = 1 from rfl) z, fun _ => tkey, fun _ => HH.out.2.2.2.2.1.2 tval, fun z => absurd (show useN 16 / 16 % 2 = 1 from rfl) z, fun z => absurd z (show ¬ (16 : Int) = 9 by decide)⟩
    clear HH
    subst e
    go_enter Tryd.func26, Tryd.ntmps26
    go_wp2_with fail
    go_ret
    exact ⟨by first | rfl | (simp; done) | (simp; omega), (Kept.refl _ _).alloc _⟩
  by_cases d9 : kind = 9
  · subst d9
    by_cases tn : ln = 1
    · subst tn
      obtain ⟨lb, off, rfl, hc⟩ := HX.out.cells (by decide)
      obtain ⟨z, hz⟩ := List.length_eq_one_iff.1 HH.out.2.2.2.2.2.2
      subst hz
      have c0 := ((Kept.refl (fun _ => False) w).alloc (.cells #[.int .i64 9, .int .i64 a, .int .i64 b, .string key, .slice va vn vc, .slice (some ⟨lb, off, none⟩) 1 lc] 38)).cell (hc 0 z rfl) (fun q => q)
      rw [Nat.add_zero] at c0
      clear hc HX
      by_cases z1 : z < 0
      · have e : r = false := HH.out.2.1 (fun y => by
          have := y.pat rfl
          have q : isPat [z] = (decide (0 ≤ z) && decide (z ≤ 4294967295)) := rfl
          rw [q] at this
          simp at this
          omega)
        clear HH
        subst e
        go_enter Tryd.func26, Tryd.ntmps26
        go_wp2_with fail
        go_ret
        exact ⟨by first | rfl | (simp; done) | (simp; omega), (Kept.refl _ _).alloc _⟩
      by_cases z2 : 4294967295 < z
      · have e : r = false := HH.out.2.1 (fun y => by
          have := y.pat rfl
          have q : isPat [z] = (decide (0 ≤ z) && decide (z ≤ 4294967295)) := rfl
          rw [q] at this
          simp at this
          omega)
        clear HH
        subst e
        go_enter Tryd.func26, Tryd.ntmps26
        go_wp2_with fail
        go_ret
        exact ⟨by first | rfl | (simp; done) | (simp; omega), (Kept.refl _ _).alloc _⟩
      by_cases tkey : skey = []
      rotate_left
      · have e : r = false := HH.out.2.1 (fun z => tkey (z.key (show ¬ useN 9 / 4 % 2 = 1 by decide)))
        have ek := HH.out.2.2.2.1 tkey
        clear HH
        subst e
        go_enter Tryd.func26, Tryd.ntmps26
        go_wp2_with fail
        go_ret
        exact ⟨by first | rfl | (simp; done) | (simp; omega), (Kept.refl _ _).alloc _⟩
      have ek := HH.out.2.2.1 tkey
      by_cases tval : vn = 0
      rotate_left
      · have e : r = false := HH.out.2.1 (fun z => tval (HH.out.2.2.2.2.1.1 (z.val (show ¬ useN 9 / 8 % 2 = 1 by decide))))
        have ti : ¬ (vn : Int) = 0 := by omega
        clear HH
        subst e
        go_enter Tryd.func26, Tryd.ntmps26
        go_wp2_with fail
        go_ret
        exact ⟨by first | rfl | (simp; done) | (simp; omega), (Kept.refl _ _).alloc _⟩
      have tvi : (vn : Int) = 0 := by omega
      have e : r = true := HH.out.1 ⟨show (1 : Int) ≤ 9 by decide, show (9 : Int) ≤ 16 by decide, fun z => absurd (show useN 9 % 2 = 1 from rfl) z, fun z => absurd (show useN 9 / 2 % 2 = 1 from rfl) z, fun _ => tkey, fun _ => HH.out.2.2.2.2.1.2 tval, fun z => absurd (show useN 9 / 16 % 2 = 1 from rfl) z, fun _ => (show (decide (0 ≤ z) && decide (z ≤ 4294967295)) = true by simp; omega)⟩
      clear HH
      subst tval
      subst e
      go_enter Tryd.func26, Tryd.ntmps26
      go_wp2_with fail
      go_ret
      exact ⟨by first | rfl | (simp; done) | (simp; omega), (Kept.refl _ _).alloc _⟩
    · have e : r = false := HH.out.2.1 (fun y => by
        have := y.pat rfl
        rw [pat_len (by rw [HH.out.2.2.2.2.2.2]; exact tn)] at this
        cases this)
      have ti : ¬ (ln : Int) = 1 := by omega
      clear HH
      subst e
      go_enter Tryd.func26, Tryd.ntmps26
      go_wp2_with fail
      go_ret
      exact ⟨by first | rfl | (simp; done) | (simp; omega), (Kept.refl _ _).alloc _⟩
  have U : useN kind.toNat = 1 := by
    obtain rfl | rfl | rfl | rfl | rfl | rfl | rfl | rfl | rfl : kind = 3 ∨ kind = 4 ∨ kind = 5 ∨ kind = 6 ∨ kind = 7 ∨ kind = 8 ∨ kind = 11 ∨ kind = 13 ∨ kind = 15 := by omega
    all_goals rfl
  have HU : Hid (useN kind.toNat = 1) := U
  clear U
  by_cases tb : b = 0
  rotate_left
  · have e : r = false := HH.out.2.1 (fun z => tb (z.b (show ¬ useN kind.toNat / 2 % 2 = 1 by rw [HU.out]; decide)))
    clear HH
    subst e
    go_enter Tryd.func26, Tryd.ntmps26
    go_wp2_with fail
    go_ret
    exact ⟨by first | rfl | (simp; done) | (simp; omega), (Kept.refl _ _).alloc _⟩
  by_cases tkey : skey = []
  rotate_left
  · have e : r = false := HH.out.2.1 (fun z => tkey (z.key (show ¬ useN kind.toNat / 4 % 2 = 1 by rw [HU.out]; decide)))
    have ek := HH.out.2.2.2.1 tkey
    clear HH
    subst e
    go_enter Tryd.func26, Tryd.ntmps26
    go_wp2_with fail
    go_ret
    exact ⟨by first | rfl | (simp; done) | (simp; omega), (Kept.refl _ _).alloc _⟩
  have ek := HH.out.2.2.1 tkey
  by_cases tval : vn = 0
  rotate_left
  · have e : r = false := HH.out.2.1 (fun z => tval (HH.out.2.2.2.2.1.1 (z.val (show ¬ useN kind.toNat / 8 % 2 = 1 by rw [HU.out]; decide))))
    have ti : ¬ (vn : Int) = 0 := by omega
    clear HH
    subst e
    go_enter Tryd.func26, Tryd.ntmps26
    go_wp2_with fail
    go_ret
    exact ⟨by first | rfl | (simp; done) | (simp; omega), (Kept.refl _ _).alloc _⟩
  have tvi : (vn : Int) = 0 := by omega
  by_cases tl : ln = 0
  rotate_left
  · have e : r = false := HH.out.2.1 (fun z => tl (HH.out.2.2.2.2.2.1.1 (z.l (show ¬ useN kind.toNat / 16 % 2 = 1 by rw [HU.out]; decide))))
    have ti : ¬ (ln : Int) = 0 := by omega
    clear HH
    subst e
    go_enter Tryd.func26, Tryd.ntmps26
    go_wp2_with fail
    go_ret
    exact ⟨by first | rfl | (simp; done) | (simp; omega), (Kept.refl _ _).alloc _⟩
  have tli : (ln : Int) = 0 := by omega
  have e : r = true := HH.out.1 ⟨show 1 ≤ kind by omega, show kind ≤ 16 by omega, fun z => absurd (show useN kind.toNat  % 2 = 1 by rw [HU.out]) z, fun _ => tb, fun _ => tkey, fun _ => HH.out.2.2.2.2.1.2 tval, fun _ => HH.out.2.2.2.2.2.1.2 tl, fun z => absurd z d9⟩
  clear HH
  subst e
  go_enter Tryd.func26, Tryd.ntmps26
  go_wp2_with fail
  go_ret
  exact ⟨by first | rfl | (simp; done) | (simp; omega), (Kept.refl _ _).alloc _⟩
end Go.Proofs.YtonfefhegghapaaDoor

namespace Go.Proofs.YtonfefhegghapaaDoor
open Go.RowKit 

theorem h39 (k : Int) (h : KI k) (w : World) : Calls Tryd.prog 39 #[.int .i64 k] w fun o w' => o = .returned (.bool (decide (k ≠ 16))) ∧ w' = w := by
  obtain ⟨h1, h2⟩ := h
  by_cases c : k = 16
  · subst c
    go_enter Tryd.func39, Tryd.ntmps39
    go_wp2_with fail
    go_ret
    exact ⟨by first | rfl | simp, rfl⟩
  · obtain ⟨r, hr⟩ : ∃ r, decide (k ≠ 16) = r := ⟨_, rfl⟩
    have e : r = true := by rw [← hr]; exact decide_eq_true c
    rw [hr, e]
    clear hr e
    go_enter Tryd.func39, Tryd.ntmps39
    go_wp2_with fail
    go_ret
    exact ⟨by first | rfl | (simp; done) | (simp; omega), rfl⟩
theorem h41 (k : Int) (h : KI k) (w : World) : Calls Tryd.prog 41 #[.int .i64 k] w fun o w' => o = .returned (.bool (decide (k = 9 ∨ k = 10 ∨ k = 14 ∨ k = 16))) ∧ w' = w := by
  obtain ⟨h1, h2⟩ := h
  by_cases c9 : k = 9
  · subst c9
    go_enter Tryd.func41, Tryd.ntmps41
    go_wp2_with fail
    go_ret
    exact ⟨by first | rfl | simp, rfl⟩
  by_cases c10 : k = 10
  · subst c10
    go_enter Tryd.func41, Tryd.ntmps41
    go_wp2_with fail
    go_ret
    exact ⟨by first | rfl | simp, rfl⟩
  by_cases c14 : k = 14
  · subst c14
    go_enter Tryd.func41, Tryd.ntmps41
    go_wp2_with fail
    go_ret
    exact ⟨by first | rfl | simp, rfl⟩
  by_cases c16 : k = 16
  · subst c16
    go_enter Tryd.func41, Tryd.ntmps41
    go_wp2_with fail
    go_ret
    exact ⟨by first | rfl | simp, rfl⟩
  obtain ⟨r, hr⟩ : ∃ r, decide (k = 9 ∨ k = 10 ∨ k = 14 ∨ k = 16) = r := ⟨_, rfl⟩
  have e : r = false := by rw [← hr]; exact decide_eq_false (by omega)
  rw [hr, e]
  clear hr e
  go_enter Tryd.func41, Tryd.ntmps41
  go_wp2_with fail
  go_ret
  exact ⟨by first | rfl | (simp; done) | (simp; omega), rfl⟩
theorem h42 (k : Int) (h : KI k) (w : World) : Calls Tryd.prog 42 #[.int .i64 k] w fun o w' => o = .returned (.bool (decide (k = 1 ∨ k = 2))) ∧ w' = w := by
  obtain ⟨h1, h2⟩ := h
  by_cases c1 : k = 1
  · subst c1
    go_enter Tryd.func42, Tryd.ntmps42
    go_wp2_with fail
    go_ret
    exact ⟨by first | rfl | simp, rfl⟩
  by_cases c2 : k = 2
  · subst c2
    go_enter Tryd.func42, Tryd.ntmps42
    go_wp2_with fail
    go_ret
    exact ⟨by first | rfl | simp, rfl⟩
  obtain ⟨r, hr⟩ : ∃ r, decide (k = 1 ∨ k = 2) = r := ⟨_, rfl⟩
  have e : r = false := by rw [← hr]; exact decide_eq_false (by omega)
  rw [hr, e]
  clear hr e
  go_enter Tryd.func42, Tryd.ntmps42
  go_wp2_with fail
  go_ret
  exact ⟨by first | rfl | (simp; done) | (simp; omega), rfl⟩
theorem h44 (k : Int) (h : KI k) (w : World) : Calls Tryd.prog 44 #[.int .i64 k] w fun o w' => o = .returned (.bool (decide (k = 9 ∨ k = 12 ∨ k = 14 ∨ k = 16))) ∧ w' = w := by
  obtain ⟨h1, h2⟩ := h
  by_cases c9 : k = 9
  · subst c9
    go_enter Tryd.func44, Tryd.ntmps44
    go_wp2_with fail
    go_ret
    exact ⟨by first | rfl | simp, rfl⟩
  by_cases c12 : k = 12
  · subst c12
    go_enter Tryd.func44, Tryd.ntmps44
    go_wp2_with fail
    go_ret
    exact ⟨by first | rfl | simp, rfl⟩
  by_cases c14 : k = 14
  · subst c14
    go_enter Tryd.func44, Tryd.ntmps44
    go_wp2_with fail
    go_ret
    exact ⟨by first | rfl | simp, rfl⟩
  by_cases c16 : k = 16
  · subst c16
    go_enter Tryd.func44, Tryd.ntmps44
    go_wp2_with fail
    go_ret
    exact ⟨by first | rfl | simp, rfl⟩
  obtain ⟨r, hr⟩ : ∃ r, decide (k = 9 ∨ k = 12 ∨ k = 14 ∨ k = 16) = r := ⟨_, rfl⟩
  have e : r = false := by rw [← hr]; exact decide_eq_false (by omega)
  rw [hr, e]
  clear hr e
  go_enter Tryd.func44, Tryd.ntmps44
  go_wp2_with fail
  go_ret
  exact ⟨by first | rfl | (simp; done) | (simp; omega), rfl⟩
end Go.Proofs.YtonfefhegghapaaDoor
