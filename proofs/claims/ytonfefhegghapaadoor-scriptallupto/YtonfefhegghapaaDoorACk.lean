import Derived.Test.YtonfefhegghapaaDoorAHasJ
namespace Go.Proofs.YtonfefhegghapaaDoor
open Go.RowKit 

theorem chk_val {s : St} : (¬ (1 ≤ s.kind ∧ s.kind ≤ 16) → chkS s = 32) ∧ (1 ≤ s.kind ∧ s.kind ≤ 16 → ¬ Fit s → chkS s = 1) := by
  refine ⟨fun z => ?_, fun z y => ?_⟩
  · unfold chkS chkN
    rw [if_pos (by omega)]
  · have n : ¬ chkS s = 0 := fun q => y (chk_fit.1 q)
    unfold chkS chkN at n ⊢
    rw [if_neg (by omega)] at n ⊢
    split
    · rfl
    · rename_i h1
      rw [if_neg h1] at n
      split
      · rfl
      · rename_i h2
        rw [if_neg h2] at n
        exact absurd rfl n
set_option maxRecDepth 100000 in
set_option maxHeartbeats 16000000 in
/-- The document's Check. -/
theorem hRefChk {w : World} {x : Sm} {s : St} (R : SRd w x s) (hk : KI s.kind) : Calls Tryd.prog 19 #[.agg x.cs] w fun o w' => o = .returned (.int .i64 (chkS s)) ∧ Kept (fun _ => False) w w' := by
  obtain ⟨kind, a, b, key, va, vn, vc, la, ln, lc⟩ := x
  obtain ⟨skind, sa, sb, skey, sval, sl⟩ := s
  obtain rfl : kind = skind := R.kind
  obtain rfl : a = sa := R.a
  obtain rfl : b = sb := R.b
  obtain rfl : key = ofL skey := R.key
  have k1 : -9223372036854775808 ≤ kind := hk.1
  have k2 : kind ≤ 9223372036854775807 := hk.2
  have a1 : -9223372036854775808 ≤ a := R.ka.1
  have a2 : a ≤ 9223372036854775807 := R.ka.2
  have b1 : -9223372036854775808 ≤ b := R.kb.1
  have b2 : b ≤ 9223372036854775807 := R.kb.2
  have hv : sval.length = vn := R.v.len
  have hl : sl.length = ln := R.l.len
  have hsm : skey.length + sval.length + sl.length ≤ 134217728 := R.sm
  have vz : vn ≤ 134217728 := by omega
  have lz : ln ≤ 134217728 := by omega
  obtain ⟨key, hkey⟩ : ∃ key, ofL skey = key := ⟨_, rfl⟩
  have HX : Hid (IRd w la ln lc sl) := R.l
  have HK : Hid (KI kind) := hk
  obtain ⟨r, hr⟩ : ∃ r, chkS ⟨kind, a, b, skey, sval, sl⟩ = r := ⟨_, rfl⟩
  have YES : Fit ⟨kind, a, b, skey, sval, sl⟩ → r = 0 := fun z => by rw [← hr]; exact chk_fit.2 z
  have NO : 1 ≤ kind ∧ kind ≤ 16 → ¬ Fit ⟨kind, a, b, skey, sval, sl⟩ → r = 1 := fun z y => by rw [← hr]; exact chk_val.2 z y
  have OUT : ¬ (1 ≤ kind ∧ kind ≤ 16) → r = 32 := fun z => by rw [← hr]; exact chk_val.1 z
  have KE : skey = [] → key.toList.isEmpty = true := fun z => emp_yes (by rw [← hkey, z]; rfl)
  have KN : ¬ skey = [] → key.toList.isEmpty = false := fun z => emp_no (fun y => z (by
    have := congrArg (fun b : ByteArray => b.data.toList) (hkey.trans y.symm)
    exact this))
  have VE : sval = [] ↔ vn = 0 := by rw [← hv]; exact List.length_eq_zero_iff.symm
  have LE : sl = [] ↔ ln = 0 := by rw [← hl]; exact List.length_eq_zero_iff.symm
  have HH : Hid ((Fit ⟨kind, a, b, skey, sval, sl⟩ → r = 0) ∧ (1 ≤ kind ∧ kind ≤ 16 → ¬ Fit ⟨kind, a, b, skey, sval, sl⟩ → r = 1) ∧ (skey = [] → key.toList.isEmpty = true) ∧ (¬ skey = [] → key.toList.isEmpty = false) ∧ (sval = [] ↔ vn = 0) ∧ (sl = [] ↔ ln = 0) ∧ sl.length = ln ∧ (¬ (1 ≤ kind ∧ kind ≤ 16) → r = 32)) := ⟨YES, NO, KE, KN, VE, LE, hl, OUT⟩
  show Calls Tryd.prog 19 #[.agg #[.int .i64 kind, .int .i64 a, .int .i64 b, .string (ofL skey), .slice va vn vc, .slice la ln lc]] w fun o w' => o = .returned (.int .i64 (chkS ⟨kind, a, b, skey, sval, sl⟩)) ∧ Kept (fun _ => False) w w'
  rw [hr, hkey]
  clear YES NO OUT KE KN VE LE hl hv hsm hkey hr R hk
  by_cases c1 : kind < 1
  · have e : r = 32 := HH.out.2.2.2.2.2.2.2 (by omega)
    clear HH
    subst e
    go_enter Tryd.func19, Tryd.ntmps19
    go_wp2_with fail
    go_ret
    exact ⟨by first | rfl | (simp; done) | (simp; omega), (Kept.refl _ _).alloc _⟩
  by_cases c2 : 16 < kind
  · have e : r = 32 := HH.out.2.2.2.2.2.2.2 (by omega)
    clear HH
    subst e
    go_enter Tryd.func19, Tryd.ntmps19
    go_wp2_with fail
    go_ret
    exact ⟨by first | rfl | (simp; done) | (simp; omega), (Kept.refl _ _).alloc _⟩
  by_cases d1 : kind = 1
  · subst d1
    have C39 : Hid (∀ V, Calls Tryd.prog 39 #[.int .i64 1] V fun o w' => o = .returned (.bool true) ∧ w' = V) := fun V => by
      have q := h39 1 HK.out V
      rw [decide_eq_true (show (1 : Int) ≠ 16 by omega)] at q
      exact q
    have C41 : Hid (∀ V, Calls Tryd.prog 41 #[.int .i64 1] V fun o w' => o = .returned (.bool false) ∧ w' = V) := fun V => by
      have q := h41 1 HK.out V
      rw [decide_eq_false (show ¬ ((1 : Int) = 9 ∨ (1 : Int) = 10 ∨ (1 : Int) = 14 ∨ (1 : Int) = 16) by omega)] at q
      exact q
    have C42 : Hid (∀ V, Calls Tryd.prog 42 #[.int .i64 1] V fun o w' => o = .returned (.bool true) ∧ w' = V) := fun V => by
      have q := h42 1 HK.out V
      rw [decide_eq_true (show (1 : Int) = 1 ∨ (1 : Int) = 2 by omega)] at q
      exact q
    have C44 : Hid (∀ V, Calls Tryd.prog 44 #[.int .i64 1] V fun o w' => o = .returned (.bool false) ∧ w' = V) := fun V => by
      have q := h44 1 HK.out V
      rw [decide_eq_false (show ¬ ((1 : Int) = 9 ∨ (1 : Int) = 12 ∨ (1 : Int) = 14 ∨ (1 : Int) = 16) by omega)] at q
      exact q
    by_cases tb : b = 0
    rotate_left
    · have e : r = 1 := HH.out.2.1 ⟨show (1 : Int) ≤ 1 by decide, show (1 : Int) ≤ 16 by decide⟩ (fun z => tb (z.b (show ¬ useN 1 / 2 % 2 = 1 by decide)))
      clear HH HX HK
      subst e
      go_enter Tryd.func19, Tryd.ntmps19
      go_wp2_with fail
      refine (C39.out _).mono ?_
      rintro o w39 ⟨rfl, hw39⟩
      subst hw39
      go_wp2_with fail
      refine (C41.out _).mono ?_
      rintro o w41 ⟨rfl, hw41⟩
      subst hw41
      go_wp2_with fail
      go_ret
      exact ⟨by first | rfl | (simp; done) | (simp; omega), (Kept.refl _ _).alloc _⟩
    by_cases tl : ln = 0
    rotate_left
    · have e : r = 1 := HH.out.2.1 ⟨show (1 : Int) ≤ 1 by decide, show (1 : Int) ≤ 16 by decide⟩ (fun z => tl (HH.out.2.2.2.2.2.1.1 (z.l (show ¬ useN 1 / 16 % 2 = 1 by decide))))
      have ti : (0 : Int) < (ln : Int) := by omega
      clear HH HX HK
      subst e
      go_enter Tryd.func19, Tryd.ntmps19
      go_wp2_with fail
      refine (C39.out _).mono ?_
      rintro o w39 ⟨rfl, hw39⟩
      subst hw39
      go_wp2_with fail
      refine (C41.out _).mono ?_
      rintro o w41 ⟨rfl, hw41⟩
      subst hw41
      go_wp2_with fail
      refine (C42.out _).mono ?_
      rintro o w42 ⟨rfl, hw42⟩
      subst hw42
      go_wp2_with fail
      refine (C44.out _).mono ?_
      rintro o w44 ⟨rfl, hw44⟩
      subst hw44
      go_wp2_with fail
      go_ret
      exact ⟨by first | rfl | (simp; done) | (simp; omega), (Kept.refl _ _).alloc _⟩
    have tli : ¬ (0 : Int) < (ln : Int) := by omega
    have e : r = 0 := HH.out.1 ⟨show (1 : Int) ≤ 1 by decide, show (1 : Int) ≤ 16 by decide, fun z => absurd (show useN 1 % 2 = 1 from rfl) z, fun _ => tb, fun z => absurd (show useN 1 / 4 % 2 = 1 from rfl) z, fun z => absurd (show useN 1 / 8 % 2 = 1 from rfl) z, fun _ => HH.out.2.2.2.2.2.1.2 tl, fun z => absurd z (show ¬ (1 : Int) = 9 by decide)⟩
    clear HH HX HK
    subst e
    go_enter Tryd.func19, Tryd.ntmps19
    go_wp2_with fail
    refine (C39.out _).mono ?_
    rintro o w39 ⟨rfl, hw39⟩
    subst hw39
    go_wp2_with fail
    refine (C41.out _).mono ?_
    rintro o w41 ⟨rfl, hw41⟩
    subst hw41
    go_wp2_with fail
    refine (C42.out _).mono ?_
    rintro o w42 ⟨rfl, hw42⟩
    subst hw42
    go_wp2_with fail
    refine (C44.out _).mono ?_
    rintro o w44 ⟨rfl, hw44⟩
    subst hw44
    go_wp2_with fail
    go_ret
    exact ⟨by first | rfl | (simp; done) | (simp; omega), (Kept.refl _ _).alloc _⟩
  by_cases d2 : kind = 2
  · subst d2
    have C39 : Hid (∀ V, Calls Tryd.prog 39 #[.int .i64 2] V fun o w' => o = .returned (.bool true) ∧ w' = V) := fun V => by
      have q := h39 2 HK.out V
      rw [decide_eq_true (show (2 : Int) ≠ 16 by omega)] at q
      exact q
    have C41 : Hid (∀ V, Calls Tryd.prog 41 #[.int .i64 2] V fun o w' => o = .returned (.bool false) ∧ w' = V) := fun V => by
      have q := h41 2 HK.out V
      rw [decide_eq_false (show ¬ ((2 : Int) = 9 ∨ (2 : Int) = 10 ∨ (2 : Int) = 14 ∨ (2 : Int) = 16) by omega)] at q
      exact q
    have C42 : Hid (∀ V, Calls Tryd.prog 42 #[.int .i64 2] V fun o w' => o = .returned (.bool true) ∧ w' = V) := fun V => by
      have q := h42 2 HK.out V
      rw [decide_eq_true (show (2 : Int) = 1 ∨ (2 : Int) = 2 by omega)] at q
      exact q
    have C44 : Hid (∀ V, Calls Tryd.prog 44 #[.int .i64 2] V fun o w' => o = .returned (.bool false) ∧ w' = V) := fun V => by
      have q := h44 2 HK.out V
      rw [decide_eq_false (show ¬ ((2 : Int) = 9 ∨ (2 : Int) = 12 ∨ (2 : Int) = 14 ∨ (2 : Int) = 16) by omega)] at q
      exact q
    by_cases tb : b = 0
    rotate_left
    · have e : r = 1 := HH.out.2.1 ⟨show (1 : Int) ≤ 2 by decide, show (2 : Int) ≤ 16 by decide⟩ (fun z => tb (z.b (show ¬ useN 2 / 2 % 2 = 1 by decide)))
      clear HH HX HK
      subst e
      go_enter Tryd.func19, Tryd.ntmps19
      go_wp2_with fail
      refine (C39.out _).mono ?_
      rintro o w39 ⟨rfl, hw39⟩
      subst hw39
      go_wp2_with fail
      refine (C41.out _).mono ?_
      rintro o w41 ⟨rfl, hw41⟩
      subst hw41
      go_wp2_with fail
      go_ret
      exact ⟨by first | rfl | (simp; done) | (simp; omega), (Kept.refl _ _).alloc _⟩
    by_cases tval : vn = 0
    rotate_left
    · have e : r = 1 := HH.out.2.1 ⟨show (1 : Int) ≤ 2 by decide, show (2 : Int) ≤ 16 by decide⟩ (fun z => tval (HH.out.2.2.2.2.1.1 (z.val (show ¬ useN 2 / 8 % 2 = 1 by decide))))
      have ti : (0 : Int) < (vn : Int) := by omega
      clear HH HX HK
      subst e
      go_enter Tryd.func19, Tryd.ntmps19
      go_wp2_with fail
      refine (C39.out _).mono ?_
      rintro o w39 ⟨rfl, hw39⟩
      subst hw39
      go_wp2_with fail
      refine (C41.out _).mono ?_
      rintro o w41 ⟨rfl, hw41⟩
      subst hw41
      go_wp2_with fail
      refine (C42.out _).mono ?_
      rintro o w42 ⟨rfl, hw42⟩
      subst hw42
      go_wp2_with fail
      go_ret
      exact ⟨by first | rfl | (simp; done) | (simp; omega), (Kept.refl _ _).alloc _⟩
    have tvi : ¬ (0 : Int) < (vn : Int) := by omega
    by_cases tl : ln = 0
    rotate_left
    · have e : r = 1 := HH.out.2.1 ⟨show (1 : Int) ≤ 2 by decide, show (2 : Int) ≤ 16 by decide⟩ (fun z => tl (HH.out.2.2.2.2.2.1.1 (z.l (show ¬ useN 2 / 16 % 2 = 1 by decide))))
      have ti : (0 : Int) < (ln : Int) := by omega
      clear HH HX HK
      subst e
      go_enter Tryd.func19, Tryd.ntmps19
      go_wp2_with fail
      refine (C39.out _).mono ?_
      rintro o w39 ⟨rfl, hw39⟩
      subst hw39
      go_wp2_with fail
      refine (C41.out _).mono ?_
      rintro o w41 ⟨rfl, hw41⟩
      subst hw41
      go_wp2_with fail
      refine (C42.out _).mono ?_
      rintro o w42 ⟨rfl, hw42⟩
      subst hw42
      go_wp2_with fail
      refine (C44.out _).mono ?_
      rintro o w44 ⟨rfl, hw44⟩
      subst hw44
      go_wp2_with fail
      go_ret
      exact ⟨by first | rfl | (simp; done) | (simp; omega), (Kept.refl _ _).alloc _⟩
    have tli : ¬ (0 : Int) < (ln : Int) := by omega
    have e : r = 0 := HH.out.1 ⟨show (1 : Int) ≤ 2 by decide, show (2 : Int) ≤ 16 by decide, fun z => absurd (show useN 2 % 2 = 1 from rfl) z, fun _ => tb, fun z => absurd (show useN 2 / 4 % 2 = 1 from rfl) z, fun _ => HH.out.2.2.2.2.1.2 tval, fun _ => HH.out.2.2.2.2.2.1.2 tl, fun z => absurd z (show ¬ (2 : Int) = 9 by decide)⟩
    clear HH HX HK
    subst e
    go_enter Tryd.func19, Tryd.ntmps19
    go_wp2_with fail
    refine (C39.out _).mono ?_
    rintro o w39 ⟨rfl, hw39⟩
    subst hw39
    go_wp2_with fail
    refine (C41.out _).mono ?_
    rintro o w41 ⟨rfl, hw41⟩
    subst hw41
    go_wp2_with fail
    refine (C42.out _).mono ?_
    rintro o w42 ⟨rfl, hw42⟩
    subst hw42
    go_wp2_with fail
    refine (C44.out _).mono ?_
    rintro o w44 ⟨rfl, hw44⟩
    subst hw44
    go_wp2_with fail
    go_ret
    exact ⟨by first | rfl | (simp; done) | (simp; omega), (Kept.refl _ _).alloc _⟩
  by_cases d10 : kind = 10
  · subst d10
    have C39 : Hid (∀ V, Calls Tryd.prog 39 #[.int .i64 10] V fun o w' => o = .returned (.bool true) ∧ w' = V) := fun V => by
      have q := h39 10 HK.out V
      rw [decide_eq_true (show (10 : Int) ≠ 16 by omega)] at q
      exact q
    have C41 : Hid (∀ V, Calls Tryd.prog 41 #[.int .i64 10] V fun o w' => o = .returned (.bool true) ∧ w' = V) := fun V => by
      have q := h41 10 HK.out V
      rw [decide_eq_true (show (10 : Int) = 9 ∨ (10 : Int) = 10 ∨ (10 : Int) = 14 ∨ (10 : Int) = 16 by omega)] at q
      exact q
    have C42 : Hid (∀ V, Calls Tryd.prog 42 #[.int .i64 10] V fun o w' => o = .returned (.bool false) ∧ w' = V) := fun V => by
      have q := h42 10 HK.out V
      rw [decide_eq_false (show ¬ ((10 : Int) = 1 ∨ (10 : Int) = 2) by omega)] at q
      exact q
    have C44 : Hid (∀ V, Calls Tryd.prog 44 #[.int .i64 10] V fun o w' => o = .returned (.bool false) ∧ w' = V) := fun V => by
      have q := h44 10 HK.out V
      rw [decide_eq_false (show ¬ ((10 : Int) = 9 ∨ (10 : Int) = 12 ∨ (10 : Int) = 14 ∨ (10 : Int) = 16) by omega)] at q
      exact q
    by_cases tkey : skey = []
    rotate_left
    · have e : r = 1 := HH.out.2.1 ⟨show (1 : Int) ≤ 10 by decide, show (10 : Int) ≤ 16 by decide⟩ (fun z => tkey (z.key (show ¬ useN 10 / 4 % 2 = 1 by decide)))
      have ek := HH.out.2.2.2.1 tkey
      clear HH HX HK
      subst e
      go_enter Tryd.func19, Tryd.ntmps19
      go_wp2_with fail
      refine (C39.out _).mono ?_
      rintro o w39 ⟨rfl, hw39⟩
      subst hw39
      go_wp2_with fail
      refine (C41.out _).mono ?_
      rintro o w41 ⟨rfl, hw41⟩
      subst hw41
      go_wp2_with fail
      refine (C42.out _).mono ?_
      rintro o w42 ⟨rfl, hw42⟩
      subst hw42
      go_wp2_with fail
      go_ret
      exact ⟨by first | rfl | (simp; done) | (simp; omega), (Kept.refl _ _).alloc _⟩
    have ek := HH.out.2.2.1 tkey
    by_cases tval : vn = 0
    rotate_left
    · have e : r = 1 := HH.out.2.1 ⟨show (1 : Int) ≤ 10 by decide, show (10 : Int) ≤ 16 by decide⟩ (fun z => tval (HH.out.2.2.2.2.1.1 (z.val (show ¬ useN 10 / 8 % 2 = 1 by decide))))
      have ti : (0 : Int) < (vn : Int) := by omega
      clear HH HX HK
      subst e
      go_enter Tryd.func19, Tryd.ntmps19
      go_wp2_with fail
      refine (C39.out _).mono ?_
      rintro o w39 ⟨rfl, hw39⟩
      subst hw39
      go_wp2_with fail
      refine (C41.out _).mono ?_
      rintro o w41 ⟨rfl, hw41⟩
      subst hw41
      go_wp2_with fail
      refine (C42.out _).mono ?_
      rintro o w42 ⟨rfl, hw42⟩
      subst hw42
      go_wp2_with fail
      go_ret
      exact ⟨by first | rfl | (simp; done) | (simp; omega), (Kept.refl _ _).alloc _⟩
    have tvi : ¬ (0 : Int) < (vn : Int) := by omega
    by_cases tl : ln = 0
    rotate_left
    · have e : r = 1 := HH.out.2.1 ⟨show (1 : Int) ≤ 10 by decide, show (10 : Int) ≤ 16 by decide⟩ (fun z => tl (HH.out.2.2.2.2.2.1.1 (z.l (show ¬ useN 10 / 16 % 2 = 1 by decide))))
      have ti : (0 : Int) < (ln : Int) := by omega
      clear HH HX HK
      subst e
      go_enter Tryd.func19, Tryd.ntmps19
      go_wp2_with fail
      refine (C39.out _).mono ?_
      rintro o w39 ⟨rfl, hw39⟩
      subst hw39
      go_wp2_with fail
      refine (C41.out _).mono ?_
      rintro o w41 ⟨rfl, hw41⟩
      subst hw41
      go_wp2_with fail
      refine (C42.out _).mono ?_
      rintro o w42 ⟨rfl, hw42⟩
      subst hw42
      go_wp2_with fail
      refine (C44.out _).mono ?_
      rintro o w44 ⟨rfl, hw44⟩
      subst hw44
      go_wp2_with fail
      go_ret
      exact ⟨by first | rfl | (simp; done) | (simp; omega), (Kept.refl _ _).alloc _⟩
    have tli : ¬ (0 : Int) < (ln : Int) := by omega
    have e : r = 0 := HH.out.1 ⟨show (1 : Int) ≤ 10 by decide, show (10 : Int) ≤ 16 by decide, fun z => absurd (show useN 10 % 2 = 1 from rfl) z, fun z => absurd (show useN 10 / 2 % 2 = 1 from rfl) z, fun _ => tkey, fun _ => HH.out.2.2.2.2.1.2 tval, fun _ => HH.out.2.2.2.2.2.1.2 tl, fun z => absurd z (show ¬ (10 : Int) = 9 by decide)⟩
    clear HH HX HK
    subst e
    go_enter Tryd.func19, Tryd.ntmps19
    go_wp2_with fail
    refine (C39.out _).mono ?_
    rintro o w39 ⟨rfl, hw39⟩
    subst hw39
    go_wp2_with fail
    refine (C41.out _).mono ?_
    rintro o w41 ⟨rfl, hw41⟩
    subst hw41
    go_wp2_with fail
    refine (C42.out _).mono ?_
    rintro o w42 ⟨rfl, hw42⟩
    subst hw42
    go_wp2_with fail
    refine (C44.out _).mono ?_
    rintro o w44 ⟨rfl, hw44⟩
    subst hw44
    go_wp2_with fail
    go_ret
    exact ⟨by first | rfl | (simp; done) | (simp; omega), (Kept.refl _ _).alloc _⟩
  by_cases d12 : kind = 12
  · subst d12
    have C39 : Hid (∀ V, Calls Tryd.prog 39 #[.int .i64 12] V fun o w' => o = .returned (.bool true) ∧ w' = V) := fun V => by
      have q := h39 12 HK.out V
      rw [decide_eq_true (show (12 : Int) ≠ 16 by omega)] at q
      exact q
    have C41 : Hid (∀ V, Calls Tryd.prog 41 #[.int .i64 12] V fun o w' => o = .returned (.bool false) ∧ w' = V) := fun V => by
      have q := h41 12 HK.out V
      rw [decide_eq_false (show ¬ ((12 : Int) = 9 ∨ (12 : Int) = 10 ∨ (12 : Int) = 14 ∨ (12 : Int) = 16) by omega)] at q
      exact q
    have C42 : Hid (∀ V, Calls Tryd.prog 42 #[.int .i64 12] V fun o w' => o = .returned (.bool false) ∧ w' = V) := fun V => by
      have q := h42 12 HK.out V
      rw [decide_eq_false (show ¬ ((12 : Int) = 1 ∨ (12 : Int) = 2) by omega)] at q
      exact q
    have C44 : Hid (∀ V, Calls Tryd.prog 44 #[.int .i64 12] V fun o w' => o = .returned (.bool true) ∧ w' = V) := fun V => by
      have q := h44 12 HK.out V
      rw [decide_eq_true (show (12 : Int) = 9 ∨ (12 : Int) = 12 ∨ (12 : Int) = 14 ∨ (12 : Int) = 16 by omega)] at q
      exact q
    by_cases tb : b = 0
    rotate_left
    · have e : r = 1 := HH.out.2.1 ⟨show (1 : Int) ≤ 12 by decide, show (12 : Int) ≤ 16 by decide⟩ (fun z => tb (z.b (show ¬ useN 12 / 2 % 2 = 1 by decide)))
      clear HH HX HK
      subst e
      go_enter Tryd.func19, Tryd.ntmps19
      go_wp2_with fail
      refine (C39.out _).mono ?_
      rintro o w39 ⟨rfl, hw39⟩
      subst hw39
      go_wp2_with fail
      refine (C41.out _).mono ?_
      rintro o w41 ⟨rfl, hw41⟩
      subst hw41
      go_wp2_with fail
      go_ret
      exact ⟨by first | rfl | (simp; done) | (simp; omega), (Kept.refl _ _).alloc _⟩
    by_cases tkey : skey = []
    rotate_left
    · have e : r = 1 := HH.out.2.1 ⟨show (1 : Int) ≤ 12 by decide, show (12 : Int) ≤ 16 by decide⟩ (fun z => tkey (z.key (show ¬ useN 12 / 4 % 2 = 1 by decide)))
      have ek := HH.out.2.2.2.1 tkey
      clear HH HX HK
      subst e
      go_enter Tryd.func19, Tryd.ntmps19
      go_wp2_with fail
      refine (C39.out _).mono ?_
      rintro o w39 ⟨rfl, hw39⟩
      subst hw39
      go_wp2_with fail
      refine (C41.out _).mono ?_
      rintro o w41 ⟨rfl, hw41⟩
      subst hw41
      go_wp2_with fail
      refine (C42.out _).mono ?_
      rintro o w42 ⟨rfl, hw42⟩
      subst hw42
      go_wp2_with fail
      go_ret
      exact ⟨by first | rfl | (simp; done) | (simp; omega), (Kept.refl _ _).alloc _⟩
    have ek := HH.out.2.2.1 tkey
    by_cases tval : vn = 0
    rotate_left
    · have e : r = 1 := HH.out.2.1 ⟨show (1 : Int) ≤ 12 by decide, show (12 : Int) ≤ 16 by decide⟩ (fun z => tval (HH.out.2.2.2.2.1.1 (z.val (show ¬ useN 12 / 8 % 2 = 1 by decide))))
      have ti : (0 : Int) < (vn : Int) := by omega
      clear HH HX HK
      subst e
      go_enter Tryd.func19, Tryd.ntmps19
      go_wp2_with fail
      refine (C39.out _).mono ?_
      rintro o w39 ⟨rfl, hw39⟩
      subst hw39
      go_wp2_with fail
      refine (C41.out _).mono ?_
      rintro o w41 ⟨rfl, hw41⟩
      subst hw41
      go_wp2_with fail
      refine (C42.out _).mono ?_
      rintro o w42 ⟨rfl, hw42⟩
      subst hw42
      go_wp2_with fail
      go_ret
      exact ⟨by first | rfl | (simp; done) | (simp; omega), (Kept.refl _ _).alloc _⟩
    have tvi : ¬ (0 : Int) < (vn : Int) := by omega
    have e : r = 0 := HH.out.1 ⟨show (1 : Int) ≤ 12 by decide, show (12 : Int) ≤ 16 by decide, fun z => absurd (show useN 12 % 2 = 1 from rfl) z, fun _ => tb, fun _ => tkey, fun _ => HH.out.2.2.2.2.1.2 tval, fun z => absurd (show useN 12 / 16 % 2 = 1 from rfl) z, fun z => absurd z (show ¬ (12 : Int) = 9 by decide)⟩
    clear HH HX HK
    subst e
    go_enter Tryd.func19, Tryd.ntmps19
    go_wp2_with fail
    refine (C39.out _).mono ?_
    rintro o w39 ⟨rfl, hw39⟩
    subst hw39
    go_wp2_with fail
    refine (C41.out _).mono ?_
    rintro o w41 ⟨rfl, hw41⟩
    subst hw41
    go_wp2_with fail
    refine (C42.out _).mono ?_
    rintro o w42 ⟨rfl, hw42⟩
    subst hw42
    go_wp2_with fail
    refine (C44.out _).mono ?_
    rintro o w44 ⟨rfl, hw44⟩
    subst hw44
    go_wp2_with fail
    go_ret
    exact ⟨by first | rfl | (simp; done) | (simp; omega), (Kept.refl _ _).alloc _⟩
  by_cases d14 : kind = 14
  · subst d14
    have C39 : Hid (∀ V, Calls Tryd.prog 39 #[.int .i64 14] V fun o w' => o = .returned (.bool true) ∧ w' = V) := fun V => by
      have q := h39 14 HK.out V
      rw [decide_eq_true (show (14 : Int) ≠ 16 by omega)] at q
      exact q
    have C41 : Hid (∀ V, Calls Tryd.prog 41 #[.int .i64 14] V fun o w' => o = .returned (.bool true) ∧ w' = V) := fun V => by
      have q := h41 14 HK.out V
      rw [decide_eq_true (show (14 : Int) = 9 ∨ (14 : Int) = 10 ∨ (14 : Int) = 14 ∨ (14 : Int) = 16 by omega)] at q
      exact q
    have C42 : Hid (∀ V, Calls Tryd.prog 42 #[.int .i64 14] V fun o w' => o = .returned (.bool false) ∧ w' = V) := fun V => by
      have q := h42 14 HK.out V
      rw [decide_eq_false (show ¬ ((14 : Int) = 1 ∨ (14 : Int) = 2) by omega)] at q
      exact q
    have C44 : Hid (∀ V, Calls Tryd.prog 44 #[.int .i64 14] V fun o w' => o = .returned (.bool true) ∧ w' = V) := fun V => by
      have q := h44 14 HK.out V
      rw [decide_eq_true (show (14 : Int) = 9 ∨ (14 : Int) = 12 ∨ (14 : Int) = 14 ∨ (14 : Int) = 16 by omega)] at q
      exact q
    by_cases tkey : skey = []
    rotate_left
    · have e : r = 1 := HH.out.2.1 ⟨show (1 : Int) ≤ 14 by decide, show (14 : Int) ≤ 16 by decide⟩ (fun z => tkey (z.key (show ¬ useN 14 / 4 % 2 = 1 by decide)))
      have ek := HH.out.2.2.2.1 tkey
      clear HH HX HK
      subst e
      go_enter Tryd.func19, Tryd.ntmps19
      go_wp2_with fail
      refine (C39.out _).mono ?_
      rintro o w39 ⟨rfl, hw39⟩
      subst hw39
      go_wp2_with fail
      refine (C41.out _).mono ?_
      rintro o w41 ⟨rfl, hw41⟩
      subst hw41
      go_wp2_with fail
      refine (C42.out _).mono ?_
      rintro o w42 ⟨rfl, hw42⟩
      subst hw42
      go_wp2_with fail
      go_ret
      exact ⟨by first | rfl | (simp; done) | (simp; omega), (Kept.refl _ _).alloc _⟩
    have ek := HH.out.2.2.1 tkey
    by_cases tval : vn = 0
    rotate_left
    · have e : r = 1 := HH.out.2.1 ⟨show (1 : Int) ≤ 14 by decide, show (14 : Int) ≤ 16 by decide⟩ (fun z => tval (HH.out.2.2.2.2.1.1 (z.val (show ¬ useN 14 / 8 % 2 = 1 by decide))))
      have ti : (0 : Int) < (vn : Int) := by omega
      clear HH HX HK
      subst e
      go_enter Tryd.func19, Tryd.ntmps19
      go_wp2_with fail
      refine (C39.out _).mono ?_
      rintro o w39 ⟨rfl, hw39⟩
      subst hw39
      go_wp2_with fail
      refine (C41.out _).mono ?_
      rintro o w41 ⟨rfl, hw41⟩
      subst hw41
      go_wp2_with fail
      refine (C42.out _).mono ?_
      rintro o w42 ⟨rfl, hw42⟩
      subst hw42
      go_wp2_with fail
      go_ret
      exact ⟨by first | rfl | (simp; done) | (simp; omega), (Kept.refl _ _).alloc _⟩
    have tvi : ¬ (0 : Int) < (vn : Int) := by omega
    have e : r = 0 := HH.out.1 ⟨show (1 : Int) ≤ 14 by decide, show (14 : Int) ≤ 16 by decide, fun z => absurd (show useN 14 % 2 = 1 from rfl) z, fun z => absurd (show useN 14 / 2 % 2 = 1 from rfl) z, fun _ => tkey, fun _ => HH.out.2.2.2.2.1.2 tval, fun z => absurd (show useN 14 / 16 % 2 = 1 from rfl) z, fun z => absurd z (show ¬ (14 : Int) = 9 by decide)⟩
    clear HH HX HK
    subst e
    go_enter Tryd.func19, Tryd.ntmps19
    go_wp2_with fail
    refine (C39.out _).mono ?_
    rintro o w39 ⟨rfl, hw39⟩
    subst hw39
    go_wp2_with fail
    refine (C41.out _).mono ?_
    rintro o w41 ⟨rfl, hw41⟩
    subst hw41
    go_wp2_with fail
    refine (C42.out _).mono ?_
    rintro o w42 ⟨rfl, hw42⟩
    subst hw42
    go_wp2_with fail
    refine (C44.out _).mono ?_
    rintro o w44 ⟨rfl, hw44⟩
    subst hw44
    go_wp2_with fail
    go_ret
    exact ⟨by first | rfl | (simp; done) | (simp; omega), (Kept.refl _ _).alloc _⟩
  by_cases d16 : kind = 16
  · subst d16
    have C39 : Hid (∀ V, Calls Tryd.prog 39 #[.int .i64 16] V fun o w' => o = .returned (.bool false) ∧ w' = V) := fun V => by
      have q := h39 16 HK.out V
      rw [decide_eq_false (show ¬ ((16 : Int) ≠ 16) by omega)] at q
      exact q
    have C41 : Hid (∀ V, Calls Tryd.prog 41 #[.int .i64 16] V fun o w' => o = .returned (.bool true) ∧ w' = V) := fun V => by
      have q := h41 16 HK.out V
      rw [decide_eq_true (show (16 : Int) = 9 ∨ (16 : Int) = 10 ∨ (16 : Int) = 14 ∨ (16 : Int) = 16 by omega)] at q
      exact q
    have C42 : Hid (∀ V, Calls Tryd.prog 42 #[.int .i64 16] V fun o w' => o = .returned (.bool false) ∧ w' = V) := fun V => by
      have q := h42 16 HK.out V
      rw [decide_eq_false (show ¬ ((16 : Int) = 1 ∨ (16 : Int) = 2) by omega)] at q
      exact q
    have C44 : Hid (∀ V, Calls Tryd.prog 44 #[.int .i64 16] V fun o w' => o = .returned (.bool true) ∧ w' = V) := fun V => by
      have q := h44 16 HK.out V
      rw [decide_eq_true (show (16 : Int) = 9 ∨ (16 : Int) = 12 ∨ (16 : Int) = 14 ∨ (16 : Int) = 16 by omega)] at q
      exact q
    by_cases ta : a = 0
    rotate_left
    · have e : r = 1 := HH.out.2.1 ⟨show (1 : Int) ≤ 16 by decide, show (16 : Int) ≤ 16 by decide⟩ (fun z => ta (z.a (show ¬ useN 16 % 2 = 1 by decide)))
      clear HH HX HK
      subst e
      go_enter Tryd.func19, Tryd.ntmps19
      go_wp2_with fail
      refine (C39.out _).mono ?_
      rintro o w39 ⟨rfl, hw39⟩
      subst hw39
      go_wp2_with fail
      go_ret
      exact ⟨by first | rfl | (simp; done) | (simp; omega), (Kept.refl _ _).alloc _⟩
    by_cases tkey : skey = []
    rotate_left
    · have e : r = 1 := HH.out.2.1 ⟨show (1 : Int) ≤ 16 by decide, show (16 : Int) ≤ 16 by decide⟩ (fun z => tkey (z.key (show ¬ useN 16 / 4 % 2 = 1 by decide)))
      have ek := HH.out.2.2.2.1 tkey
      clear HH HX HK
      subst e
      go_enter Tryd.func19, Tryd.ntmps19
      go_wp2_with fail
      refine (C39.out _).mono ?_
      rintro o w39 ⟨rfl, hw39⟩
      subst hw39
      go_wp2_with fail
      refine (C41.out _).mono ?_
      rintro o w41 ⟨rfl, hw41⟩
      subst hw41
      go_wp2_with fail
      refine (C42.out _).mono ?_
      rintro o w42 ⟨rfl, hw42⟩
      subst hw42
      go_wp2_with fail
      go_ret
      exact ⟨by first | rfl | (simp; done) | (simp; omega), (Kept.refl _ _).alloc _⟩
    have ek := HH.out.2.2.1 tkey
    by_cases tval : vn = 0
    rotate_left
    · have e : r = 1 := HH.out.2.1 ⟨show (1 : Int) ≤ 16 by decide, show (16 : Int) ≤ 16 by decide⟩ (fun z => tval (HH.out.2.2.2.2.1.1 (z.val (show ¬ useN 16 / 8 % 2 = 1 by decide))))
      have ti : (0 : Int) < (vn : Int) := by omega
      clear HH HX HK
      subst e
      go_enter Tryd.func19, Tryd.ntmps19
      go_wp2_with fail
      refine (C39.out _).mono ?_
      rintro o w39 ⟨rfl, hw39⟩
      subst hw39
      go_wp2_with fail
      refine (C41.out _).mono ?_
      rintro o w41 ⟨rfl, hw41⟩
      subst hw41
      go_wp2_with fail
      refine (C42.out _).mono ?_
      rintro o w42 ⟨rfl, hw42⟩
      subst hw42
      go_wp2_with fail
      go_ret
      exact ⟨by first | rfl | (simp; done) | (simp; omega), (Kept.refl _ _).alloc _⟩
    have tvi : ¬ (0 : Int) < (vn : Int) := by omega
    have e : r = 0 := HH.out.1 ⟨show (1 : Int) ≤ 16 by decide, show (16 : Int) ≤ 16 by decide, fun _ => ta, fun z => absurd (show useN 16 / 2 % 2 = 1 from rfl) z, fun _ => tkey, fun _ => HH.out.2.2.2.2.1.2 tval, fun z => absurd (show useN 16 / 16 % 2 = 1 from rfl) z, fun z => absurd z (show ¬ (16 : Int) = 9 by decide)⟩
    clear HH HX HK
    subst e
    go_enter Tryd.func19, Tryd.ntmps19
    go_wp2_with fail
    refine (C39.out _).mono ?_
    rintro o w39 ⟨rfl, hw39⟩
    subst hw39
    go_wp2_with fail
    refine (C41.out _).mono ?_
    rintro o w41 ⟨rfl, hw41⟩
    subst hw41
    go_wp2_with fail
    refine (C42.out _).mono ?_
    rintro o w42 ⟨rfl, hw42⟩
    subst hw42
    go_wp2_with fail
    refine (C44.out _).mono ?_
    rintro o w44 ⟨rfl, hw44⟩
    subst hw44
    go_wp2_with fail
    go_ret
    exact ⟨by first | rfl | (simp; done) | (simp; omega), (Kept.refl _ _).alloc _⟩
  by_cases d9 : kind = 9
  · subst d9
    have C39 : Hid (∀ V, Calls Tryd.prog 39 #[.int .i64 9] V fun o w' => o = .returned (.bool true) ∧ w' = V) := fun V => by
      have q := h39 9 HK.out V
      rw [decide_eq_true (show (9 : Int) ≠ 16 by omega)] at q
      exact q
    have C41 : Hid (∀ V, Calls Tryd.prog 41 #[.int .i64 9] V fun o w' => o = .returned (.bool true) ∧ w' = V) := fun V => by
      have q := h41 9 HK.out V
      rw [decide_eq_true (show (9 : Int) = 9 ∨ (9 : Int) = 10 ∨ (9 : Int) = 14 ∨ (9 : Int) = 16 by omega)] at q
      exact q
    have C42 : Hid (∀ V, Calls Tryd.prog 42 #[.int .i64 9] V fun o w' => o = .returned (.bool false) ∧ w' = V) := fun V => by
      have q := h42 9 HK.out V
      rw [decide_eq_false (show ¬ ((9 : Int) = 1 ∨ (9 : Int) = 2) by omega)] at q
      exact q
    have C44 : Hid (∀ V, Calls Tryd.prog 44 #[.int .i64 9] V fun o w' => o = .returned (.bool true) ∧ w' = V) := fun V => by
      have q := h44 9 HK.out V
      rw [decide_eq_true (show (9 : Int) = 9 ∨ (9 : Int) = 12 ∨ (9 : Int) = 14 ∨ (9 : Int) = 16 by omega)] at q
      exact q
    by_cases tkey : skey = []
    rotate_left
    · have e : r = 1 := HH.out.2.1 ⟨show (1 : Int) ≤ 9 by decide, show (9 : Int) ≤ 16 by decide⟩ (fun z => tkey (z.key (show ¬ useN 9 / 4 % 2 = 1 by decide)))
      have ek := HH.out.2.2.2.1 tkey
      clear HH HX HK
      subst e
      go_enter Tryd.func19, Tryd.ntmps19
      go_wp2_with fail
      refine (C39.out _).mono ?_
      rintro o w39 ⟨rfl, hw39⟩
      subst hw39
      go_wp2_with fail
      refine (C41.out _).mono ?_
      rintro o w41 ⟨rfl, hw41⟩
      subst hw41
      go_wp2_with fail
      refine (C42.out _).mono ?_
      rintro o w42 ⟨rfl, hw42⟩
      subst hw42
      go_wp2_with fail
      go_ret
      exact ⟨by first | rfl | (simp; done) | (simp; omega), (Kept.refl _ _).alloc _⟩
    have ek := HH.out.2.2.1 tkey
    by_cases tval : vn = 0
    rotate_left
    · have e : r = 1 := HH.out.2.1 ⟨show (1 : Int) ≤ 9 by decide, show (9 : Int) ≤ 16 by decide⟩ (fun z => tval (HH.out.2.2.2.2.1.1 (z.val (show ¬ useN 9 / 8 % 2 = 1 by decide))))
      have ti : (0 : Int) < (vn : Int) := by omega
      clear HH HX HK
      subst e
      go_enter Tryd.func19, Tryd.ntmps19
      go_wp2_with fail
      refine (C39.out _).mono ?_
      rintro o w39 ⟨rfl, hw39⟩
      subst hw39
      go_wp2_with fail
      refine (C41.out _).mono ?_
      rintro o w41 ⟨rfl, hw41⟩
      subst hw41
      go_wp2_with fail
      refine (C42.out _).mono ?_
      rintro o w42 ⟨rfl, hw42⟩
      subst hw42
      go_wp2_with fail
      go_ret
      exact ⟨by first | rfl | (simp; done) | (simp; omega), (Kept.refl _ _).alloc _⟩
    have tvi : ¬ (0 : Int) < (vn : Int) := by omega
    subst tval
    by_cases tn : ln = 1
    · subst tn
      obtain ⟨lb, off, rfl, hc⟩ := HX.out.cells (by decide)
      obtain ⟨z, hz⟩ := List.length_eq_one_iff.1 HH.out.2.2.2.2.2.2.1
      subst hz
      have c0 := ((Kept.refl (fun _ => False) w).alloc (.cells #[.int .i64 9, .int .i64 a, .int .i64 b, .string key, .slice va 0 vc, .slice (some ⟨lb, off, none⟩) 1 lc] 38)).cell (hc 0 z rfl) (fun q => q)
      rw [Nat.add_zero] at c0
      clear hc HX HK
      by_cases z1 : z < 0
      · have e : r = 1 := HH.out.2.1 ⟨by decide, by decide⟩ (fun y => by
          have := y.pat rfl
          have q : isPat [z] = (decide (0 ≤ z) && decide (z ≤ 4294967295)) := rfl
          rw [q] at this
          simp at this
          omega)
        clear HH
        subst e
        go_enter Tryd.func19, Tryd.ntmps19
        go_wp2_with fail
        refine (C39.out _).mono ?_
        rintro o w39 ⟨rfl, hw39⟩
        subst hw39
        go_wp2_with fail
        refine (C41.out _).mono ?_
        rintro o w41 ⟨rfl, hw41⟩
        subst hw41
        go_wp2_with fail
        refine (C42.out _).mono ?_
        rintro o w42 ⟨rfl, hw42⟩
        subst hw42
        go_wp2_with fail
        refine (C44.out _).mono ?_
        rintro o w44 ⟨rfl, hw44⟩
        subst hw44
        go_wp2_with fail
        go_ret
        exact ⟨by first | rfl | (simp; done) | (simp; omega), (Kept.refl _ _).alloc _⟩
      by_cases z2 : 4294967295 < z
      · have e : r = 1 := HH.out.2.1 ⟨by decide, by decide⟩ (fun y => by
          have := y.pat rfl
          have q : isPat [z] = (decide (0 ≤ z) && decide (z ≤ 4294967295)) := rfl
          rw [q] at this
          simp at this
          omega)
        clear HH
        subst e
        go_enter Tryd.func19, Tryd.ntmps19
        go_wp2_with fail
        refine (C39.out _).mono ?_
        rintro o w39 ⟨rfl, hw39⟩
        subst hw39
        go_wp2_with fail
        refine (C41.out _).mono ?_
        rintro o w41 ⟨rfl, hw41⟩
        subst hw41
        go_wp2_with fail
        refine (C42.out _).mono ?_
        rintro o w42 ⟨rfl, hw42⟩
        subst hw42
        go_wp2_with fail
        refine (C44.out _).mono ?_
        rintro o w44 ⟨rfl, hw44⟩
        subst hw44
        go_wp2_with fail
        go_ret
        exact ⟨by first | rfl | (simp; done) | (simp; omega), (Kept.refl _ _).alloc _⟩
      have e : r = 0 := HH.out.1 ⟨show (1 : Int) ≤ 9 by decide, show (9 : Int) ≤ 16 by decide, fun z => absurd (show useN 9 % 2 = 1 from rfl) z, fun z => absurd (show useN 9 / 2 % 2 = 1 from rfl) z, fun _ => tkey, fun _ => HH.out.2.2.2.2.1.2 rfl, fun z => absurd (show useN 9 / 16 % 2 = 1 from rfl) z, fun _ => (show (decide (0 ≤ z) && decide (z ≤ 4294967295)) = true by simp; omega)⟩
      clear HH
      subst e
      go_enter Tryd.func19, Tryd.ntmps19
      go_wp2_with fail
      refine (C39.out _).mono ?_
      rintro o w39 ⟨rfl, hw39⟩
      subst hw39
      go_wp2_with fail
      refine (C41.out _).mono ?_
      rintro o w41 ⟨rfl, hw41⟩
      subst hw41
      go_wp2_with fail
      refine (C42.out _).mono ?_
      rintro o w42 ⟨rfl, hw42⟩
      subst hw42
      go_wp2_with fail
      refine (C44.out _).mono ?_
      rintro o w44 ⟨rfl, hw44⟩
      subst hw44
      go_wp2_with fail
      go_ret
      exact ⟨by first | rfl | (simp; done) | (simp; omega), (Kept.refl _ _).alloc _⟩
    · have e : r = 1 := HH.out.2.1 ⟨by decide, by decide⟩ (fun y => by
        have := y.pat rfl
        rw [pat_len (by rw [HH.out.2.2.2.2.2.2.1]; exact tn)] at this
        cases this)
      have ti : ¬ (ln : Int) = 1 := by omega
      clear HH HX HK
      subst e
      go_enter Tryd.func19, Tryd.ntmps19
      go_wp2_with fail
      refine (C39.out _).mono ?_
      rintro o w39 ⟨rfl, hw39⟩
      subst hw39
      go_wp2_with fail
      refine (C41.out _).mono ?_
      rintro o w41 ⟨rfl, hw41⟩
      subst hw41
      go_wp2_with fail
      refine (C42.out _).mono ?_
      rintro o w42 ⟨rfl, hw42⟩
      subst hw42
      go_wp2_with fail
      refine (C44.out _).mono ?_
      rintro o w44 ⟨rfl, hw44⟩
      subst hw44
      go_wp2_with fail
      go_ret
      exact ⟨by first | rfl | (simp; done) | (simp; omega), (Kept.refl _ _).alloc _⟩
  have U : useN kind.toNat = 1 := by
    obtain rfl | rfl | rfl | rfl | rfl | rfl | rfl | rfl | rfl : kind = 3 ∨ kind = 4 ∨ kind = 5 ∨ kind = 6 ∨ kind = 7 ∨ kind = 8 ∨ kind = 11 ∨ kind = 13 ∨ kind = 15 := by omega
    all_goals rfl
  have HU : Hid (useN kind.toNat = 1) := U
  clear U
  have C39 : Hid (∀ V, Calls Tryd.prog 39 #[.int .i64 kind] V fun o w' => o = .returned (.bool true) ∧ w' = V) := fun V => by
    have q := h39 kind HK.out V
    rw [decide_eq_true (show (kind : Int) ≠ 16 by omega)] at q
    exact q
  have C41 : Hid (∀ V, Calls Tryd.prog 41 #[.int .i64 kind] V fun o w' => o = .returned (.bool false) ∧ w' = V) := fun V => by
    have q := h41 kind HK.out V
    rw [decide_eq_false (show ¬ ((kind : Int) = 9 ∨ (kind : Int) = 10 ∨ (kind : Int) = 14 ∨ (kind : Int) = 16) by omega)] at q
    exact q
  have C42 : Hid (∀ V, Calls Tryd.prog 42 #[.int .i64 kind] V fun o w' => o = .returned (.bool false) ∧ w' = V) := fun V => by
    have q := h42 kind HK.out V
    rw [decide_eq_false (show ¬ ((kind : Int) = 1 ∨ (kind : Int) = 2) by omega)] at q
    exact q
  have C44 : Hid (∀ V, Calls Tryd.prog 44 #[.int .i64 kind] V fun o w' => o = .returned (.bool false) ∧ w' = V) := fun V => by
    have q := h44 kind HK.out V
    rw [decide_eq_false (show ¬ ((kind : Int) = 9 ∨ (kind : Int) = 12 ∨ (kind : Int) = 14 ∨ (kind : Int) = 16) by omega)] at q
    exact q
  by_cases tb : b = 0
  rotate_left
  · have e : r = 1 := HH.out.2.1 ⟨show 1 ≤ kind by omega, show kind ≤ 16 by omega⟩ (fun z => tb (z.b (show ¬ useN kind.toNat / 2 % 2 = 1 by rw [HU.out]; decide)))
    clear HH HX HK
    subst e
    go_enter Tryd.func19, Tryd.ntmps19
    go_wp2_with fail
    refine (C39.out _).mono ?_
    rintro o w39 ⟨rfl, hw39⟩
    subst hw39
    go_wp2_with fail
    refine (C41.out _).mono ?_
    rintro o w41 ⟨rfl, hw41⟩
    subst hw41
    go_wp2_with fail
    go_ret
    exact ⟨by first | rfl | (simp; done) | (simp; omega), (Kept.refl _ _).alloc _⟩
  by_cases tkey : skey = []
  rotate_left
  · have e : r = 1 := HH.out.2.1 ⟨show 1 ≤ kind by omega, show kind ≤ 16 by omega⟩ (fun z => tkey (z.key (show ¬ useN kind.toNat / 4 % 2 = 1 by rw [HU.out]; decide)))
    have ek := HH.out.2.2.2.1 tkey
    clear HH HX HK
    subst e
    go_enter Tryd.func19, Tryd.ntmps19
    go_wp2_with fail
    refine (C39.out _).mono ?_
    rintro o w39 ⟨rfl, hw39⟩
    subst hw39
    go_wp2_with fail
    refine (C41.out _).mono ?_
    rintro o w41 ⟨rfl, hw41⟩
    subst hw41
    go_wp2_with fail
    refine (C42.out _).mono ?_
    rintro o w42 ⟨rfl, hw42⟩
    subst hw42
    go_wp2_with fail
    go_ret
    exact ⟨by first | rfl | (simp; done) | (simp; omega), (Kept.refl _ _).alloc _⟩
  have ek := HH.out.2.2.1 tkey
  by_cases tval : vn = 0
  rotate_left
  · have e : r = 1 := HH.out.2.1 ⟨show 1 ≤ kind by omega, show kind ≤ 16 by omega⟩ (fun z => tval (HH.out.2.2.2.2.1.1 (z.val (show ¬ useN kind.toNat / 8 % 2 = 1 by rw [HU.out]; decide))))
    have ti : (0 : Int) < (vn : Int) := by omega
    clear HH HX HK
    subst e
    go_enter Tryd.func19, Tryd.ntmps19
    go_wp2_with fail
    refine (C39.out _).mono ?_
    rintro o w39 ⟨rfl, hw39⟩
    subst hw39
    go_wp2_with fail
    refine (C41.out _).mono ?_
    rintro o w41 ⟨rfl, hw41⟩
    subst hw41
    go_wp2_with fail
    refine (C42.out _).mono ?_
    rintro o w42 ⟨rfl, hw42⟩
    subst hw42
    go_wp2_with fail
    go_ret
    exact ⟨by first | rfl | (simp; done) | (simp; omega), (Kept.refl _ _).alloc _⟩
  have tvi : ¬ (0 : Int) < (vn : Int) := by omega
  by_cases tl : ln = 0
  rotate_left
  · have e : r = 1 := HH.out.2.1 ⟨show 1 ≤ kind by omega, show kind ≤ 16 by omega⟩ (fun z => tl (HH.out.2.2.2.2.2.1.1 (z.l (show ¬ useN kind.toNat / 16 % 2 = 1 by rw [HU.out]; decide))))
    have ti : (0 : Int) < (ln : Int) := by omega
    clear HH HX HK
    subst e
    go_enter Tryd.func19, Tryd.ntmps19
    go_wp2_with fail
    refine (C39.out _).mono ?_
    rintro o w39 ⟨rfl, hw39⟩
    subst hw39
    go_wp2_with fail
    refine (C41.out _).mono ?_
    rintro o w41 ⟨rfl, hw41⟩
    subst hw41
    go_wp2_with fail
    refine (C42.out _).mono ?_
    rintro o w42 ⟨rfl, hw42⟩
    subst hw42
    go_wp2_with fail
    refine (C44.out _).mono ?_
    rintro o w44 ⟨rfl, hw44⟩
    subst hw44
    go_wp2_with fail
    go_ret
    exact ⟨by first | rfl | (simp; done) | (simp; omega), (Kept.refl _ _).alloc _⟩
  have tli : ¬ (0 : Int) < (ln : Int) := by omega
  have e : r = 0 := HH.out.1 ⟨show 1 ≤ kind by omega, show kind ≤ 16 by omega, fun z => absurd (show useN kind.toNat % 2 = 1 by rw [HU.out]) z, fun _ => tb, fun _ => tkey, fun _ => HH.out.2.2.2.2.1.2 tval, fun _ => HH.out.2.2.2.2.2.1.2 tl, fun z => absurd z d9⟩
  clear HH HX HK
  subst e
  go_enter Tryd.func19, Tryd.ntmps19
  go_wp2_with fail
  refine (C39.out _).mono ?_
  rintro o w39 ⟨rfl, hw39⟩
  subst hw39
  go_wp2_with fail
  refine (C41.out _).mono ?_
  rintro o w41 ⟨rfl, hw41⟩
  subst hw41
  go_wp2_with fail
  refine (C42.out _).mono ?_
  rintro o w42 ⟨rfl, hw42⟩
  subst hw42
  go_wp2_with fail
  refine (C44.out _).mono ?_
  rintro o w44 ⟨rfl, hw44⟩
  subst hw44
  go_wp2_with fail
  go_ret
  exact ⟨by first | rfl | (simp; done) | (simp; omega), (Kept.refl _ _).alloc _⟩
end Go.Proofs.YtonfefhegghapaaDoor
