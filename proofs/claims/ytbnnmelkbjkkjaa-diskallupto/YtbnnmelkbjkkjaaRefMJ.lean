import Derived.Test.YtbnnmelkbjkkjaaRefK
namespace Go.Proofs.Ytbnnmelkbjkkjaa
open Go.RowKit

/-- act of the document's disk (70), any. -/
theorem rActR (base B : Nat) (d : RK) (k s : Int) (hk : k = 1 ∨ k = 2 ∨ k = 3 ∨ k = 4) (a : Option Addr) (n c : Nat) (l : List Nat) (w : World) (h : IsR base w B d) (ok : d.ab.Ok) (r : Reads w a n c l) (hn : n ≤ Lim) (hr : 0 < n → ∀ k, blockOf a = some k → k ≠ B) :
    Calls Try.prog 70 #[.pointer (some ⟨B, 0, none⟩), .int .i64 k, .int .i64 s, .slice a n c] w fun x w' => x = .returned (.int .i64 (d.ab.act k s l).2) ∧ ∃ d', IsR base w' B d' ∧ RM w w' B d d' ∧ d'.ab = (d.ab.act k s l).1 := by
  cases hd : d.dead with
  | true =>
    refine (rAct_dead base B d k s a n c w h hd).mono ?_
    rintro x w' ⟨rfl, rfl⟩
    rw [act_dead (A := d.ab) hd]
    exact ⟨rfl, d, h, RM.of_kept (Kept.refl _ _) B d, rfl⟩
  | false =>
    by_cases hs : s = 0 ∨ s = 1
    · by_cases hc : k = 2 ∧ s = (d.cur : Int)
      · obtain ⟨rfl, rfl⟩ := hc
        refine (rAct_cur base B d d.cur (by omega) a n c w h hd rfl).mono ?_
        rintro x w' ⟨rfl, rfl⟩
        rw [show d.ab.act 2 (d.cur : Int) l = (d.ab, 61) from act_bad (A := d.ab) hd (.inr ⟨rfl, rfl⟩) l]
        exact ⟨rfl, d, h, RM.of_kept (Kept.refl _ _) B d, rfl⟩
      · have ns : ¬ (¬ (s = 0 ∨ s = 1) ∨ (k = 2 ∧ s = (d.ab.cur : Int))) := by
          rintro (z | z)
          · exact z hs
          · exact hc z
        obtain ⟨j, hj, rfl⟩ : ∃ j : Nat, (j = 0 ∨ j = 1) ∧ s = (j : Int) := by
          rcases hs with rfl | rfl
          · exact ⟨0, .inl rfl, rfl⟩
          · exact ⟨1, .inr rfl, rfl⟩
        have nc : k = 2 → ¬ d.cur = j := fun z q => hc ⟨z, by rw [q]⟩
        have key : ∀ (t : AB × Int), d.ab.act k (j : Int) l = t → ∀ (x : Ending) (w' : World), (x = .returned (.int .i64 t.2) ∧ ∃ d', IsR base w' B d' ∧ RM w w' B d d' ∧ d'.ab = t.1) → (x = .returned (.int .i64 (d.ab.act k (j : Int) l).2) ∧ ∃ d', IsR base w' B d' ∧ RM w w' B d d' ∧ d'.ab = (d.ab.act k (j : Int) l).1) := fun t e x w' q => by rw [e]; exact q
        have nm := ok.named
        have nm0 : 0 ≤ d.named := nm.1
        have nm1 : d.named < 9223372036854775808 := nm.2
        by_cases hN : d.named = 1
        · cases hdn : d.done with
          | false =>
            refine (rAct_stopN base B d k hk j hj a n c w h hd nc hN hdn).mono ?_
            rintro x w' q
            exact key _ (act_stopN (A := d.ab) hd ns hN hdn l) x w' q
          | true =>
            have e := act_stopD (A := d.ab) hd ns hN hdn l
            rw [Int.toNat_natCast, put_counted] at e
            rcases hk with rfl | rfl | rfl | rfl <;> rcases hj with rfl | rfl
            · exact (rA_1_0_2 base B d a n c l w h ok hd hN hdn r hn hr).mono (fun x w' q => key _ e x w' q)
            · exact (rA_1_1_2 base B d a n c l w h ok hd hN hdn r hn hr).mono (fun x w' q => key _ e x w' q)
            · exact (rA_2_0_2 base B d a n c l w h ok hd hN hdn (nc rfl)).mono (fun x w' q => key _ e x w' q)
            · exact (rA_2_1_2 base B d a n c l w h ok hd hN hdn (nc rfl)).mono (fun x w' q => key _ e x w' q)
            · exact (rA_3_0_2 base B d a n c l w h ok hd hN hdn).mono (fun x w' q => key _ e x w' q)
            · exact (rA_3_1_2 base B d a n c l w h ok hd hN hdn).mono (fun x w' q => key _ e x w' q)
            · exact (rA_4_0_2 base B d a n c l w h ok hd hN hdn).mono (fun x w' q => key _ e x w' q)
            · exact (rA_4_1_2 base B d a n c l w h ok hd hN hdn).mono (fun x w' q => key _ e x w' q)
        · have e := act_go (A := d.ab) hd ns hN l
          rw [Int.toNat_natCast, put_counted] at e
          by_cases hz : d.named = 0
          · rcases hk with rfl | rfl | rfl | rfl <;> rcases hj with rfl | rfl
            · exact (rA_1_0_0 base B d a n c l w h ok hd hz r hn hr).mono (fun x w' q => key _ e x w' q)
            · exact (rA_1_1_0 base B d a n c l w h ok hd hz r hn hr).mono (fun x w' q => key _ e x w' q)
            · exact (rA_2_0_0 base B d a n c l w h ok hd hz (nc rfl)).mono (fun x w' q => key _ e x w' q)
            · exact (rA_2_1_0 base B d a n c l w h ok hd hz (nc rfl)).mono (fun x w' q => key _ e x w' q)
            · exact (rA_3_0_0 base B d a n c l w h ok hd hz).mono (fun x w' q => key _ e x w' q)
            · exact (rA_3_1_0 base B d a n c l w h ok hd hz).mono (fun x w' q => key _ e x w' q)
            · exact (rA_4_0_0 base B d a n c l w h ok hd hz).mono (fun x w' q => key _ e x w' q)
            · exact (rA_4_1_0 base B d a n c l w h ok hd hz).mono (fun x w' q => key _ e x w' q)
          · have h2 : 1 < d.named := by omega
            rcases hk with rfl | rfl | rfl | rfl <;> rcases hj with rfl | rfl
            · exact (rA_1_0_1 base B d a n c l w h ok hd h2 nm1 r hn hr).mono (fun x w' q => key _ e x w' q)
            · exact (rA_1_1_1 base B d a n c l w h ok hd h2 nm1 r hn hr).mono (fun x w' q => key _ e x w' q)
            · exact (rA_2_0_1 base B d a n c l w h ok hd h2 nm1 (nc rfl)).mono (fun x w' q => key _ e x w' q)
            · exact (rA_2_1_1 base B d a n c l w h ok hd h2 nm1 (nc rfl)).mono (fun x w' q => key _ e x w' q)
            · exact (rA_3_0_1 base B d a n c l w h ok hd h2 nm1).mono (fun x w' q => key _ e x w' q)
            · exact (rA_3_1_1 base B d a n c l w h ok hd h2 nm1).mono (fun x w' q => key _ e x w' q)
            · exact (rA_4_0_1 base B d a n c l w h ok hd h2 nm1).mono (fun x w' q => key _ e x w' q)
            · exact (rA_4_1_1 base B d a n c l w h ok hd h2 nm1).mono (fun x w' q => key _ e x w' q)
    · refine (rAct_off base B d k s a n c w h hd hs).mono ?_
      rintro x w' ⟨rfl, rfl⟩
      rw [act_bad (A := d.ab) hd (.inl hs)]
      exact ⟨rfl, d, h, RM.of_kept (Kept.refl _ _) B d, rfl⟩
end Go.Proofs.Ytbnnmelkbjkkjaa

namespace Go.Proofs.Ytbnnmelkbjkkjaa
open Go.RowKit

set_option maxRecDepth 100000 in
theorem rAppend (base B : Nat) (d : RK) (s : Int) (a : Option Addr) (n c : Nat) (l : List Nat) (w : World) (h : IsR base w B d) (ok : d.ab.Ok) (r : Reads w a n c l) (hn : n ≤ Lim) (hr : 0 < n → ∀ k, blockOf a = some k → k ≠ B) :
    Calls Try.prog 62 #[.pointer (some ⟨B, 0, none⟩), .int .i64 s, .slice a n c] w fun x w' => x = .returned (.int .i64 (d.ab.act 1 s l).2) ∧ ∃ d', IsR base w' B d' ∧ RM w w' B d d' ∧ d'.ab = (d.ab.act 1 s l).1 := by
  have H : Hid (IsR base w B d ∧ d.ab.Ok ∧ Reads w a n c l ∧ n ≤ Lim ∧ (0 < n → ∀ k, blockOf a = some k → k ≠ B)) := ⟨h, ok, r, hn, hr⟩
  obtain ⟨ac, hac⟩ : ∃ ac, ac = d.ab.act 1 s l := ⟨_, rfl⟩
  have AC : Hid (ac = d.ab.act 1 s l) := hac
  rw [← hac]
  clear h ok r hn hr hac
  go_enter Try.func62, Try.ntmps62
  go_wp2_with fail
  refine (rActR base B d 1 s (.inl rfl) a n c l w H.out.1 H.out.2.1 H.out.2.2.1 H.out.2.2.2.1 H.out.2.2.2.2).mono ?_
  rw [← AC.out]
  obtain ⟨A', v⟩ := ac
  rintro x w2 ⟨rfl, q⟩
  have Q : Hid (∃ d', IsR base w2 B d' ∧ RM w w2 B d d' ∧ d'.ab = A') := q
  clear q
  go_wp2_with fail
  go_ret
  exact ⟨rfl, Q.out⟩
set_option maxRecDepth 100000 in
theorem rWipe (base B : Nat) (d : RK) (s : Int) (w : World) (h : IsR base w B d) (ok : d.ab.Ok) :
    Calls Try.prog 63 #[.pointer (some ⟨B, 0, none⟩), .int .i64 s] w fun x w' => x = .returned (.int .i64 (d.ab.act 2 s []).2) ∧ ∃ d', IsR base w' B d' ∧ RM w w' B d d' ∧ d'.ab = (d.ab.act 2 s []).1 := by
  have H : Hid (IsR base w B d ∧ d.ab.Ok) := ⟨h, ok⟩
  obtain ⟨ac, hac⟩ : ∃ ac, ac = d.ab.act 2 s [] := ⟨_, rfl⟩
  have AC : Hid (ac = d.ab.act 2 s []) := hac
  rw [← hac]
  clear h ok hac
  go_enter Try.func63, Try.ntmps63
  go_wp2_with fail
  refine (rActR base B d 2 s (by omega) none 0 0 [] w H.out.1 H.out.2 (Reads.nil _) (Nat.zero_le _) (fun h0 => absurd h0 (Nat.lt_irrefl _))).mono ?_
  rw [← AC.out]
  obtain ⟨A', v⟩ := ac
  rintro x w2 ⟨rfl, q⟩
  have Q : Hid (∃ d', IsR base w2 B d' ∧ RM w w2 B d d' ∧ d'.ab = A') := q
  clear q
  go_wp2_with fail
  go_ret
  exact ⟨rfl, Q.out⟩
set_option maxRecDepth 100000 in
theorem rSync (base B : Nat) (d : RK) (s : Int) (w : World) (h : IsR base w B d) (ok : d.ab.Ok) :
    Calls Try.prog 64 #[.pointer (some ⟨B, 0, none⟩), .int .i64 s] w fun x w' => x = .returned (.int .i64 (d.ab.act 3 s []).2) ∧ ∃ d', IsR base w' B d' ∧ RM w w' B d d' ∧ d'.ab = (d.ab.act 3 s []).1 := by
  have H : Hid (IsR base w B d ∧ d.ab.Ok) := ⟨h, ok⟩
  obtain ⟨ac, hac⟩ : ∃ ac, ac = d.ab.act 3 s [] := ⟨_, rfl⟩
  have AC : Hid (ac = d.ab.act 3 s []) := hac
  rw [← hac]
  clear h ok hac
  go_enter Try.func64, Try.ntmps64
  go_wp2_with fail
  refine (rActR base B d 3 s (by omega) none 0 0 [] w H.out.1 H.out.2 (Reads.nil _) (Nat.zero_le _) (fun h0 => absurd h0 (Nat.lt_irrefl _))).mono ?_
  rw [← AC.out]
  obtain ⟨A', v⟩ := ac
  rintro x w2 ⟨rfl, q⟩
  have Q : Hid (∃ d', IsR base w2 B d' ∧ RM w w2 B d d' ∧ d'.ab = A') := q
  clear q
  go_wp2_with fail
  go_ret
  exact ⟨rfl, Q.out⟩
set_option maxRecDepth 100000 in
theorem rSwitch (base B : Nat) (d : RK) (s : Int) (w : World) (h : IsR base w B d) (ok : d.ab.Ok) :
    Calls Try.prog 65 #[.pointer (some ⟨B, 0, none⟩), .int .i64 s] w fun x w' => x = .returned (.int .i64 (d.ab.act 4 s []).2) ∧ ∃ d', IsR base w' B d' ∧ RM w w' B d d' ∧ d'.ab = (d.ab.act 4 s []).1 := by
  have H : Hid (IsR base w B d ∧ d.ab.Ok) := ⟨h, ok⟩
  obtain ⟨ac, hac⟩ : ∃ ac, ac = d.ab.act 4 s [] := ⟨_, rfl⟩
  have AC : Hid (ac = d.ab.act 4 s []) := hac
  rw [← hac]
  clear h ok hac
  go_enter Try.func65, Try.ntmps65
  go_wp2_with fail
  refine (rActR base B d 4 s (by omega) none 0 0 [] w H.out.1 H.out.2 (Reads.nil _) (Nat.zero_le _) (fun h0 => absurd h0 (Nat.lt_irrefl _))).mono ?_
  rw [← AC.out]
  obtain ⟨A', v⟩ := ac
  rintro x w2 ⟨rfl, q⟩
  have Q : Hid (∃ d', IsR base w2 B d' ∧ RM w w2 B d d' ∧ d'.ab = A') := q
  clear q
  go_wp2_with fail
  go_ret
  exact ⟨rfl, Q.out⟩
set_option maxRecDepth 100000 in
set_option maxHeartbeats 1000000 in
/-- actOf (47): the four acts, and Stop. -/
theorem rActOf (base B : Nat) (d : RK) (o : Opv) (cs : Array Value) (hcs : cs = o.cs) (sl : o.Sl) (hk : 1 ≤ o.kind ∧ o.kind ≤ 4) (w : World) (h : IsR base w B d) (ok : d.ab.Ok) (r : Reads w o.a o.n o.c o.l) (hn : o.n ≤ Lim) (hr : 0 < o.n → ∀ k, blockOf o.a = some k → k ≠ B) :
    Calls Try.prog 47 #[.pointer (some ⟨B, 0, none⟩), .agg cs] w fun x w' => x = .returned (.int .i64 (d.ab.act o.kind o.slot (if o.kind = 1 then o.l else [])).2) ∧ ∃ d', IsR base w' B d' ∧ RM w w' B d d' ∧ d'.ab = (d.ab.act o.kind o.slot (if o.kind = 1 then o.l else [])).1 := by
  obtain ⟨W, hW⟩ : ∃ W, W = w.alloc (.cells o.cs 46) := ⟨_, rfl⟩
  obtain ⟨b0, m0, e0, b1, m1, e1, b2, m2, e2, hv0, hv1, hv2⟩ := sl
  have OC : #[.int .i64 o.kind, .int .i64 o.D, .int .i64 o.slot, .slice o.a o.n o.c, .int .i64 o.N, .bool o.done, .slice b0 m0 e0, .slice b1 m1 e1, .slice b2 m2 e2] = o.cs := by unfold Opv.cs; rw [hv0, hv1, hv2]
  have EW : Hid (W = w.alloc (.cells #[.int .i64 o.kind, .int .i64 o.D, .int .i64 o.slot, .slice o.a o.n o.c, .int .i64 o.N, .bool o.done, .slice b0 m0 e0, .slice b1 m1 e1, .slice b2 m2 e2] 46)) := by show W = _; rw [OC]; exact hW
  have K : Kept (fun _ => False) w W := by rw [hW]; exact alloc_kept0 _ _
  have X : Hid (IsR base W B d ∧ d.ab.Ok ∧ Reads W o.a o.n o.c o.l ∧ o.n ≤ Lim ∧ (0 < o.n → ∀ k, blockOf o.a = some k → k ≠ B) ∧ RM w W B d d) := ⟨h.kept0 K, ok, r.kept' K (fun _ _ z => z), hn, hr, RM.of_kept K B d⟩
  subst hcs
  rw [← OC]
  obtain ⟨kd, hkd⟩ : ∃ kd, o.kind = kd := ⟨_, rfl⟩
  rw [hkd] at hk ⊢
  rw [hkd] at EW
  have hk4 : kd = 1 ∨ kd = 2 ∨ kd = 3 ∨ kd = 4 := by omega
  obtain ⟨ac, hac⟩ : ∃ ac, ac = d.ab.act kd o.slot (if kd = 1 then o.l else []) := ⟨_, rfl⟩
  rw [← hac]
  have AC : Hid (ac = d.ab.act kd o.slot (if kd = 1 then o.l else [])) := hac
  clear h ok r hn hr hW K hk hkd hac OC hv0 hv1 hv2
  rcases hk4 with rfl | rfl | rfl | rfl
  · rw [if_pos rfl] at AC
    go_enter Try.func47, Try.ntmps47
    go_wp2_with fail
    rw [← EW.out]
    refine (rAppend base B d o.slot o.a o.n o.c o.l W X.out.1 X.out.2.1 X.out.2.2.1 X.out.2.2.2.1 X.out.2.2.2.2.1).mono ?_
    rw [← AC.out]
    obtain ⟨A', v⟩ := ac
    rintro x w2 ⟨rfl, d', q1, q2, q3⟩
    have Q : Hid (∃ d', IsR base w2 B d' ∧ RM w w2 B d d' ∧ d'.ab = A') := ⟨d', q1, X.out.2.2.2.2.2.trans q2, q3⟩
    clear q1 q2 q3
    go_wp2_with fail
    go_ret
    exact ⟨rfl, Q.out⟩
  · rw [if_neg (by decide)] at AC
    go_enter Try.func47, Try.ntmps47
    go_wp2_with fail
    rw [← EW.out]
    refine (rWipe base B d o.slot W X.out.1 X.out.2.1).mono ?_
    rw [← AC.out]
    obtain ⟨A', v⟩ := ac
    rintro x w2 ⟨rfl, d', q1, q2, q3⟩
    have Q : Hid (∃ d', IsR base w2 B d' ∧ RM w w2 B d d' ∧ d'.ab = A') := ⟨d', q1, X.out.2.2.2.2.2.trans q2, q3⟩
    clear q1 q2 q3
    go_wp2_with fail
    go_ret
    exact ⟨rfl, Q.out⟩
  · rw [if_neg (by decide)] at AC
    go_enter Try.func47, Try.ntmps47
    go_wp2_with fail
    rw [← EW.out]
    refine (rSync base B d o.slot W X.out.1 X.out.2.1).mono ?_
    rw [← AC.out]
    obtain ⟨A', v⟩ := ac
    rintro x w2 ⟨rfl, d', q1, q2, q3⟩
    have Q : Hid (∃ d', IsR base w2 B d' ∧ RM w w2 B d d' ∧ d'.ab = A') := ⟨d', q1, X.out.2.2.2.2.2.trans q2, q3⟩
    clear q1 q2 q3
    go_wp2_with fail
    go_ret
    exact ⟨rfl, Q.out⟩
  · rw [if_neg (by decide)] at AC
    go_enter Try.func47, Try.ntmps47
    go_wp2_with fail
    rw [← EW.out]
    refine (rSwitch base B d o.slot W X.out.1 X.out.2.1).mono ?_
    rw [← AC.out]
    obtain ⟨A', v⟩ := ac
    rintro x w2 ⟨rfl, d', q1, q2, q3⟩
    have Q : Hid (∃ d', IsR base w2 B d' ∧ RM w w2 B d d' ∧ d'.ab = A') := ⟨d', q1, X.out.2.2.2.2.2.trans q2, q3⟩
    clear q1 q2 q3
    go_wp2_with fail
    go_ret
    exact ⟨rfl, Q.out⟩
end Go.Proofs.Ytbnnmelkbjkkjaa
