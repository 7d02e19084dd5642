import Derived.Test.YtbnnmelkbjkkjaaFour1
import Derived.Test.YtbnnmelkbjkkjaaLastsJ
import Derived.Test.YtbnnmelkbjkkjaaStopJ
namespace Go.Proofs.Ytbnnmelkbjkkjaa
open Go.RowKit

/-- What one of the four acts does. -/
def AB.put (A : AB) (kind : Int) (i : Nat) (l : List Nat) : AB := if kind = 1 then A.add i l else if kind = 2 then A.more i none else if kind = 3 then A.sync i else A.switch i
/-- What one of the four acts answers, and what it makes of any disk. -/
def AB.act (A : AB) (kind slot : Int) (l : List Nat) : AB × Int :=
  if A.dead = true then (A, 60)
  else if ¬ (slot = 0 ∨ slot = 1) ∨ (kind = 2 ∧ slot = (A.cur : Int)) then (A, 61)
  else if A.named = 1 then (if A.done = true then ((A.stopped.put kind slot.toNat l).counted, 60) else (A.stopped, 60))
  else ((A.tick.put kind slot.toNat l).counted, 0)
theorem act_dead {A : AB} (h : A.dead = true) (k s : Int) (l : List Nat) : A.act k s l = (A, 60) := by unfold AB.act; rw [if_pos h]
theorem act_bad {A : AB} (h : A.dead = false) {k s : Int} (hs : ¬ (s = 0 ∨ s = 1) ∨ (k = 2 ∧ s = (A.cur : Int))) (l : List Nat) : A.act k s l = (A, 61) := by unfold AB.act; rw [if_neg (by rw [h]; decide), if_pos hs]
theorem act_go {A : AB} (h : A.dead = false) {k s : Int} (hs : ¬ (¬ (s = 0 ∨ s = 1) ∨ (k = 2 ∧ s = (A.cur : Int)))) (hN : A.named ≠ 1) (l : List Nat) : A.act k s l = ((A.tick.put k s.toNat l).counted, 0) := by unfold AB.act; rw [if_neg (by rw [h]; decide), if_neg hs, if_neg hN]
theorem act_stopD {A : AB} (h : A.dead = false) {k s : Int} (hs : ¬ (¬ (s = 0 ∨ s = 1) ∨ (k = 2 ∧ s = (A.cur : Int)))) (hN : A.named = 1) (hdn : A.done = true) (l : List Nat) : A.act k s l = ((A.stopped.put k s.toNat l).counted, 60) := by unfold AB.act; rw [if_neg (by rw [h]; decide), if_neg hs, if_pos hN, if_pos hdn]
theorem act_stopN {A : AB} (h : A.dead = false) {k s : Int} (hs : ¬ (¬ (s = 0 ∨ s = 1) ∨ (k = 2 ∧ s = (A.cur : Int)))) (hN : A.named = 1) (hdn : A.done = false) (l : List Nat) : A.act k s l = (A.stopped, 60) := by unfold AB.act; rw [if_neg (by rw [h]; decide), if_neg hs, if_pos hN, if_neg (by rw [hdn]; decide)]
theorem look_dead {A : AB} (h : A.dead = true) (i : Int) : lookE A i = 60 := by unfold lookE; rw [if_pos h]
theorem look_off {A : AB} (h : A.dead = false) {i : Int} (hi : ¬ (i = 0 ∨ i = 1)) : lookE A i = 61 := by unfold lookE; rw [if_neg (by rw [h]; decide), if_neg hi]

theorem gAppend (base B : Nat) (d : DK) (s : Int) (a : Option Addr) (n c : Nat) (l : List Nat) (w : World) (h : IsD base w B d) (ok : d.ab.Ok) (r : Reads w a n c l) (hn : n ≤ Lim) (hr : ∀ k, blockOf a = some k → k ≠ B) :
    Calls Try.prog 12 #[.pointer (some ⟨B, 0, none⟩), .int .i64 s, .slice a n c] w fun x w' => x = .returned (.int .i64 (d.ab.act 1 s l).2) ∧ ∃ d', IsD base w' B d' ∧ DM w w' B d d' ∧ d'.ab = (d.ab.act 1 s l).1 := by
  cases hd : d.dead with
  | true =>
    refine (dAppend_bad base B d s a n c w h (by rw [look_dead hd]; decide)).mono ?_
    rintro x w' ⟨rfl, K⟩
    rw [act_dead hd, look_dead hd]
    exact ⟨rfl, d, h.kept0 K, DM.of_kept K B d, rfl⟩
  | false =>
    by_cases hs : s = 0 ∨ s = 1
    · have key : ∀ (t : AB × Int), d.ab.act 1 s l = t → ∀ (x : Ending) (w' : World), (x = .returned (.int .i64 t.2) ∧ ∃ d', IsD base w' B d' ∧ DM w w' B d d' ∧ d'.ab = t.1) → (x = .returned (.int .i64 (d.ab.act 1 s l).2) ∧ ∃ d', IsD base w' B d' ∧ DM w w' B d d' ∧ d'.ab = (d.ab.act 1 s l).1) := fun t e x w' q => by rw [e]; exact q

      rcases hs with rfl | rfl
      · have ns : ¬ (¬ ((0 : Int) = 0 ∨ (0 : Int) = 1) ∨ ((1 : Int) = 2 ∧ (0 : Int) = (d.ab.cur : Int))) := by
          rintro (z | ⟨z, _⟩)
          · omega
          · omega
        by_cases hN : d.named = 1
        · cases hdn : d.done with
          | true =>
            refine (stopAppendD_0 base B d a n c w l h hd hN hdn ok r hn hr).mono ?_
            rintro x w' q
            exact key _ (act_stopD hd ns hN hdn l) x w' q
          | false =>
            refine (stopAppendN_0 base B d a n c w h hd hN hdn).mono ?_
            rintro x w' q
            exact key _ (act_stopN hd ns hN hdn l) x w' q
        · refine (dAppend_0 base B d a n c w l h hd hN ok r hn hr).mono ?_
          rintro x w' q
          exact key _ (act_go hd ns hN l) x w' q
      · have ns : ¬ (¬ ((1 : Int) = 0 ∨ (1 : Int) = 1) ∨ ((1 : Int) = 2 ∧ (1 : Int) = (d.ab.cur : Int))) := by
          rintro (z | ⟨z, _⟩)
          · omega
          · omega
        by_cases hN : d.named = 1
        · cases hdn : d.done with
          | true =>
            refine (stopAppendD_1 base B d a n c w l h hd hN hdn ok r hn hr).mono ?_
            rintro x w' q
            exact key _ (act_stopD hd ns hN hdn l) x w' q
          | false =>
            refine (stopAppendN_1 base B d a n c w h hd hN hdn).mono ?_
            rintro x w' q
            exact key _ (act_stopN hd ns hN hdn l) x w' q
        · refine (dAppend_1 base B d a n c w l h hd hN ok r hn hr).mono ?_
          rintro x w' q
          exact key _ (act_go hd ns hN l) x w' q
    · refine (dAppend_bad base B d s a n c w h (by rw [look_off hd hs]; decide)).mono ?_
      rintro x w' ⟨rfl, K⟩
      rw [act_bad hd (.inl hs), look_off hd hs]
      exact ⟨rfl, d, h.kept0 K, DM.of_kept K B d, rfl⟩

theorem gWipe (base B : Nat) (d : DK) (s : Int) (l : List Nat) (w : World) (h : IsD base w B d) (ok : d.ab.Ok) :
    Calls Try.prog 29 #[.pointer (some ⟨B, 0, none⟩), .int .i64 s] w fun x w' => x = .returned (.int .i64 (d.ab.act 2 s l).2) ∧ ∃ d', IsD base w' B d' ∧ DM w w' B d d' ∧ d'.ab = (d.ab.act 2 s l).1 := by
  cases hd : d.dead with
  | true =>
    refine (dWipe_bad base B d s w h (by rw [look_dead hd]; decide)).mono ?_
    rintro x w' ⟨rfl, K⟩
    rw [act_dead hd, look_dead hd]
    exact ⟨rfl, d, h.kept0 K, DM.of_kept K B d, rfl⟩
  | false =>
    by_cases hs : s = 0 ∨ s = 1
    · have key : ∀ (t : AB × Int), d.ab.act 2 s l = t → ∀ (x : Ending) (w' : World), (x = .returned (.int .i64 t.2) ∧ ∃ d', IsD base w' B d' ∧ DM w w' B d d' ∧ d'.ab = t.1) → (x = .returned (.int .i64 (d.ab.act 2 s l).2) ∧ ∃ d', IsD base w' B d' ∧ DM w w' B d d' ∧ d'.ab = (d.ab.act 2 s l).1) := fun t e x w' q => by rw [e]; exact q

      rcases hs with rfl | rfl
      · by_cases hc : d.cur = 0
        · refine (dWipe_cur0 base B d w h hd hc).mono ?_
          rintro x w' ⟨rfl, K⟩
          exact key _ (act_bad hd (.inr ⟨rfl, by show (0 : Int) = (d.cur : Int); omega⟩) l) _ _ ⟨rfl, d, h.kept0 K, DM.of_kept K B d, rfl⟩
        · have ns : ¬ (¬ ((0 : Int) = 0 ∨ (0 : Int) = 1) ∨ ((2 : Int) = 2 ∧ (0 : Int) = (d.ab.cur : Int))) := by
            rintro (z | ⟨_, z⟩)
            · omega
            · have z : (0 : Int) = (d.cur : Int) := z
              omega
          by_cases hN : d.named = 1
          · cases hdn : d.done with
            | true =>
              refine (stopWipeD_0 base B d w h hd hN hdn ok hc).mono ?_
              rintro x w' q
              exact key _ (act_stopD hd ns hN hdn l) x w' q
            | false =>
              refine (stopWipeN_0 base B d w h hd hN hdn hc).mono ?_
              rintro x w' q
              exact key _ (act_stopN hd ns hN hdn l) x w' q
          · refine (dWipe_0 base B d w h hd hN ok hc).mono ?_
            rintro x w' q
            exact key _ (act_go hd ns hN l) x w' q
      · by_cases hc : d.cur = 1
        · refine (dWipe_cur1 base B d w h hd hc).mono ?_
          rintro x w' ⟨rfl, K⟩
          exact key _ (act_bad hd (.inr ⟨rfl, by show (1 : Int) = (d.cur : Int); omega⟩) l) _ _ ⟨rfl, d, h.kept0 K, DM.of_kept K B d, rfl⟩
        · have ns : ¬ (¬ ((1 : Int) = 0 ∨ (1 : Int) = 1) ∨ ((2 : Int) = 2 ∧ (1 : Int) = (d.ab.cur : Int))) := by
            rintro (z | ⟨_, z⟩)
            · omega
            · have z : (1 : Int) = (d.cur : Int) := z
              omega
          by_cases hN : d.named = 1
          · cases hdn : d.done with
            | true =>
              refine (stopWipeD_1 base B d w h hd hN hdn ok hc).mono ?_
              rintro x w' q
              exact key _ (act_stopD hd ns hN hdn l) x w' q
            | false =>
              refine (stopWipeN_1 base B d w h hd hN hdn hc).mono ?_
              rintro x w' q
              exact key _ (act_stopN hd ns hN hdn l) x w' q
          · refine (dWipe_1 base B d w h hd hN ok hc).mono ?_
            rintro x w' q
            exact key _ (act_go hd ns hN l) x w' q
    · refine (dWipe_bad base B d s w h (by rw [look_off hd hs]; decide)).mono ?_
      rintro x w' ⟨rfl, K⟩
      rw [act_bad hd (.inl hs), look_off hd hs]
      exact ⟨rfl, d, h.kept0 K, DM.of_kept K B d, rfl⟩

theorem gSync (base B : Nat) (d : DK) (s : Int) (l : List Nat) (w : World) (h : IsD base w B d) (ok : d.ab.Ok) :
    Calls Try.prog 19 #[.pointer (some ⟨B, 0, none⟩), .int .i64 s] w fun x w' => x = .returned (.int .i64 (d.ab.act 3 s l).2) ∧ ∃ d', IsD base w' B d' ∧ DM w w' B d d' ∧ d'.ab = (d.ab.act 3 s l).1 := by
  cases hd : d.dead with
  | true =>
    refine (dSync_bad base B d s w h (by rw [look_dead hd]; decide)).mono ?_
    rintro x w' ⟨rfl, K⟩
    rw [act_dead hd, look_dead hd]
    exact ⟨rfl, d, h.kept0 K, DM.of_kept K B d, rfl⟩
  | false =>
    by_cases hs : s = 0 ∨ s = 1
    · have key : ∀ (t : AB × Int), d.ab.act 3 s l = t → ∀ (x : Ending) (w' : World), (x = .returned (.int .i64 t.2) ∧ ∃ d', IsD base w' B d' ∧ DM w w' B d d' ∧ d'.ab = t.1) → (x = .returned (.int .i64 (d.ab.act 3 s l).2) ∧ ∃ d', IsD base w' B d' ∧ DM w w' B d d' ∧ d'.ab = (d.ab.act 3 s l).1) := fun t e x w' q => by rw [e]; exact q

      rcases hs with rfl | rfl
      · have ns : ¬ (¬ ((0 : Int) = 0 ∨ (0 : Int) = 1) ∨ ((3 : Int) = 2 ∧ (0 : Int) = (d.ab.cur : Int))) := by
          rintro (z | ⟨z, _⟩)
          · omega
          · omega
        by_cases hN : d.named = 1
        · cases hdn : d.done with
          | true =>
            refine (stopSyncD_0 base B d w h hd hN hdn ok).mono ?_
            rintro x w' q
            exact key _ (act_stopD hd ns hN hdn l) x w' q
          | false =>
            refine (stopSyncN_0 base B d w h hd hN hdn).mono ?_
            rintro x w' q
            exact key _ (act_stopN hd ns hN hdn l) x w' q
        · refine (dSync_0 base B d w h hd hN ok).mono ?_
          rintro x w' q
          exact key _ (act_go hd ns hN l) x w' q
      · have ns : ¬ (¬ ((1 : Int) = 0 ∨ (1 : Int) = 1) ∨ ((3 : Int) = 2 ∧ (1 : Int) = (d.ab.cur : Int))) := by
          rintro (z | ⟨z, _⟩)
          · omega
          · omega
        by_cases hN : d.named = 1
        · cases hdn : d.done with
          | true =>
            refine (stopSyncD_1 base B d w h hd hN hdn ok).mono ?_
            rintro x w' q
            exact key _ (act_stopD hd ns hN hdn l) x w' q
          | false =>
            refine (stopSyncN_1 base B d w h hd hN hdn).mono ?_
            rintro x w' q
            exact key _ (act_stopN hd ns hN hdn l) x w' q
        · refine (dSync_1 base B d w h hd hN ok).mono ?_
          rintro x w' q
          exact key _ (act_go hd ns hN l) x w' q
    · refine (dSync_bad base B d s w h (by rw [look_off hd hs]; decide)).mono ?_
      rintro x w' ⟨rfl, K⟩
      rw [act_bad hd (.inl hs), look_off hd hs]
      exact ⟨rfl, d, h.kept0 K, DM.of_kept K B d, rfl⟩

theorem gSwitch (base B : Nat) (d : DK) (s : Int) (l : List Nat) (w : World) (h : IsD base w B d) (ok : d.ab.Ok) :
    Calls Try.prog 28 #[.pointer (some ⟨B, 0, none⟩), .int .i64 s] w fun x w' => x = .returned (.int .i64 (d.ab.act 4 s l).2) ∧ ∃ d', IsD base w' B d' ∧ DM w w' B d d' ∧ d'.ab = (d.ab.act 4 s l).1 := by
  cases hd : d.dead with
  | true =>
    refine (dSwitch_bad base B d s w h (by rw [look_dead hd]; decide)).mono ?_
    rintro x w' ⟨rfl, K⟩
    rw [act_dead hd, look_dead hd]
    exact ⟨rfl, d, h.kept0 K, DM.of_kept K B d, rfl⟩
  | false =>
    by_cases hs : s = 0 ∨ s = 1
    · have key : ∀ (t : AB × Int), d.ab.act 4 s l = t → ∀ (x : Ending) (w' : World), (x = .returned (.int .i64 t.2) ∧ ∃ d', IsD base w' B d' ∧ DM w w' B d d' ∧ d'.ab = t.1) → (x = .returned (.int .i64 (d.ab.act 4 s l).2) ∧ ∃ d', IsD base w' B d' ∧ DM w w' B d d' ∧ d'.ab = (d.ab.act 4 s l).1) := fun t e x w' q => by rw [e]; exact q

      rcases hs with rfl | rfl
      · have ns : ¬ (¬ ((0 : Int) = 0 ∨ (0 : Int) = 1) ∨ ((4 : Int) = 2 ∧ (0 : Int) = (d.ab.cur : Int))) := by
          rintro (z | ⟨z, _⟩)
          · omega
          · omega
        by_cases hN : d.named = 1
        · cases hdn : d.done with
          | true =>
            refine (stopSwitchD_0 base B d w h hd hN hdn ok).mono ?_
            rintro x w' q
            exact key _ (act_stopD hd ns hN hdn l) x w' q
          | false =>
            refine (stopSwitchN_0 base B d w h hd hN hdn).mono ?_
            rintro x w' q
            exact key _ (act_stopN hd ns hN hdn l) x w' q
        · refine (dSwitch_0 base B d w h hd hN ok).mono ?_
          rintro x w' q
          exact key _ (act_go hd ns hN l) x w' q
      · have ns : ¬ (¬ ((1 : Int) = 0 ∨ (1 : Int) = 1) ∨ ((4 : Int) = 2 ∧ (1 : Int) = (d.ab.cur : Int))) := by
          rintro (z | ⟨z, _⟩)
          · omega
          · omega
        by_cases hN : d.named = 1
        · cases hdn : d.done with
          | true =>
            refine (stopSwitchD_1 base B d w h hd hN hdn ok).mono ?_
            rintro x w' q
            exact key _ (act_stopD hd ns hN hdn l) x w' q
          | false =>
            refine (stopSwitchN_1 base B d w h hd hN hdn).mono ?_
            rintro x w' q
            exact key _ (act_stopN hd ns hN hdn l) x w' q
        · refine (dSwitch_1 base B d w h hd hN ok).mono ?_
          rintro x w' q
          exact key _ (act_go hd ns hN l) x w' q
    · refine (dSwitch_bad base B d s w h (by rw [look_off hd hs]; decide)).mono ?_
      rintro x w' ⟨rfl, K⟩
      rw [act_bad hd (.inl hs), look_off hd hs]
      exact ⟨rfl, d, h.kept0 K, DM.of_kept K B d, rfl⟩

theorem act_big {A : AB} {k s : Int} (l : List Nat) (h1 : k ≠ 1) (h2 : k ≠ 2) (h3 : k ≠ 3) : A.act k s l = A.act 4 s l := by
  unfold AB.act AB.put
  simp [h1, h2, h3]
set_option maxRecDepth 100000 in
set_option maxHeartbeats 1000000 in
/-- act (23): any disk. -/
theorem gAct (base B : Nat) (d : DK) (o : Opv) (hk : 1 ≤ o.kind ∧ o.kind ≤ 4) (a : Option Addr) (n c : Nat) (l : List Nat) (w : World) (h : IsD base w B d) (ok : d.ab.Ok) (r : Reads w a n c l) (hn : n ≤ Lim) (hr : ∀ k, blockOf a = some k → k ≠ B) :
    Calls Try.prog 23 #[.pointer (some ⟨B, 0, none⟩), .agg o.cs, .slice a n c] w fun x w' => x = .returned (.int .i64 (d.ab.act o.kind o.slot l).2) ∧ ∃ d', IsD base w' B d' ∧ DM w w' B d d' ∧ d'.ab = (d.ab.act o.kind o.slot l).1 := by
  obtain ⟨W, hW⟩ : ∃ W, W = w.alloc (.cells o.cs 46) := ⟨_, rfl⟩
  have EW : Hid (W = w.alloc (.cells #[.int .i64 o.kind, .int .i64 o.D, .int .i64 o.slot, .slice o.a o.n o.c, .int .i64 o.N, .bool o.done, o.v0, o.v1, o.v2] 46)) := hW
  have K : Kept (fun _ => False) w W := by rw [hW]; exact alloc_kept0 _ _
  have X : Hid (IsD base W B d ∧ d.ab.Ok ∧ Reads W a n c l ∧ n ≤ Lim ∧ (∀ k, blockOf a = some k → k ≠ B) ∧ DM w W B d d) := ⟨h.kept0 K, ok, r.kept' K (fun _ _ z => z), hn, hr, DM.of_kept K B d⟩
  obtain ⟨kd, hkd⟩ : ∃ kd, o.kind = kd := ⟨_, rfl⟩
  unfold Opv.cs
  rw [hkd] at hk ⊢
  rw [hkd] at EW
  have hk4 : kd = 1 ∨ kd = 2 ∨ kd = 3 ∨ kd = 4 := by omega
  clear h ok r hn hr hW K hk hkd
  obtain ⟨ac, hac⟩ : ∃ ac, ac = d.ab.act kd o.slot l := ⟨_, rfl⟩
  rw [← hac]
  have AC : Hid (ac = d.ab.act kd o.slot l) := hac
  clear hac
  rcases hk4 with rfl | rfl | rfl | rfl
  · go_enter Try.func23, Try.ntmps23
    go_wp2_with fail
    rw [← EW.out]
    refine (gAppend base B d o.slot a n c l W X.out.1 X.out.2.1 X.out.2.2.1 X.out.2.2.2.1 X.out.2.2.2.2.1).mono ?_
    rw [← AC.out]
    obtain ⟨A', v⟩ := ac
    rintro x w2 ⟨rfl, d', q1, q2, q3⟩
    have Q : Hid (IsD base w2 B d' ∧ DM w w2 B d d' ∧ d'.ab = A') := ⟨q1, X.out.2.2.2.2.2.trans q2, q3⟩
    clear q1 q2 q3
    go_wp2_with fail
    go_ret
    exact ⟨rfl, d', Q.out⟩
  · go_enter Try.func23, Try.ntmps23
    go_wp2_with fail
    rw [← EW.out]
    refine (gWipe base B d o.slot l W X.out.1 X.out.2.1).mono ?_
    rw [← AC.out]
    obtain ⟨A', v⟩ := ac
    rintro x w2 ⟨rfl, d', q1, q2, q3⟩
    have Q : Hid (IsD base w2 B d' ∧ DM w w2 B d d' ∧ d'.ab = A') := ⟨q1, X.out.2.2.2.2.2.trans q2, q3⟩
    clear q1 q2 q3
    go_wp2_with fail
    go_ret
    exact ⟨rfl, d', Q.out⟩
  · go_enter Try.func23, Try.ntmps23
    go_wp2_with fail
    rw [← EW.out]
    refine (gSync base B d o.slot l W X.out.1 X.out.2.1).mono ?_
    rw [← AC.out]
    obtain ⟨A', v⟩ := ac
    rintro x w2 ⟨rfl, d', q1, q2, q3⟩
    have Q : Hid (IsD base w2 B d' ∧ DM w w2 B d d' ∧ d'.ab = A') := ⟨q1, X.out.2.2.2.2.2.trans q2, q3⟩
    clear q1 q2 q3
    go_wp2_with fail
    go_ret
    exact ⟨rfl, d', Q.out⟩
  · go_enter Try.func23, Try.ntmps23
    go_wp2_with fail
    rw [← EW.out]
    refine (gSwitch base B d o.slot l W X.out.1 X.out.2.1).mono ?_
    rw [← AC.out]
    obtain ⟨A', v⟩ := ac
    rintro x w2 ⟨rfl, d', q1, q2, q3⟩
    have Q : Hid (IsD base w2 B d' ∧ DM w w2 B d d' ∧ d'.ab = A') := ⟨q1, X.out.2.2.2.2.2.trans q2, q3⟩
    clear q1 q2 q3
    go_wp2_with fail
    go_ret
    exact ⟨rfl, d', Q.out⟩
end Go.Proofs.Ytbnnmelkbjkkjaa
