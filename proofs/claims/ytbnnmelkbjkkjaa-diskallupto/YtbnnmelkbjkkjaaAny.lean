import Derived.Test.YtbnnmelkbjkkjaaHead
namespace Go.Proofs.Ytbnnmelkbjkkjaa
open Go.RowKit

theorem hWipe (w wr : World) (B : Nat) (A : AB) (i : Nat) (hi : i < 2) (h : HD w wr B A) (hd : A.dead = false) (hN : A.named ≠ 1) (ok : A.Ok) :
    Calls Try.prog 29 #[.pointer (some ⟨B, 0, none⟩), .int .i64 (i : Int)] wr fun x w' => ∃ v A', x = .returned (.int .i64 v) ∧ HD w w' B A' ∧ (A' = A ∨ A' = (A.tick.more i none).counted) := by
  obtain ⟨d, h1, rfl⟩ := h.ex
  match i, hi with
  | 0, _ =>
    by_cases hc : d.cur = 0
    · refine (dWipe_cur0 w.heap.size B d wr h1 hd hc).mono ?_
      rintro x w' ⟨rfl, K⟩
      exact ⟨61, _, rfl, h.quiet K, .inl rfl⟩
    · refine (dWipe_0 w.heap.size B d wr h1 hd hN ok hc).mono ?_
      rintro x w' ⟨rfl, d', q1, q2, q3⟩
      exact ⟨0, _, rfl, HD.step h1 h.kept q1 q2, .inr q3⟩
  | 1, _ =>
    by_cases hc : d.cur = 1
    · refine (dWipe_cur1 w.heap.size B d wr h1 hd hc).mono ?_
      rintro x w' ⟨rfl, K⟩
      exact ⟨61, _, rfl, h.quiet K, .inl rfl⟩
    · refine (dWipe_1 w.heap.size B d wr h1 hd hN ok hc).mono ?_
      rintro x w' ⟨rfl, d', q1, q2, q3⟩
      exact ⟨0, _, rfl, HD.step h1 h.kept q1 q2, .inr q3⟩
/-- A living disk that holds at most s bytes behind t acts. -/
structure Small (A : AB) (s t : Nat) : Prop where
  wt : A.l0.length + weigh A.X0 + A.l1.length + weigh A.X1 ≤ s
  n0 : A.X0.length ≤ t
  n1 : A.X1.length ≤ t
  acts : A.acts ≤ t
  live : A.dead = false
  free : A.named = 0
def Few : Nat := 1000000000
theorem Small.ok {A : AB} {s t : Nat} (h : Small A s t) (hs : s ≤ Few) (ht : t ≤ Few) : A.Ok := by
  have := h.wt
  have := h.n0
  have := h.n1
  have := h.acts
  unfold Few at hs ht
  refine ⟨?_, ?_, ?_, ?_, ?_, ?_⟩
  all_goals try (unfold Lim; omega)
  rw [h.free]
  omega
theorem Small.mono {A : AB} {s t s' t' : Nat} (h : Small A s t) (hs : s ≤ s') (ht : t ≤ t') : Small A s' t' := ⟨Nat.le_trans h.wt hs, Nat.le_trans h.n0 ht, Nat.le_trans h.n1 ht, Nat.le_trans h.acts ht, h.live, h.free⟩
theorem weigh_snoc (L : List (Option (List Nat))) (x : Option (List Nat)) : weigh (L ++ [x]) = weigh L + (x.getD []).length := by simp [weigh]
theorem tick_free {A : AB} (h : A.named = 0) : A.tick = A := by
  unfold AB.tick
  rw [h]
  cases A
  simp at h
  subst h
  rfl
theorem Small.more {A : AB} {s t : Nat} (h : Small A s t) (i : Nat) (x : Option (List Nat)) : Small (A.more i x).counted (s + (x.getD []).length) (t + 1) := by
  have h1 := h.wt
  have h2 := h.n0
  have h3 := h.n1
  have h4 := h.acts
  unfold AB.more
  split
  · exact ⟨by simp only [AB.counted, weigh_snoc]; omega, by simp only [AB.counted, List.length_append, List.length_singleton]; omega, by simp only [AB.counted]; omega, by simp only [AB.counted]; omega, h.live, h.free⟩
  · exact ⟨by simp only [AB.counted, weigh_snoc]; omega, by simp only [AB.counted]; omega, by simp only [AB.counted, List.length_append, List.length_singleton]; omega, by simp only [AB.counted]; omega, h.live, h.free⟩
theorem Small.add {A : AB} {s t : Nat} (h : Small A s t) (i : Nat) (l : List Nat) : Small (A.tick.add i l).counted (s + l.length) (t + 1) := by
  rw [tick_free h.free]
  unfold AB.add
  split
  · exact ⟨Nat.le_trans h.wt (by omega), Nat.le_trans h.n0 (by omega), Nat.le_trans h.n1 (by omega), by show A.acts + 1 ≤ t + 1; have := h.acts; omega, h.live, h.free⟩
  · exact h.more i (some l)
theorem Small.sync {A : AB} {s t : Nat} (h : Small A s t) (i : Nat) : Small (A.tick.sync i).counted s (t + 1) := by
  rw [tick_free h.free]
  have h1 := h.wt
  have h2 := h.n0
  have h3 := h.n1
  have h4 := h.acts
  have r0 := redoL_length A.X0 A.l0
  have r1 := redoL_length A.X1 A.l1
  have wn : weigh [] = 0 := rfl
  unfold AB.sync
  split
  · exact ⟨by simp only [AB.counted, wn]; omega, by simp [AB.counted], by simp only [AB.counted]; omega, by simp only [AB.counted]; omega, h.live, h.free⟩
  · exact ⟨by simp only [AB.counted, wn]; omega, by simp only [AB.counted]; omega, by simp [AB.counted], by simp only [AB.counted]; omega, h.live, h.free⟩
theorem Small.switch {A : AB} {s t : Nat} (h : Small A s t) (i : Nat) : Small (A.tick.switch i).counted s (t + 1) := by
  rw [tick_free h.free]
  exact ⟨h.wt, Nat.le_trans h.n0 (by omega), Nat.le_trans h.n1 (by omega), by show A.acts + 1 ≤ t + 1; have := h.acts; omega, h.live, h.free⟩
theorem look_bad {A : AB} (hd : A.dead = false) {i : Int} (h0 : ¬ i = 0) (h1 : ¬ i = 1) : lookE A i ≠ 0 := by
  unfold lookE
  rw [if_neg (by rw [hd]; decide), if_neg (by omega)]
  decide
theorem anyAppend (w wr : World) (B : Nat) (A : AB) (s t : Nat) (i : Int) (a : Option Addr) (n c : Nat) (l : List Nat) (h : HD w wr B A) (sm : Small A s t) (hs : s ≤ Few) (ht : t ≤ Few) (r : Reads wr a n c l) (hn : n ≤ Few) (hr : ∀ k, blockOf a = some k → k ≠ B) :
    Calls Try.prog 12 #[.pointer (some ⟨B, 0, none⟩), .int .i64 i, .slice a n c] wr fun x w' => ∃ v A', x = .returned (.int .i64 v) ∧ HD w w' B A' ∧ Small A' (s + n) (t + 1) := by
  have ok := sm.ok hs ht
  have hn2 : n ≤ Lim := by unfold Few at hn; unfold Lim; omega
  have hN : A.named ≠ 1 := by rw [sm.free]; decide
  by_cases h0 : i = 0
  · subst h0
    refine (hAppend w wr B A 0 (by omega) a n c l h sm.live hN ok r hn2 hr).mono ?_
    rintro x w' ⟨rfl, q⟩
    exact ⟨0, _, rfl, q, by rw [← r.length]; exact sm.add 0 l⟩
  · by_cases h1 : i = 1
    · subst h1
      refine (hAppend w wr B A 1 (by omega) a n c l h sm.live hN ok r hn2 hr).mono ?_
      rintro x w' ⟨rfl, q⟩
      exact ⟨0, _, rfl, q, by rw [← r.length]; exact sm.add 1 l⟩
    · refine (hAppend_bad w wr B A i a n c h (look_bad sm.live h0 h1)).mono ?_
      rintro x w' ⟨rfl, K⟩
      exact ⟨_, A, rfl, h.quiet K, sm.mono (by omega) (by omega)⟩
theorem anySync (w wr : World) (B : Nat) (A : AB) (s t : Nat) (i : Int) (h : HD w wr B A) (sm : Small A s t) (hs : s ≤ Few) (ht : t ≤ Few) :
    Calls Try.prog 19 #[.pointer (some ⟨B, 0, none⟩), .int .i64 i] wr fun x w' => ∃ v A', x = .returned (.int .i64 v) ∧ HD w w' B A' ∧ Small A' s (t + 1) := by
  have ok := sm.ok hs ht
  have hN : A.named ≠ 1 := by rw [sm.free]; decide
  by_cases h0 : i = 0
  · subst h0
    refine (hSync w wr B A 0 (by omega) h sm.live hN ok).mono ?_
    rintro x w' ⟨rfl, q⟩
    exact ⟨0, _, rfl, q, sm.sync 0⟩
  · by_cases h1 : i = 1
    · subst h1
      refine (hSync w wr B A 1 (by omega) h sm.live hN ok).mono ?_
      rintro x w' ⟨rfl, q⟩
      exact ⟨0, _, rfl, q, sm.sync 1⟩
    · obtain ⟨d, i1, e1⟩ := h.ex
      refine (dSync_bad w.heap.size B d i wr i1 (by rw [e1]; exact look_bad sm.live h0 h1)).mono ?_
      rintro x w' ⟨rfl, K⟩
      exact ⟨_, A, rfl, h.quiet K, sm.mono (by omega) (by omega)⟩
theorem anySwitch (w wr : World) (B : Nat) (A : AB) (s t : Nat) (i : Int) (h : HD w wr B A) (sm : Small A s t) (hs : s ≤ Few) (ht : t ≤ Few) :
    Calls Try.prog 28 #[.pointer (some ⟨B, 0, none⟩), .int .i64 i] wr fun x w' => ∃ v A', x = .returned (.int .i64 v) ∧ HD w w' B A' ∧ Small A' s (t + 1) := by
  have ok := sm.ok hs ht
  have hN : A.named ≠ 1 := by rw [sm.free]; decide
  by_cases h0 : i = 0
  · subst h0
    refine (hSwitch w wr B A 0 (by omega) h sm.live hN ok).mono ?_
    rintro x w' ⟨rfl, q⟩
    exact ⟨0, _, rfl, q, sm.switch 0⟩
  · by_cases h1 : i = 1
    · subst h1
      refine (hSwitch w wr B A 1 (by omega) h sm.live hN ok).mono ?_
      rintro x w' ⟨rfl, q⟩
      exact ⟨0, _, rfl, q, sm.switch 1⟩
    · obtain ⟨d, i1, e1⟩ := h.ex
      refine (dSwitch_bad w.heap.size B d i wr i1 (by rw [e1]; exact look_bad sm.live h0 h1)).mono ?_
      rintro x w' ⟨rfl, K⟩
      exact ⟨_, A, rfl, h.quiet K, sm.mono (by omega) (by omega)⟩
theorem anyWipe (w wr : World) (B : Nat) (A : AB) (s t : Nat) (i : Int) (h : HD w wr B A) (sm : Small A s t) (hs : s ≤ Few) (ht : t ≤ Few) :
    Calls Try.prog 29 #[.pointer (some ⟨B, 0, none⟩), .int .i64 i] wr fun x w' => ∃ v A', x = .returned (.int .i64 v) ∧ HD w w' B A' ∧ Small A' s (t + 1) := by
  have ok := sm.ok hs ht
  have hN : A.named ≠ 1 := by rw [sm.free]; decide
  have key : ∀ (j : Nat) (A' : AB), (A' = A ∨ A' = (A.tick.more j none).counted) → Small A' s (t + 1) := fun j A' e => by
    rcases e with e | e
    · rw [e]; exact sm.mono (by omega) (by omega)
    · rw [e, tick_free sm.free]; exact sm.more j none
  by_cases h0 : i = 0
  · subst h0
    refine (hWipe w wr B A 0 (by omega) h sm.live hN ok).mono ?_
    rintro x w' ⟨v, A', rfl, q, e⟩
    exact ⟨v, A', rfl, q, key 0 A' e⟩
  · by_cases h1 : i = 1
    · subst h1
      refine (hWipe w wr B A 1 (by omega) h sm.live hN ok).mono ?_
      rintro x w' ⟨v, A', rfl, q, e⟩
      exact ⟨v, A', rfl, q, key 1 A' e⟩
    · obtain ⟨d, i1, e1⟩ := h.ex
      refine (dWipe_bad w.heap.size B d i wr i1 (by rw [e1]; exact look_bad sm.live h0 h1)).mono ?_
      rintro x w' ⟨rfl, K⟩
      exact ⟨_, A, rfl, h.quiet K, sm.mono (by omega) (by omega)⟩
/-- One step of a script. -/
structure Opv where
  kind : Int
  D : Int
  slot : Int
  a : Option Addr
  n : Nat
  c : Nat
  l : List Nat
  N : Int
  done : Bool
  v0 : Value
  v1 : Value
  v2 : Value
def Opv.cs (o : Opv) : Array Value := #[.int .i64 o.kind, .int .i64 o.D, .int .i64 o.slot, .slice o.a o.n o.c, .int .i64 o.N, .bool o.done, o.v0, o.v1, o.v2]
set_option maxRecDepth 100000 in
set_option maxHeartbeats 1000000 in
theorem act23 (w wr : World) (B : Nat) (A : AB) (s t : Nat) (o : Opv) (hk : 1 ≤ o.kind ∧ o.kind ≤ 4) (a : Option Addr) (n c : Nat) (l : List Nat) (h : HD w wr B A) (sm : Small A s t) (hs : s ≤ Few) (ht : t ≤ Few) (r : Reads wr a n c l) (hn : n ≤ Few) (hr : ∀ k, blockOf a = some k → k ≠ B) :
    Calls Try.prog 23 #[.pointer (some ⟨B, 0, none⟩), .agg o.cs, .slice a n c] wr fun x w' => ∃ v A', x = .returned (.int .i64 v) ∧ HD w w' B A' ∧ Small A' (s + n) (t + 1) := by
  obtain ⟨W, hW⟩ : ∃ W, W = wr.alloc (.cells o.cs 46) := ⟨_, rfl⟩
  have EW : Hid (W = wr.alloc (.cells #[.int .i64 o.kind, .int .i64 o.D, .int .i64 o.slot, .slice o.a o.n o.c, .int .i64 o.N, .bool o.done, o.v0, o.v1, o.v2] 46)) := hW
  have K : Kept (fun _ => False) wr W := by rw [hW]; exact alloc_kept0 _ _
  have X : Hid (HD w W B A ∧ Small A s t ∧ s ≤ Few ∧ t ≤ Few ∧ Reads W a n c l ∧ n ≤ Few ∧ ∀ k, blockOf a = some k → k ≠ B) := ⟨h.quiet K, sm, hs, ht, r.kept' K (fun _ _ z => z), hn, hr⟩
  have up : Hid (∀ A' : AB, Small A' s (t + 1) → Small A' (s + n) (t + 1)) := fun A' q => q.mono (by omega) (Nat.le_refl _)
  obtain ⟨kd, hkd⟩ : ∃ kd, o.kind = kd := ⟨_, rfl⟩
  have e0 : (Value.int .i64 o.kind) = .int .i64 kd := by rw [hkd]
  unfold Opv.cs
  rw [hkd] at hk ⊢
  rw [hkd] at EW
  have hk4 : kd = 1 ∨ kd = 2 ∨ kd = 3 ∨ kd = 4 := by omega
  clear h sm hs ht r hn hr hW K hk e0 hkd
  rcases hk4 with rfl | rfl | rfl | rfl
  · go_enter Try.func23, Try.ntmps23
    go_wp2_with fail
    rw [← EW.out]
    refine (anyAppend w W B A s t o.slot a n c l X.out.1 X.out.2.1 X.out.2.2.1 X.out.2.2.2.1 X.out.2.2.2.2.1 X.out.2.2.2.2.2.1 X.out.2.2.2.2.2.2).mono ?_
    rintro x w2 ⟨v, A', rfl, q1, q2⟩
    have Q : Hid (HD w w2 B A' ∧ Small A' (s + n) (t + 1)) := ⟨q1, q2⟩
    clear q1 q2
    go_wp2_with fail
    go_ret
    exact ⟨v, A', rfl, Q.out⟩
  · go_enter Try.func23, Try.ntmps23
    go_wp2_with fail
    rw [← EW.out]
    refine (anyWipe w W B A s t o.slot X.out.1 X.out.2.1 X.out.2.2.1 X.out.2.2.2.1).mono ?_
    rintro x w2 ⟨v, A', rfl, q1, q2⟩
    have Q : Hid (HD w w2 B A' ∧ Small A' (s + n) (t + 1)) := ⟨q1, up.out _ q2⟩
    clear q1 q2
    go_wp2_with fail
    go_ret
    exact ⟨v, A', rfl, Q.out⟩
  · go_enter Try.func23, Try.ntmps23
    go_wp2_with fail
    rw [← EW.out]
    refine (anySync w W B A s t o.slot X.out.1 X.out.2.1 X.out.2.2.1 X.out.2.2.2.1).mono ?_
    rintro x w2 ⟨v, A', rfl, q1, q2⟩
    have Q : Hid (HD w w2 B A' ∧ Small A' (s + n) (t + 1)) := ⟨q1, up.out _ q2⟩
    clear q1 q2
    go_wp2_with fail
    go_ret
    exact ⟨v, A', rfl, Q.out⟩
  · go_enter Try.func23, Try.ntmps23
    go_wp2_with fail
    rw [← EW.out]
    refine (anySwitch w W B A s t o.slot X.out.1 X.out.2.1 X.out.2.2.1 X.out.2.2.2.1).mono ?_
    rintro x w2 ⟨v, A', rfl, q1, q2⟩
    have Q : Hid (HD w w2 B A' ∧ Small A' (s + n) (t + 1)) := ⟨q1, up.out _ q2⟩
    clear q1 q2
    go_wp2_with fail
    go_ret
    exact ⟨v, A', rfl, Q.out⟩
end Go.Proofs.Ytbnnmelkbjkkjaa
