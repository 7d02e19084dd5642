
namespace Go.Proofs.Ytodmakcklacbfaa

/-- The calls that have a part, as the search sees them. -/
structure Fd where
  n : Nat
  put : Nat → Bool
  opn : Nat → Bool
  val : Nat → Int
  frm : Nat → Int
  to : Nat → Int
/-- For sure ahead. -/
def Fd.ahd (f : Fd) (i j : Nat) : Bool := !f.opn i && decide (0 ≤ f.to i) && decide (f.to i < f.frm j)
/-- Only Puts are open. -/
def Fd.Ok (f : Fd) : Prop := ∀ i, f.opn i = true → f.put i = true
def add (d i : Nat) : Nat := d ||| 2 ^ i
theorem add_mem (d i j : Nat) : (add d i).testBit j = (d.testBit j || decide (i = j)) := by
  unfold add
  rw [Nat.testBit_or, Nat.testBit_two_pow]
theorem add_self (d i : Nat) : (add d i).testBit i = true := by rw [add_mem]; simp
theorem add_old {d j : Nat} (h : d.testBit j = true) (i : Nat) : (add d i).testBit j = true := by rw [add_mem, h]; rfl
theorem add_ne {i j : Nat} (h : i ≠ j) (d : Nat) : (add d i).testBit j = d.testBit j := by rw [add_mem, decide_eq_false h, Bool.or_false]
theorem add_comm2 (d i j : Nat) : add (add d i) j = add (add d j) i := by
  unfold add
  rw [Nat.or_assoc, Nat.or_assoc, Nat.or_comm (2 ^ i)]
/-- May a call stand next? -/
def Fd.May (f : Fd) (d : Nat) (v : Int) (i : Nat) : Prop := i < f.n ∧ d.testBit i = false ∧ (f.put i = true ∨ f.val i = v) ∧ ∀ j, j < f.n → f.ahd j i = true → d.testBit j = true
/-- All that must be in are in. -/
def Fd.Whole (f : Fd) (d : Nat) : Prop := ∀ i, i < f.n → f.opn i = false → d.testBit i = true
/-- A way to the end. -/
def Fd.Run (f : Fd) : List Nat → Nat → Int → Prop
  | [], d, _ => f.Whole d
  | i :: o, d, v => f.May d v i ∧ f.Run o (add d i) (f.val i)
def Fd.Can (f : Fd) (d : Nat) (v : Int) : Prop := ∃ o, f.Run o d v
/-- No Get may stand next. -/
def Fd.Shut (f : Fd) (d : Nat) (v : Int) : Prop := ∀ i, f.put i = false → ¬ f.May d v i
theorem May.more {f : Fd} {d : Nat} {v : Int} {i j : Nat} (h : f.May d v i) (hn : j ≠ i) : f.May (add d j) v i := ⟨h.1, by rw [add_ne hn]; exact h.2.1, h.2.2.1, fun k hk ha => add_old (h.2.2.2 k hk ha) j⟩
theorem May.free {f : Fd} {d : Nat} {v : Int} {i : Nat} (h : f.May d v i) (hp : f.put i = true) (x : Int) : f.May d x i := ⟨h.1, h.2.1, .inl hp, h.2.2.2⟩
theorem Run.out {f : Fd} : ∀ {o : List Nat} {d : Nat} {v : Int}, f.Run o d v → ∀ i ∈ o, d.testBit i = false ∧ i < f.n
  | [], _, _, _, i, hi => by cases hi
  | a :: o, d, v, h, i, hi => by
    rcases List.mem_cons.1 hi with e | e
    · rw [e]; exact ⟨h.1.2.1, h.1.1⟩
    · have := Run.out h.2 i e
      refine ⟨?_, this.2⟩
      have q := this.1
      rw [add_mem] at q
      cases z : d.testBit i
      · rfl
      · rw [z] at q; cases q
theorem Run.all {f : Fd} : ∀ {o : List Nat} {d : Nat} {v : Int}, f.Run o d v → ∀ i, i < f.n → f.opn i = false → d.testBit i = true ∨ i ∈ o
  | [], _, _, h, i, hi, ho => .inl (h i hi ho)
  | a :: o, d, v, h, i, hi, ho => by
    rcases Run.all h.2 i hi ho with z | z
    · rw [add_mem, Bool.or_eq_true, decide_eq_true_iff] at z
      rcases z with z | z
      · exact .inl z
      · exact .inr (by rw [z]; simp)
    · exact .inr (by simp [z])
theorem Run.ne {f : Fd} {o : List Nat} {d : Nat} {v : Int} {j : Nat} (h : f.Run o (add d j) v) {i : Nat} (hi : i ∈ o) : j ≠ i := by
  intro e
  have := (Run.out h i hi).1
  rw [e, add_self] at this
  cases this
/-- A Get is taken out of a way and put ahead of it. -/
theorem Run.get {f : Fd} {i : Nat} (hi : f.put i = false) (b : List Nat) : ∀ (a : List Nat) (d : Nat) (v : Int), f.Run (a ++ i :: b) d v → f.Run (a ++ b) (add d i) v
  | [], d, v, h => by
    have h1 := h.1.2.2.1
    rw [hi] at h1
    have h1 : f.val i = v := h1.resolve_left (by decide)
    have h2 := h.2
    rw [h1] at h2
    exact h2
  | j :: a, d, v, h => by
    have ne : j ≠ i := Run.ne h.2 (by simp)
    refine ⟨May.more h.1 (fun e => ne e.symm), ?_⟩
    rw [add_comm2]
    exact Run.get hi b a _ _ h.2
theorem Can.get {f : Fd} (ok : f.Ok) {d : Nat} {v : Int} {i : Nat} (hi : f.put i = false) (m : f.May d v i) : f.Can d v ↔ f.Can (add d i) v := by
  have e : f.val i = v := by
    have := m.2.2.1
    rw [hi] at this
    exact this.resolve_left (by decide)
  constructor
  · rintro ⟨o, h⟩
    have ho : f.opn i = false := by
      cases q : f.opn i
      · rfl
      · rw [ok i q] at hi; cases hi
    have mem := (Run.all h i m.1 ho).resolve_left (by rw [m.2.1]; decide)
    obtain ⟨a, b, rfl⟩ := List.append_of_mem mem
    exact ⟨a ++ b, Run.get hi b a d v h⟩
  · rintro ⟨o, h⟩
    refine ⟨i :: o, m, ?_⟩
    rw [e]
    exact h
/-- Where no Get may stand next, the value plays no part. -/
theorem Can.any {f : Fd} {d : Nat} {v x : Int} (s : f.Shut d v) (h : f.Can d v) : f.Can d x := by
  obtain ⟨o, h⟩ := h
  cases o with
  | nil => exact ⟨[], h⟩
  | cons i o =>
    cases q : f.put i
    · exact absurd h.1 (s i q)
    · exact ⟨i :: o, May.free h.1 q x, h.2⟩
/-- A Get whose value no Put can bring any more. -/
theorem Run.never {f : Fd} {i : Nat} (hi : f.put i = false) : ∀ {o : List Nat} {d : Nat} {v : Int}, f.Run o d v → v ≠ f.val i → (∀ p, p < f.n → f.put p = true → f.val p = f.val i → d.testBit p = true) → i ∉ o
  | [], _, _, _, _, _ => by simp
  | j :: o, d, v, h, hv, hp => by
    intro hm
    have hp' : ∀ p, p < f.n → f.put p = true → f.val p = f.val i → (add d j).testBit p = true := fun p h1 h2 h3 => add_old (hp p h1 h2 h3) j
    have hv' : f.val j ≠ f.val i := by
      cases q : f.put j
      · have := h.1.2.2.1
        rw [q] at this
        have := this.resolve_left (by decide)
        rw [this]
        exact hv
      · intro e
        have := hp j h.1.1 q e
        rw [h.1.2.1] at this
        cases this
    rcases List.mem_cons.1 hm with e | e
    · rw [e] at hv'
      exact hv' rfl
    · exact Run.never hi h.2 hv' hp' e
theorem hopeless {f : Fd} (ok : f.Ok) {d : Nat} {v : Int} (s : f.Shut d v) {i : Nat} (hn : i < f.n) (hi : f.put i = false) (hd : d.testBit i = false) (hp : ∀ p, p < f.n → f.put p = true → f.val p = f.val i → d.testBit p = true) : ¬ f.Can d v := by
  rintro ⟨o, h⟩
  have ho : f.opn i = false := by
    cases q : f.opn i
    · rfl
    · rw [ok i q] at hi; cases hi
  have mem := (Run.all h i hn ho).resolve_left (by rw [hd]; decide)
  cases o with
  | nil => cases mem
  | cons j o =>
    cases q : f.put j
    · exact s j q h.1
    · have hv' : f.val j ≠ f.val i := by
        intro e
        have := hp j h.1.1 q e
        rw [h.1.2.1] at this
        cases this
      rcases List.mem_cons.1 mem with e | e
      · rw [e, q] at hi; cases hi
      · exact Run.never hi h.2 hv' (fun p h1 h2 h3 => add_old (hp p h1 h2 h3) j) e
/-- No Get that is left tells a value. -/
def Fd.Mute (f : Fd) (d : Nat) (x : Int) : Prop := ∀ g, g < f.n → f.put g = false → f.val g = x → d.testBit g = true
theorem Mute.more {f : Fd} {d : Nat} {x : Int} (h : f.Mute d x) (i : Nat) : f.Mute (add d i) x := fun g h1 h2 h3 => add_old (h g h1 h2 h3) i
/-- Behind a value that no Get tells comes a Put, or the end. -/
theorem Mute.run {f : Fd} {d : Nat} {x y : Int} (m : f.Mute d x) {o : List Nat} (h : f.Run o d x) : f.Run o d y := by
  cases o with
  | nil => exact h
  | cons i o =>
    cases q : f.put i
    · have := h.1.2.2.1
      rw [q] at this
      have := this.resolve_left (by decide)
      have := m i h.1.1 q this
      rw [h.1.2.1] at this
      cases this
    · exact ⟨May.free h.1 q y, h.2⟩
theorem Run.put {f : Fd} {i : Nat} (b : List Nat) : ∀ (a : List Nat) (d : Nat) (v : Int), f.Mute d (f.val i) → f.Run (a ++ i :: b) d v → f.Run (a ++ b) (add d i) v
  | [], d, v, m, h => Mute.run (Mute.more m i) h.2
  | j :: a, d, v, m, h => by
    have ne : j ≠ i := Run.ne h.2 (by simp)
    refine ⟨May.more h.1 (fun e => ne e.symm), ?_⟩
    rw [add_comm2]
    exact Run.put b a _ _ (Mute.more m j) h.2
/-- A Put that must be and that no Get can tell any more may come at once. -/
theorem Can.mute {f : Fd} {d : Nat} {v : Int} (s : f.Shut d v) {i : Nat} (mi : f.May d v i) (ho : f.opn i = false) (m : f.Mute d (f.val i)) (h : f.Can d v) : f.Can (add d i) (f.val i) := by
  obtain ⟨o, h⟩ := h
  have mem := (Run.all h i mi.1 ho).resolve_left (by rw [mi.2.1]; decide)
  obtain ⟨a, b, rfl⟩ := List.append_of_mem mem
  cases a with
  | nil => exact ⟨b, h.2⟩
  | cons p a =>
    refine ⟨p :: a ++ b, ?_⟩
    have hq : f.put p = true := by
      cases q : f.put p
      · exact absurd h.1 (s p q)
      · rfl
    have := Run.put b (p :: a) d v m h
    exact ⟨May.free this.1 hq _, this.2⟩
/-- An open Put that no Get can tell any more is left out. -/
theorem Run.less {f : Fd} {p : Nat} (ho : f.opn p = true) : ∀ (o : List Nat) (d : Nat) (x : Int), d.testBit p = false → f.Run o (add d p) x → f.Run o d x
  | [], d, x, _, h => fun i hi hn => by
    have := h i hi hn
    rw [add_mem, Bool.or_eq_true, decide_eq_true_iff] at this
    rcases this with z | z
    · exact z
    · rw [← z, ho] at hn; cases hn
  | j :: o, d, x, hd, h => by
    have ne : p ≠ j := fun e => by
      have := h.1.2.1
      rw [e, add_self] at this
      cases this
    refine ⟨⟨h.1.1, ?_, h.1.2.2.1, fun k hk ha => ?_⟩, Run.less ho o (add d j) _ (by rw [add_ne (fun e => ne e.symm)]; exact hd) ?_⟩
    · have := h.1.2.1
      rw [add_ne ne] at this
      exact this
    · have := h.1.2.2.2 k hk ha
      rw [add_mem, Bool.or_eq_true, decide_eq_true_iff] at this
      rcases this with z | z
      · exact z
      · rw [← z] at ha
        unfold Fd.ahd at ha
        rw [ho] at ha
        cases ha
    · rw [add_comm2]
      exact h.2
theorem run_more {f : Fd} {i : Nat} : ∀ (o : List Nat) (d : Nat) (v : Int), f.Run o d v → (d.testBit i = false) → i ∉ o → f.Run o (add d i) v
  | [], d, v, h, _, _ => fun k hk hn => add_old (h k hk hn) i
  | j :: o, d, v, h, hd, hn => by
    have ne : i ≠ j := fun e => hn (by simp [e])
    refine ⟨May.more h.1 ne, ?_⟩
    rw [add_comm2]
    exact run_more o (add d j) _ h.2 (by rw [add_ne (fun e => ne e.symm)]; exact hd) (fun z => hn (by simp [z]))
/-- How many wait for a call. -/
def Fd.wait (f : Fd) (i : Nat) : Nat := ((List.range f.n).filter fun j => f.ahd i j).length
theorem filter_lt {n : Nat} {p q : Nat → Bool} (h : ∀ j, p j = true → q j = true) {k : Nat} (hk : k < n) (h1 : q k = true) (h2 : p k = false) : ((List.range n).filter p).length < ((List.range n).filter q).length := by
  have : ∀ l : List Nat, (l.filter p).length ≤ (l.filter q).length ∧ (k ∈ l → (l.filter p).length < (l.filter q).length) := by
    intro l
    induction l with
    | nil => exact ⟨Nat.le_refl _, fun z => by cases z⟩
    | cons a l ih =>
      constructor
      · cases z : p a
        · rw [List.filter_cons_of_neg (by rw [z]; decide)]
          cases y : q a
          · rw [List.filter_cons_of_neg (by rw [y]; decide)]; exact ih.1
          · rw [List.filter_cons_of_pos (by rw [y])]; simp; have := ih.1; omega
        · rw [List.filter_cons_of_pos (by rw [z]), List.filter_cons_of_pos (by rw [h a z])]; simp; exact ih.1
      · intro hm
        by_cases e : k = a
        · subst e
          rw [List.filter_cons_of_neg (by rw [h2]; decide), List.filter_cons_of_pos (by rw [h1])]
          simp
          have := ih.1
          omega
        · have hm : k ∈ l := by
            rcases List.mem_cons.1 hm with z | z
            · exact absurd z e
            · exact z
          cases z : p a
          · rw [List.filter_cons_of_neg (by rw [z]; decide)]
            cases y : q a
            · rw [List.filter_cons_of_neg (by rw [y]; decide)]; exact ih.2 hm
            · rw [List.filter_cons_of_pos (by rw [y])]; simp; have := ih.2 hm; omega
          · rw [List.filter_cons_of_pos (by rw [z]), List.filter_cons_of_pos (by rw [h a z])]; simp; exact ih.2 hm
  exact (this (List.range n)).2 (List.mem_range.2 hk)
/-- Those that wait lie in one another. -/
theorem wait_le {f : Fd} {p q : Nat} (h : f.wait p ≤ f.wait q) {j : Nat} (hj : j < f.n) (ha : f.ahd p j = true) : f.ahd q j = true := by
  cases z : f.ahd q j
  · exfalso
    have : f.wait q < f.wait p := by
      unfold Fd.wait
      refine filter_lt (fun k hk => ?_) hj ha z
      unfold Fd.ahd at hk ha z ⊢
      simp only [Bool.and_eq_true, Bool.not_eq_true', decide_eq_true_eq] at hk ha ⊢
      obtain ⟨⟨h1, h2⟩, h3⟩ := hk
      rw [h1, decide_eq_true h2] at z
      simp at z
      exact ⟨ha.1, by omega⟩
    omega
  · rfl
theorem Run.swap {f : Fd} {p q : Nat} (b : List Nat) (hv : f.val p = f.val q) (hw : f.wait p ≤ f.wait q) (hq : f.put q = true) (hp : f.put p = true) : ∀ (a : List Nat) (d : Nat) (x : Int), (∀ k, k < f.n → f.ahd k p = true → d.testBit k = true) → p < f.n → d.testBit p = false → d.testBit q = false → p ≠ q → f.Run (a ++ q :: b) (add d p) x → f.Run (a ++ p :: b) (add d q) x
  | [], d, x, ha, pn, dp, dq, ne, h => by
    refine ⟨⟨pn, ?_, .inl hp, fun k hk hk2 => add_old (ha k hk hk2) q⟩, ?_⟩
    · rw [add_ne (fun e => ne e.symm)]; exact dp
    · show f.Run b (add (add d q) p) (f.val p)
      rw [add_comm2, hv]
      exact h.2
  | j :: a, d, x, ha, pn, dp, dq, ne, h => by
    have nj : p ≠ j := fun e => by
      have := h.1.2.1
      rw [e, add_self] at this
      cases this
    have qj : j ≠ q := Run.ne h.2 (by simp)
    refine ⟨⟨h.1.1, ?_, h.1.2.2.1, fun k hk hk2 => ?_⟩, ?_⟩
    · have := h.1.2.1
      rw [add_ne nj] at this
      rw [add_ne (fun e => qj e.symm)]
      exact this
    · have h2 := h.1.2.2.2 k hk hk2
      rw [add_mem, Bool.or_eq_true, decide_eq_true_iff] at h2
      rcases h2 with z | z
      · exact add_old z q
      · rw [← z] at hk2
        have h3 := wait_le hw h.1.1 hk2
        have h4 := h.1.2.2.2 q ((Run.out h q (by simp)).2) h3
        rw [add_ne ne, dq] at h4
        cases h4
    · show f.Run (a ++ p :: b) (add (add d q) j) (f.val j)
      rw [add_comm2]
      refine Run.swap b hv hw hq hp a (add d j) _ (fun k hk hk2 => add_old (ha k hk hk2) j) pn ?_ ?_ ne ?_
      · rw [add_ne (fun e => nj e.symm)]; exact dp
      · rw [add_ne qj]; exact dq
      · rw [add_comm2]
        exact h.2
theorem Run.apart {f : Fd} {p q : Nat} (hv : f.val p = f.val q) (h0 : ∀ j, j < f.n → f.ahd p j = false) (hp : f.put p = true) : ∀ (o : List Nat) (d : Nat) (x : Int), (∀ k, k < f.n → f.ahd k p = true → d.testBit k = true) → p < f.n → d.testBit p = false → d.testBit q = false → p ≠ q → q ∉ o → f.Run o (add d p) x → f.Run (o ++ [p]) (add d q) x
  | [], d, x, ha, pn, dp, dq, ne, _, h => by
    refine ⟨⟨pn, ?_, .inl hp, fun k hk hk2 => add_old (ha k hk hk2) q⟩, ?_⟩
    · rw [add_ne (fun e => ne e.symm)]; exact dp
    · intro k hk hn
      rw [add_comm2]
      exact add_old (h k hk hn) q
  | j :: o, d, x, ha, pn, dp, dq, ne, nq, h => by
    have nj : p ≠ j := fun e => by
      have := h.1.2.1
      rw [e, add_self] at this
      cases this
    have qj : j ≠ q := fun e => nq (by simp [e])
    refine ⟨⟨h.1.1, ?_, h.1.2.2.1, fun k hk hk2 => ?_⟩, ?_⟩
    · have := h.1.2.1
      rw [add_ne nj] at this
      rw [add_ne (fun e => qj e.symm)]
      exact this
    · have h2 := h.1.2.2.2 k hk hk2
      rw [add_mem, Bool.or_eq_true, decide_eq_true_iff] at h2
      rcases h2 with z | z
      · exact add_old z q
      · rw [← z, h0 j h.1.1] at hk2
        cases hk2
    · show f.Run (o ++ [p]) (add (add d q) j) (f.val j)
      rw [add_comm2]
      refine Run.apart hv h0 hp o (add d j) _ (fun k hk hk2 => add_old (ha k hk hk2) j) pn ?_ ?_ ne (fun z => nq (by simp [z])) ?_
      · rw [add_ne (fun e => nj e.symm)]; exact dp
      · rw [add_ne qj]; exact dq
      · rw [add_comm2]
        exact h.2
/-- Of two Puts of one value the one that more wait for may come first. -/
theorem Can.other {f : Fd} {d : Nat} {v : Int} {p q : Nat} (mp : f.May d v p) (mq : f.May d v q) (hp : f.put p = true) (hq : f.put q = true) (hv : f.val p = f.val q) (hw : f.wait p ≤ f.wait q) (h : f.Can (add d p) (f.val p)) : f.Can (add d q) (f.val q) := by
  by_cases e : p = q
  · rw [← e]; exact h
  · obtain ⟨o, h⟩ := h
    rw [← hv]
    by_cases hm : q ∈ o
    · obtain ⟨a, b, rfl⟩ := List.append_of_mem hm
      exact ⟨_, Run.swap b hv hw hq hp a d _ mp.2.2.2 mp.1 mp.2.1 mq.2.1 e h⟩
    · have ho : f.opn q = true := by
        cases z : f.opn q
        · rcases Run.all h q mq.1 z with y | y
          · rw [add_ne e, mq.2.1] at y
            cases y
          · exact absurd y hm
        · rfl
      have h0 : ∀ j, j < f.n → f.ahd p j = false := by
        intro j hj
        cases z : f.ahd p j
        · rfl
        · have := wait_le hw hj z
          unfold Fd.ahd at this
          rw [ho] at this
          cases this
      exact ⟨_, Run.apart hv h0 hp o d _ mp.2.2.2 mp.1 mp.2.1 mq.2.1 e hm h⟩
/-- Puts of which one comes next, if there is a way at all. -/
structure Choice (f : Fd) (d : Nat) (R : List Nat) : Prop where
  may : ∀ i ∈ R, f.put i = true ∧ f.May d (-1) i
  one : (∃ i, R = [i] ∧ f.opn i = false ∧ f.Mute d (f.val i)) ∨ (∀ p, f.put p = true → f.May d (-1) p → (f.opn p = true ∧ f.Mute d (f.val p)) ∨ ∃ q ∈ R, f.val p = f.val q ∧ f.wait p ≤ f.wait q)
theorem Choice.can {f : Fd} {d : Nat} {v : Int} {R : List Nat} (c : Choice f d R) (s : f.Shut d v) (nw : ¬ f.Whole d) (h : f.Can d v) : ∃ i ∈ R, f.Can (add d i) (f.val i) := by
  rcases c.one with ⟨i, rfl, ho, m⟩ | c2
  · obtain ⟨hp, hm⟩ := c.may i (by simp)
    exact ⟨i, by simp, Can.mute s (May.free hm hp v) ho m h⟩
  · obtain ⟨o, h⟩ := h
    have key : ∀ (k : Nat) (o : List Nat), o.length = k → f.Run o d v → ∃ i ∈ R, f.Can (add d i) (f.val i) := by
      intro k
      induction k with
      | zero =>
        intro o e h
        have e : o = [] := List.length_eq_zero_iff.1 e
        rw [e] at h
        exact absurd h nw
      | succ k ih =>
        intro o e h
        cases o with
        | nil => cases e
        | cons p o =>
          have hp : f.put p = true := by
            cases q : f.put p
            · exact absurd h.1 (s p q)
            · rfl
          rcases c2 p hp (May.free h.1 hp (-1)) with ⟨z1, z2⟩ | ⟨q, hq, e1, e2⟩
          · have r1 := Run.less z1 o d (f.val p) h.1.2.1 h.2
            exact ih o (by simpa using e) (Mute.run z2 r1)
          · obtain ⟨q1, q2⟩ := c.may q hq
            exact ⟨q, hq, Can.other (May.free h.1 hp (-1)) q2 hp q1 e1 e2 ⟨o, h.2⟩⟩
    exact key _ o rfl h
end Go.Proofs.Ytodmakcklacbfaa
