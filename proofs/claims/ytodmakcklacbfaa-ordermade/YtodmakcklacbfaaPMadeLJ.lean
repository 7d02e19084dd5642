import Derived.Test.YtodmakcklacbfaaPTimeM
namespace Go.Proofs.Ytodmakcklacbfaa
open Go.RowKit Go.Shelf Go.Lib Go.Sort

/-- Is it a Put? -/
def Md.isP (v : Md) (k : Nat) : Bool := decide (0 < v.who.getD k 0)
/-- The last Put ahead of a call. -/
def Md.lp (v : Md) : Nat → Option Nat
  | 0 => .none
  | k + 1 => if v.isP k = true then some k else v.lp k
theorem Md.lp_put (v : Md) {k : Nat} (h : v.isP k = true) : v.lp (k + 1) = some k := by
  show (if v.isP k = true then some k else v.lp k) = _
  rw [if_pos h]
theorem Md.lp_get (v : Md) {k : Nat} (h : v.isP k = false) : v.lp (k + 1) = v.lp k := by
  show (if v.isP k = true then some k else v.lp k) = _
  rw [if_neg (by rw [h]; decide)]
theorem Md.last_lp (v : Md) : ∀ k, v.last k = (v.lp k).map (v.put 0)
  | 0 => rfl
  | k + 1 => by
    show (if 0 < v.who.getD k 0 then some (v.put 0 k) else v.last k) = _
    by_cases h : v.isP k = true
    · rw [if_pos (by unfold Md.isP at h; simpa using h), v.lp_put h]
      rfl
    · rw [if_neg (by unfold Md.isP at h; simpa using h), v.lp_get (by simpa using h)]
      exact v.last_lp k
theorem Md.lp_lt (v : Md) : ∀ {k p : Nat}, v.lp k = some p → p < k ∧ v.isP p = true
  | 0, _, h => by cases h
  | k + 1, p, h => by
    by_cases q : v.isP k = true
    · rw [v.lp_put q] at h
      have h := Option.some.inj h
      subst h
      exact ⟨by omega, q⟩
    · rw [v.lp_get (by simpa using q)] at h
      obtain ⟨h1, h2⟩ := v.lp_lt h
      exact ⟨by omega, h2⟩
/-- The group of a call: 0 where nothing was put yet, else one more than the last Put's number. -/
def Md.gr (v : Md) (k : Nat) : Nat := match v.lp (k + 1) with | some p => p + 1 | .none => 0
theorem Md.gr_put (v : Md) {k : Nat} (h : v.isP k = true) : v.gr k = k + 1 := by unfold Md.gr; rw [v.lp_put h]
theorem Md.gr_get (v : Md) {k : Nat} (h : v.isP k = false) : v.gr k = match v.lp k with | some p => p + 1 | .none => 0 := by unfold Md.gr; rw [v.lp_get h]
theorem Md.lp_mono (v : Md) {i : Nat} : ∀ {j : Nat}, i ≤ j → (match v.lp i with | some p => p + 1 | .none => 0) ≤ (match v.lp j with | some p => p + 1 | .none => 0)
  | 0, h => by
    have : i = 0 := by omega
    subst this
    exact Nat.le_refl _
  | j + 1, h => by
    by_cases e : i = j + 1
    · subst e; exact Nat.le_refl _
    · refine Nat.le_trans (v.lp_mono (j := j) (by omega)) ?_
      by_cases q : v.isP j = true
      · rw [v.lp_put q]
        cases r : v.lp j with
        | none => exact Nat.zero_le _
        | some p =>
          have := (v.lp_lt r).1
          show p + 1 ≤ j + 1
          omega
      · rw [v.lp_get (by simpa using q)]
        exact Nat.le_refl _
theorem Md.gr_mono (v : Md) {i j : Nat} (h : i ≤ j) : v.gr i ≤ v.gr j := by
  unfold Md.gr
  exact v.lp_mono (by omega)
theorem Md.gr_le (v : Md) (k : Nat) : v.gr k ≤ k + 1 := by
  unfold Md.gr
  cases r : v.lp (k + 1) with
  | none => exact Nat.zero_le _
  | some p =>
    have := (v.lp_lt r).1
    show p + 1 ≤ k + 1
    omega
theorem Md.one_put (v : Md) {k : Nat} (h : v.isP k = true) : v.one k = v.put v.opn.length k := by
  unfold Md.one
  rw [if_pos (by unfold Md.isP at h; simpa using h)]
theorem Md.one_get (v : Md) {k p : Nat} (h : v.isP k = false) (hl : v.lp k = some p) : v.one k = v.get k (v.put 0 p) := by
  unfold Md.one
  rw [if_neg (by unfold Md.isP at h; simpa using h), v.last_lp, hl]
  rfl
theorem Md.one_none (v : Md) {k : Nat} (h : v.isP k = false) (hl : v.lp k = .none) : v.one k = v.none k := by
  unfold Md.one
  rw [if_neg (by unfold Md.isP at h; simpa using h), v.last_lp, hl]
  rfl
theorem Md.one_isP (v : Md) (k : Nat) : (v.one k).put = v.isP k := by
  cases h : v.isP k
  · cases hl : v.lp k with
    | none => rw [v.one_none h hl]; rfl
    | some p => rw [v.one_get h hl]; rfl
  · rw [v.one_put h]; rfl
/-- A Put without a tag that it tells is open. -/
theorem Md.sil_op (v : Md) (k i : Nat) (h : v.sil k i = true) : v.op k i = true := by
  unfold Md.sil at h
  unfold Md.op
  obtain ⟨x, h1, h2⟩ := List.any_eq_true.1 h
  exact List.any_eq_true.2 ⟨x, h1, by rw [h2, Bool.or_true]⟩
/-- Is it silent? -/
def Md.si (v : Md) (k : Nat) : Bool := v.isP k && v.sil v.opn.length k
theorem Md.tells (v : Md) (k : Nat) : (v.one k).tells = ((v.isP k && !v.si k) || (!v.isP k && (v.lp k).isSome)) := by
  unfold Cm.tells Md.si
  have b := v.to_b k
  cases h : v.isP k
  · cases hl : v.lp k with
    | none =>
      rw [v.one_none h hl]
      show (if false = true then _ else (false || (!false && decide (0 ≤ (v.none k).to) && decide ((76 : Int) = 0)))) = _
      simp
    | some p =>
      rw [v.one_get h hl]
      have e : (v.get k (v.put 0 p)).to = v.to0 k := rfl
      have e2 : decide (0 ≤ v.to0 k) = true := by rw [decide_eq_true]; omega
      show (if false = true then _ else (false || (!false && decide (0 ≤ (v.get k (v.put 0 p)).to) && decide ((0 : Int) = 0)))) = _
      rw [e, e2]
      rfl
  · rw [v.one_put h]
    have e1 : (v.put v.opn.length k).opn = v.op v.opn.length k := rfl
    rw [e1]
    cases q : v.sil v.opn.length k
    · have e2 : kIsZero (v.put v.opn.length k).tx (v.put v.opn.length k).ty = false := by
        unfold Md.put kIsZero
        rw [q]
        simp
        omega
      rw [e2]
      cases v.op v.opn.length k <;> rfl
    · have e2 : kIsZero (v.put v.opn.length k).tx (v.put v.opn.length k).ty = true := by
        unfold Md.put kIsZero
        rw [q]
        rfl
      rw [e2, v.sil_op _ _ q]
      rfl
theorem Md.absB (v : Md) (k : Nat) : absB (v.one k) = (!v.isP k && !(v.lp k).isSome) := by
  unfold Go.Proofs.Ytodmakcklacbfaa.absB
  have b := v.to_b k
  cases h : v.isP k
  · cases hl : v.lp k with
    | none =>
      rw [v.one_none h hl]
      have e : (v.none k).to = v.to0 k := rfl
      have e2 : decide (0 ≤ v.to0 k) = true := by rw [decide_eq_true]; omega
      rw [e, e2]
      rfl
    | some p =>
      rw [v.one_get h hl]
      show (_ && decide ((0 : Int) = 76)) = _
      simp
  · rw [v.one_put h]
    rfl
/-- The tag of what tells one. -/
theorem Md.tag (v : Md) (k : Nat) (h : (v.one k).tells = true) : (v.one k).tx = (v.gr k : Int) ∧ (v.one k).ty = 99 + (v.gr k : Int) ∧ 0 < v.gr k := by
  rw [v.tells] at h
  cases q : v.isP k
  · cases hl : v.lp k with
    | none => rw [q, hl] at h; cases h
    | some p =>
      rw [v.one_get q hl, v.gr_get q, hl]
      refine ⟨?_, ?_, ?_⟩
      · show (p : Int) + 1 = ((p + 1 : Nat) : Int)
        omega
      · show 100 + (p : Int) = 99 + ((p + 1 : Nat) : Int)
        omega
      · show 0 < p + 1
        omega
  · rw [q] at h
    have hs : v.sil v.opn.length k = false := by
      unfold Md.si at h
      rw [q] at h
      simpa using h
    rw [v.one_put q, v.gr_put q]
    unfold Md.put
    rw [hs]
    refine ⟨?_, ?_, by omega⟩
    · show (k : Int) + 1 = ((k + 1 : Nat) : Int)
      omega
    · show 100 + (k : Int) = 99 + ((k + 1 : Nat) : Int)
      omega
theorem Md.abs_gr (v : Md) {k : Nat} (h1 : v.isP k = false) (h2 : v.lp k = .none) : v.gr k = 0 := by rw [v.gr_get h1, h2]
/-- One call stands ahead of another. -/
def Md.Rel (v : Md) (j i : Nat) : Prop := v.gr j < v.gr i ∨ (v.gr j = v.gr i ∧ ((v.isP j = true ∧ v.isP i = false) ∨ (v.isP j = false ∧ v.isP i = false ∧ (v.fr j < v.fr i ∨ (v.fr j = v.fr i ∧ j < i)))))
theorem Md.Rel.ne {v : Md} {j i : Nat} (h : v.Rel j i) : j ≠ i := by
  intro e
  subst e
  rcases h with h | ⟨_, ⟨h1, h2⟩ | ⟨_, _, h | h⟩⟩
  · omega
  · rw [h1] at h2; cases h2
  · omega
  · omega
theorem Md.Rel.ahd {v : Md} {j i : Nat} (h : v.Rel j i) : (v.one i).cl.ahead (v.one j).cl = false := by
  cases q : (v.one i).cl.ahead (v.one j).cl
  · rfl
  · have lt := v.ahd_lt q
    have mo := v.gr_mono (Nat.le_of_lt lt)
    obtain ⟨q1, q2⟩ := (v.ahd i j).1 q
    have b1 := v.fr_b i
    have b2 := v.to_b i
    rw [(v.one_f j).frm] at q2
    have q3 : v.to0 i < v.fr j := by
      rcases (v.one_f i).kind with ⟨z, _⟩ | ⟨_, z, _⟩
      · rw [q1] at z; cases z
      · rw [z] at q2; exact q2
    rcases h with h | ⟨h0, ⟨h1, h2⟩ | ⟨h1, h2, h3⟩⟩
    · omega
    · have e1 := v.gr_put h1
      have e2 := v.gr_le i
      omega
    · rcases h3 with h3 | h3 <;> omega
end Go.Proofs.Ytodmakcklacbfaa

namespace Go.Proofs.Ytodmakcklacbfaa
open Go.RowKit Go.Shelf Go.Lib Go.Sort

theorem Md.hlen (v : Md) (n : Nat) : (v.hist n).length = n := by unfold Md.hist; simp
theorem Md.nums (v : Md) {n : Nat} {P : Cm → Bool} {x : Nat} : x ∈ numsK P (v.hist n) (v.hist n).length ↔ x < n ∧ P (v.one x) = true := by
  unfold numsK
  rw [List.mem_filter, List.mem_range, v.hlen]
  constructor
  · rintro ⟨h1, h2⟩
    rw [v.at h1] at h2
    exact ⟨h1, h2⟩
  · rintro ⟨h1, h2⟩
    rw [v.at h1]
    exact ⟨h1, h2⟩
theorem numsK_nodup {P : Cm → Bool} {ms : List Cm} {i : Nat} : (numsK P ms i).Nodup := List.Pairwise.filter _ List.nodup_range
/-- What the sorts tell. -/
theorem Md.sortA (v : Md) {n : Nat} {RA : List Nat} (h : SortOf (v.hist n) Go.Proofs.Ytodmakcklacbfaa.absB (FromLt (v.hist n)) RA) : RA.Pairwise v.Rel ∧ ∀ x, x ∈ RA ↔ x < n ∧ v.isP x = false ∧ v.lp x = .none := by
  have mem : ∀ x, x ∈ RA ↔ x < n ∧ v.isP x = false ∧ v.lp x = .none := by
    intro x
    rw [h.1.mem_iff, v.nums, v.absB]
    cases q : v.isP x <;> cases r : v.lp x <;> simp
  have nd : RA.Nodup := h.1.nodup_iff.2 numsK_nodup
  refine ⟨?_, mem⟩
  refine (List.Pairwise.and_mem.1 (h.2.and nd)).imp ?_
  rintro x y ⟨hx, hy, h1, h2⟩
  obtain ⟨x1, x2, x3⟩ := (mem x).1 hx
  obtain ⟨y1, y2, y3⟩ := (mem y).1 hy
  refine .inr ⟨by rw [v.abs_gr x2 x3, v.abs_gr y2 y3], .inr ⟨x2, y2, ?_⟩⟩
  by_cases z : v.fr x < v.fr y ∨ (v.fr x = v.fr y ∧ x < y)
  · exact z
  · refine absurd (fun a b ha hb => ?_) h1
    rw [v.at y1] at ha
    rw [v.at x1] at hb
    have ha := Option.some.inj ha
    have hb := Option.some.inj hb
    rw [← ha, ← hb, (v.one_f y).frm, (v.one_f x).frm]
    omega
def Md.Le (v : Md) (x y : Nat) : Prop := v.gr x < v.gr y ∨ (v.gr x = v.gr y ∧ (v.fr x < v.fr y ∨ (v.fr x = v.fr y ∧ x < y)))
theorem Md.sortT (v : Md) {n : Nat} {RT : List Nat} (h : SortOf (v.hist n) Cm.tells (TagLt (v.hist n)) RT) : RT.Pairwise v.Le ∧ RT.Nodup ∧ ∀ x, x ∈ RT ↔ x < n ∧ (v.one x).tells = true := by
  have mem : ∀ x, x ∈ RT ↔ x < n ∧ (v.one x).tells = true := by
    intro x
    rw [h.1.mem_iff, v.nums]
  have nd : RT.Nodup := h.1.nodup_iff.2 numsK_nodup
  refine ⟨?_, nd, mem⟩
  refine (List.Pairwise.and_mem.1 (h.2.and nd)).imp ?_
  rintro x y ⟨hx, hy, h1, h2⟩
  obtain ⟨x1, x2⟩ := (mem x).1 hx
  obtain ⟨y1, y2⟩ := (mem y).1 hy
  have tx := v.tag x x2
  have ty := v.tag y y2
  by_cases z : v.Le x y
  · exact z
  · refine absurd (fun a b ha hb => ?_) h1
    rw [v.at y1] at ha
    rw [v.at x1] at hb
    have ha := Option.some.inj ha
    have hb := Option.some.inj hb
    unfold Md.Le at z
    rw [← ha, ← hb, (v.one_f y).frm, (v.one_f x).frm, tx.1, tx.2.1, ty.1, ty.2.1]
    omega
theorem split_two {α : Type} (p : α → Bool) : ∀ {L : List α}, L.Pairwise (fun x y => p y = true → p x = true) → L = L.filter p ++ L.filter (fun x => !p x)
  | [], _ => rfl
  | a :: L, h => by
    obtain ⟨h1, h2⟩ := List.pairwise_cons.1 h
    have ih := split_two p h2
    cases q : p a
    · have e : L.filter p = [] := List.filter_eq_nil_iff.2 (fun x hx z => by have := h1 x hx z; rw [q] at this; cases this)
      rw [List.filter_cons_of_neg (by rw [q]; decide), List.filter_cons_of_pos (by rw [q]; rfl), e]
      rw [e] at ih
      rw [List.nil_append] at ih ⊢
      rw [← ih]
    · rw [List.filter_cons_of_pos q, List.filter_cons_of_neg (by rw [q]; decide), List.cons_append, ← ih]
theorem flatMap_same {α β : Type} {f h : α → List β} : ∀ {l : List α}, (∀ g ∈ l, f g = h g) → l.flatMap f = l.flatMap h
  | [], _ => rfl
  | a :: l, e => by rw [List.flatMap_cons, List.flatMap_cons, e a (by simp), flatMap_same (fun g hg => e g (List.mem_cons_of_mem _ hg))]
/-- What is sorted by a number is its parts, one behind the other. -/
theorem split_all (f : Nat → Nat) : ∀ (N : Nat) {L : List Nat}, (∀ x ∈ L, f x < N) → L.Pairwise (fun x y => f x ≤ f y) → L = (List.range N).flatMap fun g => L.filter fun x => decide (f x = g)
  | 0, L, h, _ => by
    cases L with
    | nil => rfl
    | cons a L => exact absurd (h a (by simp)) (by omega)
  | N + 1, L, h, hp => by
    have s := split_two (fun x => decide (f x < N)) (L := L) (hp.imp (fun hxy z => by simp at z ⊢; omega))
    have e2 : (L.filter fun x => !decide (f x < N)) = L.filter fun x => decide (f x = N) := by
      refine List.filter_congr (fun x hx => ?_)
      have := h x hx
      rw [Bool.eq_iff_iff]
      simp
      omega
    have ih := split_all f N (L := L.filter fun x => decide (f x < N)) (fun x hx => by have := (List.mem_filter.1 hx).2; simpa using this) (hp.filter _)
    have e3 : ((List.range N).flatMap fun g => (L.filter fun x => decide (f x < N)).filter fun x => decide (f x = g)) = (List.range N).flatMap fun g => L.filter fun x => decide (f x = g) := by
      refine flatMap_same (fun g hg => ?_)
      have hg := List.mem_range.1 hg
      rw [List.filter_filter]
      refine List.filter_congr (fun x _ => ?_)
      rw [Bool.eq_iff_iff]
      simp
      omega
    rw [List.range_succ, List.flatMap_append]
    rw [e3] at ih
    rw [← ih, List.flatMap_singleton, ← e2]
    exact s
theorem filter_one {α : Type} [DecidableEq α] {p : α → Bool} {a : α} : ∀ {L : List α}, L.Nodup → a ∈ L → p a = true → (∀ x ∈ L, p x = true → x = a) → L.filter p = [a]
  | [], _, h, _, _ => by cases h
  | b :: L, nd, h, hp, hu => by
    obtain ⟨n1, n2⟩ := List.nodup_cons.1 nd
    by_cases e : b = a
    · subst e
      rw [List.filter_cons_of_pos hp, List.filter_eq_nil_iff.2 (fun x hx z => n1 (by rw [← hu x (List.mem_cons_of_mem _ hx) z]; exact hx))]
    · have q : ¬ p b = true := fun z => e (hu b (by simp) z)
      rw [List.filter_cons_of_neg q]
      refine filter_one n2 ?_ hp (fun x hx z => hu x (List.mem_cons_of_mem _ hx) z)
      rcases List.mem_cons.1 h with z | z
      · exact absurd z.symm e
      · exact z
/-- The calls of one tag, and what they bring. -/
def Md.grp (v : Md) (RT : List Nat) (g : Nat) : List Nat := RT.filter fun x => decide (v.gr x = g)
def Md.blk (v : Md) (n : Nat) (RT : List Nat) (g : Nat) : List Nat := if getsOf (v.hist n) (v.grp RT g) = [] then (putsOf (v.hist n) (v.grp RT g)).filter (fun r => !opnAt (v.hist n) r) else (g - 1) :: getsOf (v.hist n) (v.grp RT g)
theorem Md.grp_mem (v : Md) {RT : List Nat} {g x : Nat} : x ∈ v.grp RT g ↔ x ∈ RT ∧ v.gr x = g := by unfold Md.grp; rw [List.mem_filter]; simp
theorem Md.puts_mem (v : Md) {n x : Nat} {R : List Nat} (hx : x < n) : x ∈ putsOf (v.hist n) R ↔ x ∈ R ∧ v.isP x = true := by
  unfold putsOf
  rw [List.mem_filter, v.at hx]
  show x ∈ R ∧ (v.one x).put = true ↔ _
  rw [v.one_isP]
theorem Md.gets_mem (v : Md) {n x : Nat} {R : List Nat} (hx : x < n) : x ∈ getsOf (v.hist n) R ↔ x ∈ R ∧ v.isP x = false := by
  unfold getsOf
  rw [List.mem_filter, v.at hx]
  show x ∈ R ∧ (!(v.one x).put) = true ↔ _
  rw [v.one_isP]
  cases v.isP x <;> simp
theorem Md.blk_mem (v : Md) {n : Nat} {RT : List Nat} (hn : ∀ x ∈ RT, x < n ∧ (v.one x).tells = true) {g x : Nat} (h : x ∈ v.blk n RT g) : x < n ∧ v.gr x = g ∧ 0 < g ∧ (v.isP x = true → x + 1 = g) ∧ (v.isP x = false → x ∈ getsOf (v.hist n) (v.grp RT g)) := by
  unfold Md.blk at h
  split at h
  · have h := (List.mem_filter.1 h).1
    have hx : x ∈ v.grp RT g := (List.mem_filter.1 h).1
    obtain ⟨h1, h2⟩ := (v.grp_mem).1 hx
    obtain ⟨h3, h4⟩ := hn x h1
    have h5 := ((v.puts_mem h3).1 h).2
    have h6 := (v.tag x h4).2.2
    have h7 := v.gr_put h5
    exact ⟨h3, h2, by omega, fun _ => by omega, fun z => by rw [h5] at z; cases z⟩
  · rename_i hne
    obtain ⟨y, hy⟩ := List.exists_mem_of_ne_nil _ hne
    have yg : y ∈ v.grp RT g := (List.mem_filter.1 hy).1
    obtain ⟨y1, y2⟩ := (v.grp_mem).1 yg
    obtain ⟨y3, y4⟩ := hn y y1
    have y5 := ((v.gets_mem y3).1 hy).2
    have y6 := (v.tag y y4).2.2
    rcases List.mem_cons.1 h with e | e
    · have y7 := v.gr_get y5
      cases r : v.lp y with
      | none => rw [r] at y7; have y7 : v.gr y = 0 := y7; omega
      | some p =>
        rw [r] at y7
        have y7 : v.gr y = p + 1 := y7
        obtain ⟨p1, p2⟩ := v.lp_lt r
        have e2 : x = p := by omega
        subst e2
        have h7 := v.gr_put p2
        exact ⟨by omega, by omega, by omega, fun _ => by omega, fun z => by rw [p2] at z; cases z⟩
    · have xg : x ∈ v.grp RT g := (List.mem_filter.1 e).1
      obtain ⟨x1, x2⟩ := (v.grp_mem).1 xg
      obtain ⟨x3, x4⟩ := hn x x1
      have x5 := ((v.gets_mem x3).1 e).2
      exact ⟨x3, x2, by omega, fun z => (by rw [x5] at z; cases z), fun _ => e⟩
end Go.Proofs.Ytodmakcklacbfaa
