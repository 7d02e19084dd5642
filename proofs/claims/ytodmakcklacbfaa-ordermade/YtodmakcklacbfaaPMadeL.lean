import Derived.Test.YtodmakcklacbfaaPMadeM
namespace Go.Proofs.Ytodmakcklacbfaa
open Go.RowKit Go.Shelf Go.Lib Go.Sort

theorem Md.hlen (v : Md) (n : Nat) : (v.hist n).length = n := by unfold Md.hist; simp
theorem Md.nums (v : Md) {n : Nat} {P : Cm → Bool} {x : Nat} : x ∈ numsK P (v.hist n) (v.hist n).length ↔ x < n ∧ P (v.one x) = true := by
  unfold numsK
  rw [List.mem_filter, List.mem_range, v.hlen]
  constructor
  · rintro ⟨h1, h2⟩
    rw [v.at h1] at h2
    exact ⟨h1, h2⟩
  · rintro ⟨h1, h2⟩
    rw [v.at h1]
    exact ⟨h1, h2⟩
theorem numsK_nodup {P : Cm → Bool} {ms : List Cm} {i : Nat} : (numsK P ms i).Nodup := List.Pairwise.filter _ List.nodup_range
/-- What the sorts tell. -/
theorem Md.sortA (v : Md) {n : Nat} {RA : List Nat} (h : SortOf (v.hist n) Go.Proofs.Ytodmakcklacbfaa.absB (FromLt (v.hist n)) RA) : RA.Pairwise v.Rel ∧ ∀ x, x ∈ RA ↔ x < n ∧ v.isP x = false ∧ v.lp x = .none := by
  have mem : ∀ x, x ∈ RA ↔ x < n ∧ v.isP x = false ∧ v.lp x = .none := by
    intro x
    rw [h.1.mem_iff, v.nums, v.absB]
    cases q : v.isP x <;> cases r : v.lp x <;> simp
  have nd : RA.Nodup := h.1.nodup_iff.2 numsK_nodup
  refine ⟨?_, mem⟩
  refine (List.Pairwise.and_mem.1 (h.2.and nd)).imp ?_
  rintro x y ⟨hx, hy, h1, h2⟩
  obtain ⟨x1, x2, x3⟩ := (mem x).1 hx
  obtain ⟨y1, y2, y3⟩ := (mem y).1 hy
  refine .inr ⟨by rw [v.abs_gr x2 x3, v.abs_gr y2 y3], .inr ⟨x2, y2, ?_⟩⟩
  by_cases z : v.fr x < v.fr y ∨ (v.fr x = v.fr y ∧ x < y)
  · exact z
  · refine absurd (fun a b ha hb => ?_) h1
    rw [v.at y1] at ha
    rw [v.at x1] at hb
    have ha := Option.some.inj ha
    have hb := Option.some.inj hb
    rw [← ha, ← hb, (v.one_f y).frm, (v.one_f x).frm]
    omega
def Md.Le (v : Md) (x y : Nat) : Prop := v.gr x < v.gr y ∨ (v.gr x = v.gr y ∧ (v.fr x < v.fr y ∨ (v.fr x = v.fr y ∧ x < y)))
theorem Md.sortT (v : Md) {n : Nat} {RT : List Nat} (h : SortOf (v.hist n) Cm.tells (TagLt (v.hist n)) RT) : RT.Pairwise v.Le ∧ RT.Nodup ∧ ∀ x, x ∈ RT ↔ x < n ∧ (v.one x).tells = true := by
  have mem : ∀ x, x ∈ RT ↔ x < n ∧ (v.one x).tells = true := by
    intro x
    rw [h.1.mem_iff, v.nums]
  have nd : RT.Nodup := h.1.nodup_iff.2 numsK_nodup
  refine ⟨?_, nd, mem⟩
  refine (List.Pairwise.and_mem.1 (h.2.and nd)).imp ?_
  rintro x y ⟨hx, hy, h1, h2⟩
  obtain ⟨x1, x2⟩ := (mem x).1 hx
  obtain ⟨y1, y2⟩ := (mem y).1 hy
  have tx := v.tag x x2
  have ty := v.tag y y2
  by_cases z : v.Le x y
  · exact z
  · refine absurd (fun a b ha hb => ?_) h1
    rw [v.at y1] at ha
    rw [v.at x1] at hb
    have ha := Option.some.inj ha
    have hb := Option.some.inj hb
    unfold Md.Le at z
    rw [← ha, ← hb, (v.one_f y).frm, (v.one_f x).frm, tx.1, tx.2.1, ty.1, ty.2.1]
    omega
theorem split_two {α : Type} (p : α → Bool) : ∀ {L : List α}, L.Pairwise (fun x y => p y = true → p x = true) → L = L.filter p ++ L.filter (fun x => !p x)
  | [], _ => rfl
  | a :: L, h => by
    obtain ⟨h1, h2⟩ := List.pairwise_cons.1 h
    have ih := split_two p h2
    cases q : p a
    · have e : L.filter p = [] := List.filter_eq_nil_iff.2 (fun x hx z => by have := h1 x hx z; rw [q] at this; cases this)
      rw [List.filter_cons_of_neg (by rw [q]; decide), List.filter_cons_of_pos (by rw [q]; rfl), e]
      rw [e] at ih
      rw [List.nil_append] at ih ⊢
      rw [← ih]
    · rw [List.filter_cons_of_pos q, List.filter_cons_of_neg (by rw [q]; decide), List.cons_append, ← ih]
theorem flatMap_same {α β : Type} {f h : α → List β} : ∀ {l : List α}, (∀ g ∈ l, f g = h g) → l.flatMap f = l.flatMap h
  | [], _ => rfl
  | a :: l, e => by rw [List.flatMap_cons, List.flatMap_cons, e a (by simp), flatMap_same (fun g hg => e g (List.mem_cons_of_mem _ hg))]
/-- What is sorted by a number is its parts, one behind the other. -/
theorem split_all (f : Nat → Nat) : ∀ (N : Nat) {L : List Nat}, (∀ x ∈ L, f x < N) → L.Pairwise (fun x y => f x ≤ f y) → L = (List.range N).flatMap fun g => L.filter fun x => decide (f x = g)
  | 0, L, h, _ => by
    cases L with
    | nil => rfl
    | cons a L => exact absurd (h a (by simp)) (by omega)
  | N + 1, L, h, hp => by
    have s := split_two (fun x => decide (f x < N)) (L := L) (hp.imp (fun hxy z => by simp at z ⊢; omega))
    have e2 : (L.filter fun x => !decide (f x < N)) = L.filter fun x => decide (f x = N) := by
      refine List.filter_congr (fun x hx => ?_)
      have := h x hx
      rw [Bool.eq_iff_iff]
      simp
      omega
    have ih := split_all f N (L := L.filter fun x => decide (f x < N)) (fun x hx => by have := (List.mem_filter.1 hx).2; simpa using this) (hp.filter _)
    have e3 : ((List.range N).flatMap fun g => (L.filter fun x => decide (f x < N)).filter fun x => decide (f x = g)) = (List.range N).flatMap fun g => L.filter fun x => decide (f x = g) := by
      refine flatMap_same (fun g hg => ?_)
      have hg := List.mem_range.1 hg
      rw [List.filter_filter]
      refine List.filter_congr (fun x _ => ?_)
      rw [Bool.eq_iff_iff]
      simp
      omega
    rw [List.range_succ, List.flatMap_append]
    rw [e3] at ih
    rw [← ih, List.flatMap_singleton, ← e2]
    exact s
theorem filter_one {α : Type} [DecidableEq α] {p : α → Bool} {a : α} : ∀ {L : List α}, L.Nodup → a ∈ L → p a = true → (∀ x ∈ L, p x = true → x = a) → L.filter p = [a]
  | [], _, h, _, _ => by cases h
  | b :: L, nd, h, hp, hu => by
    obtain ⟨n1, n2⟩ := List.nodup_cons.1 nd
    by_cases e : b = a
    · subst e
      rw [List.filter_cons_of_pos hp, List.filter_eq_nil_iff.2 (fun x hx z => n1 (by rw [← hu x (List.mem_cons_of_mem _ hx) z]; exact hx))]
    · have q : ¬ p b = true := fun z => e (hu b (by simp) z)
      rw [List.filter_cons_of_neg q]
      refine filter_one n2 ?_ hp (fun x hx z => hu x (List.mem_cons_of_mem _ hx) z)
      rcases List.mem_cons.1 h with z | z
      · exact absurd z.symm e
      · exact z
/-- The calls of one tag, and what they bring. -/
def Md.grp (v : Md) (RT : List Nat) (g : Nat) : List Nat := RT.filter fun x => decide (v.gr x = g)
def Md.blk (v : Md) (n : Nat) (RT : List Nat) (g : Nat) : List Nat := if getsOf (v.hist n) (v.grp RT g) = [] then (putsOf (v.hist n) (v.grp RT g)).filter (fun r => !opnAt (v.hist n) r) else (g - 1) :: getsOf (v.hist n) (v.grp RT g)
theorem Md.grp_mem (v : Md) {RT : List Nat} {g x : Nat} : x ∈ v.grp RT g ↔ x ∈ RT ∧ v.gr x = g := by unfold Md.grp; rw [List.mem_filter]; simp
theorem Md.puts_mem (v : Md) {n x : Nat} {R : List Nat} (hx : x < n) : x ∈ putsOf (v.hist n) R ↔ x ∈ R ∧ v.isP x = true := by
  unfold putsOf
  rw [List.mem_filter, v.at hx]
  show x ∈ R ∧ (v.one x).put = true ↔ _
  rw [v.one_isP]
theorem Md.gets_mem (v : Md) {n x : Nat} {R : List Nat} (hx : x < n) : x ∈ getsOf (v.hist n) R ↔ x ∈ R ∧ v.isP x = false := by
  unfold getsOf
  rw [List.mem_filter, v.at hx]
  show x ∈ R ∧ (!(v.one x).put) = true ↔ _
  rw [v.one_isP]
  cases v.isP x <;> simp
theorem Md.blk_mem (v : Md) {n : Nat} {RT : List Nat} (hn : ∀ x ∈ RT, x < n ∧ (v.one x).tells = true) {g x : Nat} (h : x ∈ v.blk n RT g) : x < n ∧ v.gr x = g ∧ 0 < g ∧ (v.isP x = true → x + 1 = g) ∧ (v.isP x = false → x ∈ getsOf (v.hist n) (v.grp RT g)) := by
  unfold Md.blk at h
  split at h
  · have h := (List.mem_filter.1 h).1
    have hx : x ∈ v.grp RT g := (List.mem_filter.1 h).1
    obtain ⟨h1, h2⟩ := (v.grp_mem).1 hx
    obtain ⟨h3, h4⟩ := hn x h1
    have h5 := ((v.puts_mem h3).1 h).2
    have h6 := (v.tag x h4).2.2
    have h7 := v.gr_put h5
    exact ⟨h3, h2, by omega, fun _ => by omega, fun z => by rw [h5] at z; cases z⟩
  · rename_i hne
    obtain ⟨y, hy⟩ := List.exists_mem_of_ne_nil _ hne
    have yg : y ∈ v.grp RT g := (List.mem_filter.1 hy).1
    obtain ⟨y1, y2⟩ := (v.grp_mem).1 yg
    obtain ⟨y3, y4⟩ := hn y y1
    have y5 := ((v.gets_mem y3).1 hy).2
    have y6 := (v.tag y y4).2.2
    rcases List.mem_cons.1 h with e | e
    · have y7 := v.gr_get y5
      cases r : v.lp y with
      | none => rw [r] at y7; have y7 : v.gr y = 0 := y7; omega
      | some p =>
        rw [r] at y7
        have y7 : v.gr y = p + 1 := y7
        obtain ⟨p1, p2⟩ := v.lp_lt r
        have e2 : x = p := by omega
        subst e2
        have h7 := v.gr_put p2
        exact ⟨by omega, by omega, by omega, fun _ => by omega, fun z => by rw [p2] at z; cases z⟩
    · have xg : x ∈ v.grp RT g := (List.mem_filter.1 e).1
      obtain ⟨x1, x2⟩ := (v.grp_mem).1 xg
      obtain ⟨x3, x4⟩ := hn x x1
      have x5 := ((v.gets_mem x3).1 e).2
      exact ⟨x3, x2, by omega, fun z => (by rw [x5] at z; cases z), fun _ => e⟩
end Go.Proofs.Ytodmakcklacbfaa
