import Derived.Test.YtodmakcklacbfaaPMadeR
namespace Go.Proofs.Ytodmakcklacbfaa
open Go.RowKit Go.Shelf Go.Lib Go.Sort

/-- What the Gets of an order tell, call by call. -/
def DOk (cs : List Cl) : List Nat → Int → Prop
  | [], _ => True
  | r :: o, l => (∀ c, cs[r]? = some c → (c.put = true ∨ ((c.st = 76 → l < 0) ∧ (c.st = 0 → valOf' cs l = some c.val)))) ∧ DOk cs o (match cs[r]? with | some c => if c.put = true then (r : Int) else l | .none => l)
theorem lastF_app (cs : List Cl) : ∀ (A B : List Nat) (l : Int), lastF cs (A ++ B) l = lastF cs B (lastF cs A l)
  | [], _, _ => rfl
  | a :: A, B, l => by
    rw [List.cons_append]
    exact lastF_app cs A B _
theorem dok_app (cs : List Cl) : ∀ (A B : List Nat) (l : Int), DOk cs A l → DOk cs B (lastF cs A l) → DOk cs (A ++ B) l
  | [], _, _, _, h => h
  | a :: A, B, l, h, h2 => by
    rw [List.cons_append]
    exact ⟨h.1, dok_app cs A B _ h.2 h2⟩
theorem dok_at (cs : List Cl) : ∀ {R : List Nat} {l : Int}, DOk cs R l → ∀ m r c, R[m]? = some r → cs[r]? = some c → c.put = true ∨ ((c.st = 76 → lastF cs (R.take m) l < 0) ∧ (c.st = 0 → valOf' cs (lastF cs (R.take m) l) = some c.val))
  | [], _, _, m, r, c, hr, _ => by simp at hr
  | a :: R, l, h, 0, r, c, hr, hc => by
    have e : a = r := by simpa using hr
    subst e
    exact h.1 c hc
  | a :: R, l, h, m + 1, r, c, hr, hc => by
    have := dok_at cs h.2 m r c (by simpa using hr) hc
    rw [List.take_succ_cons]
    unfold lastF
    exact this
theorem Md.cs_at (v : Md) {n i : Nat} (h : i < n) : ((v.hist n).map Cm.cl)[i]? = some (v.one i).cl := by rw [List.getElem?_map, v.at h]; rfl
theorem Md.dok_abs (v : Md) {n : Nat} : ∀ {R : List Nat}, (∀ x ∈ R, x < n ∧ v.isP x = false ∧ v.lp x = .none) → DOk ((v.hist n).map Cm.cl) R (-1) ∧ lastF ((v.hist n).map Cm.cl) R (-1) = -1
  | [], _ => ⟨trivial, rfl⟩
  | x :: R, h => by
    obtain ⟨h1, h2, h3⟩ := h x (by simp)
    obtain ⟨i1, i2⟩ := v.dok_abs (R := R) (fun y hy => h y (List.mem_cons_of_mem _ hy))
    have hc := v.cs_at h1
    have hp : (v.one x).cl.put = false := by
      show (v.one x).put = false
      rw [v.one_isP, h2]
    constructor
    · refine ⟨fun c hc2 => ?_, ?_⟩
      · rw [hc] at hc2
        rw [← Option.some.inj hc2, v.one_none h2 h3]
        exact .inr ⟨fun _ => by omega, fun z => by cases z⟩
      · rw [hc]
        simp only [hp]
        exact i1
    · unfold lastF
      rw [hc]
      simp only [hp]
      exact i2
theorem Md.dok_gets (v : Md) {n p : Nat} (hp : p < n) (ip : v.isP p = true) : ∀ {R : List Nat}, (∀ x ∈ R, x < n ∧ v.isP x = false ∧ v.lp x = some p) → DOk ((v.hist n).map Cm.cl) R (p : Int) ∧ lastF ((v.hist n).map Cm.cl) R (p : Int) = (p : Int)
  | [], _ => ⟨trivial, rfl⟩
  | x :: R, h => by
    obtain ⟨h1, h2, h3⟩ := h x (by simp)
    obtain ⟨i1, i2⟩ := v.dok_gets hp ip (R := R) (fun y hy => h y (List.mem_cons_of_mem _ hy))
    have hc := v.cs_at h1
    have hpp : (v.one x).cl.put = false := by
      show (v.one x).put = false
      rw [v.one_isP, h2]
    constructor
    · refine ⟨fun c hc2 => ?_, ?_⟩
      · rw [hc] at hc2
        rw [← Option.some.inj hc2, v.one_get h2 h3]
        refine .inr ⟨fun z => (by cases z), fun _ => ?_⟩
        rw [v.val_p hp (by unfold Md.isP at ip; simpa using ip)]
        rfl
      · rw [hc]
        simp only [hpp]
        exact i1
    · unfold lastF
      rw [hc]
      simp only [hpp]
      exact i2
theorem Md.get_lp (v : Md) {n : Nat} {RT : List Nat} (mem : ∀ x ∈ RT, x < n ∧ (v.one x).tells = true) {g x : Nat} (hx : x ∈ getsOf (v.hist n) (v.grp RT g)) : x < n ∧ v.isP x = false ∧ v.lp x = some (g - 1) ∧ v.gr x = g ∧ 0 < g := by
  have xg : x ∈ v.grp RT g := (List.mem_filter.1 hx).1
  obtain ⟨x1, x2⟩ := (v.grp_mem).1 xg
  obtain ⟨x3, x4⟩ := mem x x1
  have x5 := ((v.gets_mem x3).1 hx).2
  have x6 := (v.tag x x4).2.2
  have x7 := v.gr_get x5
  cases r : v.lp x with
  | none => rw [r] at x7; have x7 : v.gr x = 0 := x7; omega
  | some p =>
    rw [r] at x7
    have x7 : v.gr x = p + 1 := x7
    exact ⟨x3, x5, by rw [show g - 1 = p by omega], x2, by omega⟩
theorem Md.dok_blk (v : Md) {n : Nat} {RT : List Nat} (mem : ∀ x ∈ RT, x < n ∧ (v.one x).tells = true) (g : Nat) (l : Int) : DOk ((v.hist n).map Cm.cl) (v.blk n RT g) l := by
  by_cases ge : getsOf (v.hist n) (v.grp RT g) = []
  · have : ∀ x ∈ v.blk n RT g, x < n ∧ v.isP x = true := by
      intro x hx
      obtain ⟨h1, _, _, _, h5⟩ := v.blk_mem mem hx
      cases q : v.isP x
      · have := h5 q
        rw [ge] at this
        cases this
      · exact ⟨h1, rfl⟩
    generalize v.blk n RT g = B at this
    induction B generalizing l with
    | nil => trivial
    | cons x B ih =>
      obtain ⟨h1, h2⟩ := this x (by simp)
      refine ⟨fun c hc => ?_, ih _ (fun y hy => this y (List.mem_cons_of_mem _ hy))⟩
      rw [v.cs_at h1] at hc
      rw [← Option.some.inj hc]
      left
      show (v.one x).put = true
      rw [v.one_isP, h2]
  · obtain ⟨y, hy⟩ := List.exists_mem_of_ne_nil _ ge
    obtain ⟨y1, y2, y3, y4, y5⟩ := v.get_lp mem hy
    obtain ⟨p1, p2⟩ := v.lp_lt y3
    have e : v.blk n RT g = (g - 1) :: getsOf (v.hist n) (v.grp RT g) := by unfold Md.blk; rw [if_neg ge]
    rw [e]
    have hc := v.cs_at (n := n) (i := g - 1) (by omega)
    have hp : (v.one (g - 1)).cl.put = true := by
      show (v.one (g - 1)).put = true
      rw [v.one_isP, p2]
    refine ⟨fun c hc2 => ?_, ?_⟩
    · rw [hc] at hc2
      rw [← Option.some.inj hc2]
      exact .inl hp
    · rw [hc]
      simp only [hp]
      refine (v.dok_gets (by omega) p2 (fun x hx => ?_)).1
      obtain ⟨h1, h2, h3, _⟩ := v.get_lp mem hx
      exact ⟨h1, h2, h3⟩
theorem Md.dok_all (v : Md) {n : Nat} {RT : List Nat} (mem : ∀ x ∈ RT, x < n ∧ (v.one x).tells = true) : ∀ (Gs : List Nat) (l : Int), DOk ((v.hist n).map Cm.cl) (Gs.flatMap (v.blk n RT)) l
  | [], _ => trivial
  | g :: Gs, l => by
    rw [List.flatMap_cons]
    exact dok_app _ _ _ _ (v.dok_blk mem g l) (v.dok_all mem Gs _)
theorem Md.blk_rel (v : Md) {n : Nat} {RT : List Nat} (t1 : RT.Pairwise v.Le) (nd : RT.Nodup) (mem : ∀ x ∈ RT, x < n ∧ (v.one x).tells = true) (g : Nat) : (v.blk n RT g).Pairwise v.Rel := by
  by_cases ge : getsOf (v.hist n) (v.grp RT g) = []
  · have gnd : (v.grp RT g).Nodup := List.Pairwise.filter _ nd
    have e : v.blk n RT g = (putsOf (v.hist n) (v.grp RT g)).filter (fun r => !opnAt (v.hist n) r) := by unfold Md.blk; rw [if_pos ge]
    have al : ∀ x ∈ v.blk n RT g, x = g - 1 := by
      intro x hx
      obtain ⟨_, _, h3, h4, h5⟩ := v.blk_mem mem hx
      cases q : v.isP x
      · have := h5 q
        rw [ge] at this
        cases this
      · have := h4 q
        omega
    have nb : (v.blk n RT g).Nodup := by rw [e]; exact List.Pairwise.filter _ (List.Pairwise.filter _ gnd)
    rcases short_of nb al with z | z
    · rw [z]; exact List.Pairwise.nil
    · rw [z]; exact List.pairwise_singleton _ _
  · obtain ⟨y, hy⟩ := List.exists_mem_of_ne_nil _ ge
    obtain ⟨y1, y2, y3, y4, y5⟩ := v.get_lp mem hy
    obtain ⟨p1, p2⟩ := v.lp_lt y3
    have e : v.blk n RT g = (g - 1) :: getsOf (v.hist n) (v.grp RT g) := by unfold Md.blk; rw [if_neg ge]
    rw [e]
    refine List.pairwise_cons.2 ⟨fun x hx => ?_, ?_⟩
    · obtain ⟨_, h2, _, h4, _⟩ := v.get_lp mem hx
      exact .inr ⟨by rw [v.gr_put p2, h4]; omega, .inl ⟨p2, h2⟩⟩
    · have gp : (getsOf (v.hist n) (v.grp RT g)).Pairwise v.Le := List.Pairwise.filter _ (List.Pairwise.filter _ t1)
      refine (List.Pairwise.and_mem.1 gp).imp ?_
      rintro a b ⟨ha, hb, h⟩
      obtain ⟨_, a2, _, a4, _⟩ := v.get_lp mem ha
      obtain ⟨_, b2, _, b4, _⟩ := v.get_lp mem hb
      refine .inr ⟨by rw [a4, b4], .inr ⟨a2, b2, ?_⟩⟩
      unfold Md.Le at h
      omega
/-- All of the order by tags: each call ahead of those that it must be ahead of. -/
structure Md.Ord (v : Md) (n : Nat) (L : List Nat) : Prop where
  rel : L.Pairwise v.Rel
  lt : ∀ x ∈ L, x < n
  must : ∀ k, k < n → (v.one k).opn = false → k ∈ L
  dok : DOk ((v.hist n).map Cm.cl) L (-1)
theorem Md.ord (v : Md) {n : Nat} (hn : n ≤ 12) {L : List Nat} {e : Int} (h : ByT (v.hist n) L e) : e = 0 ∧ v.Ord n L := by
  obtain ⟨h0, RA, RT, hA, hT, rfl⟩ := v.byT hn h
  obtain ⟨a1, a2⟩ := v.sortA hA
  obtain ⟨t1, t2, t3⟩ := v.sortT hT
  have mem : ∀ x ∈ RT, x < n ∧ (v.one x).tells = true := fun x hx => (t3 x).1 hx
  refine ⟨h0, ?_, fun x hx => ?_, fun k hk ho => ?_, ?_⟩
  · refine List.pairwise_append.2 ⟨a1, ?_, fun x hx y hy => ?_⟩
    · refine List.pairwise_flatMap.2 ⟨fun g _ => v.blk_rel t1 t2 mem g, List.pairwise_lt_range.imp (fun hlt x hx y hy => ?_)⟩
      obtain ⟨_, x2, _⟩ := v.blk_mem mem hx
      obtain ⟨_, y2, _⟩ := v.blk_mem mem hy
      exact .inl (by rw [x2, y2]; exact hlt)
    · obtain ⟨g, _, hy⟩ := List.mem_flatMap.1 hy
      obtain ⟨_, y2, y3, _⟩ := v.blk_mem mem hy
      obtain ⟨_, x2, x3⟩ := (a2 x).1 hx
      exact .inl (by rw [v.abs_gr x2 x3, y2]; exact y3)
  · rcases List.mem_append.1 hx with z | z
    · exact ((a2 x).1 z).1
    · obtain ⟨g, _, hy⟩ := List.mem_flatMap.1 z
      exact (v.blk_mem mem hy).1
  · cases q : v.isP k
    · cases r : v.lp k with
      | none => exact List.mem_append_left _ ((a2 k).2 ⟨hk, q, r⟩)
      | some p =>
        have ht : (v.one k).tells = true := by rw [v.tells, q, r]; rfl
        have inT : k ∈ RT := (t3 k).2 ⟨hk, ht⟩
        have inG : k ∈ getsOf (v.hist n) (v.grp RT (v.gr k)) := (v.gets_mem hk).2 ⟨(v.grp_mem).2 ⟨inT, rfl⟩, q⟩
        refine List.mem_append_right _ (List.mem_flatMap.2 ⟨v.gr k, List.mem_range.2 (by have := v.gr_le k; omega), ?_⟩)
        unfold Md.blk
        rw [if_neg (fun z => by rw [z] at inG; cases inG)]
        exact List.mem_cons_of_mem _ inG
    · have hs : v.si k = false := by
        cases z : v.si k
        · rfl
        · unfold Md.si at z
          rw [Bool.and_eq_true] at z
          have := v.sil_op _ _ z.2
          rw [v.one_put q] at ho
          have ho : v.op v.opn.length k = false := ho
          rw [this] at ho
          cases ho
      have ht : (v.one k).tells = true := by rw [v.tells, q, hs]; rfl
      have inT : k ∈ RT := (t3 k).2 ⟨hk, ht⟩
      have eg := v.gr_put q
      have inP : k ∈ putsOf (v.hist n) (v.grp RT (k + 1)) := (v.puts_mem hk).2 ⟨(v.grp_mem).2 ⟨inT, eg⟩, q⟩
      refine List.mem_append_right _ (List.mem_flatMap.2 ⟨k + 1, List.mem_range.2 (by omega), ?_⟩)
      unfold Md.blk
      split
      · refine List.mem_filter.2 ⟨inP, ?_⟩
        unfold opnAt
        rw [v.at hk]
        show (!(v.one k).opn) = true
        rw [ho]
        rfl
      · exact List.mem_cons.2 (.inl (by omega))
  · obtain ⟨d1, d2⟩ := v.dok_abs (n := n) (R := RA) (fun x hx => (a2 x).1 hx)
    exact dok_app _ _ _ _ d1 (by rw [d2]; exact v.dok_all mem _ _)
/-- It explains them. -/
theorem Md.Ord.explains {v : Md} {n : Nat} {L : List Nat} (h : v.Ord n L) : Expl (v.hist n) (L.map fun r : Nat => (r : Int)) := by
  have nd : L.Nodup := h.rel.imp (fun z => z.ne)
  refine ⟨L, rfl, (explain_iff (v.fit n).nb).2 ⟨fun m hm r hr => ⟨fun z => ?_, ?_⟩, fun i hi c hc hm => ?_, fun i hi j hj x y hx hy hh p q hp hq => ?_, fun m hm r c hr hc => ?_⟩⟩
  · obtain ⟨j, hj, e⟩ := List.getElem_of_mem z
    rw [List.length_take] at hj
    rw [List.getElem_take] at e
    obtain ⟨h1, h2⟩ := List.getElem?_eq_some_iff.1 hr
    exact (List.pairwise_iff_getElem.1 nd) j m (by omega) h1 (by omega) (by rw [e, h2])
  · exact ⟨_, v.cs_at (h.lt r (List.mem_of_getElem? hr)), v.part r⟩
  · rw [v.len] at hi
    rw [v.cs_at hi] at hc
    rw [← Option.some.inj hc] at hm
    refine h.must i hi ?_
    cases q : (v.one i).opn
    · rfl
    · rcases (v.one_f i).kind with ⟨_, k2, _, _⟩ | ⟨k1, _⟩
      · unfold Cl.must Cl.open_ at hm
        have e1 : (v.one i).cl.put = true := k2
        have e2 : (v.one i).cl.opn = true := q
        rw [e1, e2] at hm
        simp at hm
      · rw [q] at k1; cases k1
  · obtain ⟨_, rfl⟩ := v.at' hx
    obtain ⟨_, rfl⟩ := v.at' hy
    by_cases le : q ≤ p
    · exact le
    · obtain ⟨p1, p2⟩ := List.getElem?_eq_some_iff.1 hp
      obtain ⟨q1, q2⟩ := List.getElem?_eq_some_iff.1 hq
      have := (List.pairwise_iff_getElem.1 h.rel) p q p1 q1 (by omega)
      rw [p2, q2] at this
      rw [this.ahd] at hh
      cases hh
  · exact dok_at _ h.dok m r c hr hc
end Go.Proofs.Ytodmakcklacbfaa
