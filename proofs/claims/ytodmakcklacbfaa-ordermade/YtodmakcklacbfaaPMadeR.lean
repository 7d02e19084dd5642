import Derived.Test.YtodmakcklacbfaaPMadeL
namespace Go.Proofs.Ytodmakcklacbfaa
open Go.RowKit Go.Shelf Go.Lib Go.Sort

theorem short_of {a : Nat} : ∀ {q : List Nat}, q.Nodup → (∀ x ∈ q, x = a) → q = [] ∨ q = [a]
  | [], _, _ => .inl rfl
  | [x], _, h => .inr (by rw [h x (by simp)])
  | x :: y :: q, nd, h => by
    have h1 := h x (by simp)
    have h2 := h y (by simp)
    have := (List.nodup_cons.1 nd).1
    exact absurd (by rw [h1, ← h2]; simp) this
theorem Md.one_grp (v : Md) {n : Nat} (hn : n ≤ 12) {RT : List Nat} (nd : RT.Nodup) (mem : ∀ x, x ∈ RT ↔ x < n ∧ (v.one x).tells = true) {M : Int → Option Int} {g : Nat} (hg : 0 < g) (hgn : g ≤ n) (hM : v.si (g - 1) = true → M (99 + (g : Int)) = some ((g - 1 : Nat) : Int)) :
    oneX (v.hist n) (v.grp RT g) M (g : Int) (99 + (g : Int)) = some (v.blk n RT g) ∧ ∀ x, x ≠ 99 + (g : Int) → (putsX (v.hist n) (v.grp RT g) M (99 + (g : Int))).2 x = M x := by
  have hpr : kIsProper (g : Int) (99 + (g : Int)) = true := by
    unfold kIsProper
    rw [decide_eq_true]
    omega
  have gnd : (v.grp RT g).Nodup := List.Pairwise.filter _ nd
  have pu : ∀ x ∈ putsOf (v.hist n) (v.grp RT g), x = g - 1 ∧ v.isP x = true ∧ x ∈ RT := by
    intro x hx
    have h1 := (v.grp_mem).1 (List.mem_filter.1 hx).1
    have h2 := (mem x).1 h1.1
    have h3 := ((v.puts_mem h2.1).1 hx).2
    have h4 := v.gr_put h3
    exact ⟨by omega, h3, h1.1⟩
  unfold oneX Md.blk
  by_cases ge : getsOf (v.hist n) (v.grp RT g) = []
  · have e : putsX (v.hist n) (v.grp RT g) M (99 + (g : Int)) = ((putsOf (v.hist n) (v.grp RT g)).filter (fun r => !opnAt (v.hist n) r), M) := by unfold putsX; rw [if_pos ge]
    rw [e, if_pos ge, ge]
    refine ⟨?_, fun _ _ => rfl⟩
    rcases short_of (q := (putsOf (v.hist n) (v.grp RT g)).filter (fun r => !opnAt (v.hist n) r)) (a := g - 1) (List.Pairwise.filter _ (List.Pairwise.filter _ gnd)) (fun x hx => (pu x (List.mem_filter.1 hx).1).1) with z | z
    · rw [z]
      simp
    · rw [z]
      simp [hpr]
  · rw [if_neg ge]
    obtain ⟨y, hy⟩ := List.exists_mem_of_ne_nil _ ge
    have yg : y ∈ v.grp RT g := (List.mem_filter.1 hy).1
    obtain ⟨y1, y2⟩ := (v.grp_mem).1 yg
    obtain ⟨y3, y4⟩ := (mem y).1 y1
    have y5 := ((v.gets_mem y3).1 hy).2
    have y7 := v.gr_get y5
    have ip : v.isP (g - 1) = true ∧ g - 1 < n := by
      cases r : v.lp y with
      | none => rw [r] at y7; have y7 : v.gr y = 0 := y7; omega
      | some p =>
        rw [r] at y7
        have y7 : v.gr y = p + 1 := y7
        obtain ⟨p1, p2⟩ := v.lp_lt r
        have e2 : g - 1 = p := by omega
        rw [e2]
        exact ⟨p2, by omega⟩
    cases si : v.si (g - 1)
    · have inRT : g - 1 ∈ RT := (mem _).2 ⟨ip.2, by rw [v.tells, ip.1, si]; rfl⟩
      have e1 : putsOf (v.hist n) (v.grp RT g) = [g - 1] := by
        unfold putsOf
        refine filter_one gnd ((v.grp_mem).2 ⟨inRT, by rw [v.gr_put ip.1]; omega⟩) ?_ (fun x hx z => ?_)
        · rw [v.at ip.2]
          show (v.one (g - 1)).put = true
          rw [v.one_isP]
          exact ip.1
        · exact (pu x (by unfold putsOf; exact List.mem_filter.2 ⟨hx, z⟩)).1
      have e : putsX (v.hist n) (v.grp RT g) M (99 + (g : Int)) = ([g - 1], M) := by
        unfold putsX
        rw [if_neg ge, e1, if_neg (by simp)]
      rw [e]
      refine ⟨?_, fun _ _ => rfl⟩
      simp [hpr]
    · have e1 : putsOf (v.hist n) (v.grp RT g) = [] := by
        rw [List.eq_nil_iff_forall_not_mem]
        intro x hx
        obtain ⟨x1, x2, x3⟩ := pu x hx
        have := ((mem x).1 x3).2
        rw [v.tells, x1, ip.1, si] at this
        cases this
      have e : putsX (v.hist n) (v.grp RT g) M (99 + (g : Int)) = ([g - 1], delM M (99 + (g : Int))) := by
        unfold putsX
        rw [if_neg ge, if_pos e1, hM si]
        rfl
      rw [e]
      refine ⟨?_, fun x hx => ?_⟩
      · simp [hpr]
      · show delM M (99 + (g : Int)) x = M x
        unfold delM
        rw [if_neg hx]
/-- All tags, one behind the other. -/
theorem Md.run (v : Md) {n : Nat} (hn : n ≤ 12) {RT : List Nat} (nd : RT.Nodup) (mem : ∀ x, x ∈ RT ↔ x < n ∧ (v.one x).tells = true) : ∀ (Gs : List Nat) (M : Int → Option Int), Gs.Pairwise (· < ·) → (∀ g ∈ Gs, 0 < g ∧ g ≤ n) → (∀ g ∈ Gs, v.si (g - 1) = true → M (99 + (g : Int)) = some ((g - 1 : Nat) : Int)) → ∀ (f : Nat) (acc : List Nat), (Gs.flatMap (v.grp RT)).length ≤ f → runX (v.hist n) f (Gs.flatMap (v.grp RT)) M acc = some (acc ++ Gs.flatMap (v.blk n RT))
  | [], M, _, _, _, f, acc, _ => by
    show runX (v.hist n) f [] M acc = some (acc ++ [])
    rw [runX_nil, List.append_nil]
  | g :: Gs, M, hp, hg, hM, f, acc, hf => by
    obtain ⟨hp1, hp2⟩ := List.pairwise_cons.1 hp
    obtain ⟨g0, gn⟩ := hg g (by simp)
    rw [List.flatMap_cons] at hf ⊢
    rw [List.flatMap_cons]
    by_cases ge : v.grp RT g = []
    · have eb : v.blk n RT g = [] := by
        unfold Md.blk
        rw [ge]
        rfl
      rw [ge, eb, List.nil_append, List.nil_append]
      rw [ge, List.nil_append] at hf
      exact v.run hn nd mem Gs M hp2 (fun g' h' => hg g' (List.mem_cons_of_mem _ h')) (fun g' h' => hM g' (List.mem_cons_of_mem _ h')) f acc hf
    · obtain ⟨r0, T, hT⟩ := List.exists_cons_of_ne_nil ge
      have inG : ∀ x ∈ v.grp RT g, x < n ∧ (v.one x).tx = (g : Int) ∧ (v.one x).ty = 99 + (g : Int) := by
        intro x hx
        obtain ⟨h1, h2⟩ := (v.grp_mem).1 hx
        obtain ⟨h3, h4⟩ := (mem x).1 h1
        have h5 := v.tag x h4
        rw [h2] at h5
        exact ⟨h3, h5.1, h5.2.1⟩
      have inR : ∀ x ∈ Gs.flatMap (v.grp RT), x < n ∧ ¬ (v.one x).tx = (g : Int) := by
        intro x hx
        obtain ⟨g', hg', hx⟩ := List.mem_flatMap.1 hx
        obtain ⟨h1, h2⟩ := (v.grp_mem).1 hx
        obtain ⟨h3, h4⟩ := (mem x).1 h1
        have h5 := v.tag x h4
        have h6 := hp1 g' hg'
        exact ⟨h3, by rw [h5.1]; omega⟩
      have h0 : (v.grp RT g ++ Gs.flatMap (v.grp RT))[0]? = some r0 := by rw [hT]; rfl
      have r0G : r0 ∈ v.grp RT g := by rw [hT]; simp
      have hm0 := v.at (inG r0 r0G).1
      have al : Alike (v.hist n) (v.grp RT g ++ Gs.flatMap (v.grp RT)) (v.grp RT g).length := by
        refine ⟨by rw [hT]; simp, by rw [List.length_append]; omega, r0, _, h0, hm0, fun r hr m hm => ?_, fun r m hr hm => ?_⟩
        · rw [List.take_left] at hr
          obtain ⟨h1, h2, h3⟩ := inG r hr
          rw [v.at h1] at hm
          rw [← Option.some.inj hm, h2, h3, (inG r0 r0G).2.1, (inG r0 r0G).2.2]
          exact ⟨rfl, rfl⟩
        · have hr2 : r ∈ Gs.flatMap (v.grp RT) := by
            rw [List.getElem?_append_right (Nat.le_refl _), Nat.sub_self] at hr
            exact List.mem_of_getElem? hr
          obtain ⟨h1, h2⟩ := inR r hr2
          rw [v.at h1] at hm
          rw [← Option.some.inj hm, (inG r0 r0G).2.1]
          exact fun z => h2 z.1
      obtain ⟨f', rfl⟩ : ∃ f', f = f' + 1 := ⟨f - 1, by rw [hT] at hf; simp at hf; omega⟩
      rw [runX_step (f := f') (M := M) (acc := acc) (fun r hr => by
        rw [v.hlen]
        rcases List.mem_append.1 hr with z | z
        · exact (inG r z).1
        · exact (inR r z).1) al h0 hm0, List.take_left, List.drop_left, (inG r0 r0G).2.1, (inG r0 r0G).2.2]
      obtain ⟨o1, o2⟩ := v.one_grp hn nd mem (M := M) g0 gn (hM g (by simp))
      rw [o1]
      show runX (v.hist n) f' (Gs.flatMap (v.grp RT)) _ (acc ++ v.blk n RT g) = _
      rw [v.run hn nd mem Gs _ hp2 (fun g' h' => hg g' (List.mem_cons_of_mem _ h')) (fun g' h' hs => by
        rw [o2 _ (by have := hp1 g' h'; omega)]
        exact hM g' (List.mem_cons_of_mem _ h') hs) f' _ (by rw [List.length_append, hT] at hf; simp only [List.length_cons] at hf; omega)]
      rw [List.append_assoc]
theorem Md.sil_at (v : Md) {n : Nat} (hn : n ≤ 12) : ∀ (i p : Nat), i ≤ n → p < i → v.si p = true → silM (v.hist n) i (100 + (p : Int)) = some (p : Int)
  | 0, p, _, h, _ => by omega
  | i + 1, p, hi, hp, hs => by
    have hm := v.at (n := n) (i := i) (by omega)
    rw [silM_add hm]
    have cl : (v.one i).client = 100 + (i : Int) := by
      cases q : v.isP i
      · cases r : v.lp i with
        | none => rw [v.one_none q r]; rfl
        | some y => rw [v.one_get q r]; rfl
      · rw [v.one_put q]; rfl
    rw [cl]
    by_cases e : p = i
    · subst e
      have hs2 := hs
      unfold Md.si at hs2
      rw [Bool.and_eq_true] at hs2
      have c : ((v.one p).opn && kIsZero (v.one p).tx (v.one p).ty) = true := by
        rw [v.one_put hs2.1]
        unfold Md.put kIsZero
        rw [hs2.2, v.sil_op _ _ hs2.2]
        rfl
      rw [if_pos c]
      unfold upd
      rw [if_pos rfl]
    · have ih := v.sil_at hn i p (by omega) (by omega) hs
      split
      · unfold upd
        rw [if_neg (by omega)]
        exact ih
      · exact ih
/-- The order by tags of a history. -/
theorem Md.byT (v : Md) {n : Nat} (hn : n ≤ 12) {L : List Nat} {e : Int} (h : ByT (v.hist n) L e) : e = 0 ∧ ∃ RA RT, SortOf (v.hist n) Go.Proofs.Ytodmakcklacbfaa.absB (FromLt (v.hist n)) RA ∧ SortOf (v.hist n) Cm.tells (TagLt (v.hist n)) RT ∧ L = RA ++ ((List.range (n + 1)).flatMap (v.blk n RT)) := by
  rcases h with ⟨_, z, _⟩ | ⟨_, RA, RT, hA, hT, z⟩
  · exact absurd (v.fit n) z
  · obtain ⟨t1, t2, t3⟩ := v.sortT hT
    have sp := split_all v.gr (n + 1) (L := RT) (fun x hx => by have h1 := ((t3 x).1 hx).1; have h2 := v.gr_le x; omega) (t1.imp (fun hxy => by unfold Md.Le at hxy; omega))
    have g0 : v.grp RT 0 = [] := by
      unfold Md.grp
      rw [List.filter_eq_nil_iff]
      intro x hx z
      have h1 := (v.tag x ((t3 x).1 hx).2).2.2
      simp at z
      omega
    have b0 : v.blk n RT 0 = [] := by
      unfold Md.blk
      rw [g0]
      rfl
    have er : List.range (n + 1) = 0 :: (List.range n).map Nat.succ := List.range_succ_eq_map
    have sp : RT = ((List.range n).map Nat.succ).flatMap (v.grp RT) := by
      have sp : RT = (List.range (n + 1)).flatMap (v.grp RT) := sp
      rw [er, List.flatMap_cons, g0, List.nil_append] at sp
      exact sp
    have run := v.run hn t2 t3 ((List.range n).map Nat.succ) (silM (v.hist n) (v.hist n).length) (by
        rw [List.pairwise_map]
        exact List.pairwise_lt_range.imp (fun h => by omega)) (fun g hg => by
        obtain ⟨i, hi, rfl⟩ := List.mem_map.1 hg
        have := List.mem_range.1 hi
        exact ⟨by omega, by omega⟩) (fun g hg hs => by
        obtain ⟨i, hi, rfl⟩ := List.mem_map.1 hg
        have hi := List.mem_range.1 hi
        rw [v.hlen]
        have := v.sil_at hn n i (Nat.le_refl _) hi (by simpa using hs)
        have e1 : (99 : Int) + ((Nat.succ i : Nat) : Int) = 100 + (i : Int) := by omega
        rw [e1]
        simpa using this) RT.length RA (by rw [← sp]; exact Nat.le_refl _)
    rw [← sp] at run
    have eb : (List.range (n + 1)).flatMap (v.blk n RT) = ((List.range n).map Nat.succ).flatMap (v.blk n RT) := by
      rw [er, List.flatMap_cons, b0, List.nil_append]
    rcases z with ⟨_, z, _⟩ | ⟨z1, z2⟩
    · rw [run] at z; cases z
    · rw [run] at z2
      exact ⟨z1, RA, RT, hA, hT, by rw [eb]; exact (Option.some.inj z2).symm⟩
end Go.Proofs.Ytodmakcklacbfaa
