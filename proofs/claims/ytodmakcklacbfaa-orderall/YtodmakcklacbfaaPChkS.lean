import Derived.Test.YtodmakcklacbfaaPChkMJ
namespace Go.Proofs.Ytodmakcklacbfaa
open Go.RowKit Go.Shelf Go.Lib Go.Sort

theorem fit_get {m : Cm} (h : m.fit = true) (hp : m.put = false) : m.opn = false := by
  unfold Cm.fit Cm.opb at h
  rw [hp] at h
  simp at h
  exact h.2
theorem tell_get {m : Cm} (h : m.fit = true) (hp : m.put = false) (ht : m.tells = true) : m.opn = false ∧ 0 ≤ m.to ∧ m.st = 0 := by
  have ho := fit_get h hp
  unfold Cm.tells at ht
  rw [ho, hp] at ht
  simp at ht
  exact ⟨ho, ht⟩
theorem part_put {m : Cm} (h : m.put = true) : m.cl.part = true := by
  unfold Cl.part
  have e : m.cl.put = true := h
  rw [e]
  rfl
theorem part_get {m : Cm} (h : m.fit = true) (hp : m.put = false) (ht : m.tells = true) : m.cl.part = true := by
  obtain ⟨_, h2, h3⟩ := tell_get h hp ht
  unfold Cl.part
  have e1 : m.cl.to = m.to := rfl
  have e2 : m.cl.st = m.st := rfl
  rw [e1, e2, h3]
  simp [h2]
theorem must_put {m : Cm} (h : m.cl.must = true) (hp : m.put = true) : m.opn = false := by
  unfold Cl.must Cl.open_ at h
  have e : m.cl.put = true := hp
  have e2 : m.cl.opn = m.opn := rfl
  rw [e, e2] at h
  cases q : m.opn
  · rfl
  · rw [q] at h; simp at h
theorem puts_at {ms : List Cm} {R : List Nat} {x : Nat} {m : Cm} (hm : ms[x]? = some m) : x ∈ putsOf ms R ↔ x ∈ R ∧ m.put = true := by
  unfold putsOf
  rw [List.mem_filter, hm]
theorem gets_at {ms : List Cm} {R : List Nat} {x : Nat} {m : Cm} (hm : ms[x]? = some m) : x ∈ getsOf ms R ↔ x ∈ R ∧ m.put = false := by
  unfold getsOf
  rw [List.mem_filter, hm]
  cases q : m.put <;> simp [q]
/-- What the calls of one tag bring, by cases. -/
theorem oneX_cases {ms : List Cm} {G P : List Nat} {M : Int → Option Int} {tx ty : Int} (h : oneX ms G M tx ty = some P) :
    (P = [] ∧ getsOf ms G = [] ∧ (putsOf ms G).filter (fun r => !opnAt ms r) = [] ∧ (putsX ms G M ty).2 = M) ∨
    (∃ p, P = p :: getsOf ms G ∧ (putsX ms G M ty).2 = M ∧ p ∈ putsOf ms G ∧ (∀ x ∈ putsOf ms G, opnAt ms x = false → x = p) ∧ (getsOf ms G = [] → opnAt ms p = false)) ∨
    (∃ l, M ty = some l ∧ P = l.toNat :: getsOf ms G ∧ (putsX ms G M ty).2 = delM M ty ∧ putsOf ms G = []) := by
  unfold oneX at h
  by_cases ge : getsOf ms G = []
  · have e : putsX ms G M ty = ((putsOf ms G).filter (fun r => !opnAt ms r), M) := by unfold putsX; rw [if_pos ge]
    rw [e] at h ⊢
    split at h
    · rename_i z
      have h := Option.some.inj h
      exact .inl ⟨h.symm, ge, z.1, rfl⟩
    · split at h
      · cases h
      · rename_i z
        have h := Option.some.inj h
        have h1 : ((putsOf ms G).filter (fun r => !opnAt ms r)).length = 1 := by
          by_cases q : ((putsOf ms G).filter (fun r => !opnAt ms r)).length = 1
          · exact q
          · exact absurd (.inl q) z
        obtain ⟨p, hp⟩ := List.length_eq_one_iff.1 h1
        have pin : p ∈ (putsOf ms G).filter (fun r => !opnAt ms r) := by rw [hp]; simp
        refine .inr (.inl ⟨p, ?_, rfl, (List.mem_filter.1 pin).1, fun x hx ho => ?_, fun _ => by have := (List.mem_filter.1 pin).2; simpa using this⟩)
        · rw [← h]
          show (putsOf ms G).filter (fun r => !opnAt ms r) ++ getsOf ms G = _
          rw [hp]
          rfl
        · have : x ∈ (putsOf ms G).filter (fun r => !opnAt ms r) := List.mem_filter.2 ⟨hx, by rw [ho]; rfl⟩
          rw [hp] at this
          simpa using this
  · by_cases pe : putsOf ms G = []
    · cases hM : M ty with
      | none =>
        have e : putsX ms G M ty = ([], M) := by unfold putsX; rw [if_neg ge, if_pos pe, hM]
        rw [e] at h
        rw [if_neg (fun z => ge z.2), if_pos (.inl (by simp))] at h
        cases h
      | some l =>
        have e : putsX ms G M ty = ([l.toNat], delM M ty) := by unfold putsX; rw [if_neg ge, if_pos pe, hM]
        rw [e] at h ⊢
        rw [if_neg (fun z => ge z.2)] at h
        split at h
        · cases h
        · exact .inr (.inr ⟨l, rfl, (Option.some.inj h).symm, rfl, pe⟩)
    · have e : putsX ms G M ty = (putsOf ms G, M) := by unfold putsX; rw [if_neg ge, if_neg pe]
      rw [e] at h ⊢
      rw [if_neg (fun z => ge z.2)] at h
      split at h
      · cases h
      · rename_i z
        have h := Option.some.inj h
        have h1 : (putsOf ms G).length = 1 := by
          by_cases q : (putsOf ms G).length = 1
          · exact q
          · exact absurd (.inl q) z
        obtain ⟨p, hp⟩ := List.length_eq_one_iff.1 h1
        refine .inr (.inl ⟨p, ?_, rfl, by rw [hp]; simp, fun x hx _ => by rw [hp] at hx; simpa using hx, fun z => absurd z ge⟩)
        rw [← h]
        show putsOf ms G ++ getsOf ms G = _
        rw [hp]
        rfl
/-- One tag more. -/
theorem BI.step {ms : List Cm} (fit : FitL ms) {acc left : List Nat} {M : Int → Option Int} (h : BI ms acc left M) {s r0 : Nat} {m0 : Cm} (al : Alike ms left s) (hr : left[0]? = some r0) (hm : ms[r0]? = some m0) {P : List Nat} (hP : oneX ms (left.take s) M m0.tx m0.ty = some P) : BI ms (acc ++ P) (left.drop s) (putsX ms (left.take s) M m0.ty).2 := by
  obtain ⟨s0, sl, r0', m0', hr', hm', al1, al2⟩ := al
  rw [hr] at hr'
  have e := Option.some.inj hr'
  subst e
  rw [hm] at hm'
  have e := Option.some.inj hm'
  subst e
  have split : left = left.take s ++ left.drop s := (List.take_append_drop s left).symm
  have inG : ∀ x ∈ left.take s, ∃ m, ms[x]? = some m ∧ m.tells = true ∧ m.tx = m0.tx ∧ m.ty = m0.ty := by
    intro x hx
    obtain ⟨m, h1, h2⟩ := h.tel x (List.mem_of_mem_take hx)
    exact ⟨m, h1, h2, al1 x hx m h1⟩
  have fitm : ∀ (x : Nat) (m : Cm), ms[x]? = some m → m.fit = true := fun x m hx => (fit m (List.mem_of_getElem? hx)).2
  have sp := h.srt
  rw [split] at sp
  obtain ⟨sp1, sp2, sp3⟩ := List.pairwise_append.1 sp
  have gtD : ∀ x ∈ left.drop s, ∀ m, ms[x]? = some m → m0.tx < m.tx ∨ (m0.tx = m.tx ∧ m0.ty < m.ty) := by
    intro x hx m hmx
    have r0G : r0 ∈ left.take s := List.mem_of_getElem? (i := 0) (by rw [List.getElem?_take_of_lt s0]; exact hr)
    have ge : ∀ y ∈ left.drop s, ∀ m', ms[y]? = some m' → m0.tx < m'.tx ∨ (m0.tx = m'.tx ∧ m0.ty ≤ m'.ty) := fun y hy m' hm' => not_taglt hm hm' (sp3 r0 r0G y hy)
    cases hd : left.drop s with
    | nil => rw [hd] at hx; cases hx
    | cons d0 T =>
      have hd0 : left[s]? = some d0 := by
        have : (left.drop s)[0]? = some d0 := by rw [hd]; rfl
        rw [List.getElem?_drop, Nat.add_zero] at this
        exact this
      obtain ⟨md, hmd, _⟩ := h.tel d0 (List.mem_of_getElem? hd0)
      have ne := al2 d0 md hd0 hmd
      have g0 := ge d0 (by rw [hd]; simp) md hmd
      rw [hd] at hx
      rcases List.mem_cons.1 hx with z | z
      · subst z
        rw [hmd] at hmx
        have em := Option.some.inj hmx
        subst em
        omega
      · rw [hd] at sp2
        have g1 := not_taglt hmd hmx ((List.pairwise_cons.1 sp2).1 x z)
        omega
  have ndG : ∀ x ∈ left.take s, x ∉ left.drop s := by
    intro x hx hx2
    have nd := h.ndl
    rw [split] at nd
    exact (List.pairwise_append.1 nd).2.2 x hx x hx2 rfl
  have gin : ∀ x ∈ getsOf ms (left.take s), ∃ m, ms[x]? = some m ∧ m.put = false ∧ m.tells = true ∧ m.tx = m0.tx ∧ m.ty = m0.ty ∧ x ∈ left.take s := by
    intro x hx
    have hxG : x ∈ left.take s := (List.mem_filter.1 hx).1
    obtain ⟨m, h1, h2, h3⟩ := inG x hxG
    exact ⟨m, h1, ((gets_at h1).1 hx).2, h2, h3.1, h3.2, hxG⟩
  have gnd : (getsOf ms (left.take s)).Nodup := List.Pairwise.filter _ (List.Pairwise.sublist (List.take_sublist s left) h.ndl)
  have dnd : (left.drop s).Nodup := List.Pairwise.sublist (List.drop_sublist s left) h.ndl
  have dtel : ∀ x ∈ left.drop s, ∃ m, ms[x]? = some m ∧ m.tells = true := fun x hx => h.tel x (List.mem_of_mem_drop hx)
  -- what holds wherever a Put p stands ahead of the Gets
  have main : ∀ (p : Nat) (mp : Cm) (M' : Int → Option Int), P = p :: getsOf ms (left.take s) → ms[p]? = some mp → mp.put = true → p ∉ acc → p ∉ left.drop s →
      ((mp.tx = m0.tx ∧ mp.ty = m0.ty ∧ p ∈ left.take s) ∨ (mp.opn = true ∧ mp.tx = 0 ∧ mp.ty = 0)) →
      (∀ key q, M' key = some q → M key = some q ∧ q.toNat ≠ p) → (∀ x ∈ putsOf ms (left.take s), opnAt ms x = false → x = p) → BI ms (acc ++ P) (left.drop s) M' := by
    intro p mp M' eP hp hpp pa pd cs hM' hu
    have pg : p ∉ getsOf ms (left.take s) := fun z => by
      obtain ⟨m, h1, h2, _⟩ := gin p z
      rw [hp] at h1
      rw [← Option.some.inj h1, hpp] at h2
      cases h2
    have nx : nextL ms p (lastL ms acc (-1)) = (p : Int) := by
      unfold nextL
      rw [hp]
      show (if mp.put = true then (p : Int) else _) = (p : Int)
      rw [hpp]
      rfl
    have gr := gets_row ms (l := (p : Int)) (G := getsOf ms (left.take s)) (fun x hx => by
      obtain ⟨m, h1, h2, h3, h4, h5, _⟩ := gin x hx
      refine ⟨m, h1, h2, fun m' hm' => ?_⟩
      rw [h1] at hm'
      have em := Option.some.inj hm'
      subst em
      obtain ⟨_, _, t3⟩ := tell_get (fitm x m h1) h2 h3
      refine ⟨fun z => (by rw [h2] at z; cases z), fun _ z => (by rw [t3] at z; cases z), fun _ _ => ⟨by omega, fun q hq => ?_⟩⟩
      rw [Int.toNat_natCast, hp] at hq
      have eq := Option.some.inj hq
      subst eq
      rcases cs with ⟨c1, c2, _⟩ | ⟨c1, c2, c3⟩
      · exact ⟨fun _ => ⟨by rw [c1, h4], by rw [c2, h5]⟩, fun _ => .inr ⟨by rw [c1, h4], by rw [c2, h5]⟩⟩
      · exact ⟨fun z => (by rw [c1] at z; cases z), fun _ => .inl ⟨c2, c3⟩⟩)
    have la : lastL ms (acc ++ P) (-1) = (p : Int) := by
      rw [lastL_app, eP]
      show lastL ms (getsOf ms (left.take s)) (nextL ms p (lastL ms acc (-1))) = _
      rw [nx]
      exact gr.2
    refine ⟨?_, ?_, dnd, dtel, sp2, ?_, fun key q hq => h.sil key q (hM' key q hq).1, fun key q hq z => ?_, ?_, .inr ?_, fun i m hi hmu => ?_⟩
    · rw [eP]
      refine List.pairwise_append.2 ⟨h.nd, List.nodup_cons.2 ⟨pg, gnd⟩, fun x hx y hy e => ?_⟩
      subst e
      rcases List.mem_cons.1 hy with z | z
      · rw [z] at hx; exact pa hx
      · obtain ⟨_, _, _, _, _, _, zG⟩ := gin x z
        exact h.ap x hx (List.mem_of_mem_take zG)
    · intro i hi
      rcases List.mem_append.1 hi with z | z
      · exact h.pt i z
      · rw [eP] at z
        rcases List.mem_cons.1 z with z | z
        · rw [z]; exact ⟨mp, hp, part_put hpp⟩
        · obtain ⟨m, h1, h2, h3, _⟩ := gin i z
          exact ⟨m, h1, part_get (fitm i m h1) h2 h3⟩
    · intro i hi hd
      rcases List.mem_append.1 hi with z | z
      · exact h.ap i z (List.mem_of_mem_drop hd)
      · rw [eP] at z
        rcases List.mem_cons.1 z with z | z
        · rw [z] at hd; exact pd hd
        · obtain ⟨_, _, _, _, _, _, zG⟩ := gin i z
          exact ndG i zG hd
    · obtain ⟨hq1, hq2⟩ := hM' key q hq
      rcases List.mem_append.1 z with z | z
      · exact h.sap key q hq1 z
      · rw [eP] at z
        rcases List.mem_cons.1 z with z | z
        · exact hq2 z
        · obtain ⟨m, h1, h2, _⟩ := gin _ z
          obtain ⟨_, m', h3, h4, _⟩ := h.sil key q hq1
          rw [h1] at h3
          rw [← Option.some.inj h3, h2] at h4
          cases h4
    · refine sok_app ms _ _ _ h.seq ?_
      rw [eP]
      refine ⟨fun m hm' => ?_, by rw [nx]; exact gr.1⟩
      rw [hp] at hm'
      have em := Option.some.inj hm'
      subst em
      refine ⟨fun _ l0 q hq qo po => ?_, fun z => (by rw [hpp] at z; cases z), fun z => (by rw [hpp] at z; cases z)⟩
      rcases cs with ⟨_, _, pG⟩ | ⟨c1, _⟩
      · rcases h.lst with z | ⟨_, z⟩
        · omega
        · exact z q hq qo p (List.mem_of_mem_take pG) mp hp
      · rw [c1] at po; cases po
    · rw [la]
      refine ⟨by omega, fun q hq qo x hx m hmx => ?_⟩
      rw [Int.toNat_natCast, hp] at hq
      have eq := Option.some.inj hq
      subst eq
      rcases cs with ⟨c1, c2, _⟩ | ⟨c1, _⟩
      · unfold tlt
        rw [c1, c2]
        exact gtD x hx m hmx
      · rw [c1] at qo; cases qo
    · rcases h.must i m hi hmu with z | z
      · exact .inl (List.mem_append_left _ z)
      · rw [split] at z
        rcases List.mem_append.1 z with z | z
        · left
          refine List.mem_append_right _ ?_
          rw [eP]
          cases q : m.put
          · exact List.mem_cons_of_mem _ ((gets_at hi).2 ⟨z, q⟩)
          · have ho := must_put hmu q
            rw [hu i ((puts_at hi).2 ⟨z, q⟩) (by unfold opnAt; rw [hi]; exact ho)]
            simp
        · exact .inr z
  rcases oneX_cases hP with ⟨eP, ge, pe, eM⟩ | ⟨p, eP, eM, pin, hu, _⟩ | ⟨l, hl, eP, eM, pe⟩
  · rw [eP, eM, List.append_nil]
    refine ⟨h.nd, h.pt, dnd, dtel, sp2, fun i hi z => h.ap i hi (List.mem_of_mem_drop z), h.sil, h.sap, h.seq, ?_, fun i m hi hmu => ?_⟩
    · rcases h.lst with z | ⟨z1, z2⟩
      · exact .inl z
      · exact .inr ⟨z1, fun q hq qo x hx => z2 q hq qo x (List.mem_of_mem_drop hx)⟩
    · rcases h.must i m hi hmu with z | z
      · exact .inl z
      · rw [split] at z
        rcases List.mem_append.1 z with z | z
        · exfalso
          cases q : m.put
          · have : i ∈ getsOf ms (left.take s) := (gets_at hi).2 ⟨z, q⟩
            rw [ge] at this
            cases this
          · have ho := must_put hmu q
            have : i ∈ (putsOf ms (left.take s)).filter (fun r => !opnAt ms r) := List.mem_filter.2 ⟨(puts_at hi).2 ⟨z, q⟩, by unfold opnAt; rw [hi]; show (!m.opn) = true; rw [ho]; rfl⟩
            rw [pe] at this
            cases this
        · exact .inr z
  · have pG : p ∈ left.take s := (List.mem_filter.1 pin).1
    obtain ⟨mp, hp, ht, h3, h4⟩ := inG p pG
    have hpp := ((puts_at hp).1 pin).2
    rw [eM]
    refine main p mp M eP hp hpp (fun z => h.ap p z (List.mem_of_mem_take pG)) (ndG p pG) (.inl ⟨h3, h4, pG⟩) (fun key q hq => ⟨hq, fun z => ?_⟩) hu
    obtain ⟨_, m', g1, g2, g3, g4, g5, _⟩ := h.sil key q hq
    rw [z, hp] at g1
    have em := Option.some.inj g1
    subst em
    unfold Cm.tells kIsZero at ht
    rw [g3, g4, g5] at ht
    simp at ht
  · obtain ⟨l0, mp, hp, g2, g3, g4, g5, g6⟩ := h.sil m0.ty l hl
    rw [eM]
    refine main l.toNat mp _ eP hp g2 (h.sap m0.ty l hl) (fun z => ?_) (.inr ⟨g3, g4, g5⟩) (fun key q hq => ?_) (fun x hx => by rw [pe] at hx; cases hx)
    · obtain ⟨m', k1, k2⟩ := h.tel _ (List.mem_of_mem_drop z)
      rw [hp] at k1
      have em := Option.some.inj k1
      subst em
      unfold Cm.tells kIsZero at k2
      rw [g3, g4, g5] at k2
      simp at k2
    · unfold delM at hq
      split at hq
      · cases hq
      · rename_i nk
        refine ⟨hq, fun z => nk ?_⟩
        obtain ⟨_, m', k1, _, _, _, _, k6⟩ := h.sil key q hq
        rw [z, hp] at k1
        rw [← Option.some.inj k1, g6] at k6
        exact k6.symm
end Go.Proofs.Ytodmakcklacbfaa
