import Derived.Test.YtodmakcklacbfaaVSmallJ
import Derived.Test.YtodmakcklacbfaaRDefJ
namespace Go.Proofs.Ytodmakcklacbfaa
open Go.RowKit Go.Shelf Go.Lib Go.Sort

def inA (ms : List Cm) (m : Cm) : Bool := ownB m && (!m.opn || wantB ms (tg m))
def takA (ms : List Cm) (i : Nat) : List (Nat × Int × Int) := (numsK (inA ms) ms i).map fun i => (i, tagAt ms i)
/-- The silent Puts that are taken. -/
structure TakB (ms : List Cm) (i : Nat) (G : List (Int × Int)) (B : List (Nat × Int × Int)) : Prop where
  given : ∀ t, t ∈ G ↔ ∃ (j : Nat) (m : Cm), j < i ∧ ms[j]? = some m ∧ readB m = true ∧ tg m = t ∧ knowB ms t = false
  mem : ∀ c t, (c, t) ∈ B ↔ t ∈ G ∧ silM ms ms.length t.2 = some (c : Int)
  one : B.Pairwise (fun x y => x.2 ≠ y.2)
  len : G.length ≤ i ∧ B.length ≤ i
def Tak (ms : List Cm) (IN : List (Nat × Int × Int)) : Prop := ∃ G B, IN = takA ms ms.length ++ B ∧ TakB ms ms.length G B
structure DOk (ms : List Cm) (IN : List (Nat × Int × Int)) : Prop where
  prop : ∀ x ∈ IN, kIsProper x.2.1 x.2.2 = true
  pair : IN.Pairwise (fun x y => x.2 ≠ y.2 ∧ x.1 ≠ y.1)
  read : ∀ (i : Nat) (m : Cm), ms[i]? = some m → readB m = true → ∃ x ∈ IN, x.2 = tg m
def SortD (ms : List Cm) (P : Cm → Bool) (g : List Nat) : Prop := g.Perm (numsK P ms ms.length) ∧ g.Pairwise (AheadF ms)
def tlt2 (a b : Int × Int) : Prop := a.1 < b.1 ∨ (a.1 = b.1 ∧ a.2 < b.2)
def rdT (t : Int × Int) (m : Cm) : Bool := readB m && decide (tg m = t)
/-- What the document's order by tags is. -/
structure DRes (ms : List Cm) (IN : List (Nat × Int × Int)) (D : List Nat) : Prop where
  ok : ∃ (RA : List Nat) (S : List ((Nat × Int × Int) × List Nat)), SortD ms absB RA ∧ (S.map Prod.fst).Perm IN ∧ S.Pairwise (fun x y => tlt2 x.1.2 y.1.2) ∧ (∀ y ∈ S, SortD ms (rdT y.1.2) y.2) ∧ D = RA ++ S.flatMap fun y => y.1.1 :: y.2
theorem sort_one {α : Type} {R : α → α → Prop} (asym : ∀ a b, R a b → R b a → False) : ∀ {l1 l2 : List α}, l1.Pairwise R → l2.Pairwise R → (∀ x, x ∈ l1 ↔ x ∈ l2) → l1 = l2
  | [], [], _, _, _ => rfl
  | [], b :: l2, _, _, h => absurd ((h b).2 (by simp)) (by simp)
  | a :: l1, [], _, _, h => absurd ((h a).1 (by simp)) (by simp)
  | a :: l1, b :: l2, p1, p2, h => by
    obtain ⟨q1, r1⟩ := List.pairwise_cons.1 p1
    obtain ⟨q2, r2⟩ := List.pairwise_cons.1 p2
    have e : a = b := by
      rcases List.mem_cons.1 ((h a).1 (by simp)) with z | z
      · exact z
      · rcases List.mem_cons.1 ((h b).2 (by simp)) with y | y
        · exact y.symm
        · exact (asym a b (q1 b y) (q2 a z)).elim
    subst e
    rw [sort_one asym r1 r2 (fun x => ⟨fun hx => ?_, fun hx => ?_⟩)]
    · rcases List.mem_cons.1 ((h x).1 (List.mem_cons_of_mem _ hx)) with z | z
      · subst z
        exact (asym _ _ (q1 x hx) (q1 x hx)).elim
      · exact z
    · rcases List.mem_cons.1 ((h x).2 (List.mem_cons_of_mem _ hx)) with z | z
      · subst z
        exact (asym _ _ (q2 x hx) (q2 x hx)).elim
      · exact z
theorem ahead_asym {ms : List Cm} (i j : Nat) (h : AheadF ms i j) (h2 : AheadF ms j i) : False := by
  obtain ⟨a, b, ha, hb, z⟩ := h
  obtain ⟨b', a', hb', ha', z'⟩ := h2
  rw [ha] at ha'
  rw [hb] at hb'
  rw [← Option.some.inj ha', ← Option.some.inj hb'] at z'
  omega
theorem tlt2_asym (a b : Int × Int) (h : tlt2 a b) (h2 : tlt2 b a) : False := by
  unfold tlt2 at h h2
  omega
theorem tlt2_ne {a b : Int × Int} (h : tlt2 a b) : a ≠ b := fun z => by
  subst z
  exact tlt2_asym _ _ h h
theorem sortD_one {ms : List Cm} {P : Cm → Bool} {g h : List Nat} (hg : SortD ms P g) (hh : SortD ms P h) : g = h :=
  sort_one ahead_asym hg.2 hh.2 (fun _ => (hg.1.mem_iff).trans (hh.1.mem_iff).symm)
theorem numsK_nd {P : Cm → Bool} {ms : List Cm} {i : Nat} : (numsK P ms i).Nodup := List.Pairwise.filter _ List.nodup_range
theorem nums_iff {P : Cm → Bool} {ms : List Cm} {x : Nat} : x ∈ numsK P ms ms.length ↔ ∃ m, ms[x]? = some m ∧ P m = true := by
  unfold numsK
  rw [List.mem_filter, List.mem_range]
  constructor
  · rintro ⟨h1, h2⟩
    have hm : ms[x]? = some ms[x] := List.getElem?_eq_getElem h1
    rw [hm] at h2
    exact ⟨_, hm, h2⟩
  · rintro ⟨m, hm, h2⟩
    refine ⟨(List.getElem?_eq_some_iff.1 hm).1, ?_⟩
    rw [hm]
    exact h2
theorem ahead_of_from {ms : List Cm} {x y : Nat} {a b : Cm} (ha : ms[x]? = some a) (hb : ms[y]? = some b) (ne : x ≠ y) (h : ¬ FromLt ms y x) : AheadF ms x y := by
  refine ⟨a, b, ha, hb, ?_⟩
  by_cases z : a.frm < b.frm ∨ (a.frm = b.frm ∧ x < y)
  · exact z
  · refine absurd (fun b' a' hb' ha' => ?_) h
    rw [ha] at ha'
    rw [hb] at hb'
    rw [← Option.some.inj ha', ← Option.some.inj hb']
    omega
theorem ahead_of_tag {ms : List Cm} {x y : Nat} {a b : Cm} (ha : ms[x]? = some a) (hb : ms[y]? = some b) (ne : x ≠ y) (ht : tg a = tg b) (h : ¬ TagLt ms y x) : AheadF ms x y := by
  refine ⟨a, b, ha, hb, ?_⟩
  unfold tg at ht
  have h1 := congrArg Prod.fst ht
  have h2 := congrArg Prod.snd ht
  by_cases z : a.frm < b.frm ∨ (a.frm = b.frm ∧ x < y)
  · exact z
  · refine absurd (fun b' a' hb' ha' => ?_) h
    rw [ha] at ha'
    rw [hb] at hb'
    rw [← Option.some.inj ha', ← Option.some.inj hb']
    simp at h1 h2
    omega
theorem sortD_of {ms : List Cm} {P : Cm → Bool} {R : List Nat} (h : SortOf ms P (FromLt ms) R) : SortD ms P R := by
  refine ⟨h.1, ?_⟩
  have nd : R.Nodup := h.1.nodup_iff.2 numsK_nd
  have hp := h.2
  refine (List.pairwise_iff_forall_sublist.2 fun {x y} hs => ?_)
  have hx : x ∈ R := hs.subset (by simp)
  have hy : y ∈ R := hs.subset (by simp)
  obtain ⟨a, ha, _⟩ := nums_iff.1 (h.1.mem_iff.1 hx)
  obtain ⟨b, hb, _⟩ := nums_iff.1 (h.1.mem_iff.1 hy)
  exact ahead_of_from ha hb (List.pairwise_iff_forall_sublist.1 nd hs) (List.pairwise_iff_forall_sublist.1 hp hs)
theorem tells_iff {m : Cm} (fit : m.fit = true) : m.tells = true ↔ ownB m = true ∨ readB m = true := by
  unfold Cm.tells ownB readB
  cases ho : m.opn
  · cases hp : m.put <;> simp
  · cases hp : m.put
    · have := fit_get fit hp
      rw [ho] at this
      cases this
    · simp
/-- Groups. -/
def grp (ms : List Cm) (L : List Nat) (t : Int × Int) : List Nat := L.filter fun x => decide (tagAt ms x = t)
theorem grp_mem {ms : List Cm} {L : List Nat} {t : Int × Int} {x : Nat} : x ∈ grp ms L t ↔ x ∈ L ∧ tagAt ms x = t := by
  unfold grp
  rw [List.mem_filter, decide_eq_true_iff]
def runT (ms : List Cm) (L : List Nat) : List (Int × Int) → (Int → Option Int) → List Nat → Option (List Nat)
  | [], _, acc => some acc
  | t :: T, M, acc => match oneX ms (grp ms L t) M t.1 t.2 with
    | none => none
    | some P => runT ms L T (putsX ms (grp ms L t) M t.2).2 (acc ++ P)
theorem runT_same {ms : List Cm} {L L' : List Nat} : ∀ {T : List (Int × Int)} (_ : ∀ t ∈ T, grp ms L t = grp ms L' t) (M : Int → Option Int) (acc : List Nat), runT ms L T M acc = runT ms L' T M acc
  | [], _, _, _ => rfl
  | t :: T, h, M, acc => by
    unfold runT
    rw [h t (by simp)]
    cases oneX ms (grp ms L' t) M t.1 t.2 with
    | none => rfl
    | some P => exact runT_same (fun t ht => h t (List.mem_cons_of_mem _ ht)) _ _
theorem alike_at {ms : List Cm} {r : Nat} {T : List Nat} : ∃ s, alikeN ms (r :: T) = s + 1 ∧ (∀ x ∈ (r :: T).take (s + 1), tagAt ms x = tagAt ms r) ∧ (∀ x, T[s]? = some x → tagAt ms x ≠ tagAt ms r) ∧ s ≤ T.length := by
  refine ⟨(T.takeWhile fun x => decide (tagAt ms x = tagAt ms r)).length, by show 1 + _ = _; omega, fun x hx => ?_, fun x hx z => ?_, List.Sublist.length_le (List.takeWhile_sublist _)⟩
  · rw [List.take_succ_cons, tw_take] at hx
    rcases List.mem_cons.1 hx with z | z
    · rw [z]
    · have := tw_mem _ _ _ z
      exact of_decide_eq_true this
  · have := tw_next _ _ _ hx
    rw [decide_eq_false_iff_not] at this
    exact this z
theorem tag_le {ms : List Cm} {x y : Nat} (hx : x < ms.length) (hy : y < ms.length) (h : ¬ TagLt ms y x) : tlt2 (tagAt ms x) (tagAt ms y) ∨ tagAt ms x = tagAt ms y := by
  have ha : ms[x]? = some ms[x] := List.getElem?_eq_getElem hx
  have hb : ms[y]? = some ms[y] := List.getElem?_eq_getElem hy
  rw [tagAt_of ha, tagAt_of hb]
  by_cases z : tlt2 (ms[x].tx, ms[x].ty) (ms[y].tx, ms[y].ty)
  · exact .inl z
  · right
    unfold tlt2 at z
    simp only at z
    by_cases q : ms[x].tx = ms[y].tx ∧ ms[x].ty = ms[y].ty
    · rw [q.1, q.2]
    · refine absurd (fun b' a' hb' ha' => ?_) h
      rw [ha] at ha'
      rw [hb] at hb'
      rw [← Option.some.inj ha', ← Option.some.inj hb']
      omega
/-- The run over the groups, as one over the tags. -/
theorem tl_of (ms : List Cm) : ∀ (f : Nat) {L : List Nat}, L.length ≤ f → (∀ x ∈ L, x < ms.length) → L.Pairwise (fun x y => ¬ TagLt ms y x) → ∃ TL : List (Int × Int), TL.Pairwise tlt2 ∧ (∀ t, t ∈ TL ↔ ∃ x ∈ L, tagAt ms x = t) ∧ ∀ M acc, runX ms f L M acc = runT ms L TL M acc
  | f, [], _, _, _ => ⟨[], by simp, by simp, fun M acc => by rw [runX_nil]; rfl⟩
  | 0, r :: T, h, _, _ => absurd h (by simp)
  | f + 1, r :: T, h, lt, srt => by
    obtain ⟨s, es, h1, h2, hs⟩ := @alike_at ms r T
    have edrop : (r :: T).drop (s + 1) = T.drop s := List.drop_succ_cons
    obtain ⟨TL, p1, p2, p3⟩ := tl_of ms f (L := (r :: T).drop (s + 1)) (by rw [List.length_drop]; simp at h ⊢; omega) (fun x hx => lt x (List.mem_of_mem_drop hx)) (List.Pairwise.sublist (List.drop_sublist _ _) srt)
    have split : r :: T = (r :: T).take (s + 1) ++ (r :: T).drop (s + 1) := (List.take_append_drop _ _).symm
    have sp := srt
    rw [split] at sp
    obtain ⟨sp1, sp2, sp3⟩ := List.pairwise_append.1 sp
    have rin : r ∈ (r :: T).take (s + 1) := by rw [List.take_succ_cons]; simp
    have gt : ∀ x ∈ (r :: T).drop (s + 1), tlt2 (tagAt ms r) (tagAt ms x) := by
      intro x hx
      have hxl := lt x (List.mem_of_mem_drop hx)
      have hrl := lt r (by simp)
      have ge := tag_le hrl hxl (sp3 r rin x hx)
      rw [edrop] at hx sp2
      cases hd : T.drop s with
      | nil => rw [hd] at hx; cases hx
      | cons d0 U =>
        have hd0 : T[s]? = some d0 := by
          have : (T.drop s)[0]? = some d0 := by rw [hd]; rfl
          rw [List.getElem?_drop, Nat.add_zero] at this
          exact this
        have d0d : d0 ∈ (r :: T).drop (s + 1) := by rw [edrop, hd]; simp
        have hdl := lt d0 (List.mem_of_mem_drop d0d)
        have g0 : tlt2 (tagAt ms r) (tagAt ms d0) := by
          rcases tag_le hrl hdl (sp3 r rin d0 d0d) with z | z
          · exact z
          · exact absurd z.symm (h2 d0 hd0)
        rw [hd] at hx sp2
        rcases List.mem_cons.1 hx with z | z
        · subst z
          exact g0
        · rcases tag_le hdl hxl ((List.pairwise_cons.1 sp2).1 x z) with y | y
          · unfold tlt2 at g0 y ⊢
            omega
          · rw [← y]
            exact g0
    have gT : (r :: T).take (s + 1) = grp ms (r :: T) (tagAt ms r) := by
      unfold grp
      conv => rhs; rw [split]
      rw [List.filter_append, List.filter_eq_self.2 (fun x hx => decide_eq_true (h1 x hx)), List.filter_eq_nil_iff.2 (fun x hx => by
        rw [decide_eq_true_iff]
        exact fun z => tlt2_ne (gt x hx) z.symm), List.append_nil]
    refine ⟨tagAt ms r :: TL, List.pairwise_cons.2 ⟨fun t ht => ?_, p1⟩, fun t => ?_, fun M acc => ?_⟩
    · obtain ⟨x, hx, e⟩ := (p2 t).1 ht
      rw [← e]
      exact gt x hx
    · rw [List.mem_cons, p2]
      constructor
      · rintro (z | ⟨x, hx, e⟩)
        · exact ⟨r, by simp, z.symm⟩
        · exact ⟨x, List.mem_of_mem_drop hx, e⟩
      · rintro ⟨x, hx, e⟩
        rw [split, List.mem_append] at hx
        rcases hx with z | z
        · left
          rw [← e]
          exact h1 x z
        · exact .inr ⟨x, z, e⟩
    · show (match oneX ms ((r :: T).take (alikeN ms (r :: T))) M (tagAt ms r).1 (tagAt ms r).2 with | none => none | some P => runX ms f ((r :: T).drop (alikeN ms (r :: T))) (putsX ms ((r :: T).take (alikeN ms (r :: T))) M (tagAt ms r).2).2 (acc ++ P)) = _
      rw [es, gT]
      unfold runT
      cases oneX ms (grp ms (r :: T) (tagAt ms r)) M (tagAt ms r).1 (tagAt ms r).2 with
      | none => rfl
      | some P =>
        show runX ms f _ _ _ = runT ms (r :: T) TL _ _
        rw [p3]
        refine runT_same (fun t ht => ?_) _ _
        unfold grp
        conv => rhs; rw [split]
        rw [List.filter_append]
        obtain ⟨x, hx, e⟩ := (p2 t).1 ht
        have e0 : ((r :: T).take (s + 1)).filter (fun y => decide (tagAt ms y = t)) = [] := List.filter_eq_nil_iff.2 (fun y hy => by
          rw [decide_eq_true_iff, h1 y hy, ← e]
          exact tlt2_ne (gt x hx))
        rw [e0, List.nil_append]
/-- The calls that the tag brings in. -/
def cT (ms : List Cm) (L : List Nat) (M : Int → Option Int) (t : Int × Int) : List Nat := (putsX ms (grp ms L t) M t.2).1
def gT (ms : List Cm) (L : List Nat) (t : Int × Int) : List Nat := getsOf ms (grp ms L t)
def pT (ms : List Cm) (L : List Nat) (t : Int × Int) : List Nat := putsOf ms (grp ms L t)
def nT (ms : List Cm) (L : List Nat) (t : Int × Int) : List Nat := (putsOf ms (grp ms L t)).filter fun r => !opnAt ms r
theorem cT_none {ms : List Cm} {L : List Nat} {M : Int → Option Int} {t : Int × Int} (h : gT ms L t = []) : putsX ms (grp ms L t) M t.2 = (nT ms L t, M) := by
  unfold gT at h
  unfold putsX
  rw [if_pos h]
  rfl
theorem cT_puts {ms : List Cm} {L : List Nat} {M : Int → Option Int} {t : Int × Int} (h : ¬ gT ms L t = []) (h2 : ¬ pT ms L t = []) : putsX ms (grp ms L t) M t.2 = (pT ms L t, M) := by
  unfold gT at h
  unfold pT at h2
  unfold putsX
  rw [if_neg h, if_neg h2]
  rfl
theorem cT_sil {ms : List Cm} {L : List Nat} {M : Int → Option Int} {t : Int × Int} (h : ¬ gT ms L t = []) (h2 : pT ms L t = []) : putsX ms (grp ms L t) M t.2 = (match M t.2 with | some l => ([l.toNat], delM M t.2) | none => ([], M)) := by
  unfold gT at h
  unfold pT at h2
  unfold putsX
  rw [if_neg h, if_pos h2]
  cases M t.2 <;> rfl
structure Fa (ms : List Cm) (L : List Nat) (M : Int → Option Int) (t : Int × Int) : Prop where
  a : gT ms L t = [] → (nT ms L t).length ≤ 1
  b : ¬ gT ms L t = [] → ¬ pT ms L t = [] → (pT ms L t).length = 1
  c : ¬ gT ms L t = [] → pT ms L t = [] → ∃ l, M t.2 = some l
  d : (gT ms L t = [] → ¬ nT ms L t = []) → kIsProper t.1 t.2 = true
def Use (ms : List Cm) (L : List Nat) (t : Int × Int) : Prop := ¬ gT ms L t = [] ∧ pT ms L t = []
def Fb (ms : List Cm) (L : List Nat) (TL : List (Int × Int)) : Prop := TL.Pairwise fun t t' => Use ms L t → Use ms L t' → t.2 ≠ t'.2
theorem one_of {α : Type} {l : List α} (h : ¬ l = []) (h1 : l.length ≤ 1) : l.length = 1 := by
  cases l with
  | nil => exact absurd rfl h
  | cons a l => simp at h1 ⊢; exact h1
theorem oneX_fa {ms : List Cm} {L : List Nat} {M : Int → Option Int} {t : Int × Int} (h : Fa ms L M t) : oneX ms (grp ms L t) M t.1 t.2 = some (cT ms L M t ++ gT ms L t) := by
  unfold oneX
  by_cases hg : gT ms L t = []
  · by_cases hn : nT ms L t = []
    · rw [if_pos ⟨by rw [cT_none hg]; exact hn, hg⟩]
      unfold cT
      rw [cT_none hg, hg]
      show some [] = some (nT ms L t ++ [])
      rw [hn]
      rfl
    · have e1 := one_of hn (h.a hg)
      rw [if_neg (fun z => hn (by have := z.1; rw [cT_none hg] at this; exact this)), if_neg (fun z => z.elim (fun y => y (by rw [cT_none hg]; exact e1)) (fun y => by rw [h.d (fun _ => hn)] at y; cases y))]
      rfl
  · have pr := h.d (fun z => absurd z hg)
    rw [if_neg (fun z => hg z.2)]
    have e1 : (putsX ms (grp ms L t) M t.2).1.length = 1 := by
      by_cases hp : pT ms L t = []
      · obtain ⟨l, hl⟩ := h.c hg hp
        rw [cT_sil hg hp, hl]
        rfl
      · rw [cT_puts hg hp]
        exact h.b hg hp
    rw [if_neg (fun z => z.elim (fun y => y e1) (fun y => by rw [pr] at y; cases y))]
    rfl
theorem fa_oneX {ms : List Cm} {L : List Nat} {M : Int → Option Int} {t : Int × Int} {P : List Nat} (h : oneX ms (grp ms L t) M t.1 t.2 = some P) : Fa ms L M t := by
  unfold oneX at h
  by_cases hg : gT ms L t = []
  · rw [cT_none hg] at h
    by_cases hn : nT ms L t = []
    · exact ⟨fun _ => by rw [hn]; simp, fun z => absurd hg z, fun z => absurd hg z, fun z => absurd hn (z hg)⟩
    · rw [if_neg (fun z => hn z.1)] at h
      split at h
      · cases h
      · rename_i z
        rw [not_or] at z
        have e1 : (nT ms L t).length = 1 := Classical.not_not.1 z.1
        refine ⟨fun _ => by omega, fun y => absurd hg y, fun y => absurd hg y, fun _ => ?_⟩
        cases q : kIsProper t.1 t.2
        · exact absurd q z.2
        · rfl
  · rw [if_neg (fun z => hg z.2)] at h
    split at h
    · cases h
    · rename_i z
      rw [not_or] at z
      have e1 := Classical.not_not.1 z.1
      refine ⟨fun y => absurd y hg, fun _ hp => ?_, fun _ hp => ?_, fun _ => ?_⟩
      · rw [cT_puts hg hp] at e1
        exact e1
      · rw [cT_sil hg hp] at e1
        cases q : M t.2 with
        | none => rw [q] at e1; simp at e1
        | some l => exact ⟨l, rfl⟩
      · cases q : kIsProper t.1 t.2
        · exact absurd q z.2
        · rfl
theorem next_M {ms : List Cm} {L : List Nat} {M : Int → Option Int} {t : Int × Int} (k : Int) : (Use ms L t → k ≠ t.2) → (putsX ms (grp ms L t) M t.2).2 k = M k := by
  intro h
  by_cases hg : gT ms L t = []
  · rw [cT_none hg]
  · by_cases hp : pT ms L t = []
    · rw [cT_sil hg hp]
      cases q : M t.2 with
      | none => rfl
      | some l =>
        show delM M t.2 k = M k
        unfold delM
        rw [if_neg (h ⟨hg, hp⟩)]
    · rw [cT_puts hg hp]
theorem back_M {ms : List Cm} {L : List Nat} {M : Int → Option Int} {t : Int × Int} {k l : Int} (h : (putsX ms (grp ms L t) M t.2).2 k = some l) : M k = some l := by
  by_cases hg : gT ms L t = []
  · rw [cT_none hg] at h
    exact h
  · by_cases hp : pT ms L t = []
    · rw [cT_sil hg hp] at h
      cases q : M t.2 with
      | none => rw [q] at h; exact h
      | some l =>
        rw [q] at h
        have h : delM M t.2 k = some _ := h
        unfold delM at h
        split at h
        · cases h
        · exact h
    · rw [cT_puts hg hp] at h
      exact h
theorem cT_same {ms : List Cm} {L : List Nat} {M M' : Int → Option Int} {t : Int × Int} (h : Use ms L t → M' t.2 = M t.2) : cT ms L M' t = cT ms L M t := by
  unfold cT
  by_cases hg : gT ms L t = []
  · rw [cT_none hg, cT_none hg]
  · by_cases hp : pT ms L t = []
    · rw [cT_sil hg hp, cT_sil hg hp, h ⟨hg, hp⟩]
      cases M t.2 with
      | none => rfl
      | some l => rfl
    · rw [cT_puts hg hp, cT_puts hg hp]
theorem flat_same {α β : Type} {f h : α → List β} : ∀ {l : List α}, (∀ g ∈ l, f g = h g) → l.flatMap f = l.flatMap h
  | [], _ => rfl
  | a :: l, q => by
    rw [List.flatMap_cons, List.flatMap_cons, q a (by simp), flat_same (fun g hg => q g (List.mem_cons_of_mem _ hg))]
theorem runT_some {ms : List Cm} {L : List Nat} : ∀ {TL : List (Int × Int)} {M : Int → Option Int} {acc : List Nat}, (∀ t ∈ TL, Fa ms L M t) → Fb ms L TL → runT ms L TL M acc = some (acc ++ TL.flatMap fun t => cT ms L M t ++ gT ms L t)
  | [], M, acc, _, _ => by simp [runT]
  | t :: TL, M, acc, ha, hb => by
    unfold runT
    rw [oneX_fa (ha t (by simp))]
    obtain ⟨b1, b2⟩ := List.pairwise_cons.1 hb
    have same : ∀ t' ∈ TL, Use ms L t' → (putsX ms (grp ms L t) M t.2).2 t'.2 = M t'.2 := fun t' ht' hu => next_M _ (fun hu0 z => b1 t' ht' hu0 hu z.symm)
    show runT ms L TL _ _ = _
    rw [runT_some (fun t' ht' => ?_) b2, List.flatMap_cons, List.append_assoc, flat_same (fun t' ht' => ?_)]
    · rw [cT_same (same t' ht')]
    · have f := ha t' (List.mem_cons_of_mem _ ht')
      exact ⟨f.a, f.b, fun h1 h2 => by rw [same t' ht' ⟨h1, h2⟩]; exact f.c h1 h2, f.d⟩
theorem runT_facts {ms : List Cm} {L : List Nat} : ∀ {TL : List (Int × Int)} {M : Int → Option Int} {acc R : List Nat}, runT ms L TL M acc = some R → (∀ t ∈ TL, Fa ms L M t) ∧ Fb ms L TL
  | [], M, acc, R, _ => ⟨by simp, List.Pairwise.nil⟩
  | t :: TL, M, acc, R, h => by
    unfold runT at h
    cases q : oneX ms (grp ms L t) M t.1 t.2 with
    | none => rw [q] at h; cases h
    | some P =>
      rw [q] at h
      have f0 := fa_oneX q
      obtain ⟨h1, h2⟩ := runT_facts (TL := TL) h
      refine ⟨fun t' ht' => ?_, List.pairwise_cons.2 ⟨fun t' ht' u u' z => ?_, h2⟩⟩
      · rcases List.mem_cons.1 ht' with z | z
        · rw [z]; exact f0
        · have f := h1 t' z
          exact ⟨f.a, f.b, fun g1 g2 => by obtain ⟨l, hl⟩ := f.c g1 g2; exact ⟨l, back_M hl⟩, f.d⟩
      · obtain ⟨l, hl⟩ := (h1 t' ht').c u'.1 u'.2
        rw [cT_sil u.1 u.2] at hl
        obtain ⟨l0, hl0⟩ := f0.c u.1 u.2
        rw [hl0] at hl
        have hl : delM M t.2 t'.2 = some l := hl
        unfold delM at hl
        rw [if_pos z.symm] at hl
        cases hl
theorem pw_mem {α : Type} {R : α → α → Prop} (sym : ∀ a b, R a b → R b a) : ∀ {l : List α}, l.Pairwise R → ∀ {x y : α}, x ∈ l → y ∈ l → x ≠ y → R x y
  | [], _, x, y, hx, _, _ => by cases hx
  | a :: l, h, x, y, hx, hy, ne => by
    obtain ⟨h1, h2⟩ := List.pairwise_cons.1 h
    rcases List.mem_cons.1 hx with z | z
    · rcases List.mem_cons.1 hy with q | q
      · exact absurd (z.trans q.symm) ne
      · rw [z]; exact h1 y q
    · rcases List.mem_cons.1 hy with q | q
      · rw [q]; exact sym _ _ (h1 x z)
      · exact pw_mem sym h2 z q ne
theorem nd_le1 {α : Type} {l : List α} (nd : l.Nodup) (h : ∀ a ∈ l, ∀ b ∈ l, a = b) : l.length ≤ 1 := by
  match l, nd, h with
  | [], _, _ => simp
  | [a], _, _ => simp
  | a :: b :: l, nd, h =>
    have e := h a (by simp) b (by simp)
    subst e
    simp at nd
theorem len1_eq {α : Type} {l : List α} (h : l.length = 1) {a b : α} (ha : a ∈ l) (hb : b ∈ l) : a = b := by
  match l, h with
  | [c], _ =>
    rw [List.mem_singleton] at ha hb
    rw [ha, hb]
theorem len1_of {α : Type} {l : List α} (h : l.length = 1) {a : α} (ha : a ∈ l) : l = [a] := by
  match l, h with
  | [c], _ =>
    rw [List.mem_singleton] at ha
    rw [ha]
theorem want_iff {ms : List Cm} {t : Int × Int} : wantB ms t = true ↔ ∃ (j : Nat) (m : Cm), ms[j]? = some m ∧ readB m = true ∧ tg m = t := by
  unfold wantB
  rw [List.any_eq_true]
  constructor
  · rintro ⟨m, hm, h⟩
    obtain ⟨j, hj⟩ := List.getElem?_of_mem hm
    rw [Bool.and_eq_true, decide_eq_true_iff] at h
    exact ⟨j, m, hj, h⟩
  · rintro ⟨j, m, hj, h1, h2⟩
    exact ⟨m, List.mem_of_getElem? hj, by rw [Bool.and_eq_true, decide_eq_true_iff]; exact ⟨h1, h2⟩⟩
theorem know_iff {ms : List Cm} {t : Int × Int} : knowB ms t = true ↔ ∃ (j : Nat) (m : Cm), ms[j]? = some m ∧ ownB m = true ∧ tg m = t := by
  unfold knowB
  rw [List.any_eq_true]
  constructor
  · rintro ⟨m, hm, h⟩
    obtain ⟨j, hj⟩ := List.getElem?_of_mem hm
    rw [Bool.and_eq_true, decide_eq_true_iff] at h
    exact ⟨j, m, hj, h⟩
  · rintro ⟨j, m, hj, h1, h2⟩
    exact ⟨m, List.mem_of_getElem? hj, by rw [Bool.and_eq_true, decide_eq_true_iff]; exact ⟨h1, h2⟩⟩
theorem own_put {m : Cm} (h : ownB m = true) : m.put = true := by
  unfold ownB at h
  rw [Bool.and_eq_true] at h
  exact h.1
theorem read_get {m : Cm} (h : readB m = true) : m.put = false := by
  unfold readB at h
  cases q : m.put
  · rfl
  · rw [q] at h; simp at h
theorem rt_mem {ms : List Cm} {RT : List Nat} (fit : FitL ms) (hT : SortOf ms Cm.tells (TagLt ms) RT) {x : Nat} : x ∈ RT ↔ ∃ m, ms[x]? = some m ∧ (ownB m = true ∨ readB m = true) := by
  rw [hT.1.mem_iff, nums_iff]
  constructor
  · rintro ⟨m, hm, h⟩
    exact ⟨m, hm, (tells_iff (fit m (List.mem_of_getElem? hm)).2).1 h⟩
  · rintro ⟨m, hm, h⟩
    exact ⟨m, hm, (tells_iff (fit m (List.mem_of_getElem? hm)).2).2 h⟩
theorem rt_nd {ms : List Cm} {RT : List Nat} (hT : SortOf ms Cm.tells (TagLt ms) RT) :  RT.Nodup := hT.1.nodup_iff.2 numsK_nd
theorem pT_mem {ms : List Cm} {RT : List Nat} (fit : FitL ms) (hT : SortOf ms Cm.tells (TagLt ms) RT) {t : Int × Int} {x : Nat} : x ∈ pT ms RT t ↔ ∃ m, ms[x]? = some m ∧ ownB m = true ∧ tg m = t := by
  constructor
  · intro h
    have hx : x ∈ grp ms RT t := (List.mem_filter.1 h).1
    obtain ⟨h1, h2⟩ := grp_mem.1 hx
    obtain ⟨m, hm, h3⟩ := (rt_mem fit hT).1 h1
    have hp := ((puts_at hm).1 h).2
    rw [tagAt_of hm] at h2
    refine ⟨m, hm, h3.elim id (fun z => ?_), h2⟩
    rw [read_get z] at hp
    cases hp
  · rintro ⟨m, hm, h1, h2⟩
    exact (puts_at hm).2 ⟨grp_mem.2 ⟨(rt_mem fit hT).2 ⟨m, hm, .inl h1⟩, by rw [tagAt_of hm]; exact h2⟩, own_put h1⟩
theorem gT_mem {ms : List Cm} {RT : List Nat} (fit : FitL ms) (hT : SortOf ms Cm.tells (TagLt ms) RT) {t : Int × Int} {x : Nat} : x ∈ gT ms RT t ↔ ∃ m, ms[x]? = some m ∧ readB m = true ∧ tg m = t := by
  constructor
  · intro h
    have hx : x ∈ grp ms RT t := (List.mem_filter.1 h).1
    obtain ⟨h1, h2⟩ := grp_mem.1 hx
    obtain ⟨m, hm, h3⟩ := (rt_mem fit hT).1 h1
    have hp := ((gets_at hm).1 h).2
    rw [tagAt_of hm] at h2
    refine ⟨m, hm, h3.elim (fun z => ?_) id, h2⟩
    rw [own_put z] at hp
    cases hp
  · rintro ⟨m, hm, h1, h2⟩
    exact (gets_at hm).2 ⟨grp_mem.2 ⟨(rt_mem fit hT).2 ⟨m, hm, .inr h1⟩, by rw [tagAt_of hm]; exact h2⟩, read_get h1⟩
theorem gT_want {ms : List Cm} {RT : List Nat} (fit : FitL ms) (hT : SortOf ms Cm.tells (TagLt ms) RT) {t : Int × Int} : ¬ gT ms RT t = [] ↔ wantB ms t = true := by
  rw [want_iff]
  constructor
  · intro h
    obtain ⟨x, hx⟩ := List.exists_mem_of_ne_nil _ h
    obtain ⟨m, hm, h1⟩ := (gT_mem fit hT).1 hx
    exact ⟨x, m, hm, h1⟩
  · rintro ⟨j, m, hm, h1⟩ z
    have := (gT_mem fit hT).2 ⟨m, hm, h1⟩
    rw [z] at this
    cases this
theorem pT_know {ms : List Cm} {RT : List Nat} (fit : FitL ms) (hT : SortOf ms Cm.tells (TagLt ms) RT) {t : Int × Int} : pT ms RT t = [] ↔ knowB ms t = false := by
  rw [← Bool.not_eq_true, know_iff]
  constructor
  · rintro z ⟨j, m, hm, h1⟩
    have := (pT_mem fit hT).2 ⟨m, hm, h1⟩
    rw [z] at this
    cases this
  · intro h
    by_cases z : pT ms RT t = []
    · exact z
    · obtain ⟨x, hx⟩ := List.exists_mem_of_ne_nil _ z
      obtain ⟨m, hm, h1⟩ := (pT_mem fit hT).1 hx
      exact absurd ⟨x, m, hm, h1⟩ h
theorem nT_mem {ms : List Cm} {RT : List Nat} (fit : FitL ms) (hT : SortOf ms Cm.tells (TagLt ms) RT) {t : Int × Int} {x : Nat} : x ∈ nT ms RT t ↔ ∃ m, ms[x]? = some m ∧ ownB m = true ∧ m.opn = false ∧ tg m = t := by
  unfold nT
  rw [List.mem_filter]
  constructor
  · rintro ⟨h1, h2⟩
    obtain ⟨m, hm, h3, h4⟩ := (pT_mem fit hT).1 h1
    unfold opnAt at h2
    rw [hm] at h2
    exact ⟨m, hm, h3, by simpa using h2, h4⟩
  · rintro ⟨m, hm, h1, h2, h3⟩
    refine ⟨(pT_mem fit hT).2 ⟨m, hm, h1, h3⟩, ?_⟩
    unfold opnAt
    rw [hm]
    simp [h2]
theorem inA_mem {ms : List Cm} {c : Nat} {t : Int × Int} : (c, t) ∈ takA ms ms.length ↔ ∃ m, ms[c]? = some m ∧ ownB m = true ∧ (m.opn = false ∨ wantB ms t = true) ∧ tg m = t := by
  unfold takA
  rw [List.mem_map]
  constructor
  · rintro ⟨i, hi, e⟩
    obtain ⟨m, hm, h⟩ := nums_iff.1 hi
    have e1 : i = c := congrArg Prod.fst e
    have e2 : tagAt ms i = t := congrArg Prod.snd e
    subst e1
    rw [tagAt_of hm] at e2
    have e2 : tg m = t := e2
    unfold inA at h
    rw [Bool.and_eq_true, Bool.or_eq_true, e2] at h
    exact ⟨m, hm, h.1, h.2.imp (fun z => by simpa using z) id, e2⟩
  · rintro ⟨m, hm, h1, h2, h3⟩
    refine ⟨c, nums_iff.2 ⟨m, hm, ?_⟩, ?_⟩
    · unfold inA
      rw [Bool.and_eq_true, Bool.or_eq_true, h3]
      exact ⟨h1, h2.imp (fun z => by simp [z]) id⟩
    · rw [tagAt_of hm, ← h3]
      rfl
theorem in_mem {ms : List Cm} {RT : List Nat} {IN : List (Nat × Int × Int)} (fit : FitL ms) (hT : SortOf ms Cm.tells (TagLt ms) RT) (tk : Tak ms IN) {c : Nat} {t : Int × Int} : (c, t) ∈ IN ↔ c ∈ cT ms RT (silM ms ms.length) t := by
  obtain ⟨G, B, eI, hB⟩ := tk
  subst eI
  rw [List.mem_append, inA_mem, hB.mem, hB.given]
  unfold cT
  by_cases hg : gT ms RT t = []
  · have hw : ¬ wantB ms t = true := fun z => (gT_want fit hT).2 z hg
    rw [cT_none hg]
    show _ ↔ c ∈ nT ms RT t
    rw [nT_mem fit hT]
    constructor
    · rintro (⟨m, hm, h1, h2, h3⟩ | ⟨⟨j, m, _, hm, h1, h2, _⟩, _⟩)
      · exact ⟨m, hm, h1, h2.elim id (fun z => absurd z hw), h3⟩
      · exact absurd (want_iff.2 ⟨j, m, hm, h1, h2⟩) hw
    · rintro ⟨m, hm, h1, h2, h3⟩
      exact .inl ⟨m, hm, h1, .inl h2, h3⟩
  · have hw := (gT_want fit hT).1 hg
    by_cases hp : pT ms RT t = []
    · have hk := (pT_know fit hT).1 hp
      rw [cT_sil hg hp]
      constructor
      · rintro (⟨m, hm, h1, h2, h3⟩ | ⟨_, h⟩)
        · have := know_iff.2 ⟨c, m, hm, h1, h3⟩
          rw [hk] at this
          cases this
        · rw [h]
          simp
      · intro h
        right
        obtain ⟨j, m, hm, h1, h2⟩ := want_iff.1 hw
        cases q : silM ms ms.length t.2 with
        | none => rw [q] at h; cases h
        | some l =>
          rw [q] at h
          have h : c ∈ [l.toNat] := h
          rw [List.mem_singleton] at h
          obtain ⟨l0, _⟩ := silM_is ms ms.length t.2 l q
          refine ⟨⟨j, m, (List.getElem?_eq_some_iff.1 hm).1, hm, h1, h2, hk⟩, ?_⟩
          rw [h]
          congr 1
          omega
    · rw [cT_puts hg hp]
      show _ ↔ c ∈ pT ms RT t
      rw [pT_mem fit hT]
      constructor
      · rintro (⟨m, hm, h1, h2, h3⟩ | ⟨⟨j, m, _, hm, h1, h2, hk⟩, _⟩)
        · exact ⟨m, hm, h1, h3⟩
        · exact absurd ((pT_know fit hT).2 hk) hp
      · rintro ⟨m, hm, h1, h3⟩
        exact .inl ⟨m, hm, h1, .inr hw, h3⟩
theorem fa_cT {ms : List Cm} {RT : List Nat} {t : Int × Int} (h : Fa ms RT (silM ms ms.length) t) : (cT ms RT (silM ms ms.length) t).length ≤ 1 ∧ (¬ gT ms RT t = [] → (cT ms RT (silM ms ms.length) t).length = 1) ∧ (¬ cT ms RT (silM ms ms.length) t = [] → kIsProper t.1 t.2 = true) := by
  unfold cT
  by_cases hg : gT ms RT t = []
  · rw [cT_none hg]
    exact ⟨h.a hg, fun z => absurd hg z, fun z => h.d (fun _ => z)⟩
  · by_cases hp : pT ms RT t = []
    · obtain ⟨l, hl⟩ := h.c hg hp
      rw [cT_sil hg hp, hl]
      exact ⟨Nat.le_refl _, fun _ => rfl, fun _ => h.d (fun z => absurd z hg)⟩
    · rw [cT_puts hg hp]
      exact ⟨Nat.le_of_eq (h.b hg hp), fun _ => h.b hg hp, fun _ => h.d (fun z => absurd z hg)⟩
theorem in_tl {ms : List Cm} {RT : List Nat} {IN : List (Nat × Int × Int)} {TL : List (Int × Int)} (fit : FitL ms) (hT : SortOf ms Cm.tells (TagLt ms) RT) (tk : Tak ms IN) (hm : ∀ t, t ∈ TL ↔ ∃ x ∈ RT, tagAt ms x = t) {c : Nat} {t : Int × Int} (h : (c, t) ∈ IN) : t ∈ TL := by
  rw [in_mem fit hT tk] at h
  rw [hm]
  unfold cT at h
  by_cases hg : gT ms RT t = []
  · rw [cT_none hg] at h
    obtain ⟨m, hm, h1, _, h3⟩ := (nT_mem fit hT).1 h
    exact ⟨c, (rt_mem fit hT).2 ⟨m, hm, .inl h1⟩, by rw [tagAt_of hm]; exact h3⟩
  · obtain ⟨x, hx⟩ := List.exists_mem_of_ne_nil _ hg
    obtain ⟨m, hm, h1, h3⟩ := (gT_mem fit hT).1 hx
    exact ⟨x, (rt_mem fit hT).2 ⟨m, hm, .inr h1⟩, by rw [tagAt_of hm]; exact h3⟩
theorem dok_facts {ms : List Cm} {RT : List Nat} {IN : List (Nat × Int × Int)} {TL : List (Int × Int)} (fit : FitL ms) (hT : SortOf ms Cm.tells (TagLt ms) RT) (tk : Tak ms IN) (hs : TL.Pairwise tlt2) (ok : DOk ms IN) : (∀ t ∈ TL, Fa ms RT (silM ms ms.length) t) ∧ Fb ms RT TL := by
  have nd := rt_nd hT
  have pm : ∀ {x y : Nat × Int × Int}, x ∈ IN → y ∈ IN → x ≠ y → x.2 ≠ y.2 ∧ x.1 ≠ y.1 := pw_mem (fun a b z => ⟨fun y => z.1 y.symm, fun y => z.2 y.symm⟩) ok.pair
  have c1 : ∀ t a b, a ∈ cT ms RT (silM ms ms.length) t → b ∈ cT ms RT (silM ms ms.length) t → a = b := by
    intro t a b ha hb
    have ha := (in_mem fit hT tk).2 ha
    have hb := (in_mem fit hT tk).2 hb
    by_cases e : a = b
    · exact e
    · exact absurd rfl (pm ha hb (fun z => e (congrArg Prod.fst z))).1
  have pnd : ∀ t, (pT ms RT t).Nodup := fun t => List.Pairwise.filter _ (List.Pairwise.filter _ nd)
  have gex : ∀ t, ¬ gT ms RT t = [] → ∃ c, (c, t) ∈ IN := by
    intro t hg
    obtain ⟨x, hx⟩ := List.exists_mem_of_ne_nil _ hg
    obtain ⟨m, hmx, h1, h3⟩ := (gT_mem fit hT).1 hx
    obtain ⟨y, hy, ey⟩ := ok.read x m hmx h1
    rw [h3] at ey
    exact ⟨y.1, by rw [← ey]; exact hy⟩
  refine ⟨fun t _ => ⟨fun hg => ?_, fun hg hp => ?_, fun hg hp => ?_, fun h => ?_⟩, ?_⟩
  · refine nd_le1 (List.Pairwise.filter _ (pnd t)) (fun a ha b hb => c1 t a b ?_ ?_)
    · unfold cT; rw [cT_none hg]; exact ha
    · unfold cT; rw [cT_none hg]; exact hb
  · refine one_of hp (nd_le1 (pnd t) (fun a ha b hb => c1 t a b ?_ ?_))
    · unfold cT; rw [cT_puts hg hp]; exact ha
    · unfold cT; rw [cT_puts hg hp]; exact hb
  · obtain ⟨c, hc⟩ := gex t hg
    rw [in_mem fit hT tk] at hc
    unfold cT at hc
    rw [cT_sil hg hp] at hc
    cases q : silM ms ms.length t.2 with
    | none => rw [q] at hc; cases hc
    | some l => exact ⟨l, rfl⟩
  · by_cases hg : gT ms RT t = []
    · obtain ⟨c, hc⟩ := List.exists_mem_of_ne_nil _ (h hg)
      exact ok.prop (c, t) ((in_mem fit hT tk).2 (by unfold cT; rw [cT_none hg]; exact hc))
    · obtain ⟨c, hc⟩ := gex t hg
      exact ok.prop (c, t) hc
  · refine hs.imp (fun {t t'} lt u u' z => ?_)
    have hin : ∀ t, Use ms RT t → ∃ l, silM ms ms.length t.2 = some l ∧ (l.toNat, t) ∈ IN := by
      intro t u
      obtain ⟨c, hc⟩ := gex t u.1
      have hc' := hc
      rw [in_mem fit hT tk] at hc
      unfold cT at hc
      rw [cT_sil u.1 u.2] at hc
      cases q : silM ms ms.length t.2 with
      | none => rw [q] at hc; cases hc
      | some l =>
        rw [q] at hc
        have hc : c ∈ [l.toNat] := hc
        rw [List.mem_singleton] at hc
        rw [hc] at hc'
        exact ⟨l, rfl, hc'⟩
    obtain ⟨l, h1, h2⟩ := hin t u
    obtain ⟨l', h1', h2'⟩ := hin t' u'
    rw [z, h1'] at h1
    have e := Option.some.inj h1
    subst e
    exact (pm h2 h2' (fun y => tlt2_ne lt (congrArg Prod.snd y))).2 rfl
theorem facts_dok {ms : List Cm} {RT : List Nat} {IN : List (Nat × Int × Int)} {TL : List (Int × Int)} (fit : FitL ms) (hT : SortOf ms Cm.tells (TagLt ms) RT) (tk : Tak ms IN) (hm : ∀ t, t ∈ TL ↔ ∃ x ∈ RT, tagAt ms x = t) (h : (∀ t ∈ TL, Fa ms RT (silM ms ms.length) t) ∧ Fb ms RT TL) : DOk ms IN := by
  obtain ⟨ha, hb⟩ := h
  have len1 : ∀ {c c' : Nat} {t : Int × Int}, (c, t) ∈ IN → (c', t) ∈ IN → c = c' := by
    intro c c' t h1 h2
    have f := fa_cT (ha t (in_tl fit hT tk hm h1))
    rw [in_mem fit hT tk] at h1 h2
    exact len1_eq (one_of (List.ne_nil_of_mem h1) f.1) h1 h2
  refine ⟨fun x hx => ?_, ?_, fun i m hmi hr => ?_⟩
  · have hx : (x.1, x.2) ∈ IN := hx
    have f := fa_cT (ha x.2 (in_tl fit hT tk hm hx))
    rw [in_mem fit hT tk] at hx
    exact f.2.2 (List.ne_nil_of_mem hx)
  · have tk' := tk
    have lenI : ∀ {c c' : Nat} {t : Int × Int}, (c, t) ∈ IN → (c', t) ∈ IN → c = c' := len1
    obtain ⟨G, B, eI, hB⟩ := tk'
    have inI : ∀ x, x ∈ IN ↔ x ∈ takA ms ms.length ∨ x ∈ B := fun x => by rw [eI, List.mem_append]
    rw [eI]
    refine List.pairwise_append.2 ⟨?_, ?_, fun x hx y hy => ?_⟩
    · unfold takA
      rw [List.pairwise_map]
      refine List.pairwise_iff_forall_sublist.2 fun {i j} hs => ?_
      have ne : i ≠ j := List.pairwise_iff_forall_sublist.1 (numsK_nd (P := inA ms) (ms := ms) (i := ms.length)) hs
      have hi : i ∈ numsK (inA ms) ms ms.length := hs.subset (by simp)
      have hj : j ∈ numsK (inA ms) ms ms.length := hs.subset (by simp)
      refine ⟨fun z => ne ?_, ne⟩
      have z : tagAt ms i = tagAt ms j := z
      have h1 : (i, tagAt ms i) ∈ IN := (inI _).2 (.inl (List.mem_map.2 ⟨i, hi, rfl⟩))
      have h2 : (j, tagAt ms j) ∈ IN := (inI _).2 (.inl (List.mem_map.2 ⟨j, hj, rfl⟩))
      rw [← z] at h2
      exact lenI h1 h2
    · refine List.pairwise_iff_forall_sublist.2 fun {x y} hsub => ?_
      have ne := List.pairwise_iff_forall_sublist.1 hB.one hsub
      have hx : (x.1, x.2) ∈ B := hsub.subset (by simp)
      have hy : (y.1, y.2) ∈ B := hsub.subset (by simp)
      have xi := in_tl fit hT tk hm ((inI (x.1, x.2)).2 (.inr hx))
      have yi := in_tl fit hT tk hm ((inI (y.1, y.2)).2 (.inr hy))
      obtain ⟨gx, sx⟩ := (hB.mem _ _).1 hx
      obtain ⟨gy, sy⟩ := (hB.mem _ _).1 hy
      obtain ⟨j, m, _, hmj, r1, r2, r3⟩ := (hB.given _).1 gx
      obtain ⟨j', m', _, hmj', r1', r2', r3'⟩ := (hB.given _).1 gy
      refine ⟨ne, fun z => ?_⟩
      rw [z] at sx
      obtain ⟨_, q, hq, _, _, _, e1⟩ := silM_is _ _ _ _ sx
      obtain ⟨_, q', hq', _, _, _, e1'⟩ := silM_is _ _ _ _ sy
      rw [hq] at hq'
      have e := Option.some.inj hq'
      subst e
      have ux : Use ms RT x.2 := ⟨(gT_want fit hT).2 (want_iff.2 ⟨j, m, hmj, r1, r2⟩), (pT_know fit hT).2 r3⟩
      have uy : Use ms RT y.2 := ⟨(gT_want fit hT).2 (want_iff.2 ⟨j', m', hmj', r1', r2'⟩), (pT_know fit hT).2 r3'⟩
      have sym : TL.Pairwise fun t t' => Use ms RT t → Use ms RT t' → t.2 ≠ t'.2 := hb
      exact pw_mem (fun a b h u v w => h v u w.symm) sym xi yi ne ux uy (e1.symm.trans e1')
    · have hx : (x.1, x.2) ∈ takA ms ms.length := hx
      obtain ⟨m, hmx, o1, _, o3⟩ := (inA_mem).1 hx
      obtain ⟨gy, sy⟩ := (hB.mem y.1 y.2).1 hy
      obtain ⟨j, m', _, hmj, r1, r2, r3⟩ := (hB.given _).1 gy
      refine ⟨fun z => ?_, fun z => ?_⟩
      · rw [← z] at r3
        have := know_iff.2 ⟨x.1, m, hmx, o1, o3⟩
        rw [r3] at this
        cases this
      · obtain ⟨_, q, hq, q1, q2, q3, _⟩ := silM_is _ _ _ _ sy
        rw [← z] at hq
        have hq : ms[x.1]? = some q := hq
        rw [hmx] at hq
        have e := Option.some.inj hq
        subst e
        unfold ownB at o1
        rw [q1, q2, q3] at o1
        simp [kIsZero] at o1
  · have hg : ¬ gT ms RT (tg m) = [] := (gT_want fit hT).2 (want_iff.2 ⟨i, m, hmi, hr, rfl⟩)
    have ht : tg m ∈ TL := (hm _).2 ⟨i, (rt_mem fit hT).2 ⟨m, hmi, .inr hr⟩, by rw [tagAt_of hmi]; rfl⟩
    have f := (fa_cT (ha _ ht)).2.1 hg
    obtain ⟨c, hc⟩ := List.exists_mem_of_ne_nil (cT ms RT (silM ms ms.length) (tg m)) (fun z => by rw [z] at f; simp at f)
    exact ⟨(c, tg m), (in_mem fit hT tk).2 hc, rfl⟩
theorem gT_sort {ms : List Cm} {RT : List Nat} (fit : FitL ms) (hT : SortOf ms Cm.tells (TagLt ms) RT) (t : Int × Int) : SortD ms (rdT t) (gT ms RT t) := by
  have nd := rt_nd hT
  have gn : (gT ms RT t).Nodup := List.Pairwise.filter _ (List.Pairwise.filter _ nd)
  refine ⟨?_, ?_⟩
  · rw [List.perm_ext_iff_of_nodup gn numsK_nd]
    intro x
    rw [gT_mem fit hT, nums_iff]
    unfold rdT
    constructor
    · rintro ⟨m, h1, h2, h3⟩
      exact ⟨m, h1, by rw [Bool.and_eq_true, decide_eq_true_iff]; exact ⟨h2, h3⟩⟩
    · rintro ⟨m, h1, h2⟩
      rw [Bool.and_eq_true, decide_eq_true_iff] at h2
      exact ⟨m, h1, h2⟩
  · refine List.pairwise_iff_forall_sublist.2 fun {x y} hsub => ?_
    have hx : x ∈ gT ms RT t := hsub.subset (by simp)
    have hy : y ∈ gT ms RT t := hsub.subset (by simp)
    obtain ⟨a, h1, _, h3⟩ := (gT_mem fit hT).1 hx
    obtain ⟨b, h1', _, h3'⟩ := (gT_mem fit hT).1 hy
    have sub2 : [x, y].Sublist RT := hsub.trans ((List.filter_sublist).trans List.filter_sublist)
    exact ahead_of_tag h1 h1' (List.pairwise_iff_forall_sublist.1 gn hsub) (h3.trans h3'.symm) (List.pairwise_iff_forall_sublist.1 hT.2 sub2)
theorem flat_drop {α β : Type} {F : α → List β} {p : α → Bool} : ∀ {l : List α}, (∀ x ∈ l, p x = false → F x = []) → l.flatMap F = (l.filter p).flatMap F
  | [], _ => rfl
  | a :: l, h => by
    rw [List.flatMap_cons]
    have ih := flat_drop (F := F) (p := p) (l := l) (fun x hx => h x (List.mem_cons_of_mem _ hx))
    cases q : p a
    · rw [List.filter_cons_of_neg (by rw [q]; decide), h a (by simp) q, List.nil_append, ih]
    · rw [List.filter_cons_of_pos q, List.flatMap_cons, ih]
theorem res_one {ms : List Cm} {RT : List Nat} {IN : List (Nat × Int × Int)} {TL : List (Int × Int)} (fit : FitL ms) (hT : SortOf ms Cm.tells (TagLt ms) RT) (tk : Tak ms IN) (hs : TL.Pairwise tlt2) (hm : ∀ t, t ∈ TL ↔ ∃ x ∈ RT, tagAt ms x = t) (h : (∀ t ∈ TL, Fa ms RT (silM ms ms.length) t) ∧ Fb ms RT TL) {D RA : List Nat} (hA : SortOf ms absB (FromLt ms) RA) (d : DRes ms IN D) : D = RA ++ TL.flatMap fun t => cT ms RT (silM ms ms.length) t ++ gT ms RT t := by
  obtain ⟨RA', S, a1, a2, a3, a4, rfl⟩ := d.ok
  rw [sortD_one a1 (sortD_of hA)]
  congr 1
  rw [flat_drop (l := TL) (p := fun t => decide (¬ cT ms RT (silM ms ms.length) t = []))]
  · have e : TL.filter (fun t => decide (¬ cT ms RT (silM ms ms.length) t = [])) = S.map (fun y => y.1.2) := by
      refine sort_one tlt2_asym (List.Pairwise.filter _ hs) (by rw [List.pairwise_map]; exact a3) (fun t => ?_)
      rw [List.mem_filter, decide_eq_true_iff, List.mem_map]
      constructor
      · rintro ⟨_, h2⟩
        obtain ⟨c, hc⟩ := List.exists_mem_of_ne_nil _ h2
        obtain ⟨y, hy, e⟩ := List.mem_map.1 (a2.mem_iff.2 ((in_mem fit hT tk).2 hc))
        exact ⟨y, hy, congrArg Prod.snd e⟩
      · rintro ⟨x, hx, rfl⟩
        have hx : (x.1.1, x.1.2) ∈ IN := a2.mem_iff.1 (List.mem_map.2 ⟨x, hx, rfl⟩)
        exact ⟨in_tl fit hT tk hm hx, List.ne_nil_of_mem ((in_mem fit hT tk).1 hx)⟩
    rw [e, List.flatMap_map]
    refine flat_same (fun x hy => ?_)
    have hx : (x.1.1, x.1.2) ∈ IN := a2.mem_iff.1 (List.mem_map.2 ⟨x, hy, rfl⟩)
    have f := fa_cT (h.1 _ (in_tl fit hT tk hm hx))
    have hc := (in_mem fit hT tk).1 hx
    rw [len1_of (one_of (List.ne_nil_of_mem hc) f.1) hc, sortD_one (a4 x hy) (gT_sort fit hT x.1.2)]
    rfl
  · intro t ht z
    rw [decide_eq_false_iff_not, Classical.not_not] at z
    rw [z, List.nil_append]
    by_cases hg : gT ms RT t = []
    · exact hg
    · have := (fa_cT (h.1 t ht)).2.1 hg
      rw [z] at this
      cases this
/-- What the document's ByTags tells. -/
def DocT (ms : List Cm) (D : List Nat) (e : Int) : Prop := (e = 1 ∧ ¬ FitL ms ∧ D = []) ∨ (FitL ms ∧ ∃ IN, Tak ms IN ∧ ((e = 81 ∧ ¬ DOk ms IN ∧ D = []) ∨ (e = 0 ∧ DOk ms IN ∧ DRes ms IN D)))
theorem byT_doc {ms : List Cm} {L D : List Nat} {e f : Int} (h : ByT ms L e) (d : DocT ms D f) : e = f ∧ L = D := by
  rcases h with ⟨rfl, nf, rfl⟩ | ⟨fit, RA, RT, hA, hT, h⟩
  · rcases d with ⟨rfl, _, rfl⟩ | ⟨fit, _⟩
    · exact ⟨rfl, rfl⟩
    · exact absurd fit nf
  · rcases d with ⟨_, nf, _⟩ | ⟨_, IN, tk, d⟩
    · exact absurd fit nf
    · obtain ⟨TL, hs, hm, hr⟩ := tl_of ms RT.length (Nat.le_refl _) (fun x hx => by
        obtain ⟨m, hm, _⟩ := (rt_mem fit hT).1 hx
        exact (List.getElem?_eq_some_iff.1 hm).1) hT.2
      rw [hr] at h
      by_cases ok : DOk ms IN
      · have F := dok_facts fit hT tk hs ok
        rw [runT_some F.1 F.2] at h
        rcases h with ⟨_, z, _⟩ | ⟨rfl, z⟩
        · cases z
        · rcases d with ⟨_, z, _⟩ | ⟨rfl, _, d⟩
          · exact absurd ok z
          · rw [← Option.some.inj z, res_one fit hT tk hs hm F hA d]
            exact ⟨rfl, rfl⟩
      · rcases d with ⟨rfl, _, rfl⟩ | ⟨_, z, _⟩
        · rcases h with ⟨rfl, _, rfl⟩ | ⟨_, z⟩
          · exact ⟨rfl, rfl⟩
          · exact absurd (facts_dok fit hT tk hm (runT_facts z)) ok
        · exact absurd z ok
end Go.Proofs.Ytodmakcklacbfaa
