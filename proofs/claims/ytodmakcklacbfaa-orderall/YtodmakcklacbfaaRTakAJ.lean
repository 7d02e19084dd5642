import Derived.Test.YtodmakcklacbfaaRRows
import Derived.Test.YtodmakcklacbfaaVTopM
import Derived.Test.YtodmakcklacbfaaRDefJ
import Derived.Test.YtodmakcklacbfaaRIntsJ
import Derived.Test.YtodmakcklacbfaaPByJ
import Derived.BigQuiet
namespace Go.Proofs.Ytodmakcklacbfaa
open Go.RowKit Go.Shelf Go.Lib Go.Sort

theorem ahead_trans {ms : List Cm} {a b c : Nat} (h : AheadF ms a b) (h2 : AheadF ms b c) : AheadF ms a c := by
  obtain ⟨x, y, hx, hy, z⟩ := h
  obtain ⟨y', v, hy', hv, z'⟩ := h2
  rw [hy] at hy'
  rw [← Option.some.inj hy'] at z'
  exact ⟨x, v, hx, hv, by omega⟩
theorem ahead_total {ms : List Cm} {a b : Nat} (ha : a < ms.length) (hb : b < ms.length) (ne : a ≠ b) (h : ¬ AheadF ms a b) : AheadF ms b a := by
  have h1 : ms[a]? = some ms[a] := List.getElem?_eq_getElem ha
  have h2 : ms[b]? = some ms[b] := List.getElem?_eq_getElem hb
  refine ⟨_, _, h2, h1, ?_⟩
  by_cases z : ms[b].frm < ms[a].frm ∨ (ms[b].frm = ms[a].frm ∧ b < a)
  · exact z
  · exact absurd ⟨_, _, h1, h2, by omega⟩ h
/-- Those of a kind among the first calls, sorted. -/
def SortP (ms : List Cm) (P : Cm → Bool) (i : Nat) (T : List Nat) : Prop := T.Perm (numsK P ms i) ∧ T.Pairwise (AheadF ms)
theorem SortP.nil (ms : List Cm) (P : Cm → Bool) : SortP ms P 0 [] := ⟨List.Perm.refl _, List.Pairwise.nil⟩
theorem SortP.lt {ms : List Cm} {P : Cm → Bool} {i : Nat} {T : List Nat} (h : SortP ms P i T) : ∀ y ∈ T, y < i := fun y hy => numsK_lt y (h.1.mem_iff.1 hy)
theorem SortP.len {ms : List Cm} {P : Cm → Bool} {i : Nat} {T : List Nat} (h : SortP ms P i T) : T.length ≤ i := by
  rw [h.1.length_eq]
  exact numsK_len
theorem SortP.pass {ms : List Cm} {P : Cm → Bool} {i : Nat} {T : List Nat} (h : SortP ms P i T) {m : Cm} (hm : ms[i]? = some m) (no : P m = false) : SortP ms P (i + 1) T := by
  refine ⟨?_, h.2⟩
  rw [numsK_add hm, if_neg (by rw [no]; decide)]
  exact h.1
theorem SortP.add {ms : List Cm} {P : Cm → Bool} {i : Nat} {T Pre R : List Nat} (h : SortP ms P i T) {m : Cm} (hm : ms[i]? = some m) (yes : P m = true) (q : PlcQ ms Pre T i R) : ∃ T', R = Pre ++ T' ∧ SortP ms P (i + 1) T' := by
  obtain ⟨A, B, eT, eR, hB, hA⟩ := q.ok
  have il : i < ms.length := (List.getElem?_eq_some_iff.1 hm).1
  refine ⟨A ++ i :: B, by rw [eR, List.append_assoc], ?_, ?_⟩
  · rw [numsK_add hm, if_pos yes]
    have p1 : (A ++ i :: B).Perm (i :: (A ++ B)) := List.perm_middle
    rw [← eT] at p1
    exact (p1.trans (h.1.cons i)).trans (List.perm_append_singleton i (numsK P ms i)).symm
  · have hp := h.2
    rw [eT] at hp
    obtain ⟨p1, p2, p3⟩ := List.pairwise_append.1 hp
    refine List.pairwise_append.2 ⟨p1, List.pairwise_cons.2 ⟨hB, p2⟩, fun a ha y hy => ?_⟩
    rcases List.mem_cons.1 hy with z | z
    · subst z
      have ne : A ≠ [] := List.ne_nil_of_mem ha
      have hl : A.getLast? = some (A.getLast ne) := List.getLast?_eq_some_getLast ne
      have lastm : A.getLast ne ∈ T := by rw [eT]; exact List.mem_append_left _ (List.getLast_mem ne)
      have ll := h.lt _ lastm
      have l1 : AheadF ms (A.getLast ne) y := ahead_total il (by omega) (by omega) (hA _ hl)
      have hs := List.dropLast_concat_getLast ne
      rw [← hs] at ha p1
      rcases List.mem_append.1 ha with u | u
      · exact ahead_trans ((List.pairwise_append.1 p1).2.2 a u _ (by simp)) l1
      · rw [List.mem_singleton] at u
        rw [u]
        exact l1
    · exact p3 a ha y z
theorem sum_le_step {α : Type} {f g : α → Nat} {p : α → Bool} : ∀ (l : List α), (∀ t ∈ l, g t ≤ f t + if p t = true then 1 else 0) → (l.map g).sum ≤ (l.map f).sum + (l.filter p).length
  | [], _ => by simp
  | a :: l, h => by
    have ih := sum_le_step (f := f) (g := g) (p := p) l (fun t ht => h t (List.mem_cons_of_mem _ ht))
    have ha := h a (by simp)
    rw [List.map_cons, List.map_cons, List.sum_cons, List.sum_cons]
    cases q : p a
    · rw [List.filter_cons_of_neg (by rw [q]; decide)]
      rw [q] at ha
      simp at ha
      omega
    · rw [List.filter_cons_of_pos q, List.length_cons]
      rw [q] at ha
      simp at ha
      omega
theorem sum_rd {ms : List Cm} {TT : List (Int × Int)} (nd : TT.Nodup) : ∀ i, (TT.map fun t => (numsK (rdT t) ms i).length).sum ≤ i
  | 0 => by
    have e : (TT.map fun t => (numsK (rdT t) ms 0).length) = TT.map fun _ => 0 := rfl
    rw [e]
    have : ∀ l : List (Int × Int), (l.map fun _ => 0).sum = 0 := fun l => by
      induction l with
      | nil => rfl
      | cons a l ih => rw [List.map_cons, List.sum_cons, ih]
    rw [this]
    exact Nat.le_refl _
  | i + 1 => by
    have ih := sum_rd (ms := ms) nd i
    cases hm : ms[i]? with
    | none =>
      have e : ∀ t, numsK (rdT t) ms (i + 1) = numsK (rdT t) ms i := fun t => by
        unfold numsK
        rw [List.range_succ, List.filter_append]
        simp [hm]
      simp only [e]
      omega
    | some m =>
      have st := sum_le_step (f := fun t => (numsK (rdT t) ms i).length) (g := fun t => (numsK (rdT t) ms (i + 1)).length) (p := fun t => rdT t m) TT (fun t _ => by
        show (numsK (rdT t) ms (i + 1)).length ≤ (numsK (rdT t) ms i).length + _
        rw [numsK_add hm]
        by_cases q : rdT t m = true
        · rw [if_pos q, if_pos q, List.length_append]
          exact Nat.le_refl _
        · rw [if_neg q, if_neg q]
          exact Nat.le_refl _)
      have f1 : (TT.filter fun t => rdT t m).length ≤ 1 := nd_le1 (List.Pairwise.filter _ nd) (fun a ha b hb => by
        have h1 := (List.mem_filter.1 ha).2
        have h2 := (List.mem_filter.1 hb).2
        unfold rdT at h1 h2
        rw [Bool.and_eq_true, decide_eq_true_iff] at h1 h2
        rw [← h1.2, ← h2.2])
      omega
theorem flat_len : ∀ (S : List ((Nat × Int × Int) × List Nat)), (S.flatMap fun y => y.1.1 :: y.2).length = S.length + (S.map fun y => y.2.length).sum
  | [] => rfl
  | a :: S => by
    rw [List.flatMap_cons, List.length_append, flat_len S, List.length_cons, List.length_cons, List.map_cons, List.sum_cons]
    omega
def inAt (IN : List (Nat × Int × Int)) (r : Nat) : Nat × Int × Int := (IN[r]?).getD (0, 0, 0)
theorem inAt_of {IN : List (Nat × Int × Int)} {r : Nat} {x : Nat × Int × Int} (h : IN[r]? = some x) : inAt IN r = x := by unfold inAt; rw [h]; rfl
/-- On the way of the picking. -/
structure Pick (ms : List Cm) (IN : List (Nat × Int × Int)) (RA : List Nat) (R : List Nat) (S : List ((Nat × Int × Int) × List Nat)) (acc : List Nat) : Prop where
  nd : R.Nodup
  lt : ∀ r ∈ R, r < IN.length
  low : ∀ r ∈ R, ∀ j, j < IN.length → j ∉ R → tlt2 (inAt IN r).2 (inAt IN j).2
  up : S.Pairwise (fun x y => tlt2 x.1.2 y.1.2)
  fst : S.map Prod.fst = R.map (inAt IN)
  srt : ∀ y ∈ S, SortD ms (rdT y.1.2) y.2
  acc : acc = RA ++ S.flatMap fun y => y.1.1 :: y.2
theorem Pick.start (ms : List Cm) (IN : List (Nat × Int × Int)) (RA : List Nat) : Pick ms IN RA [] [] RA := ⟨List.nodup_nil, fun r h => (by cases h), fun r h => (by cases h), List.Pairwise.nil, rfl, fun y h => (by cases h), by simp⟩
theorem Pick.len {ms : List Cm} {IN : List (Nat × Int × Int)} {RA R : List Nat} {S : List ((Nat × Int × Int) × List Nat)} {acc : List Nat} (h : Pick ms IN RA R S acc) : acc.length ≤ RA.length + R.length + ms.length := by
  have e1 : S.length = R.length := by
    have := congrArg List.length h.fst
    rw [List.length_map, List.length_map] at this
    exact this
  have e2 : (S.map fun y => y.2.length) = (S.map fun y => y.1.2).map fun t => (numsK (rdT t) ms ms.length).length := by
    rw [List.map_map]
    exact List.map_congr_left (fun y hy => (h.srt y hy).1.length_eq)
  have nd : (S.map fun y => y.1.2).Nodup := by
    unfold List.Nodup
    rw [List.pairwise_map]
    exact h.up.imp (fun z => tlt2_ne z)
  have := sum_rd (ms := ms) nd ms.length
  rw [h.acc, List.length_append, flat_len, e1, e2]
  omega
theorem pick_left {IN : List (Nat × Int × Int)} {R : List Nat} (hl : R.length < IN.length) : ¬ ∀ j, j < IN.length → j ∈ R := by
  intro z
  have := List.Nodup.length_le_of_subset (List.nodup_range (n := IN.length)) (l₂ := R) (fun j hj => z j (List.mem_range.1 hj))
  rw [List.length_range] at this
  omega
/-- The least one that is left. -/
def MinQ (IN : List (Nat × Int × Int)) (R : List Nat) (j : Nat) (l : Int) : Prop := (l = -1 ∧ ∀ j', j' < j → j' ∈ R) ∨ ∃ a : Nat, l = (a : Int) ∧ a < j ∧ a ∉ R ∧ ∀ j', j' < j → j' ∉ R → j' = a ∨ tlt2 (inAt IN a).2 (inAt IN j').2
theorem MinQ.zero (IN : List (Nat × Int × Int)) (R : List Nat) : MinQ IN R 0 (-1) := .inl ⟨rfl, fun j h => absurd h (by omega)⟩
theorem MinQ.pass {IN : List (Nat × Int × Int)} {R : List Nat} {j : Nat} {l : Int} (h : MinQ IN R j l) (hj : j ∈ R) : MinQ IN R (j + 1) l := by
  rcases h with ⟨h1, h2⟩ | ⟨a, h1, h2, h3, h4⟩
  · refine .inl ⟨h1, fun j' hj' => ?_⟩
    by_cases e : j' = j
    · rw [e]; exact hj
    · exact h2 j' (by omega)
  · refine .inr ⟨a, h1, by omega, h3, fun j' hj' hn => ?_⟩
    by_cases e : j' = j
    · rw [e] at hn; exact absurd hj hn
    · exact h4 j' (by omega) hn
theorem MinQ.first {IN : List (Nat × Int × Int)} {R : List Nat} {j : Nat} (h : MinQ IN R j (-1)) (hj : j ∉ R) : MinQ IN R (j + 1) (j : Int) := by
  rcases h with ⟨_, h2⟩ | ⟨a, h1, _⟩
  · refine .inr ⟨j, rfl, by omega, hj, fun j' hj' hn => ?_⟩
    by_cases e : j' = j
    · exact .inl e
    · exact absurd (h2 j' (by omega)) hn
  · omega
theorem tlt2_total {a b : Int × Int} (ne : a ≠ b) (h : ¬ tlt2 a b) : tlt2 b a := by
  obtain ⟨a1, a2⟩ := a
  obtain ⟨b1, b2⟩ := b
  unfold tlt2 at h ⊢
  simp at ne h ⊢
  omega
theorem tlt2_trans {a b c : Int × Int} (h : tlt2 a b) (h2 : tlt2 b c) : tlt2 a c := by
  unfold tlt2 at *
  omega
theorem MinQ.step {IN : List (Nat × Int × Int)} {R : List Nat} {j a : Nat} (h : MinQ IN R j (a : Int)) (hj : j ∉ R) (ne : ∀ a, a < j → (inAt IN j).2 ≠ (inAt IN a).2) : (tlt2 (inAt IN j).2 (inAt IN a).2 → MinQ IN R (j + 1) (j : Int)) ∧ (¬ tlt2 (inAt IN j).2 (inAt IN a).2 → MinQ IN R (j + 1) (a : Int)) := by
  rcases h with ⟨h1, _⟩ | ⟨a', h1, h2, h3, h4⟩
  · omega
  · have e : a' = a := by omega
    subst e
    refine ⟨fun z => .inr ⟨j, rfl, by omega, hj, fun j' hj' hn => ?_⟩, fun z => .inr ⟨a', rfl, by omega, h3, fun j' hj' hn => ?_⟩⟩
    · by_cases e : j' = j
      · exact .inl e
      · rcases h4 j' (by omega) hn with y | y
        · rw [y]; exact .inr z
        · exact .inr (tlt2_trans z y)
    · by_cases e : j' = j
      · rw [e]
        exact .inr (tlt2_total (ne a' h2) z)
      · exact h4 j' (by omega) hn
theorem Pick.next {ms : List Cm} {IN : List (Nat × Int × Int)} {RA R : List Nat} {S : List ((Nat × Int × Int) × List Nat)} {acc : List Nat} (h : Pick ms IN RA R S acc) {a : Nat} (l : MinQ IN R IN.length (a : Int)) {T : List Nat} (hT : SortD ms (rdT (inAt IN a).2) T) : Pick ms IN RA (R ++ [a]) (S ++ [(inAt IN a, T)]) (acc ++ [(inAt IN a).1] ++ T) := by
  rcases l with ⟨z, _⟩ | ⟨a', h1, h2, h3, h4⟩
  · omega
  · have e : a' = a := by omega
    subst e
    refine ⟨?_, fun r hr => ?_, fun r hr j hj hn => ?_, ?_, ?_, fun y hy => ?_, ?_⟩
    · refine List.nodup_append.2 ⟨h.nd, by simp, fun x hx y hy => ?_⟩
      rw [List.mem_singleton] at hy
      rw [hy]
      exact fun z => h3 (z ▸ hx)
    · rcases List.mem_append.1 hr with z | z
      · exact h.lt r z
      · rw [List.mem_singleton] at z
        rw [z]; exact h2
    · have hn' : j ∉ R ∧ j ≠ a' := ⟨fun z => hn (List.mem_append_left _ z), fun z => hn (by rw [z]; simp)⟩
      rcases List.mem_append.1 hr with z | z
      · exact h.low r z j hj hn'.1
      · rw [List.mem_singleton] at z
        rw [z]
        rcases h4 j hj hn'.1 with y | y
        · exact absurd y hn'.2
        · exact y
    · refine List.pairwise_append.2 ⟨h.up, List.pairwise_singleton _ _, fun x hx y hy => ?_⟩
      rw [List.mem_singleton] at hy
      rw [hy]
      have hm : x.1 ∈ R.map (inAt IN) := by rw [← h.fst]; exact List.mem_map.2 ⟨x, hx, rfl⟩
      obtain ⟨r, hr, er⟩ := List.mem_map.1 hm
      rw [← er]
      exact h.low r hr a' h2 h3
    · rw [List.map_append, List.map_append, h.fst]
      rfl
    · rcases List.mem_append.1 hy with z | z
      · exact h.srt y z
      · rw [List.mem_singleton] at z
        rw [z]; exact hT
    · rw [List.flatMap_append, h.acc]
      simp
theorem Pick.done {ms : List Cm} {IN : List (Nat × Int × Int)} {RA R : List Nat} {S : List ((Nat × Int × Int) × List Nat)} {acc : List Nat} (h : Pick ms IN RA R S acc) (hl : R.length = IN.length) (hA : SortD ms absB RA) : DRes ms IN acc := by
  refine ⟨RA, S, hA, ?_, h.up, h.srt, h.acc⟩
  have all : ∀ j, j < IN.length → j ∈ R := by
    intro j hj
    refine Classical.byContradiction (fun z => ?_)
    have nd2 : (j :: R).Nodup := List.nodup_cons.2 ⟨z, h.nd⟩
    have := List.Nodup.length_le_of_subset nd2 (l₂ := List.range IN.length) (fun x hx => by
      rw [List.mem_range]
      rcases List.mem_cons.1 hx with y | y
      · rw [y]; exact hj
      · exact h.lt x y)
    rw [List.length_range, List.length_cons] at this
    omega
  have p : R.Perm (List.range IN.length) := (List.perm_ext_iff_of_nodup h.nd List.nodup_range).2 (fun x => ⟨fun hx => List.mem_range.2 (h.lt x hx), fun hx => all x (List.mem_range.1 hx)⟩)
  rw [h.fst]
  have e : (List.range IN.length).map (inAt IN) = IN := by
    refine List.ext_getElem (by simp) (fun i h1 h2 => ?_)
    rw [List.getElem_map, List.getElem_range]
    exact inAt_of (List.getElem?_eq_getElem h2)
  have := p.map (inAt IN)
  rw [e] at this
  exact this
/-- The first ones are proper and differ. -/
structure Chk (IN : List (Nat × Int × Int)) (i : Nat) : Prop where
  prop : ∀ x ∈ IN.take i, kIsProper x.2.1 x.2.2 = true
  pair : (IN.take i).Pairwise (fun x y => x.2 ≠ y.2 ∧ x.1 ≠ y.1)
theorem Chk.zero (IN : List (Nat × Int × Int)) : Chk IN 0 := ⟨fun x h => (by simp at h), by simp⟩
theorem Chk.more {IN : List (Nat × Int × Int)} {i : Nat} (h : Chk IN i) {x : Nat × Int × Int} (hx : IN[i]? = some x) (h1 : kIsProper x.2.1 x.2.2 = true) (h2 : ∀ y ∈ IN.take i, x.2 ≠ y.2 ∧ x.1 ≠ y.1) : Chk IN (i + 1) := by
  have e : IN.take (i + 1) = IN.take i ++ [x] := by rw [List.take_add_one, hx]; rfl
  refine ⟨fun y hy => ?_, ?_⟩
  · rw [e] at hy
    rcases List.mem_append.1 hy with z | z
    · exact h.prop y z
    · rw [List.mem_singleton] at z
      rw [z]; exact h1
  · rw [e]
    refine List.pairwise_append.2 ⟨h.pair, List.pairwise_singleton _ _, fun y hy z hz => ?_⟩
    rw [List.mem_singleton] at hz
    rw [hz]
    exact ⟨fun q => (h2 y hy).1 q.symm, fun q => (h2 y hy).2 q.symm⟩
theorem propB_eq (a b : Int) : propB a b = kIsProper a b := by
  unfold propB kIsProper
  rw [Bool.eq_iff_iff]
  simp [and_assoc]
theorem dok_at {ms : List Cm} {IN : List (Nat × Int × Int)} (h : DOk ms IN) {i j : Nat} {x y : Nat × Int × Int} (hx : IN[i]? = some x) (hy : IN[j]? = some y) (hj : j < i) : x.2 ≠ y.2 ∧ x.1 ≠ y.1 := by
  obtain ⟨a1, a2⟩ := List.getElem?_eq_some_iff.1 hx
  obtain ⟨b1, b2⟩ := List.getElem?_eq_some_iff.1 hy
  have := List.pairwise_iff_getElem.1 h.pair j i b1 a1 hj
  rw [a2, b2] at this
  exact ⟨fun z => this.1 z.symm, fun z => this.2 z.symm⟩
end Go.Proofs.Ytodmakcklacbfaa

namespace Go.Proofs.Ytodmakcklacbfaa
open Go.RowKit Go.Shelf Go.Lib Go.Sort

theorem er_get (ms : List Cm) (r : Nat) : (ms.map er)[r]? = (ms[r]?).map er := List.getElem?_map
theorem er_tag (ms : List Cm) (r : Nat) : tagAt (ms.map er) r = tagAt ms r := by
  unfold tagAt
  rw [er_get]
  cases ms[r]? <;> rfl
theorem er_opnAt (ms : List Cm) (r : Nat) : opnAt (ms.map er) r = opnAt ms r := by
  unfold opnAt
  rw [er_get]
  cases ms[r]? <;> rfl
theorem er_puts (ms : List Cm) (R : List Nat) : putsOf (ms.map er) R = putsOf ms R := by
  unfold putsOf
  congr 1
  funext r
  rw [er_get]
  cases ms[r]? <;> rfl
theorem er_gets (ms : List Cm) (R : List Nat) : getsOf (ms.map er) R = getsOf ms R := by
  unfold getsOf
  congr 1
  funext r
  rw [er_get]
  cases ms[r]? <;> rfl
theorem er_alike (ms : List Cm) (L : List Nat) : alikeN (ms.map er) L = alikeN ms L := by
  cases L with
  | nil => rfl
  | cons r T =>
    show 1 + _ = 1 + _
    simp only [er_tag]
theorem er_putsX (ms : List Cm) (R : List Nat) (M : Int → Option Int) (ty : Int) : putsX (ms.map er) R M ty = putsX ms R M ty := by
  unfold putsX
  simp only [er_gets, er_puts, er_opnAt]
theorem er_oneX (ms : List Cm) (R : List Nat) (M : Int → Option Int) (tx ty : Int) : oneX (ms.map er) R M tx ty = oneX ms R M tx ty := by
  unfold oneX
  simp only [er_gets, er_putsX]
theorem er_runX (ms : List Cm) : ∀ (f : Nat) (L : List Nat) (M : Int → Option Int) (acc : List Nat), runX (ms.map er) f L M acc = runX ms f L M acc
  | 0, _, _, _ => rfl
  | f + 1, [], M, acc => rfl
  | f + 1, r :: T, M, acc => by
    show (match oneX (ms.map er) ((r :: T).take (alikeN (ms.map er) (r :: T))) M (tagAt (ms.map er) r).1 (tagAt (ms.map er) r).2 with | none => none | some P => runX (ms.map er) f ((r :: T).drop (alikeN (ms.map er) (r :: T))) (putsX (ms.map er) ((r :: T).take (alikeN (ms.map er) (r :: T))) M (tagAt (ms.map er) r).2).2 (acc ++ P)) = (match oneX ms ((r :: T).take (alikeN ms (r :: T))) M (tagAt ms r).1 (tagAt ms r).2 with | none => none | some P => runX ms f ((r :: T).drop (alikeN ms (r :: T))) (putsX ms ((r :: T).take (alikeN ms (r :: T))) M (tagAt ms r).2).2 (acc ++ P))
    rw [er_alike, er_tag, er_oneX, er_putsX]
    cases oneX ms ((r :: T).take (alikeN ms (r :: T))) M (tagAt ms r).1 (tagAt ms r).2 with
    | none => rfl
    | some P => exact er_runX ms f _ _ _
theorem er_sil (ms : List Cm) : ∀ i, silM (ms.map er) i = silM ms i
  | 0 => rfl
  | i + 1 => by
    show (match (ms.map er)[i]? with | some m => if (m.opn && kIsZero m.tx m.ty) = true then upd (silM (ms.map er) i) m.client (i : Int) else silM (ms.map er) i | none => silM (ms.map er) i) = (match ms[i]? with | some m => if (m.opn && kIsZero m.tx m.ty) = true then upd (silM ms i) m.client (i : Int) else silM ms i | none => silM ms i)
    rw [er_get, er_sil ms i]
    cases ms[i]? <;> rfl
theorem er_nums {P : Cm → Bool} (hP : ∀ m, P (er m) = P m) (ms : List Cm) (i : Nat) : numsK P (ms.map er) i = numsK P ms i := by
  unfold numsK
  congr 1
  funext j
  rw [er_get]
  cases ms[j]? with
  | none => rfl
  | some m => exact hP m
theorem er_lt {ms : List Cm} {x y : Nat} : FromLt (ms.map er) x y ↔ FromLt ms x y := by
  unfold FromLt
  constructor
  · intro h a b ha hb
    exact h (er a) (er b) (by rw [er_get, ha]; rfl) (by rw [er_get, hb]; rfl)
  · intro h a b ha hb
    rw [er_get] at ha hb
    obtain ⟨a', ha', rfl⟩ := Option.map_eq_some_iff.1 ha
    obtain ⟨b', hb', rfl⟩ := Option.map_eq_some_iff.1 hb
    exact h a' b' ha' hb'
theorem er_tlt {ms : List Cm} {x y : Nat} : TagLt (ms.map er) x y ↔ TagLt ms x y := by
  unfold TagLt
  constructor
  · intro h a b ha hb
    exact h (er a) (er b) (by rw [er_get, ha]; rfl) (by rw [er_get, hb]; rfl)
  · intro h a b ha hb
    rw [er_get] at ha hb
    obtain ⟨a', ha', rfl⟩ := Option.map_eq_some_iff.1 ha
    obtain ⟨b', hb', rfl⟩ := Option.map_eq_some_iff.1 hb
    exact h a' b' ha' hb'
theorem er_er (m : Cm) : er (er m) = er m := rfl
theorem er_map (ms : List Cm) : (ms.map er).map er = ms.map er := by rw [List.map_map]; rfl
theorem er_fitI {ms : List Cm} : FitL (ms.map er) ↔ FitL ms := ⟨fun h => er_fit (er_map ms) h, fun h => er_fit (er_map ms).symm h⟩
theorem er_byT {ms : List Cm} {L : List Nat} {e : Int} : ByT (ms.map er) L e ↔ ByT ms L e := by
  have hl : (ms.map er).length = ms.length := List.length_map ..
  have s1 : ∀ R, SortOf (ms.map er) absB (FromLt (ms.map er)) R ↔ SortOf ms absB (FromLt ms) R := fun R => by
    unfold SortOf
    rw [hl, er_nums (fun _ => rfl)]
    simp only [er_lt]
  have s2 : ∀ R, SortOf (ms.map er) Cm.tells (TagLt (ms.map er)) R ↔ SortOf ms Cm.tells (TagLt ms) R := fun R => by
    unfold SortOf
    rw [hl, er_nums (fun _ => rfl)]
    simp only [er_tlt]
  unfold ByT
  simp only [s1, s2, er_fitI, er_runX, er_sil, hl]
theorem byT_same {l1 l2 : List Cm} (h : l1.map er = l2.map er) {L : List Nat} {e : Int} (b : ByT l1 L e) : ByT l2 L e := by
  rw [← er_byT, ← h, er_byT]
  exact b
theorem cka_one {ms : List Cm} {R : List Int} {v v' : Int} (h : CkA ms R v) (h' : CkA ms R v') : v = v' := by
  rcases h with ⟨z, f⟩ | ⟨z, f, x⟩ | ⟨z, f, x⟩
  · rcases h' with ⟨z', f'⟩ | ⟨z', f', x'⟩ | ⟨z', f', x'⟩
    · omega
    · exact absurd f' f
    · exact absurd f' f
  · rcases h' with ⟨z', f'⟩ | ⟨z', f', x'⟩ | ⟨z', f', x'⟩
    · exact absurd f f'
    · omega
    · exact absurd x x'
  · rcases h' with ⟨z', f'⟩ | ⟨z', f', x'⟩ | ⟨z', f', x'⟩
    · exact absurd f f'
    · exact absurd x' x
    · omega
end Go.Proofs.Ytodmakcklacbfaa

namespace Go.Proofs.Ytodmakcklacbfaa
open Go.RowKit 

theorem dZero (a b : Int) (w : World) : Calls Try.prog 91 #[.agg #[.int .i64 a, .int .i64 b]] w fun o w' => o = .returned (.bool (kIsZero a b)) ∧ Kept (fun _ => False) w w' := by
  unfold kIsZero
  go_enter Try.func91, Try.ntmps91
  by_cases h : a = 0
  · by_cases h2 : b = 0
    · go_wp2_with fail
      go_ret
      exact ⟨by simp [h, h2], (Kept.refl _ _).alloc _⟩
    · go_wp2_with fail
      go_ret
      exact ⟨by simp [h, h2], (Kept.refl _ _).alloc _⟩
  · go_wp2_with fail
    go_ret
    exact ⟨by simp [h], (Kept.refl _ _).alloc _⟩
set_option maxRecDepth 100000 in
theorem dOwn (m : Cm) (w : World) : Calls Try.prog 79 #[m.agg] w fun o w' => o = .returned (.bool (ownB m)) ∧ Kept (fun _ => False) w w' := by
  obtain ⟨cl, op, pu, ke, va, vn, vc, st, fr, too, on, tx, ty, vl⟩ := m
  unfold Cm.agg ownB
  dsimp only
  obtain ⟨zz, hz⟩ : ∃ zz, zz = kIsZero tx ty := ⟨_, rfl⟩
  have RR : Hid (∀ V, Calls Try.prog 91 #[.agg #[.int .i64 tx, .int .i64 ty]] V fun o w' => o = .returned (.bool zz) ∧ Kept (fun _ => False) V w') := fun V => by rw [hz]; exact dZero tx ty V
  rw [← hz]
  clear hz
  go_enter Try.func79, Try.ntmps79
  cases pu
  · go_wp2_with fail
    go_ret
    exact ⟨by simp, (Kept.refl _ _).alloc _⟩
  · cases on
    · go_wp2_with fail
      go_ret
      exact ⟨by simp, (Kept.refl _ _).alloc _⟩
    · go_wp2_with fail
      refine (RR.out _).mono ?_
      rintro o w1 ⟨rfl, K1⟩
      have K2 : Hid (Kept (fun _ => False) w w1) := ((Kept.refl _ _).alloc _).trans K1 (fun _ _ z => z)
      clear K1
      go_wp2_with fail
      go_ret
      exact ⟨by simp, K2.out⟩
end Go.Proofs.Ytodmakcklacbfaa
