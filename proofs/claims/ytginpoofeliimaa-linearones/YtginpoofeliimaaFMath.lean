import Derived.Test.YtginpoofeliimaaEPre
namespace Go.Proofs.Ytginpoofeliimaa
open Go.RowKit 

/-- What least tells of the lists that begin so. -/
structure LstQ (cs : List Cl) (b R : List Nat) (ok : Bool) : Prop where
  yes : ok = true → XRun cs R [] none ∧ (∃ t, R = b ++ t) ∧ ∀ t, XRun cs (b ++ t) [] none → ¬ b ++ t < R
  no : ok = false → R = [] ∧ ∀ t, ¬ XRun cs (b ++ t) [] none
theorem ext_not_lt : ∀ (r t : List Nat), ¬ r ++ t < r
  | [], t => by simp
  | a :: r, t => by
    rw [List.cons_append, List.cons_lt_cons_iff]
    rintro (z | ⟨_, z⟩)
    · omega
    · exact ext_not_lt r t z
theorem LstQ.here {cs : List Cl} {b : List Nat} (h : XRun cs b [] none) : LstQ cs b b true := ⟨fun _ => ⟨h, ⟨[], (List.append_nil _).symm⟩, fun t _ => ext_not_lt b t⟩, fun z => by cases z⟩
theorem run_head {cs : List Cl} {b t : List Nat} {j : Nat} (h : XRun cs (b ++ j :: t) [] none) : j ∉ b ∧ j < cs.length := by
  have hg : (b ++ j :: t)[b.length]? = some j := by rw [List.getElem?_append_right (Nat.le_refl _), Nat.sub_self]; rfl
  obtain ⟨c, m⟩ := (xrun_iff.1 h).1 b.length j hg
  refine ⟨?_, (List.getElem?_eq_some_iff.1 m.1).1⟩
  have := m.2.2.1
  rw [List.nil_append, List.take_append_of_le_length (Nat.le_refl _), List.take_length] at this
  exact this
theorem LstQ.found {cs : List Cl} {b R : List Nat} {i : Nat} (nb : ¬ XRun cs b [] none) (low : ∀ j, j < i → ∀ t, ¬ XRun cs (b ++ j :: t) [] none) (h : LstQ cs (b ++ [i]) R true) : LstQ cs b R true := by
  obtain ⟨h1, ⟨t, ht⟩, h3⟩ := h.yes rfl
  refine ⟨fun _ => ⟨h1, ⟨i :: t, by rw [ht, List.append_assoc]; rfl⟩, fun s hs => ?_⟩, fun z => by cases z⟩
  cases s with
  | nil => rw [List.append_nil] at hs; exact absurd hs nb
  | cons j s =>
    rcases Nat.lt_trichotomy j i with z | z | z
    · exact absurd hs (low j z s)
    · subst z
      have := h3 s (by rw [List.append_assoc]; exact hs)
      rw [List.append_assoc] at this
      exact this
    · rw [ht, List.append_assoc]
      intro lt
      have up : b ++ ([i] ++ t) < b ++ j :: s := by
        refine append_lt ?_
        show i :: t < j :: s
        rw [List.cons_lt_cons_iff]
        exact .inl z
      exact List.lt_asymm lt up
theorem LstQ.none' {cs : List Cl} {b : List Nat} (nb : ¬ XRun cs b [] none) (low : ∀ j, j < cs.length → ∀ t, ¬ XRun cs (b ++ j :: t) [] none) : LstQ cs b [] false := by
  refine ⟨fun z => (by cases z), fun _ => ⟨rfl, fun t h => ?_⟩⟩
  cases t with
  | nil => rw [List.append_nil] at h; exact nb h
  | cons j t => exact low j (run_head h).2 t h
/-- The first order is the least. -/
theorem LstQ.one {cs : List Cl} {R o : List Nat} {is ok : Bool} {e : Int} (h : LstQ cs [] R is) (nb : ∀ c ∈ cs, c.bad = false) (few : (cs.filter Cl.part).length ≤ 24) (os : OneS cs o ok e) : e = 0 ∧ ok = is ∧ o = R ∧ (ok = true → XRun cs o [] none) := by
  obtain ⟨h1, h2, h3⟩ := os.good nb few
  cases ok <;> cases is
  · exact ⟨h1, rfl, by rw [(h3 rfl).1, (h.no rfl).1], fun z => by cases z⟩
  · exact absurd (h.yes rfl).1 ((h3 rfl).2 _)
  · have := (h2 rfl).1
    exact absurd this ((h.no rfl).2 o)
  · obtain ⟨r1, r2⟩ := h2 rfl
    obtain ⟨l1, _, l3⟩ := h.yes rfl
    have a := r2 R l1
    have b := l3 o r1
    rw [List.nil_append] at b
    exact ⟨h1, rfl, List.le_antisymm a b, fun _ => r1⟩
end Go.Proofs.Ytginpoofeliimaa
