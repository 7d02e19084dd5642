import Derived.Test.YtginpoofeliimabLSpec
namespace Go.Proofs.Ytginpoofeliimab

/-- Some order goes on from here. -/
def XCan (cs : List Cl) (p : List Nat) (V : Option (List Nat)) : Prop := ∃ o, XRun cs o p V
theorem XRun.congr {cs : List Cl} : ∀ {o p p' : List Nat} {V : Option (List Nat)}, (∀ j, j ∈ p ↔ j ∈ p') → XRun cs o p V → XRun cs o p' V
  | [], p, p', V, h, r => fun i c hc hm => (h i).1 (r i c hc hm)
  | i :: o, p, p', V, h, r => by
    obtain ⟨c, m, r⟩ := r
    refine ⟨c, ⟨m.1, m.2.1, fun z => m.2.2.1 ((h i).2 z), m.2.2.2.1, fun j a ha hap haa => (h j).1 (m.2.2.2.2 j a ha hap haa)⟩, XRun.congr (fun j => ?_) r⟩
    rw [List.mem_append, List.mem_append, h j]
theorem XCan.congr {cs : List Cl} {p p' : List Nat} {V : Option (List Nat)} (h : ∀ j, j ∈ p ↔ j ∈ p') : XCan cs p V ↔ XCan cs p' V :=
  ⟨fun ⟨o, r⟩ => ⟨o, r.congr h⟩, fun ⟨o, r⟩ => ⟨o, r.congr (fun j => (h j).symm)⟩⟩
/-- An open Put that is in plays no part but by its value. -/
theorem XRun.skip {cs : List Cl} {i : Nat} {c : Cl} (hc : cs[i]? = some c) (ho : c.open_ = true) : ∀ {o p p' : List Nat} {U V : Option (List Nat)}, (∀ j, j ∈ p' ↔ j ∈ p ∨ j = i) → i ∉ p → (U = V ∨ (U = some c.val ∧ ∀ g d, cs[g]? = some d → d.part = true → d.put = false → g ∉ p → d.told ≠ some c.val)) → XRun cs o p' U → XRun cs o p V
  | [], p, p', U, V, hp, hi, _, r => fun j d hd hm => by
    rcases (hp j).1 (r j d hd hm) with z | z
    · exact z
    · subst z
      rw [hc] at hd
      injection hd with hd
      subst hd
      unfold Cl.must at hm
      rw [ho] at hm
      simp at hm
  | k :: o, p, p', U, V, hp, hi, hv, r => by
    obtain ⟨d, m, r⟩ := r
    have ki : k ≠ i := fun z => m.2.2.1 ((hp k).2 (.inr z))
    have kp : k ∉ p := fun z => m.2.2.1 ((hp k).2 (.inl z))
    have vv : d.put = true ∨ U = V := by
      rcases hv with e | ⟨e, mt⟩
      · exact .inr e
      · by_cases q : d.put = true
        · exact .inl q
        · have := m.2.2.2.1.resolve_left q
          rw [e] at this
          exact absurd this (mt k d m.1 m.2.1 (by simpa using q) kp)
    refine ⟨d, ⟨m.1, m.2.1, kp, ?_, fun j a ha hap haa => ?_⟩, XRun.skip hc ho (p := p ++ [k]) (p' := p' ++ [k]) (U := d.next U) ?_ ?_ ?_ r⟩
    · rcases vv with q | q
      · exact .inl q
      · rw [← q]; exact m.2.2.2.1
    · rcases (hp j).1 (m.2.2.2.2 j a ha hap haa) with z | z
      · exact z
      · subst z
        rw [hc] at ha
        injection ha with ha
        subst ha
        unfold Cl.ahead Cl.must at haa
        rw [ho] at haa
        simp at haa
    · intro j
      rw [List.mem_append, List.mem_append, hp j]
      constructor
      · rintro ((z | z) | z)
        · exact .inl (.inl z)
        · exact .inr z
        · exact .inl (.inr z)
      · rintro ((z | z) | z)
        · exact .inl (.inl z)
        · exact .inr z
        · exact .inl (.inr z)
    · intro z
      rcases List.mem_append.1 z with z | z
      · exact hi z
      · exact ki (List.mem_singleton.1 z).symm
    · unfold Cl.next
      by_cases q : d.put = true
      · rw [if_pos q, if_pos q]
        exact .inl rfl
      · rw [if_neg q, if_neg q]
        rcases hv with e | ⟨e, mt⟩
        · exact .inl e
        · refine .inr ⟨e, fun g x hg hx hxp hgp => mt g x hg hx hxp (fun z => hgp (List.mem_append_left _ z))⟩
/-- An open Put is wanted where a Get that isn't in tells its value. -/
def Wants (cs : List Cl) (p : List Nat) (c : Cl) : Prop := c.open_ = false ∨ ∃ (g : Nat) (d : Cl), cs[g]? = some d ∧ d.part = true ∧ d.put = false ∧ g ∉ p ∧ d.told = some c.val
/-- It is enough to go on by what is wanted. -/
theorem XCan.step {cs : List Cl} {p : List Nat} {V : Option (List Nat)} : XCan cs p V ↔ XWhole cs p ∨ ∃ i c, XMay cs p V i c ∧ Wants cs p c ∧ XCan cs (p ++ [i]) (c.next V) := by
  constructor
  · rintro ⟨o, r⟩
    induction o with
    | nil => exact .inl r
    | cons i o ih =>
      obtain ⟨c, m, r⟩ := r
      by_cases w : Wants cs p c
      · exact .inr ⟨i, c, m, w, o, r⟩
      · have ho : c.open_ = true := by
          cases q : c.open_
          · exact absurd (.inl q) w
          · rfl
        have hp : c.put = true := by
          unfold Cl.open_ at ho
          rw [Bool.and_eq_true] at ho
          exact ho.1
        refine ih (XRun.skip m.1 ho (p' := p ++ [i]) (U := c.next V) (fun j => by rw [List.mem_append, List.mem_singleton]) m.2.2.1 (.inr ⟨by unfold Cl.next; rw [if_pos hp], fun g d hg hd hdp hgp z => w (.inr ⟨g, d, hg, hd, hdp, hgp, z⟩)⟩) r)
  · rintro (w | ⟨i, c, m, _, o, r⟩)
    · exact ⟨[], w⟩
    · exact ⟨i :: o, c, m, r⟩
/-- A state as bytes. -/
def stB (n : Nat) (p : List Nat) (V : Option (List Nat)) : List Nat := (List.range n).map (fun i => if i ∈ p then 1 else 0) ++ (match V with | some v => 2 :: v | none => [])
theorem stB_inj {n : Nat} {p p' : List Nat} {V V' : Option (List Nat)} (h : stB n p V = stB n p' V') : (∀ j, j < n → (j ∈ p ↔ j ∈ p')) ∧ V = V' := by
  unfold stB at h
  obtain ⟨h1, h2⟩ := List.append_inj h (by simp)
  refine ⟨fun j hj => ?_, ?_⟩
  · have := congrArg (fun l => l[j]?) h1
    simp only [List.getElem?_map, List.getElem?_range hj, Option.map_some] at this
    injection this with this
    by_cases a : j ∈ p
    · by_cases b : j ∈ p'
      · exact ⟨fun _ => b, fun _ => a⟩
      · rw [if_pos a, if_neg b] at this; cases this
    · by_cases b : j ∈ p'
      · rw [if_neg a, if_pos b] at this; cases this
      · exact ⟨fun z => absurd z a, fun z => absurd z b⟩
  · cases V <;> cases V'
    · rfl
    · cases h2
    · cases h2
    · injection h2 with _ h2
      rw [h2]
end Go.Proofs.Ytginpoofeliimab
