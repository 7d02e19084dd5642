import Derived.Test.YtginpoofeliimaaFMath
namespace Go.Proofs.Ytginpoofeliimaa
open Go.RowKit 

/-- A beginning of an order. -/
def XPre (cs : List Cl) (b : List Nat) : Prop := ∀ (n i : Nat), b[n]? = some i → ∃ c, XMay cs (b.take n) (valV cs (b.take n) none) i c
theorem XPre.nil (cs : List Cl) : XPre cs [] := fun n i h => by simp at h
theorem XPre.add {cs : List Cl} {b : List Nat} {i : Nat} {c : Cl} (h : XPre cs b) (m : XMay cs b (valV cs b none) i c) : XPre cs (b ++ [i]) := by
  intro n j hj
  rcases Nat.lt_trichotomy n b.length with z | z | z
  · rw [List.getElem?_append_left z] at hj
    rw [List.take_append_of_le_length (by omega)]
    exact h n j hj
  · subst z
    rw [List.getElem?_append_right (Nat.le_refl _), Nat.sub_self] at hj
    have hj : i = j := by simpa using hj
    subst hj
    rw [List.take_append_of_le_length (Nat.le_refl _), List.take_length]
    exact ⟨c, m⟩
  · rw [List.getElem?_eq_none (by simp; omega)] at hj
    cases hj
theorem XPre.run {cs : List Cl} {b : List Nat} (h : XPre cs b) : XRun cs b [] none ↔ XWhole cs b := by
  rw [xrun_iff]
  simp only [List.nil_append]
  exact ⟨fun z => z.2, fun z => ⟨h, z⟩⟩
theorem run_may {cs : List Cl} {b t : List Nat} {i : Nat} (h : XRun cs (b ++ i :: t) [] none) : ∃ c, XMay cs b (valV cs b none) i c := by
  have := (xrun_iff.1 h).1 b.length i (by rw [List.getElem?_append_right (Nat.le_refl _), Nat.sub_self]; rfl)
  rw [List.nil_append, List.take_append_of_le_length (Nat.le_refl _), List.take_length] at this
  exact this
/-- The parts that are not in yet. -/
def left2 (cs : List Cl) (b : List Nat) : Nat := ((List.range cs.length).filter fun j => (cs[j]?).elim false Cl.part && !b.contains j).length
theorem left2_less {cs : List Cl} {b : List Nat} {i : Nat} {c : Cl} {V : Option (List Nat)} (m : XMay cs b V i c) : left2 cs (b ++ [i]) < left2 cs b := by
  unfold left2
  refine filter_lt (fun j hj => ?_) (List.getElem?_eq_some_iff.1 m.1).1 ?_ ?_
  · simp at hj ⊢
    exact ⟨hj.1, hj.2.1⟩
  · rw [m.1]
    simp [m.2.1, m.2.2.1]
  · simp
theorem parts_count : ∀ cs : List Cl, ((List.range cs.length).filter fun j => (cs[j]?).elim false Cl.part).length = (cs.filter Cl.part).length
  | [] => rfl
  | a :: l => by
    have ih := parts_count l
    have e : ((fun j => ((a :: l)[j]?).elim false Cl.part) ∘ Nat.succ) = fun j => (l[j]?).elim false Cl.part := by
      funext j
      rfl
    rw [List.length_cons, List.range_succ_eq_map, List.filter_cons, List.filter_cons, List.filter_map, e]
    have e0 : ((a :: l)[0]?).elim false Cl.part = a.part := rfl
    rw [e0]
    by_cases h : a.part = true
    · rw [if_pos h, if_pos h, List.length_cons, List.length_cons, List.length_map, ih]
    · rw [if_neg h, if_neg h, List.length_map, ih]
theorem left2_nil (cs : List Cl) : left2 cs [] = (cs.filter Cl.part).length := by
  rw [← parts_count]
  unfold left2
  congr 2
  funext j
  simp
/-- What is answered is settled. -/
theorem OneS.same {cs : List Cl} {o o' : List Nat} {ok ok' : Bool} {e e' : Int} (h : OneS cs o ok e) (h' : OneS cs o' ok' e') : o = o' ∧ ok = ok' ∧ e = e' := by
  by_cases hb : ∃ c ∈ cs, c.bad = true
  · obtain ⟨a1, a2, a3⟩ := h.bad hb
    obtain ⟨b1, b2, b3⟩ := h'.bad hb
    exact ⟨by rw [a1, b1], by rw [a2, b2], by rw [a3, b3]⟩
  · have nb : ∀ c ∈ cs, c.bad = false := fun c hc => by
      cases q : c.bad
      · rfl
      · exact absurd ⟨c, hc, q⟩ hb
    by_cases hf : 24 < (cs.filter Cl.part).length
    · obtain ⟨a1, a2, a3⟩ := h.heavy nb hf
      obtain ⟨b1, b2, b3⟩ := h'.heavy nb hf
      exact ⟨by rw [a1, b1], by rw [a2, b2], by rw [a3, b3]⟩
    · obtain ⟨a1, a2, a3⟩ := h.good nb (by omega)
      obtain ⟨b1, b2, b3⟩ := h'.good nb (by omega)
      refine ⟨?_, ?_, by rw [a1, b1]⟩
      · cases ok <;> cases ok'
        · rw [(a3 rfl).1, (b3 rfl).1]
        · exact absurd (b2 rfl).1 ((a3 rfl).2 _)
        · exact absurd (a2 rfl).1 ((b3 rfl).2 _)
        · exact List.le_antisymm ((a2 rfl).2 o' (b2 rfl).1) ((b2 rfl).2 o (a2 rfl).1)
      · cases ok <;> cases ok'
        · rfl
        · exact absurd (b2 rfl).1 ((a3 rfl).2 _)
        · exact absurd (a2 rfl).1 ((b3 rfl).2 _)
        · rfl
theorem LstQ.ones {cs : List Cl} {R : List Nat} {ok : Bool} (h : LstQ cs [] R ok) (nb : ∀ c ∈ cs, c.bad = false) (few : (cs.filter Cl.part).length ≤ 24) : OneS cs R ok 0 := by
  refine ⟨fun ⟨c, hc, z⟩ => (by rw [nb c hc] at z; cases z), fun _ z => (by omega), fun _ _ => ⟨rfl, fun z => ?_, fun z => ?_⟩⟩
  · obtain ⟨h1, _, h3⟩ := h.yes z
    exact ⟨h1, fun o' r => h3 o' r⟩
  · obtain ⟨h1, h2⟩ := h.no z
    exact ⟨h1, fun o' r => h2 o' r⟩
theorem XMay.self {cs : List Cl} {b : List Nat} {V : Option (List Nat)} {i : Nat} {c : Cl} (hc : cs[i]? = some c) (nb : c.bad = false) (hp : c.part = true) (hi : i ∉ b) (hv : c.put = true ∨ c.told = V) (ha : ∀ j a, cs[j]? = some a → j ≠ i → a.part = true → a.ahead c = true → j ∈ b) : XMay cs b V i c := by
  refine ⟨hc, hp, hi, hv, fun j a hj hap haa => ?_⟩
  by_cases e : j = i
  · subst e
    rw [hc] at hj
    injection hj with hj
    subst hj
    rw [ahead_self nb] at haa
    cases haa
  · exact ha j a hj e hap haa
end Go.Proofs.Ytginpoofeliimaa
