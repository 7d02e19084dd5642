import Derived.Test.YtbnnmelkbjkkjaaLasts
namespace Go.Proofs.Ytbnnmelkbjkkjaa
open Go.RowKit

theorem redoL_some (P : List (List Nat)) : ∀ l, redoL l (P.map some) = l ++ P.flatten := by
  induction P with
  | nil => intro l; simp [redoL]
  | cons x P ih =>
    intro l
    have := ih (l ++ x)
    simp only [redoL, List.map_cons, List.foldl_cons, stepA, List.flatten_cons] at *
    rw [this, List.append_assoc]
theorem flat_take (P : List (List Nat)) (k : Nat) (x : List Nat) (h : P[k]? = some x) (t : Nat) (ht : t ≤ x.length) : P.flatten.take ((P.take k).flatten.length + t) = (P.take k).flatten ++ x.take t := by
  obtain ⟨hl, e⟩ := List.getElem?_eq_some_iff.1 h
  have e1 : P.flatten = (P.take k).flatten ++ (x ++ (P.drop (k + 1)).flatten) := by
    have q : P = P.take k ++ (x :: P.drop (k + 1)) := by rw [← e, ← List.drop_eq_getElem_cons hl, List.take_append_drop]
    have := congrArg List.flatten q
    rw [List.flatten_append, List.flatten_cons] at this
    exact this
  rw [e1, List.take_length_add_append, List.take_append_of_le_length ht]
theorem leftL_some (P : List (List Nat)) (l : List Nat) (cs : List Int) : ∃ m, m ≤ P.flatten.length ∧ (leftL l (P.map some) cs).1 = l ++ P.flatten.take m := by
  unfold leftL
  obtain ⟨k, hk⟩ : ∃ k, (nextC cs ((P.map some).length + 1)).1 = k := ⟨_, rfl⟩
  rw [hk]
  have hkl : k ≤ P.length := by have := nextC_lt cs ((P.map some).length + 1) (by omega); rw [List.length_map] at this hk; omega
  rcases Nat.lt_or_ge k P.length with hlt | hge
  · have e : P[k]? = some P[k] := List.getElem?_eq_getElem hlt
    rw [List.getElem?_map, e]
    simp only [Option.map_some]
    rw [← List.map_take, redoL_some, List.append_assoc]
    obtain ⟨t, ht⟩ : ∃ t, (nextC (nextC cs ((P.map some).length + 1)).2 P[k].length).1 = t := ⟨_, rfl⟩
    rw [ht]
    refine ⟨(P.take k).flatten.length + min t P[k].length, ?_, ?_⟩
    · have q := flat_take P k P[k] e P[k].length (Nat.le_refl _)
      have := congrArg List.length q
      simp only [List.length_take, List.length_append] at this
      have : min P[k].length P[k].length = P[k].length := Nat.min_self _
      omega
    · rw [flat_take P k P[k] e _ (Nat.min_le_right _ _)]
      congr 2
      rcases Nat.le_total t P[k].length with z | z
      · rw [Nat.min_eq_left z]
      · rw [Nat.min_eq_right z, List.take_of_length_le z, List.take_of_length_le (Nat.le_refl _)]
  · have e : k = P.length := by omega
    rw [List.getElem?_eq_none (by rw [List.length_map]; omega)]
    simp only
    rw [← List.map_take, redoL_some]
    exact ⟨P.flatten.length, Nat.le_refl _, by rw [List.take_of_length_le (Nat.le_refl _), e, List.take_of_length_le (Nat.le_refl _)]⟩
/-- Just so many pieces, and so many bytes of the next. -/
theorem leftL_just (P : List (List Nat)) (l : List Nat) (k t : Nat) (hk : k ≤ P.length) (h : ∀ x, P[k]? = some x → t < x.length) (h0 : k = P.length → t = 0) : (leftL l (P.map some) [(k : Int), (t : Int)]).1 = l ++ P.flatten.take ((P.take k).flatten.length + t) := by
  have n1 : nextC [(k : Int), (t : Int)] ((P.map some).length + 1) = (k, [(t : Int)]) := by
    show (((k : Int) % (((P.map some).length + 1 : Nat) : Int)).toNat, [(t : Int)]) = _
    rw [List.length_map, Int.emod_eq_of_lt (by omega) (by omega), Int.toNat_natCast]
  unfold leftL
  rw [n1]
  rcases Nat.lt_or_ge k P.length with hlt | hge
  · have e : P[k]? = some P[k] := List.getElem?_eq_getElem hlt
    have ht := h P[k] e
    have n2 : nextC [(t : Int)] P[k].length = (t, []) := by
      show (((t : Int) % ((P[k].length : Nat) : Int)).toNat, ([] : List Int)) = _
      rw [Int.emod_eq_of_lt (by omega) (by omega), Int.toNat_natCast]
    simp only
    rw [List.getElem?_map, e]
    simp only [Option.map_some]
    rw [n2, ← List.map_take, redoL_some, List.append_assoc, flat_take P k P[k] e t (by omega)]
  · have e : k = P.length := by omega
    simp only
    rw [List.getElem?_eq_none (by rw [List.length_map]; omega)]
    simp only
    rw [← List.map_take, redoL_some, h0 e, Nat.add_zero, e, List.take_of_length_le (Nat.le_refl _), List.take_of_length_le (Nat.le_refl _)]
end Go.Proofs.Ytbnnmelkbjkkjaa
