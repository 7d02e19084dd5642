import Derived.Test.YtojepeefphbekaaBst
namespace Go.Proofs.Ytojepeefphbekaa
open Go.RowKit

theorem finN_take (L : List ((Int × Int) × Bool × Bool × Option Addr × Nat × Nat)) (j : Nat) (h : j < L.length) : finN (L.take (j + 1)) = finN (L.take j) + (if (L[j]).2.1 = true then 1 else 0) := by
  rw [List.take_succ_eq_append_getElem h, finN_snoc]
/-- What is known of a key's entries while they are gone through. -/
structure EN (w5 : World) (d : Int) (S : List (Int × Int)) (g cp : Nat) (L : List ((Int × Int) × Bool × Bool × Option Addr × Nat × Nat)) : Prop where
  own : ∀ j, j < L.length → ∀ k, k < 5 → w5.cell? ⟨g, j * 5 + k, none⟩ = (encE (L.getD j ((0, 0), false, false, none, 0, 0)))[k]?
  low : ∀ j, j < L.length → ¬ tc (L.getD j ((0, 0), false, false, none, 0, 0)).1 (floorT S d) < 0
  sm : ∀ j, j < L.length → (L.getD j ((0, 0), false, false, none, 0, 0)).2.1 = true ∨ (L.getD j ((0, 0), false, false, none, 0, 0)).2.2.1 = true
  rise : ∀ j, 0 < j → j < L.length → tc (L.getD (j - 1) ((0, 0), false, false, none, 0, 0)).1 (L.getD j ((0, 0), false, false, none, 0, 0)).1 < 0
  fins : (finN L : Int) ≤ d + 1
  room : L.length ≤ cp ∧ cp ≤ maxLen
theorem getD_el (L : List ((Int × Int) × Bool × Bool × Option Addr × Nat × Nat)) (j : Nat) (h : j < L.length) (e) : L.getD j e = L[j] := by
  rw [List.getD_eq_getElem?_getD, List.getElem?_eq_getElem h]
  rfl
/-- The entries of a key, as the law reads them. -/
theorem en_of {w' : World} {base : Nat} {d : Int} {S : List (Int × Int)} {M : Int × Int → Option Hd} {p : Option Addr} {cp : Nat} {L : List ((Int × Int) × Bool × Bool × Option Addr × Nat × Nat)} (iv : Inv d S M) (g : GE M (fun _ => False) L) (srt : L.Pairwise fun x y => ¬ tc y.1 x.1 < 0) (ow : w'.ownsRow base 37 5 (.slice p L.length cp) L.length (ecells L)) : ∃ gb, EN w' d S gb cp L ∧ (0 < L.length → p = some ⟨gb, 0, none⟩) := by
  have room := own_room ow
  have rest : ∀ gb, (∀ j, j < L.length → ∀ k, k < 5 → w'.cell? ⟨gb, j * 5 + k, none⟩ = (encE (L.getD j ((0, 0), false, false, none, 0, 0)))[k]?) → EN w' d S gb cp L := by
    intro gb hc
    refine ⟨hc, fun j hj => ?_, fun j hj => ?_, fun j h0 hj => ?_, fins_card iv g, room⟩
    · rw [getD_el L j hj]
      obtain ⟨_, h, hm, _⟩ := g.each _ (List.getElem_mem hj)
      exact iv.low _ h hm
    · rw [getD_el L j hj]
      obtain ⟨_, h, hm, e1, e2, _⟩ := g.each _ (List.getElem_mem hj)
      rw [e1, e2]
      exact iv.some _ h hm
    · rw [getD_el L j hj, getD_el L (j - 1) (by omega)]
      exact ents_rise g srt j h0 hj
  rcases ow.2 with ⟨z, z0⟩ | ⟨b, cap, cur, z, _, hg, _, _, _, ht⟩
  · exact ⟨0, rest 0 (fun j hj => by omega), fun h => by omega⟩
  · have z : Value.slice p L.length cp = .slice (some ⟨b, 0, none⟩) L.length cap := z
    injection z with z1 _ z3
    subst z1
    subst z3
    refine ⟨b, rest b (fun j hj k hk => ?_), fun _ => rfl⟩
    have e := ecells_get L j hj k hk
    rw [getD_el L j hj, ← e]
    cases hu : (ecells L)[j * 5 + k]? with
    | none =>
      rw [List.getElem?_eq_none_iff, ecells_length] at hu
      omega
    | some u =>
      have := ow.cells (g := b) rfl (j * 5 + k) u hu
      rw [Addr.add_none, Nat.zero_add] at this
      exact this
theorem EN.k0 {w5 w6 : World} {d : Int} {S : List (Int × Int)} {g cp : Nat} {L : List ((Int × Int) × Bool × Bool × Option Addr × Nat × Nat)} (h : EN w5 d S g cp L) (K : Kept (fun _ => False) w5 w6) : EN w6 d S g cp L := by
  refine ⟨fun j hj k hk => ?_, h.low, h.sm, h.rise, h.fins, h.room⟩
  have e := h.own j hj k hk
  cases hu : (encE (L.getD j ((0, 0), false, false, none, 0, 0)))[k]? with
  | none =>
    rw [List.getElem?_eq_none_iff] at hu
    have : (encE (L.getD j ((0, 0), false, false, none, 0, 0))).length = 5 := rfl
    omega
  | some u =>
    rw [hu] at e
    exact K.cell e (fun z => z)
theorem EN.at {w5 : World} {d : Int} {S : List (Int × Int)} {g cp : Nat} {L : List ((Int × Int) × Bool × Bool × Option Addr × Nat × Nat)} (h : EN w5 d S g cp L) (j : Nat) (hj : j < L.length) {x y : Int} {f b : Bool} {a : Option Addr} {n c : Nat} (e : L.getD j ((0, 0), false, false, none, 0, 0) = ((x, y), f, b, a, n, c)) : w5.cell? ⟨g, j * 5, none⟩ = some (.int .i64 x) ∧ w5.cell? ⟨g, j * 5 + 1, none⟩ = some (.int .i64 y) ∧ w5.cell? ⟨g, j * 5 + 2, none⟩ = some (.bool f) ∧ w5.cell? ⟨g, j * 5 + 3, none⟩ = some (.bool b) ∧ w5.cell? ⟨g, j * 5 + 4, none⟩ = some (.slice a n c) := by
  have hc := h.own j hj
  rw [e] at hc
  exact ⟨hc 0 (by omega), hc 1 (by omega), hc 2 (by omega), hc 3 (by omega), hc 4 (by omega)⟩
end Go.Proofs.Ytojepeefphbekaa
