import Derived.Test.YtodmakcklacbfaaPCheck
import Derived.Test.YtodmakcklacbfaaPByTags
namespace Go.Proofs.Ytodmakcklacbfaa
open Go.RowKit Go.Shelf Go.Lib Go.Sort

/-- The two calls of the document's first case. -/
def awA (g : Nat) : Cm := ⟨1, 1, true, ⟨#[107]⟩, some ⟨g, 0, none⟩, 1, 1, 0, 0, 1, false, 1, 1, [97]⟩
def awB (g : Nat) : Cm := ⟨2, 1, false, ⟨#[107]⟩, some ⟨g, 0, none⟩, 1, 1, 0, 2, 3, false, 1, 1, [97]⟩
def awL (g h : Nat) : List Cm := [awA g, awB h]
theorem awL_at {g h i : Nat} {c : Cl} (hc : ((awL g h).map Cm.cl)[i]? = some c) : (i = 0 ∧ c = (awA g).cl) ∨ (i = 1 ∧ c = (awB h).cl) := by
  match i, hc with
  | 0, hc => exact .inl ⟨rfl, (Option.some.inj hc).symm⟩
  | 1, hc => exact .inr ⟨rfl, (Option.some.inj hc).symm⟩
  | i + 2, hc => simp [awL] at hc
theorem awL_fit (g h : Nat) : FitL (awL g h) := by
  intro m hm
  rcases List.mem_cons.1 hm with rfl | hm
  · exact ⟨fun m0 e => by rw [← Option.some.inj e], rfl⟩
  · rcases List.mem_cons.1 hm with rfl | hm
    · exact ⟨fun m0 e => by rw [← Option.some.inj e]; rfl, rfl⟩
    · cases hm
theorem awL_yes (g h : Nat) : Expl (awL g h) [0, 1] := by
  refine ⟨[0, 1], rfl, (awA g).cl, ⟨rfl, rfl, by simp, .inl rfl, fun j a ha _ hh => ?_⟩, (awB h).cl, ⟨rfl, rfl, by simp, .inr rfl, fun j a ha _ hh => ?_⟩, fun i c hc _ => ?_⟩
  · rcases awL_at ha with ⟨_, rfl⟩ | ⟨_, rfl⟩ <;> cases hh
  · rcases awL_at ha with ⟨rfl, rfl⟩ | ⟨_, rfl⟩
    · simp
    · cases hh
  · rcases awL_at hc with ⟨rfl, _⟩ | ⟨rfl, _⟩ <;> simp
theorem awL_no1 (g h : Nat) : ¬ Expl (awL g h) [1, 0] := by
  rintro ⟨Rn, e, x⟩
  have e2 : Rn = [1, 0] := by
    have : Rn.map (fun r : Nat => (r : Int)) = [1, 0].map (fun r : Nat => (r : Int)) := e.symm
    exact map_inj this
  subst e2
  obtain ⟨c, ⟨hc, _, _, ht, _⟩, _⟩ := x
  rcases awL_at hc with ⟨z, _⟩ | ⟨_, rfl⟩
  · cases z
  · rcases ht with z | z <;> cases z
theorem awL_no2 (g h : Nat) : ¬ Expl (awL g h) [0] := by
  rintro ⟨Rn, e, x⟩
  have e2 : Rn = [0] := by
    have : Rn.map (fun r : Nat => (r : Int)) = [0].map (fun r : Nat => (r : Int)) := e.symm
    exact map_inj this
  subst e2
  obtain ⟨c, _, x⟩ := x
  have := x 1 (awB h).cl rfl rfl
  simp at this
theorem awL_by {g h : Nat} {L : List Nat} {e : Int} (b : ByT (awL g h) L e) : e = 0 ∧ L = [0, 1] := by
  rcases b with ⟨_, z, _⟩ | ⟨_, RA, RT, ⟨a1, _⟩, ⟨t1, t2⟩, z⟩
  · exact absurd (awL_fit g h) z
  · have eA : RA = [] := List.Perm.eq_nil (by simpa [numsK, awL, List.range_succ, absB, awA, awB] using a1)
    have t3 : RT.Perm [0, 1] := by simpa [numsK, awL, List.range_succ, Cm.tells, awA, awB] using t1
    have eT : RT = [0, 1] := by
      have hl := t3.length_eq
      match RT, hl, t3, t2 with
      | [x, y], _, t3, t2 =>
        have hx : x = 0 ∨ x = 1 := by have := (t3.mem_iff (a := x)).1 (by simp); simpa using this
        have hy : y = 0 ∨ y = 1 := by have := (t3.mem_iff (a := y)).1 (by simp); simpa using this
        have nd : x ≠ y := by
          have := t3.nodup_iff.2 (by simp)
          simpa using this
        rcases hx with rfl | rfl
        · rcases hy with rfl | rfl
          · exact absurd rfl nd
          · rfl
        · rcases hy with rfl | rfl
          · have := (List.pairwise_cons.1 t2).1 0 (by simp)
            refine absurd (fun a b ha hb => ?_) this
            have ea : awA g = a := Option.some.inj ha
            have eb : awB h = b := Option.some.inj hb
            subst ea
            subst eb
            refine .inr ⟨rfl, .inr ⟨rfl, .inl ?_⟩⟩
            show (0 : Int) < 2
            decide
          · exact absurd rfl nd
    subst eA
    subst eT
    have rn : runX (awL g h) [0, 1].length [0, 1] (silM (awL g h) (awL g h).length) [] = some [0, 1] := by rfl
    rcases z with ⟨_, z, _⟩ | ⟨rfl, z⟩
    · rw [rn] at z; cases z
    · rw [rn] at z
      exact ⟨rfl, (Option.some.inj z).symm⟩
end Go.Proofs.Ytodmakcklacbfaa
