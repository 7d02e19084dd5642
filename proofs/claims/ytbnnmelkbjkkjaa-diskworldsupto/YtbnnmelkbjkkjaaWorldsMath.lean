import Derived.Test.YtbnnmelkbjkkjaaHeld
namespace Go.Proofs.Ytbnnmelkbjkkjaa
open Go.RowKit

theorem small_ok {A : AB} {s t : Nat} (h : Small A s t) (hs : s ≤ 1000000000) (ht : t ≤ 1000000000) : A.Ok := h.ok hs ht
theorem now_more (A : AB) (i k : Nat) (x : Option (List Nat)) (hi : i < 2) (hk : k < 2) : (A.more i x).now k = if k = i then stepA (A.now k) x else A.now k := by
  unfold AB.more AB.now
  match i, hi, k, hk with
  | 0, _, 0, _ => simp [redoL_snoc]
  | 0, _, 1, _ => simp
  | 1, _, 0, _ => simp
  | 1, _, 1, _ => simp [redoL_snoc]
theorem now_add (A : AB) (i k : Nat) (l : List Nat) (hi : i < 2) (hk : k < 2) : (A.add i l).now k = if k = i then A.now k ++ l else A.now k := by
  unfold AB.add
  split
  · rename_i h
    have : l = [] := List.eq_nil_of_length_eq_zero h
    rw [this, List.append_nil]
    split <;> rfl
  · rw [now_more A i k (some l) hi hk]
    rfl
theorem now_sync (A : AB) (i k : Nat) (hi : i < 2) (hk : k < 2) : (A.sync i).now k = A.now k := by
  unfold AB.sync AB.now
  match i, hi, k, hk with
  | 0, _, 0, _ => rfl
  | 0, _, 1, _ => rfl
  | 1, _, 0, _ => rfl
  | 1, _, 1, _ => rfl
theorem now_put1 (A : AB) (i k : Nat) (l : List Nat) (hi : i < 2) (hk : k < 2) : ((A.put 1 i l).counted).now k = if k = i then A.now k ++ l else A.now k := now_add A i k l hi hk
theorem now_put2 (A : AB) (i k : Nat) (l : List Nat) (hi : i < 2) (hk : k < 2) : ((A.put 2 i l).counted).now k = if k = i then [] else A.now k := now_more A i k none hi hk
theorem now_put3 (A : AB) (i k : Nat) (l : List Nat) (hi : i < 2) (hk : k < 2) : ((A.put 3 i l).counted).now k = A.now k := now_sync A i k hi hk
theorem now_put4 (A : AB) (i k : Nat) (l : List Nat) : ((A.put 4 i l).counted).now k = A.now k := rfl
/-- What becomes of a disk that a crash has left: two appends, a switch, a wipe, a sync. -/
theorem worlds_steps (C : AB) (l : List Nat) (s : Nat) (sm : Small C s 0) (hs : s + l.length + l.length ≤ Few) (j : Nat) (hj : j = 0 ∨ j = 1) :
    ∃ b1 b2 b3 b4 b5 : AB, C.act 1 0 l = (b1, 0) ∧ b1.act 1 1 l = (b2, 0) ∧ b2.act 4 ((1 : Int) - (j : Int)) [] = (b3, 0) ∧ b3.act 2 (j : Int) [] = (b4, 0) ∧ b4.act 3 (j : Int) [] = (b5, 0) ∧ C.Ok ∧ b1.Ok ∧ b2.Ok ∧ b3.Ok ∧ b4.Ok ∧ b5.Ok ∧ b5.dead = false ∧ b5.now j = [] ∧ b5.now (1 - j) = C.now (1 - j) ++ l := by
  unfold Few at hs
  have s1 := sm.act 1 0 l
  have a1 := act_free sm.live sm.free (k := 1) (s := 0) (by rintro (z | ⟨z, _⟩) <;> omega) l
  have s2 := s1.act 1 1 l
  have a2 := act_free s1.live s1.free (k := 1) (s := 1) (by rintro (z | ⟨z, _⟩) <;> omega) l
  have s3 := s2.act 4 ((1 : Int) - (j : Int)) []
  have a3 := act_free s2.live s2.free (k := 4) (s := (1 : Int) - (j : Int)) (by rintro (z | ⟨z, _⟩) <;> omega) []
  have c3 : ((C.act 1 0 l).1.act 1 1 l).1.act 4 ((1 : Int) - (j : Int)) [] = (((((C.act 1 0 l).1.act 1 1 l).1.switch ((1 : Int) - (j : Int)).toNat)).counted, 0) := by rw [a3]; rfl
  have k3 : (((C.act 1 0 l).1.act 1 1 l).1.act 4 ((1 : Int) - (j : Int)) []).1.cur = 1 - j := by
    rw [c3]
    show ((1 : Int) - (j : Int)).toNat = 1 - j
    omega
  have s4 := s3.act 2 (j : Int) []
  have a4 := act_free s3.live s3.free (k := 2) (s := (j : Int)) (by
    rintro (z | ⟨_, z⟩)
    · omega
    · rw [k3] at z; omega) []
  have s5 := s4.act 3 (j : Int) []
  have a5 := act_free s4.live s4.free (k := 3) (s := (j : Int)) (by rintro (z | ⟨z, _⟩) <;> omega) []
  simp only [List.length_nil, Nat.add_zero] at s3 s4 s5
  refine ⟨_, _, _, _, _, ?_, ?_, ?_, ?_, ?_, small_ok sm (by omega) (by omega), small_ok s1 (by omega) (by omega), small_ok s2 (by omega) (by omega), small_ok s3 (by omega) (by omega), small_ok s4 (by omega) (by omega), small_ok s5 (by omega) (by omega), s5.live, ?_, ?_⟩
  · rw [a1]
  · rw [a2]
  · rw [a3]
  · rw [a4]
  · rw [a5]
  · rw [a5, Int.toNat_natCast, now_put3 _ j j [] (by omega) (by omega), a4, Int.toNat_natCast, now_put2 _ j j [] (by omega) (by omega), if_pos rfl]
  · have t : ((1 : Int) - (j : Int)).toNat = 1 - j := by omega
    rw [a5, Int.toNat_natCast, now_put3 _ j (1 - j) [] (by omega) (by omega), a4, Int.toNat_natCast, now_put2 _ j (1 - j) [] (by omega) (by omega), if_neg (by omega), a3, t, now_put4, a2]
    rw [show ((1 : Int)).toNat = 1 from rfl, now_put1 _ 1 (1 - j) l (by omega) (by omega), a1, show ((0 : Int)).toNat = 0 from rfl, now_put1 _ 0 (1 - j) l (by omega) (by omega)]
    rcases hj with rfl | rfl
    · simp
    · simp
end Go.Proofs.Ytbnnmelkbjkkjaa
