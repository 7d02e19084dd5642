import Derived.Test.YtbangbobfeflcaaDoorHClone
namespace Go.Proofs.YtbangbobfeflcaaDoor
open Go.RowKit 

/-- The law's mod. -/
theorem lMod (a : Int) (n : Nat) (h0 : 0 < n) (h1 : n < 4611686018427387904) (w : World) : Calls Tryd.prog 13 #[.int .i64 a, .int .i64 (n : Int)] w fun o w' => (∃ r : Nat, o = .returned (.int .i64 (r : Int)) ∧ r < n ∧ (r : Int) = a % (n : Int)) ∧ w' = w := by
  obtain ⟨t, ht⟩ : ∃ t, t = a.tmod (n : Int) := ⟨_, rfl⟩
  have hn : (n : Int) ≠ 0 := by omega
  have b1 : t < (n : Int) := by rw [ht]; exact Int.tmod_lt_of_pos a (by omega)
  have b2 : -(n : Int) < t := by
    rw [ht]
    exact Int.lt_tmod_of_pos a (by omega)
  have em : a % (n : Int) = if t < 0 then t + (n : Int) else t := by
    rw [ht]
    have e1 := Int.tmod_add_mul_tdiv a (n : Int)
    by_cases z : a.tmod (n : Int) < 0
    · rw [if_pos z]
      have : a = (a.tmod (n : Int) + (n : Int)) + (n : Int) * (a.tdiv (n : Int) - 1) := by rw [Int.mul_sub]; omega
      rw [this, Int.add_mul_emod_self_left]
      have e2 : a.tmod (n : Int) + (n : Int) + (n : Int) * (a.tdiv (n : Int) - 1) = a := this.symm
      rw [e2]
      exact Int.emod_eq_of_lt (by omega) (by omega)
    · rw [if_neg z]
      have : a % (n : Int) = (a.tmod (n : Int) + (n : Int) * a.tdiv (n : Int)) % (n : Int) := by rw [e1]
      rw [this, Int.add_mul_emod_self_left]
      exact Int.emod_eq_of_lt (by omega) (by rw [← ht]; exact b1)
  have pos : Hid (¬ t < 0 → ∃ r : Nat, Ending.returned (Value.int .i64 (a.tmod (n : Int))) = .returned (.int .i64 (r : Int)) ∧ r < n ∧ (r : Int) = a % (n : Int)) := fun z => by
    rw [em, if_neg z, ← ht]
    exact ⟨t.toNat, by rw [Int.toNat_of_nonneg (by omega)], by omega, by omega⟩
  have neg : Hid (t < 0 → ∃ r : Nat, Ending.returned (Value.int .i64 (a.tmod (n : Int) + (n : Int))) = .returned (.int .i64 (r : Int)) ∧ r < n ∧ (r : Int) = a % (n : Int)) := fun z => by
    rw [em, if_pos z, ← ht]
    exact ⟨(t + (n : Int)).toNat, by rw [Int.toNat_of_nonneg (by omega)], by omega, by omega⟩
  clear em
  go_enter Tryd.func13, Tryd.ntmps13
  go_wp2_with fail
  · go_ret
    exact ⟨neg.out (by omega), rfl⟩
  · go_ret
    exact ⟨pos.out (by omega), rfl⟩
theorem str_inj {l m : List Nat} (hl : ∀ c ∈ l, c < 256) (hm : ∀ c ∈ m, c < 256) (h : str l = str m) : l = m := by
  unfold str at h
  have h : (l.map UInt8.ofNat).toArray = (m.map UInt8.ofNat).toArray := congrArg ByteArray.data h
  have h : l.map UInt8.ofNat = m.map UInt8.ofNat := by simpa using h
  have inj : ∀ (l m : List Nat), (∀ c ∈ l, c < 256) → (∀ c ∈ m, c < 256) → l.map UInt8.ofNat = m.map UInt8.ofNat → l = m := by
    intro l
    induction l with
    | nil => intro m _ _ h; cases m with
      | nil => rfl
      | cons b m => simp at h
    | cons a l ih =>
      intro m hl hm h
      cases m with
      | nil => simp at h
      | cons b m =>
        rw [List.map_cons, List.map_cons] at h
        injection h with h1 h2
        have ha := hl a (by simp)
        have hb := hm b (by simp)
        have e : a = b := by
          have := congrArg UInt8.toNat h1
          simp at this
          omega
        rw [e, ih m (fun c hc => hl c (by simp [hc])) (fun c hc => hm c (by simp [hc])) h2]
  exact inj l m hl hm h
theorem str_eq {l m : List Nat} (hl : ∀ c ∈ l, c < 256) (hm : ∀ c ∈ m, c < 256) : ((str l).toList == (str m).toList) = decide (l = m) := by
  by_cases h : l = m
  · rw [h, decide_eq_true rfl]
    exact beq_self_eq_true _
  · rw [decide_eq_false h]
    refine beq_false_of_ne fun z => h (str_inj hl hm ?_)
    rw [ba_toList, ba_toList] at z
    have : (str l).data = (str m).data := Array.toList_inj.1 z
    cases hs : str l
    cases ht : str m
    rw [hs, ht] at this
    exact congrArg ByteArray.mk this
theorem hSame {w : World} {a b : Option Addr} {n c m e : Nat} {l k : List Nat} (h1 : Reads w a n c l) (h2 : Reads w b m e k) : Calls Tryd.prog 25 #[.slice a n c, .slice b m e] w fun o w' => o = .returned (.bool (decide (l = k))) ∧ Kept (fun _ => False) w w' := by
  have c1 := h1.string
  have c2 := h2.string
  obtain ⟨q, hq⟩ : ∃ q, q = decide (l = k) := ⟨_, rfl⟩
  have e1 : ((str l).toList == (str k).toList) = q := by rw [hq]; exact str_eq h1.bytes h2.bytes
  rw [← hq]
  clear h1 h2 hq
  go_enter Tryd.func25, Tryd.ntmps25
  go_wp2_with fail
  go_ret
  exact ⟨by first | rfl | simp, Kept.refl _ _⟩
end Go.Proofs.YtbangbobfeflcaaDoor
