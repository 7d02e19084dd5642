import Derived.Test.YtonfefhegghapaaDoorSGue
namespace Go.Proofs.YtonfefhegghapaaDoor
open Go.RowKit 

theorem dec_plain (u : Nat) : ∀ c ∈ Lib.decDigits u, c ≠ 32 ∧ c.toNat < 128 := fun c hc => by
  have h := digs_digit u c hc
  unfold Digit at h
  refine ⟨fun z => ?_, by omega⟩
  rw [z] at h
  revert h
  decide
theorem itoa_plain (n : Int) : ∀ c ∈ Lib.itoa n, c ≠ 32 ∧ c.toNat < 128 := fun c hc => by
  unfold Lib.itoa at hc
  split at hc
  · rcases List.mem_cons.1 hc with z | z
    · rw [z]
      exact ⟨by decide, by decide⟩
    · exact dec_plain _ c z
  · exact dec_plain _ c hc
theorem atoi_itoa (n : Int) (h1 : -1000000 ≤ n) (h2 : n ≤ 1000000) : Lib.atoiAll (Lib.itoa n) = .ok n := by
  unfold Lib.itoa
  by_cases h : n < 0
  · rw [if_pos h, Lib.atoiAll_minus]
    have p := parse_digits (Lib.decDigits n.natAbs) 0 (digs_digit _) (by rw [digs_dv]; omega)
    rw [digs_dv] at p
    unfold Lib.parseMag
    rw [if_neg (digs_ne _), p]
    unfold Lib.signed
    simp only []
    rw [if_neg (by omega)]
    congr 1
    omega
  · rw [if_neg h, atoi_digs n.toNat (by omega)]
    congr 1
    omega
theorem cfg_eq (n k d c : Int) : cfgL n k d c = [99, 111, 110, 102, 105, 103] ++ 32 :: (Lib.itoa n ++ 32 :: (Lib.itoa k ++ 32 :: (Lib.itoa d ++ 32 :: Lib.itoa c))) := by
  unfold cfgL numL
  simp
def M6 (n : Int) : Prop := -1000000 ≤ n ∧ n ≤ 1000000
theorem asc_of {s t : ByteArray} {x : List UInt8} (h : Asc s) (e : s.data.toList = x ++ 32 :: t.data.toList) : Asc t := fun c hc => h c (by rw [e]; simp [hc])
theorem num_step {s b : ByteArray} {v n : Int} {y : List UInt8} (q : NumQ s b v) (ha : Asc s) (e : s.data.toList = Lib.itoa n ++ 32 :: y) (hn : M6 n) : v = n ∧ b.data.toList = y ∧ Asc b := by
  have h := q.asc ha
  rw [e, cutL_word _ _ (fun c hc => (itoa_plain n c hc).1)] at h
  have hb : b.data.toList = y := h.1
  refine ⟨h.2 n (atoi_itoa n hn.1 hn.2), hb, asc_of ha (x := Lib.itoa n) (by rw [e, hb])⟩
theorem num_last {s b : ByteArray} {v n : Int} (q : NumQ s b v) (ha : Asc s) (e : s.data.toList = Lib.itoa n) (hn : M6 n) : v = n := by
  have h := q.asc ha
  rw [e, cutL_last _ (fun c hc => (itoa_plain n c hc).1)] at h
  exact h.2 n (atoi_itoa n hn.1 hn.2)
/-- The line of a config is read as that config. -/
theorem GuQ.exact {s : ByteArray} {n k d c N K D C : Int} (q : GuQ s n k d c) (e : s.data.toList = cfgL N K D C) (h1 : M6 N) (h2 : M6 K) (h3 : M6 D) (h4 : M6 C) : n = N ∧ k = K ∧ d = D ∧ c = C := by
  obtain ⟨a, t0, t1, t2, t3, t4, q0, q1, q2, q3, q4⟩ := q.ch
  have ha : Asc s := fun x hx => by
    rw [e, cfg_eq] at hx
    rcases List.mem_append.1 hx with z | z
    · have key : ∀ y ∈ ([99, 111, 110, 102, 105, 103] : List UInt8), y.toNat < 128 := by decide
      exact key x z
    · rcases List.mem_cons.1 z with z | z
      · rw [z]; decide
      · rcases List.mem_append.1 z with z | z
        · exact (itoa_plain _ x z).2
        · rcases List.mem_cons.1 z with z | z
          · rw [z]; decide
          · rcases List.mem_append.1 z with z | z
            · exact (itoa_plain _ x z).2
            · rcases List.mem_cons.1 z with z | z
              · rw [z]; decide
              · rcases List.mem_append.1 z with z | z
                · exact (itoa_plain _ x z).2
                · rcases List.mem_cons.1 z with z | z
                  · rw [z]; decide
                  · exact (itoa_plain _ x z).2
  have e0 := e
  rw [cfg_eq] at e0
  have c0 := q0.asc ha
  rw [e0, cutL_word _ _ (by decide)] at c0
  have b0 : t0.data.toList = Lib.itoa N ++ 32 :: (Lib.itoa K ++ 32 :: (Lib.itoa D ++ 32 :: Lib.itoa C)) := congrArg Prod.snd c0
  have a0 : Asc t0 := asc_of ha (x := [99, 111, 110, 102, 105, 103]) (by rw [e0, b0])
  obtain ⟨r1, b1, a1⟩ := num_step q1 a0 b0 h1
  obtain ⟨r2, b2, a2⟩ := num_step q2 a1 b1 h2
  obtain ⟨r3, b3, a3⟩ := num_step q3 a2 b2 h3
  exact ⟨r1, r2, r3, num_last q4 a3 b3 h4⟩
theorem dec_end (u : Nat) : ∃ x c, Lib.decDigits u = x ++ [c] ∧ Digit c := by
  rw [Lib.decDigits]
  by_cases h : u < 10
  · rw [dif_pos h]
    refine ⟨[], _, rfl, ?_⟩
    have := ofNat_digit u h
    exact ⟨by omega, by omega⟩
  · rw [dif_neg h]
    refine ⟨_, _, rfl, ?_⟩
    have := ofNat_digit (u % 10) (by omega)
    exact ⟨by omega, by omega⟩
/-- A config's line ends in a digit. -/
theorem cfg_end (n k d c : Int) : ∃ x b, cfgL n k d c = x ++ [b] ∧ Digit b := by
  have h : ∃ x b, Lib.itoa c = x ++ [b] ∧ Digit b := by
    unfold Lib.itoa
    split
    · obtain ⟨x, b, e, hb⟩ := dec_end c.natAbs
      exact ⟨45 :: x, b, by rw [e]; rfl, hb⟩
    · exact dec_end _
  obtain ⟨x, b, e, hb⟩ := h
  refine ⟨[99, 111, 110, 102, 105, 103] ++ 32 :: (Lib.itoa n ++ 32 :: (Lib.itoa k ++ 32 :: (Lib.itoa d ++ 32 :: x))), b, ?_, hb⟩
  rw [cfg_eq, e]
  simp
/-- With something behind that has no digit it is no config's line. -/
theorem cfg_behind {l x : List UInt8} (h0 : x ≠ []) (hx : ∀ c ∈ x, ¬ Digit c) (n k d c : Int) : l ++ x ≠ cfgL n k d c := fun z => by
  obtain ⟨y, b, e, hb⟩ := cfg_end n k d c
  rw [e] at z
  have h1 := congrArg List.getLast? z
  rw [List.getLast?_append, List.getLast?_append] at h1
  obtain ⟨g, hg⟩ : ∃ g, x.getLast? = some g := ⟨x.getLast h0, List.getLast?_eq_some_getLast h0⟩
  rw [hg] at h1
  have h2 : g = b := by simpa using h1
  exact hx g (List.mem_of_getLast? hg) (h2 ▸ hb)
end Go.Proofs.YtonfefhegghapaaDoor
