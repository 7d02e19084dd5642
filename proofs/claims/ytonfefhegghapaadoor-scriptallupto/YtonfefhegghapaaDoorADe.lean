import Derived.Test.YtonfefhegghapaaDoorTBk
import Derived.Test.YtonfefhegghapaaDoorTPa
namespace Go.Proofs.YtonfefhegghapaaDoor
open Go.RowKit 

/-- What digits there still are. -/
def decT (u0 u : Nat) (s : List UInt8) : Prop := (if u = 0 ∧ s ≠ [] then s else Lib.decDigits u ++ s) = Lib.decDigits u0
theorem dec_small {u : Nat} (h : u < 10) : Lib.decDigits u = [UInt8.ofNat (48 + u)] := by
  rw [Lib.decDigits, dif_pos h]
theorem dec_big {u : Nat} (h : ¬ u < 10) : Lib.decDigits u = Lib.decDigits (u / 10) ++ [UInt8.ofNat (48 + u % 10)] := by
  conv => lhs; rw [Lib.decDigits, dif_neg h]
theorem decT.step {u0 u : Nat} {s : List UInt8} (h : decT u0 u s) (go : 0 < u ∨ s = []) : decT u0 (u / 10) ([UInt8.ofNat (48 + u % 10)] ++ s) := by
  unfold decT at h ⊢
  rw [if_neg (fun z => by rcases go with g | g; omega; exact z.2 g)] at h
  by_cases hu : u < 10
  · have e : u / 10 = 0 := by omega
    have e2 : u % 10 = u := by omega
    rw [e, e2, if_pos ⟨rfl, by simp⟩, ← h, dec_small hu]
  · rw [if_neg (fun z => by omega), ← h, dec_big hu, List.append_assoc]
theorem decT.done {u0 u : Nat} {s : List UInt8} (h : decT u0 u s) (go : ¬ (0 < u ∨ s = [])) : s = Lib.decDigits u0 := by
  unfold decT at h
  rw [if_pos ⟨by omega, fun z => go (.inr z)⟩] at h
  exact h
theorem decT.len {u0 u : Nat} {s : List UInt8} (h : decT u0 u s) : s.length ≤ (Lib.decDigits u0).length := by
  unfold decT at h
  have e := congrArg List.length h
  split at e
  · omega
  · rw [List.length_append] at e
    omega
theorem dec_20 (u : Nat) (h : u ≤ 9223372036854775808) : (Lib.decDigits u).length ≤ 20 := by
  have key : ∀ (f u : Nat), u < 10 ^ (f + 1) → (Lib.decDigits u).length ≤ f + 1 := by
    intro f
    induction f with
    | zero => intro u hu; rw [dec_small (by omega)]; simp
    | succ f ih =>
      intro u hu
      by_cases h : u < 10
      · rw [dec_small h]; simp
      · rw [dec_big h, List.length_append]
        have := ih (u / 10) (by rw [Nat.pow_succ] at hu; omega)
        simp
        omega
  have := key 19 u (by omega)
  omega
set_option maxRecDepth 100000 in
set_option maxHeartbeats 4000000 in
/-- The document's decimal. -/
theorem hRefDec (n : Int) (h : KI n) (w : World) : Calls Tryd.prog 40 #[.int .i64 n] w fun o w' => o = .returned (.string (ofL (Lib.itoa n))) ∧ Kept (fun _ => False) w w' := by
  obtain ⟨h1, h2⟩ := h
  obtain ⟨R, hR⟩ : ∃ R, ofL (Lib.itoa n) = R := ⟨_, rfl⟩
  rw [hR]
  obtain ⟨U0, hU0⟩ : ∃ U0, n.natAbs = U0 := ⟨_, rfl⟩
  have HR : Hid (ofL (if n < 0 then 45 :: Lib.decDigits U0 else Lib.decDigits U0) = R ∧ U0 ≤ 9223372036854775808) := by
    refine ⟨?_, by omega⟩
    rw [← hR, ← hU0]
    unfold Lib.itoa
    split
    · rfl
    · have e : n.natAbs = n.toNat := by omega
      rw [e]
  have hUz : U0 ≤ 9223372036854775808 := HR.out.2
  clear hR
  by_cases hn : n < 0
  · have S0 : Value.int .u64 (IntKind.u64.wrap (-IntKind.u64.wrap n)) = .int .u64 (U0 : Int) := by
      rw [IntKind.wrap_u64, IntKind.wrap_u64]
      congr 1
      omega
    clear hU0
    go_enter Tryd.func40, Tryd.ntmps40
    go_upto_region 5 with fail
    clear S0
    go_loopw [3, 4] (fun u3 u4 wr => ∃ (u : Nat) (s : ByteArray), u3 = .int .u64 (u : Int) ∧ u4 = .string s ∧ u ≤ 9223372036854775808 ∧ s.size ≤ 20 ∧ Hid (decT U0 u s.data.toList ∧ Kept (fun _ => False) w wr)) (fun u3 u4 _ => (intOf u3).toNat + (if strLen u4 = 0 then 1 else 0))
    case atStart => exact ⟨U0, ⟨#[]⟩, rfl, rfl, by omega, by decide, by unfold decT; rw [if_neg (fun z => z.2 rfl)]; simp, Kept.refl _ _⟩
    case round =>
      obtain ⟨u, s, rfl, rfl, hu, hs, S⟩ := hrel
      obtain ⟨wo, hwo⟩ : ∃ wo, wo = wr := ⟨_, rfl⟩
      rw [← hwo] at S ⊢
      clear hwo
      have sz : s.data.toList.length = s.size := Array.length_toList
      have em : s.data.toList = [] ↔ s.size = 0 := by rw [← sz]; exact List.length_eq_zero_iff.symm
      have u10 : u % 10 < 10 := by omega
      have bs := byte_string u10 (alloc_new wo (.cells #[.int .u8 ((48 : Int) + ((u % 10 : Nat) : Int))] 5))
      have ec : ((u % 10 : Nat) : Int) = (u : Int) % 10 := by omega
      rw [ec] at bs
      obtain ⟨D, hD⟩ : ∃ D, ofL [UInt8.ofNat (48 + u % 10)] = D := ⟨_, rfl⟩
      rw [hD] at bs
      have dz : D.size = 1 := by rw [← hD, ofL_sizeE]; rfl
      have STEP : Hid ((0 < u ∨ s.data.toList = []) → decT U0 (u / 10) (D ++ s).data.toList ∧ (D ++ s).size ≤ 20 ∧ strLen (.string (D ++ s)) ≠ 0) := fun go => by
        have q := S.out.1.step go
        have e : (D ++ s).data.toList = [UInt8.ofNat (48 + u % 10)] ++ s.data.toList := by rw [← hD]; simp [ofL]
        have z : (D ++ s).data.toList.length = (D ++ s).size := Array.length_toList
        have l1 := q.len
        have l2 := dec_20 U0 HR.out.2
        rw [e]
        refine ⟨q, ?_, ?_⟩
        · rw [← z, e]
          omega
        · show (D ++ s).data.toList.length ≠ 0
          rw [e]
          simp
      clear ec hD sz
      by_cases h0 : 0 < u
      · have u1 : (0 : Int) < (u : Int) := by omega
        have ST : Hid (decT U0 (u / 10) (D ++ s).data.toList ∧ (D ++ s).size ≤ 20 ∧ strLen (.string (D ++ s)) ≠ 0) := STEP.out (.inl h0)
        clear STEP em
        go_wp2_with fail
        go_roundw
        case rel => exact ⟨u / 10, D ++ s, by first | rfl | simp | go_num, rfl, by omega, ST.out.2.1, ST.out.1, S.out.2.alloc _⟩
        case measure => rw [if_neg ST.out.2.2]; simp [intOf] <;> omega
      · have u1 : ¬ (0 : Int) < (u : Int) := by omega
        by_cases h1z : s.size = 0
        · have ST : Hid (decT U0 (u / 10) (D ++ s).data.toList ∧ (D ++ s).size ≤ 20 ∧ strLen (.string (D ++ s)) ≠ 0) := STEP.out (.inr (em.2 h1z))
          have eb : s.toList.isEmpty = true := emp_yes (by rw [← ofL_self s, em.2 h1z]; rfl)
          have SL : Hid (strLen (.string s) = 0) := by show s.data.toList.length = 0; rw [em.2 h1z]; rfl
          clear STEP em
          go_wp2_with fail
          go_roundw
          case rel => exact ⟨u / 10, D ++ s, by first | rfl | simp | go_num, rfl, by omega, ST.out.2.1, ST.out.1, S.out.2.alloc _⟩
          case measure => rw [if_neg ST.out.2.2, if_pos SL.out]; simp [intOf] <;> omega
        · have eb : s.toList.isEmpty = false := emp_no (fun z => h1z (by rw [← z]; rfl))
          have FN : Hid ({ data := #[45] } ++ s = R ∧ Kept (fun _ => False) w wo) := by
            refine ⟨?_, S.out.2⟩
            have q := S.out.1.done (fun z => by rcases z with z | z; omega; exact h1z (em.1 z))
            rw [← HR.out.1]
            skip
            rw [if_pos hn, ← q]
            apply ByteArray.ext
            apply Array.toList_inj.1
            simp [ofL]
          clear S em bs
          go_wp2_with fail
          go_ret
          exact ⟨by rw [← FN.out.1]; first | rfl | simp, FN.out.2⟩
  · obtain rfl : n = (U0 : Int) := by omega
    clear hU0
    go_enter Tryd.func40, Tryd.ntmps40
    go_upto_region 5 with fail
    go_loopw [3, 4] (fun u3 u4 wr => ∃ (u : Nat) (s : ByteArray), u3 = .int .u64 (u : Int) ∧ u4 = .string s ∧ u ≤ 9223372036854775808 ∧ s.size ≤ 20 ∧ Hid (decT U0 u s.data.toList ∧ Kept (fun _ => False) w wr)) (fun u3 u4 _ => (intOf u3).toNat + (if strLen u4 = 0 then 1 else 0))
    case atStart => exact ⟨U0, ⟨#[]⟩, rfl, rfl, by omega, by decide, by unfold decT; rw [if_neg (fun z => z.2 rfl)]; simp, Kept.refl _ _⟩
    case round =>
      obtain ⟨u, s, rfl, rfl, hu, hs, S⟩ := hrel
      obtain ⟨wo, hwo⟩ : ∃ wo, wo = wr := ⟨_, rfl⟩
      rw [← hwo] at S ⊢
      clear hwo
      have sz : s.data.toList.length = s.size := Array.length_toList
      have em : s.data.toList = [] ↔ s.size = 0 := by rw [← sz]; exact List.length_eq_zero_iff.symm
      have u10 : u % 10 < 10 := by omega
      have bs := byte_string u10 (alloc_new wo (.cells #[.int .u8 ((48 : Int) + ((u % 10 : Nat) : Int))] 5))
      have ec : ((u % 10 : Nat) : Int) = (u : Int) % 10 := by omega
      rw [ec] at bs
      obtain ⟨D, hD⟩ : ∃ D, ofL [UInt8.ofNat (48 + u % 10)] = D := ⟨_, rfl⟩
      rw [hD] at bs
      have dz : D.size = 1 := by rw [← hD, ofL_sizeE]; rfl
      have STEP : Hid ((0 < u ∨ s.data.toList = []) → decT U0 (u / 10) (D ++ s).data.toList ∧ (D ++ s).size ≤ 20 ∧ strLen (.string (D ++ s)) ≠ 0) := fun go => by
        have q := S.out.1.step go
        have e : (D ++ s).data.toList = [UInt8.ofNat (48 + u % 10)] ++ s.data.toList := by rw [← hD]; simp [ofL]
        have z : (D ++ s).data.toList.length = (D ++ s).size := Array.length_toList
        have l1 := q.len
        have l2 := dec_20 U0 HR.out.2
        rw [e]
        refine ⟨q, ?_, ?_⟩
        · rw [← z, e]
          omega
        · show (D ++ s).data.toList.length ≠ 0
          rw [e]
          simp
      clear ec hD sz
      by_cases h0 : 0 < u
      · have u1 : (0 : Int) < (u : Int) := by omega
        have ST : Hid (decT U0 (u / 10) (D ++ s).data.toList ∧ (D ++ s).size ≤ 20 ∧ strLen (.string (D ++ s)) ≠ 0) := STEP.out (.inl h0)
        clear STEP em
        go_wp2_with fail
        go_roundw
        case rel => exact ⟨u / 10, D ++ s, by first | rfl | simp | go_num, rfl, by omega, ST.out.2.1, ST.out.1, S.out.2.alloc _⟩
        case measure => rw [if_neg ST.out.2.2]; simp [intOf] <;> omega
      · have u1 : ¬ (0 : Int) < (u : Int) := by omega
        by_cases h1z : s.size = 0
        · have ST : Hid (decT U0 (u / 10) (D ++ s).data.toList ∧ (D ++ s).size ≤ 20 ∧ strLen (.string (D ++ s)) ≠ 0) := STEP.out (.inr (em.2 h1z))
          have eb : s.toList.isEmpty = true := emp_yes (by rw [← ofL_self s, em.2 h1z]; rfl)
          have SL : Hid (strLen (.string s) = 0) := by show s.data.toList.length = 0; rw [em.2 h1z]; rfl
          clear STEP em
          go_wp2_with fail
          go_roundw
          case rel => exact ⟨u / 10, D ++ s, by first | rfl | simp | go_num, rfl, by omega, ST.out.2.1, ST.out.1, S.out.2.alloc _⟩
          case measure => rw [if_neg ST.out.2.2, if_pos SL.out]; simp [intOf] <;> omega
        · have eb : s.toList.isEmpty = false := emp_no (fun z => h1z (by rw [← z]; rfl))
          have FN : Hid (s = R ∧ Kept (fun _ => False) w wo) := by
            refine ⟨?_, S.out.2⟩
            have q := S.out.1.done (fun z => by rcases z with z | z; omega; exact h1z (em.1 z))
            rw [← HR.out.1]
            skip
            rw [if_neg (by omega), ← q]
            exact (ofL_self s).symm
          clear S em bs
          go_wp2_with fail
          go_ret
          exact ⟨by rw [← FN.out.1]; first | rfl | simp, FN.out.2⟩
end Go.Proofs.YtonfefhegghapaaDoor
