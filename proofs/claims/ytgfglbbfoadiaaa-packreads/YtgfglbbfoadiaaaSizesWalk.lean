import Derived.Test.YtgfglbbfoadiaaaWriter
import Derived.Test.YtgfglbbfoadiaaaLen
namespace Go.Proofs.Ytgfglbbfoadiaaa
open Go.RowKit

theorem size_neg (n : Int) (w : World) (h : n < 0) : Calls Try.prog 8 #[.int .i64 n] w fun x w' => x = .returned (.tuple #[.int .i64 0, .int .i64 33]) ∧ w' = w := by
  go_enter Try.func8, Try.ntmps8
  go_wp2_with fail
  go_ret2
  exact ⟨rfl, rfl⟩
theorem size_pos (n k : Nat) (w : World) (h : n < 9223372036854775808) (hk : (Pk.form n).length = k) : Calls Try.prog 8 #[.int .i64 (n : Int)] w fun x w' => x = .returned (.tuple #[.int .i64 (k : Int), .int .i64 0]) ∧ w' = w := by
  have S := Pk.size_len n
  have l9 := Pk.form_le9 n h
  rw [hk] at S l9
  have e1 : (n : Int) % 18446744073709551616 = (n : Int) := by omega
  obtain ⟨L, hL⟩ : ∃ L, Pk.len n = L := ⟨_, rfl⟩
  rw [hL] at S
  have LH : Hid (Pk.len n = L) := hL
  have lL : L < 64 := by omega
  have SH : Hid ((max L 1 + 7 - 1) / 7 = k) := S
  clear hL S hk
  go_enter Try.func8, Try.ntmps8
  go_wp2_with fail
  refine (len64 n w (by omega)).mono ?_
  rintro x w' ⟨rfl, rfl⟩
  rw [LH.out]
  go_wp2_with fail
  go_ret2
  refine ⟨?_, rfl⟩
  have e : (max (L : Int) 1 + 7 - 1) / 7 = (k : Int) := by have := SH.out; omega
  show Ending.returned (.tuple #[.int .i64 ((max (L : Int) 1 + 7 - 1) / 7), .int .i64 0]) = _
  rw [e]

set_option maxRecDepth 100000 in
theorem sizes_neg (a b : Int) (w : World) (ha : a < 0) (hb : b < 9223372036854775808) : Calls Try.prog 3 #[.int .i64 a, .int .i64 b] w fun x w' => x = .returned (.bool true) ∧ Below w.heap.size w w' := by
  go_enter Try.func3, Try.ntmps3
  go_wp2_with fail
  refine (size_neg a w ha).mono ?_
  rintro x w1 ⟨rfl, rfl⟩
  go_wp2_with fail
  by_cases h : b < 0
  · refine (size_neg b w1 h).mono ?_
    rintro x w2 ⟨rfl, rfl⟩
    go_wp2_with fail
    go_ret
    exact ⟨rfl, Below.refl _ _⟩
  · obtain ⟨b, rfl⟩ : ∃ k : Nat, b = (k : Int) := ⟨b.toNat, by omega⟩
    refine (size_pos b _ w1 (by omega) rfl).mono ?_
    rintro x w2 ⟨rfl, rfl⟩
    go_wp2_with fail
    go_ret
    exact ⟨rfl, Below.refl _ _⟩
/-- What Size says of b, where a has k bytes. -/
structure SzB (a k : Nat) (b l f : Int) : Prop where
  neg : b < 0 → f = 33 ∧ l = 0
  pos : 0 ≤ b → f = 0 ∧ 1 ≤ l ∧ l ≤ 9
  le : (a : Int) ≤ b → (k : Int) ≤ l
theorem size_any (a k : Nat) (b : Int) (w : World) (hk : (Pk.form a).length = k) (hb : b < 9223372036854775808) : Calls Try.prog 8 #[.int .i64 b] w fun x w' => ∃ l f, x = .returned (.tuple #[.int .i64 l, .int .i64 f]) ∧ SzB a k b l f ∧ w' = w := by
  by_cases h : b < 0
  · refine (size_neg b w h).mono ?_
    rintro x w2 ⟨rfl, rfl⟩
    exact ⟨0, 33, rfl, ⟨fun _ => ⟨rfl, rfl⟩, fun _ => by omega, fun _ => by omega⟩, rfl⟩
  · obtain ⟨b, rfl⟩ : ∃ k : Nat, b = (k : Int) := ⟨b.toNat, by omega⟩
    refine (size_pos b _ w (by omega) rfl).mono ?_
    rintro x w2 ⟨rfl, rfl⟩
    have l9 := Pk.form_le9 b (by omega)
    have l1 := Pk.form_pos b
    exact ⟨_, 0, rfl, ⟨fun _ => by omega, fun _ => ⟨rfl, by omega, by omega⟩, fun q => by
      have := Pk.form_mono a b (by omega)
      omega⟩, rfl⟩
set_option maxRecDepth 100000 in
set_option maxHeartbeats 1000000 in
theorem sizes_pos (a : Nat) (b : Int) (w : World) (ha : a < 9223372036854775808) (hb : b < 9223372036854775808) : Calls Try.prog 3 #[.int .i64 (a : Int), .int .i64 b] w fun x w' => x = .returned (.bool true) ∧ Below w.heap.size w w' := by
  obtain ⟨k, hk⟩ : ∃ k, (Pk.form a).length = k := ⟨_, rfl⟩
  have HK : Hid ((Pk.form a).length = k) := hk
  have k1 : 1 ≤ k := hk ▸ Pk.form_pos a
  have k9 : k ≤ 9 := hk ▸ Pk.form_le9 a ha
  clear hk
  go_enter Try.func3, Try.ntmps3
  go_wp2_with fail
  refine (size_pos a k w ha HK.out).mono ?_
  rintro x w1 ⟨rfl, rfl⟩
  go_wp2_with fail
  refine (size_any a k b w1 HK.out hb).mono ?_
  rintro x w2 ⟨l, f, rfl, B, rfl⟩
  have BH : Hid (SzB a k b l f) := B
  clear B
  go_wp2_with fail
  refine (newWriter w2).mono ?_
  rintro x w3 ⟨rfl, rfl⟩
  go_wp2_with fail
  refine (wUint _ _ _ a _ (IsW.new w2) ha (by rw [HK.out]; simp; omega)).mono ?_
  rintro x w4 ⟨rfl, v, P⟩
  rw [List.nil_append] at P
  have PH : Hid (Put (w2.alloc (.cells #[.int .i64 0, .slice none 0 0] 68)) w2.heap.size (.slice none 0 0) w4 0 v (Pk.form a)) := P
  clear P
  go_wp2_with fail
  refine (wData _ _ _ _ _ PH.out.isW (by rw [HK.out]; omega)).mono ?_
  rintro x w5 ⟨p, c, rfl, _, K⟩
  rw [HK.out]
  have BL : Hid (Below w2.heap.size w2 w5) := by
    have k0 : Kept (fun j => j = w2.heap.size) w2 (w2.alloc (.cells #[.int .i64 0, .slice none 0 0] 68)) := (Kept.refl _ _).alloc _
    have k1 := k0.trans PH.out.kept (fun j hj q => by rcases q with q | q; exact q; simp [Value.ownBlock] at q)
    exact (k1.trans K (fun _ _ q => q.elim)).below (Nat.le_refl _) (fun j hj => by omega)
  clear K
  have hi := Pk.form_lt a
  have lo := Pk.form_ge a
  rw [HK.out] at hi lo
  clear HK PH
  have hl : b < (a : Int) ∨ (a : Int) ≤ b ∧ f = 0 ∧ (k : Int) ≤ l := by
    by_cases q : b < (a : Int)
    · exact .inl q
    · exact .inr ⟨by omega, (BH.out.pos (by omega)).1, BH.out.le (by omega)⟩
  clear BH
  obtain rfl | rfl | rfl | rfl | rfl | rfl | rfl | rfl | rfl : k = 1 ∨ k = 2 ∨ k = 3 ∨ k = 4 ∨ k = 5 ∨ k = 6 ∨ k = 7 ∨ k = 8 ∨ k = 9 := by omega
  · have h1 : (a : Int) ≤ 127 := by omega
    clear hi lo k1 k9
    rcases hl with q | ⟨q, rfl, q2⟩
    · go_wp2_with fail
      go_ret
      exact ⟨rfl, BL.out⟩
    · go_wp2_with fail
      go_ret
      exact ⟨rfl, BL.out⟩
  · have h1 : (a : Int) ≤ 16383 := by omega
    have h2 : 128 ≤ (a : Int) := by have := lo (by omega); omega
    clear hi lo k1 k9
    rcases hl with q | ⟨q, rfl, q2⟩
    · go_wp2_with fail
      go_ret
      exact ⟨rfl, BL.out⟩
    · go_wp2_with fail
      go_ret
      exact ⟨rfl, BL.out⟩
  · have h1 : (a : Int) ≤ 2097151 := by omega
    have h2 : 16384 ≤ (a : Int) := by have := lo (by omega); omega
    clear hi lo k1 k9
    rcases hl with q | ⟨q, rfl, q2⟩
    · go_wp2_with fail
      go_ret
      exact ⟨rfl, BL.out⟩
    · go_wp2_with fail
      go_ret
      exact ⟨rfl, BL.out⟩
  · have h1 : (a : Int) ≤ 268435455 := by omega
    have h2 : 2097152 ≤ (a : Int) := by have := lo (by omega); omega
    clear hi lo k1 k9
    rcases hl with q | ⟨q, rfl, q2⟩
    · go_wp2_with fail
      go_ret
      exact ⟨rfl, BL.out⟩
    · go_wp2_with fail
      go_ret
      exact ⟨rfl, BL.out⟩
  · have h1 : (a : Int) ≤ 34359738367 := by omega
    have h2 : 268435456 ≤ (a : Int) := by have := lo (by omega); omega
    clear hi lo k1 k9
    rcases hl with q | ⟨q, rfl, q2⟩
    · go_wp2_with fail
      go_ret
      exact ⟨rfl, BL.out⟩
    · go_wp2_with fail
      go_ret
      exact ⟨rfl, BL.out⟩
  · have h1 : (a : Int) ≤ 4398046511103 := by omega
    have h2 : 34359738368 ≤ (a : Int) := by have := lo (by omega); omega
    clear hi lo k1 k9
    rcases hl with q | ⟨q, rfl, q2⟩
    · go_wp2_with fail
      go_ret
      exact ⟨rfl, BL.out⟩
    · go_wp2_with fail
      go_ret
      exact ⟨rfl, BL.out⟩
  · have h1 : (a : Int) ≤ 562949953421311 := by omega
    have h2 : 4398046511104 ≤ (a : Int) := by have := lo (by omega); omega
    clear hi lo k1 k9
    rcases hl with q | ⟨q, rfl, q2⟩
    · go_wp2_with fail
      go_ret
      exact ⟨rfl, BL.out⟩
    · go_wp2_with fail
      go_ret
      exact ⟨rfl, BL.out⟩
  · have h1 : (a : Int) ≤ 72057594037927935 := by omega
    have h2 : 562949953421312 ≤ (a : Int) := by have := lo (by omega); omega
    clear hi lo k1 k9
    rcases hl with q | ⟨q, rfl, q2⟩
    · go_wp2_with fail
      go_ret
      exact ⟨rfl, BL.out⟩
    · go_wp2_with fail
      go_ret
      exact ⟨rfl, BL.out⟩
  · have h1 : (a : Int) ≤ 9223372036854775807 := by omega
    have h2 : 72057594037927936 ≤ (a : Int) := by have := lo (by omega); omega
    clear hi lo k1 k9
    rcases hl with q | ⟨q, rfl, q2⟩
    · go_wp2_with fail
      go_ret
      exact ⟨rfl, BL.out⟩
    · go_wp2_with fail
      go_ret
      exact ⟨rfl, BL.out⟩
end Go.Proofs.Ytgfglbbfoadiaaa
