import Derived.Test.YtgfglbbfoadiaaaParse
import Derived.Test.YtgfglbbfoadiaaaWriter
namespace Go.Proofs.Ytgfglbbfoadiaaa
open Go.RowKit

theorem andNot128 : ∀ c : Nat, c < 256 → bits .andNot .u8 (c : Int) 128 = ((c % 128 : Nat) : Int) := by decide +kernel
theorem and128 : ∀ c : Nat, c < 256 → bits .and .u8 (c : Int) 128 = if 128 ≤ c then 128 else 0 := by decide +kernel
theorem wrap64_nat (d : Nat) (h : d < 9223372036854775808) : wrap64 (d : Int) = (d : Int) := by unfold wrap64; omega
theorem i64_nat (c : Nat) (hc : c < 9223372036854775808) : (BitVec.ofInt 64 (c : Int)).toNat = c := by
  rw [BitVec.toNat_ofInt]; simp; omega
theorem i64_or_nat (a b : Nat) (ha : a < 9223372036854775808) (hb : b < 9223372036854775808) : bits .or .i64 (a : Int) (b : Int) = ((a ||| b : Nat) : Int) := by
  have hx : a ||| b < 2 ^ 63 := Nat.or_lt_two_pow ha hb
  show IntKind.i64.wrap ((BitVec.ofInt 64 (a : Int) ||| BitVec.ofInt 64 (b : Int)).toNat : Int) = _
  rw [BitVec.toNat_or, i64_nat a ha, i64_nat b hb, IntKind.wrap_i64]
  omega
theorem shl_or (i acc d t : Nat) (hi : i < 9) (ha : acc < 128 ^ i) (hd : d < 128) (ht : d * 128 ^ i = t) :
    wrap64 ((d : Int) * 2 ^ (7 * i)) = (t : Int) ∧ bits .or .i64 (acc : Int) (t : Int) = (acc : Int) + (t : Int) ∧ t < 9223372036854775808 ∧ acc + t < 128 ^ (i + 1) := by
  have e : (2 : Nat) ^ (7 * i) = 128 ^ i := by rw [Nat.pow_mul]
  have l1 : 128 ^ (i + 1) ≤ 128 ^ 9 := Nat.pow_le_pow_right (by omega) (by omega)
  have l2 : acc + t < 128 ^ (i + 1) := by
    rw [Nat.pow_succ, ← ht]
    have : (d + 1) * 128 ^ i ≤ 128 * 128 ^ i := Nat.mul_le_mul_right _ (by omega)
    rw [Nat.add_mul] at this
    omega
  have l3 : (128 : Nat) ^ 9 = 9223372036854775808 := by decide
  refine ⟨?_, ?_, by omega, l2⟩
  · have : (d : Int) * 2 ^ (7 * i) = (t : Int) := by
      rw [← ht, ← e]; simp
    rw [this]
    exact wrap64_nat t (by omega)
  · rw [i64_or_nat acc t (by omega) (by omega)]
    have := Nat.two_pow_add_eq_or_of_lt (i := 7 * i) (by rw [e]; exact ha) d
    rw [e] at this
    rw [← ht, Nat.mul_comm d, Nat.or_comm, ← this]
    omega

set_option maxRecDepth 100000 in
set_option maxHeartbeats 1600000 in
theorem numberOf_short (b off len cap : Nat) (most : Int) (l : List Nat) (w : World) (n s : Nat) (e : Int) (r : Reads w (some ⟨b, off, none⟩) len cap l) (h0 : 0 < len) (h9 : (len : Int) ≤ 9) (hv : Pk.parse most l = (n, s, e)) :
    Calls Try.prog 46 #[.slice (some ⟨b, off, none⟩) len cap, .int .i64 most] w fun x w' => x = .returned (.tuple #[.int .i64 (n : Int), .int .i64 (s : Int), .int .i64 e]) ∧ w' = w := by
  have RH : Hid (Reads w (some ⟨b, off, none⟩) len cap l) := r
  have VH : Hid (Pk.parse most l = (n, s, e)) := hv
  have hcap := r.small
  have hlen : len ≤ cap := r.room
  unfold maxLen at hcap
  obtain ⟨b', off', eb, hc⟩ := r.cells h0
  simp at eb
  obtain ⟨rfl, rfl⟩ := eb
  have HC : Hid (∀ (i : Nat), i < len → w.cell? ⟨b, off + i, none⟩ = some (.int .u8 ((l.getD i 0 : Nat) : Int))) := hc
  clear hc r hv
  go_enter Try.func46, Try.ntmps46
  go_wp2_with fail
  go_loopw [7, 8, 9, 16] (fun x7 x8 x9 x16 wr => ∃ (i acc : Nat), x16 = .int .i64 (i : Int) ∧ x7 = .int .i64 (acc : Int) ∧ i ≤ len ∧ acc < 128 ^ i ∧ Hid (Pk.go most (9 - i) i acc (l.drop i) = (n, s, e)) ∧ wr = w) (fun _ _ _ x16 _ => len - (intOf x16).toNat)
  case atStart => exact ⟨0, 0, rfl, rfl, by omega, by omega, VH.out, rfl⟩
  case round =>
    obtain ⟨i, acc, rfl, rfl, hi, ha, VI, rfl⟩ := hrel
    by_cases hlt : i < len
    · have c0 := HC.out i (by omega)
      have ed := drop_getD l i (by rw [RH.out.length]; omega)
      have lc : l.getD i 0 < 256 := getD_lt l RH.out.bytes i
      obtain ⟨c, hcc⟩ : ∃ c, l.getD i 0 = c := ⟨_, rfl⟩
      rw [hcc] at c0 ed lc
      clear hcc
      have VD : Hid (Pk.go most (9 - i) i acc (c :: l.drop (i + 1)) = (n, s, e)) := by
        have := VI.out
        rw [ed] at this
        exact this
      clear ed
      obtain ⟨q, hq⟩ : ∃ q, 9 - i = q + 1 := ⟨8 - i, by omega⟩
      have hq' : Hid (9 - (i + 1) = q) := by show 9 - (i + 1) = q; omega
      rw [hq] at VD
      clear hq
      have i1 : (i : Int) < (len : Int) := by omega
      have i9 : i < 9 := by omega
      obtain ⟨d, hd⟩ : ∃ d, c % 128 = d := ⟨_, rfl⟩
      have ld : d < 128 := by omega
      obtain ⟨t, ht⟩ : ∃ t, d * 128 ^ i = t := ⟨_, rfl⟩
      have a1 := andNot128 c lc
      rw [hd] at a1
      have w1 : wrap64 (d : Int) = (d : Int) := wrap64_nat d (by omega)
      obtain ⟨s1, o1, lt, la⟩ := shl_or i acc d t i9 ha ld ht
      have n1 := and128 c lc
      have ha' : Hid (acc < 128 ^ i) := ha
      have la' : Hid (acc + t < 128 ^ (i + 1)) := la
      have hd' : Hid (c % 128 = d) := hd
      have ht' : Hid (d * 128 ^ i = t) := ht
      clear ha la hd ht
      by_cases hc : 128 ≤ c
      · have VE : Hid (Pk.go most q (i + 1) (acc + t) (l.drop (i + 1)) = (n, s, e)) := by
          have := VD.out
          rw [Pk.go, if_pos hc, hd'.out, ht'.out] at this
          exact this
        rw [if_pos hc] at n1
        go_wp2_with fail
        go_roundw
        case rel => exact ⟨i + 1, acc + t, by go_num, by simp, by omega, la'.out, by rw [hq'.out]; exact VE, by first | rfl | trivial⟩
        case measure => simp [intOf]; omega
      · rw [if_neg hc] at n1
        have hdc : d = c := by have := hd'.out; omega
        subst hdc
        by_cases hz : 0 < i ∧ d = 0
        · have VE := VD.out
          rw [Pk.go, if_neg hc, if_pos hz] at VE
          simp at VE
          obtain ⟨rfl, rfl, rfl⟩ := VE
          obtain ⟨z1, rfl⟩ := hz
          have z2 : (0 : Int) < (i : Int) := by omega
          go_wp2_with fail
          go_ret3
          exact ⟨rfl, rfl⟩
        · by_cases hg : most < ((acc + t : Nat) : Int)
          · have VE := VD.out
            rw [Pk.go, if_neg hc, if_neg hz, ht'.out, if_pos hg] at VE
            simp at VE
            obtain ⟨rfl, rfl, rfl⟩ := VE
            have hg' : most < (acc : Int) + (t : Int) := by omega
            have hy : i = 0 ∨ (0 < i ∧ 0 < d) := by omega
            clear hz hg
            rcases hy with y0 | ⟨y1, y2⟩
            · have y5 : ¬ 0 < i := by omega
              have Y0 : Hid (i = 0) := y0
              clear y0
              go_wp2_with fail
              go_ret3
              exact ⟨rfl, rfl⟩
            · have y3 : (0 : Int) < (i : Int) := by omega
              have y4 : ((d : Int) == 0) = false := by simp; omega
              go_wp2_with fail
              go_ret3
              exact ⟨rfl, rfl⟩
          · have VE := VD.out
            rw [Pk.go, if_neg hc, if_neg hz, ht'.out, if_neg hg] at VE
            simp at VE
            obtain ⟨rfl, rfl, rfl⟩ := VE
            have hg' : (acc : Int) + (t : Int) ≤ most := by omega
            have hy : i = 0 ∨ (0 < i ∧ 0 < d) := by omega
            clear hz hg
            rcases hy with y0 | ⟨y1, y2⟩
            · have y5 : ¬ 0 < i := by omega
              have Y0 : Hid (i = 0) := y0
              clear y0
              go_wp2_with fail
              go_ret3
              exact ⟨by simp, rfl⟩
            · have y3 : (0 : Int) < (i : Int) := by omega
              have y4 : ((d : Int) == 0) = false := by simp; omega
              go_wp2_with fail
              go_ret3
              exact ⟨by simp, rfl⟩
    · have hk : i = len := by omega
      subst hk
      have ed : l.drop i = [] := List.drop_of_length_le (by rw [RH.out.length]; exact Nat.le_refl _)
      have VD := VI.out
      rw [ed] at VD
      clear ed hlt hi
      by_cases h8 : i < 9
      · obtain ⟨q, hq⟩ : ∃ q, 9 - i = q + 1 := ⟨8 - i, by omega⟩
        rw [hq] at VD
        simp [Pk.go] at VD
        obtain ⟨rfl, rfl, rfl⟩ := VD
        have h8' : (i : Int) < 9 := by omega
        go_wp2_with fail
        go_ret3
        exact ⟨rfl, rfl⟩
      · have h8' : i = 9 := by omega
        subst h8'
        simp [Pk.go] at VD
        obtain ⟨rfl, rfl, rfl⟩ := VD
        go_wp2_with fail
        go_ret3
        exact ⟨rfl, rfl⟩

set_option maxRecDepth 100000 in
set_option maxHeartbeats 1600000 in
theorem numberOf_long (b off len cap : Nat) (most : Int) (l : List Nat) (w : World) (n s : Nat) (e : Int) (r : Reads w (some ⟨b, off, none⟩) len cap l) (h0 : 0 < len) (h9 : (9 : Int) < (len : Int)) (hv : Pk.parse most l = (n, s, e)) :
    Calls Try.prog 46 #[.slice (some ⟨b, off, none⟩) len cap, .int .i64 most] w fun x w' => x = .returned (.tuple #[.int .i64 (n : Int), .int .i64 (s : Int), .int .i64 e]) ∧ w' = w := by
  have RH : Hid (Reads w (some ⟨b, off, none⟩) len cap l) := r
  have VH : Hid (Pk.parse most l = (n, s, e)) := hv
  have hcap := r.small
  have hlen : len ≤ cap := r.room
  unfold maxLen at hcap
  obtain ⟨b', off', eb, hc⟩ := r.cells h0
  simp at eb
  obtain ⟨rfl, rfl⟩ := eb
  have HC : Hid (∀ (i : Nat), i < len → w.cell? ⟨b, off + i, none⟩ = some (.int .u8 ((l.getD i 0 : Nat) : Int))) := hc
  clear hc r hv
  go_enter Try.func46, Try.ntmps46
  go_wp2_with fail
  go_loopw [7, 8, 9, 16] (fun x7 x8 x9 x16 wr => ∃ (i acc : Nat), x16 = .int .i64 (i : Int) ∧ x7 = .int .i64 (acc : Int) ∧ i ≤ 9 ∧ acc < 128 ^ i ∧ Hid (Pk.go most (9 - i) i acc (l.drop i) = (n, s, e)) ∧ wr = w) (fun _ _ _ x16 _ => 9 - (intOf x16).toNat)
  case atStart => exact ⟨0, 0, rfl, rfl, by omega, by omega, VH.out, rfl⟩
  case round =>
    obtain ⟨i, acc, rfl, rfl, hi, ha, VI, rfl⟩ := hrel
    by_cases hlt : i < 9
    · have c0 := HC.out i (by omega)
      have ed := drop_getD l i (by rw [RH.out.length]; omega)
      have lc : l.getD i 0 < 256 := getD_lt l RH.out.bytes i
      obtain ⟨c, hcc⟩ : ∃ c, l.getD i 0 = c := ⟨_, rfl⟩
      rw [hcc] at c0 ed lc
      clear hcc
      have VD : Hid (Pk.go most (9 - i) i acc (c :: l.drop (i + 1)) = (n, s, e)) := by
        have := VI.out
        rw [ed] at this
        exact this
      clear ed
      obtain ⟨q, hq⟩ : ∃ q, 9 - i = q + 1 := ⟨8 - i, by omega⟩
      have hq' : Hid (9 - (i + 1) = q) := by show 9 - (i + 1) = q; omega
      rw [hq] at VD
      clear hq
      have i1 : (i : Int) < (9 : Int) := by omega
      have i9 : i < 9 := by omega
      obtain ⟨d, hd⟩ : ∃ d, c % 128 = d := ⟨_, rfl⟩
      have ld : d < 128 := by omega
      obtain ⟨t, ht⟩ : ∃ t, d * 128 ^ i = t := ⟨_, rfl⟩
      have a1 := andNot128 c lc
      rw [hd] at a1
      have w1 : wrap64 (d : Int) = (d : Int) := wrap64_nat d (by omega)
      obtain ⟨s1, o1, lt, la⟩ := shl_or i acc d t i9 ha ld ht
      have n1 := and128 c lc
      have ha' : Hid (acc < 128 ^ i) := ha
      have la' : Hid (acc + t < 128 ^ (i + 1)) := la
      have hd' : Hid (c % 128 = d) := hd
      have ht' : Hid (d * 128 ^ i = t) := ht
      clear ha la hd ht
      by_cases hc : 128 ≤ c
      · have VE : Hid (Pk.go most q (i + 1) (acc + t) (l.drop (i + 1)) = (n, s, e)) := by
          have := VD.out
          rw [Pk.go, if_pos hc, hd'.out, ht'.out] at this
          exact this
        rw [if_pos hc] at n1
        go_wp2_with fail
        go_roundw
        case rel => exact ⟨i + 1, acc + t, by go_num, by simp, by omega, la'.out, by rw [hq'.out]; exact VE, by first | rfl | trivial⟩
        case measure => simp [intOf]; omega
      · rw [if_neg hc] at n1
        have hdc : d = c := by have := hd'.out; omega
        subst hdc
        by_cases hz : 0 < i ∧ d = 0
        · have VE := VD.out
          rw [Pk.go, if_neg hc, if_pos hz] at VE
          simp at VE
          obtain ⟨rfl, rfl, rfl⟩ := VE
          obtain ⟨z1, rfl⟩ := hz
          have z2 : (0 : Int) < (i : Int) := by omega
          go_wp2_with fail
          go_ret3
          exact ⟨rfl, rfl⟩
        · by_cases hg : most < ((acc + t : Nat) : Int)
          · have VE := VD.out
            rw [Pk.go, if_neg hc, if_neg hz, ht'.out, if_pos hg] at VE
            simp at VE
            obtain ⟨rfl, rfl, rfl⟩ := VE
            have hg' : most < (acc : Int) + (t : Int) := by omega
            have hy : i = 0 ∨ (0 < i ∧ 0 < d) := by omega
            clear hz hg
            rcases hy with y0 | ⟨y1, y2⟩
            · have y5 : ¬ 0 < i := by omega
              have Y0 : Hid (i = 0) := y0
              clear y0
              go_wp2_with fail
              go_ret3
              exact ⟨rfl, rfl⟩
            · have y3 : (0 : Int) < (i : Int) := by omega
              have y4 : ((d : Int) == 0) = false := by simp; omega
              go_wp2_with fail
              go_ret3
              exact ⟨rfl, rfl⟩
          · have VE := VD.out
            rw [Pk.go, if_neg hc, if_neg hz, ht'.out, if_neg hg] at VE
            simp at VE
            obtain ⟨rfl, rfl, rfl⟩ := VE
            have hg' : (acc : Int) + (t : Int) ≤ most := by omega
            have hy : i = 0 ∨ (0 < i ∧ 0 < d) := by omega
            clear hz hg
            rcases hy with y0 | ⟨y1, y2⟩
            · have y5 : ¬ 0 < i := by omega
              have Y0 : Hid (i = 0) := y0
              clear y0
              go_wp2_with fail
              go_ret3
              exact ⟨by simp, rfl⟩
            · have y3 : (0 : Int) < (i : Int) := by omega
              have y4 : ((d : Int) == 0) = false := by simp; omega
              go_wp2_with fail
              go_ret3
              exact ⟨by simp, rfl⟩
    · have hk : i = 9 := by omega
      subst hk
      have VD := VI.out
      simp [Pk.go] at VD
      obtain ⟨rfl, rfl, rfl⟩ := VD
      clear hlt hi
      have h9' : (9 : Int) ≤ (len : Int) := by omega
      go_wp2_with fail
      go_ret3
      exact ⟨rfl, rfl⟩

set_option maxRecDepth 100000 in
theorem numberOf_empty (a : Option Addr) (cap : Nat) (most : Int) (w : World) :
    Calls Try.prog 46 #[.slice a 0 cap, .int .i64 most] w fun x w' => x = .returned (.tuple #[.int .i64 0, .int .i64 0, .int .i64 30]) ∧ w' = w := by
  go_enter Try.func46, Try.ntmps46
  go_wp2_with fail
  refine wp_loop_rounds 1 ?_
  rw [rounds_succ]
  go_wp2_with fail
  go_ret3
  exact ⟨rfl, rfl⟩
theorem numberOf_any (a : Option Addr) (len cap : Nat) (most : Int) (l : List Nat) (w : World) (n s : Nat) (e : Int) (r : Reads w a len cap l) (hv : Pk.parse most l = (n, s, e)) :
    Calls Try.prog 46 #[.slice a len cap, .int .i64 most] w fun x w' => x = .returned (.tuple #[.int .i64 (n : Int), .int .i64 (s : Int), .int .i64 e]) ∧ w' = w := by
  by_cases h : 0 < len
  · obtain ⟨b, off, rfl, _⟩ := r.cells h
    by_cases h9 : len ≤ 9
    · exact numberOf_short b off len cap most l w n s e r h (by omega) hv
    · exact numberOf_long b off len cap most l w n s e r h (by omega) hv
  · have h0 : len = 0 := by omega
    subst h0
    have hl := List.eq_nil_of_length_eq_zero r.length
    subst hl
    rw [Pk.parse_nil] at hv
    simp at hv
    obtain ⟨rfl, rfl, rfl⟩ := hv
    exact numberOf_empty a cap most w
end Go.Proofs.Ytgfglbbfoadiaaa
