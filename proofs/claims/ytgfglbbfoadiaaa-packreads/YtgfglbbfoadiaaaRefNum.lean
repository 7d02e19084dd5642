import Derived.Test.YtgfglbbfoadiaaaNumber
namespace Go.Proofs.Ytgfglbbfoadiaaa
open Go.RowKit

namespace Pk
/-- How many bytes the number has, by the first one without the highest bit; 0, if there is none. -/
def sz : Nat → Nat → List Nat → Nat
  | 0, _, _ => 0
  | _ + 1, _, [] => 0
  | k + 1, i, c :: t => if c < 128 then i + 1 else sz k (i + 1) t
/-- The number of some bytes. -/
def val : List Nat → Nat
  | [] => 0
  | c :: t => c % 128 + 128 * val t
theorem val_lt : ∀ l : List Nat, val l < 128 ^ l.length
  | [] => by simp [val]
  | c :: t => by
    have := val_lt t
    rw [val, List.length_cons, Nat.pow_succ]
    omega
theorem sz_range : ∀ (k i : Nat) (l : List Nat), sz k i l = 0 ∨ (i < sz k i l ∧ sz k i l ≤ i + k ∧ sz k i l - i ≤ l.length)
  | 0, _, _ => .inl rfl
  | _ + 1, _, [] => .inl rfl
  | k + 1, i, c :: t => by
    rw [sz]
    split
    · right; rw [List.length_cons]; omega
    · rcases sz_range k (i + 1) t with h | h
      · exact .inl h
      · right; rw [List.length_cons]; omega
theorem go_sz (most : Int) : ∀ (k i acc : Nat) (l : List Nat), (∀ c ∈ l, c < 256) → go most k i acc l =
    if sz k i l = 0 then (if k ≤ l.length then (0, 0, 31) else (0, 0, 30))
    else if 1 < sz k i l ∧ l.getD (sz k i l - 1 - i) 0 = 0 then (0, 0, 31)
    else if most < ((acc + val (l.take (sz k i l - i)) * 128 ^ i : Nat) : Int) then (0, 0, 33)
    else (acc + val (l.take (sz k i l - i)) * 128 ^ i, sz k i l, 0)
  | 0, _, _, _, _ => by simp [go, sz]
  | k + 1, i, acc, [], _ => by simp [go, sz]
  | k + 1, i, acc, c :: t, hb => by
    rw [go, sz]
    by_cases hc : c < 128
    · rw [if_neg (show ¬ 128 ≤ c by omega), if_pos hc, if_neg (show ¬ i + 1 = 0 by omega)]
      have e1 : (c :: t).getD (i + 1 - 1 - i) 0 = c := by rw [show i + 1 - 1 - i = 0 by omega]; rfl
      have e2 : val ((c :: t).take (i + 1 - i)) = c := by rw [show i + 1 - i = 1 by omega]; simp [val]; omega
      rw [e1, e2]
      by_cases h : 0 < i ∧ c = 0
      · rw [if_pos h, if_pos (show 1 < i + 1 ∧ c = 0 by omega)]
      · rw [if_neg h, if_neg (show ¬ (1 < i + 1 ∧ c = 0) by omega)]
    · rw [if_pos (by omega), if_neg hc, go_sz most k (i + 1) _ t (fun d hd => hb d (List.mem_cons_of_mem _ hd))]
      rcases sz_range k (i + 1) t with h | h
      · rw [h, if_pos rfl, if_pos rfl]
        by_cases hk : k ≤ t.length
        · rw [if_pos hk, if_pos (by simp; omega)]
        · rw [if_neg hk, if_neg (by simp; omega)]
      · obtain ⟨s, hs⟩ : ∃ s, sz k (i + 1) t = s := ⟨_, rfl⟩
        rw [hs] at h ⊢
        obtain ⟨j, rfl⟩ : ∃ j, s = i + 1 + (j + 1) := ⟨s - i - 2, by omega⟩
        have e1 : (c :: t).getD (i + 1 + (j + 1) - 1 - i) 0 = t.getD (i + 1 + (j + 1) - 1 - (i + 1)) 0 := by
          rw [show i + 1 + (j + 1) - 1 - i = j + 1 by omega, show i + 1 + (j + 1) - 1 - (i + 1) = j by omega]; rfl
        have e2 : (c :: t).take (i + 1 + (j + 1) - i) = c :: t.take (i + 1 + (j + 1) - (i + 1)) := by
          rw [show i + 1 + (j + 1) - i = (j + 1) + 1 by omega, show i + 1 + (j + 1) - (i + 1) = j + 1 by omega]; rfl
        have e3 : acc + c % 128 * 128 ^ i + val (t.take (i + 1 + (j + 1) - (i + 1))) * 128 ^ (i + 1) = acc + val (c :: t.take (i + 1 + (j + 1) - (i + 1))) * 128 ^ i := by
          rw [val, Nat.add_mul, Nat.pow_succ, Nat.mul_comm (128 ^ i) 128, ← Nat.mul_assoc, Nat.mul_comm 128 (val _)]
          omega
        have z0 : ¬ i + 1 + (j + 1) = 0 := by omega
        rw [e1, e2, e3, if_neg z0, if_neg z0]
theorem parse_sz (most : Int) (l : List Nat) (hb : ∀ c ∈ l, c < 256) : parse most l =
    if sz 9 0 l = 0 then (if 9 ≤ l.length then (0, 0, 31) else (0, 0, 30))
    else if 1 < sz 9 0 l ∧ l.getD (sz 9 0 l - 1) 0 = 0 then (0, 0, 31)
    else if most < ((val (l.take (sz 9 0 l)) : Nat) : Int) then (0, 0, 33)
    else (val (l.take (sz 9 0 l)), sz 9 0 l, 0) := by
  have := go_sz most 9 0 0 l hb
  simpa [parse] using this
theorem val_drop (l : List Nat) (s i : Nat) (h : i < s) (hl : s ≤ l.length) : val ((l.take s).drop i) = l.getD i 0 % 128 + 128 * val ((l.take s).drop (i + 1)) := by
  have hlt : i < (l.take s).length := by rw [List.length_take]; omega
  rw [List.drop_eq_getElem_cons hlt, val]
  congr 2
  rw [List.getElem_take, List.getD_eq_getElem?_getD, List.getElem?_eq_getElem (by omega)]
  rfl
end Pk

theorem rem128 : ∀ c : Nat, c < 256 → ((c : Int).tmod 128) = ((c % 128 : Nat) : Int) := by decide +kernel
set_option maxRecDepth 100000 in
set_option maxHeartbeats 4000000 in
theorem refNum_some (b off len cap : Nat) (most : Int) (l : List Nat) (w : World) (r : Reads w (some ⟨b, off, none⟩) len cap l) (h0 : 0 < len) (n s : Nat) (e : Int) (hv : Pk.parse most l = (n, s, e)) :
    Calls Try.prog 65 #[.slice (some ⟨b, off, none⟩) len cap, .int .i64 most] w fun x w' => x = .returned (.tuple #[.int .i64 (n : Int), .int .i64 (s : Int), .int .i64 e]) ∧ w' = w := by
  have PV := Pk.parse_sz most l r.bytes
  rw [hv] at PV
  have RH : Hid (Reads w (some ⟨b, off, none⟩) len cap l) := r
  have hcap := r.small
  have hlen : len ≤ cap := r.room
  unfold maxLen at hcap
  obtain ⟨b', off', eb, hc⟩ := r.cells h0
  simp at eb
  obtain ⟨rfl, rfl⟩ := eb
  have HC : Hid (∀ (i : Nat), i < len → w.cell? ⟨b, off + i, none⟩ = some (.int .u8 ((l.getD i 0 : Nat) : Int))) := hc
  have RL : Hid (l.length = len) := r.length
  obtain ⟨Z, hZ⟩ : ∃ Z, Pk.sz 9 0 l = Z := ⟨_, rfl⟩
  have ZR := Pk.sz_range 9 0 l
  rw [hZ] at PV ZR
  rw [r.length] at PV ZR
  have PH : Hid ((n, s, e) = if Z = 0 then (if 9 ≤ len then (0, 0, 31) else (0, 0, 30)) else if 1 < Z ∧ l.getD (Z - 1) 0 = 0 then (0, 0, 31) else if most < ((Pk.val (l.take Z) : Nat) : Int) then (0, 0, 33) else (Pk.val (l.take Z), Z, 0)) := PV
  have ZH : Hid (Pk.sz 9 0 l = Z) := hZ
  have BY : Hid (∀ c ∈ l, c < 256) := r.bytes
  clear hc r PV hZ hv
  go_enter Try.func65, Try.ntmps65
  go_wp2_with fail
  go_loop [7, 8] (fun x7 x8 => ∃ (i s : Nat), x8 = .int .i64 (i : Int) ∧ x7 = .int .i64 (s : Int) ∧ i ≤ len ∧ i ≤ 9 ∧ Hid ((s = 0 ∧ Pk.sz (9 - i) i (l.drop i) = Z) ∨ (s = Z ∧ 0 < s))) (fun x7 x8 => 9 - (intOf x8).toNat)
  case atStart => exact ⟨0, 0, rfl, rfl, by omega, by omega, .inl ⟨rfl, ZH.out⟩⟩
  case round =>
    obtain ⟨i, s7, rfl, rfl, hi, hi9, A⟩ := hrel
    by_cases hgo : i < len ∧ i < 9 ∧ s7 = 0
    · obtain ⟨g1, g2, rfl⟩ := hgo
      have AV : Pk.sz (9 - i) i (l.drop i) = Z := by
        rcases A.out with q | q
        · exact q.2
        · omega
      have c0 := HC.out i g1
      have ed := drop_getD l i (by rw [RL.out]; exact g1)
      have lc : l.getD i 0 < 256 := getD_lt l BY.out i
      rw [ed, show 9 - i = (9 - (i + 1)) + 1 by omega, Pk.sz] at AV
      generalize l.getD i 0 = c at *
      have i1 : (i : Int) < (len : Int) := by omega
      have i2 : (i : Int) < 9 := by omega
      clear ed A
      by_cases hc : c < 128
      · rw [if_pos hc] at AV
        have h1 : (c : Int) < 128 := by omega
        have AH : Hid (i + 1 = Z) := AV
        clear AV
        go_wp2_with fail
        go_round
        case rel => exact ⟨i + 1, i + 1, by go_num, by go_num, by omega, by omega, .inr ⟨AH.out, by omega⟩⟩
        case measure => simp [intOf]; omega
      · rw [if_neg hc] at AV
        have h1 : ¬ (c : Int) < 128 := by omega
        have AH : Hid (Pk.sz (9 - (i + 1)) (i + 1) (l.drop (i + 1)) = Z) := AV
        clear AV
        go_wp2_with fail
        go_round
        case rel => exact ⟨i + 1, 0, by go_num, rfl, by omega, by omega, .inl ⟨rfl, AH.out⟩⟩
        case measure => simp [intOf]; omega
    · have hZs : s7 = Z := by
        rcases A.out with ⟨q1, q2⟩ | q
        · subst q1
          by_cases hl : i < len
          · have : i = 9 := by omega
            subst this
            simpa [Pk.sz] using q2
          · rw [List.drop_of_length_le (by rw [RL.out]; omega)] at q2
            cases hk : 9 - i with
            | zero => rw [hk] at q2; simpa [Pk.sz] using q2
            | succ m => rw [hk] at q2; simpa [Pk.sz] using q2
        · exact q.1
      have ex : (len ≤ i ∨ 9 ≤ i ∨ 0 < s7) := by omega
      have ex3 : (len ≤ i) ∨ (i < len ∧ 9 ≤ i) ∨ (i < len ∧ i < 9 ∧ 0 < s7) := by omega
      subst hZs
      clear ex hgo A
      rcases ex3 with e1 | e2 | e3
      · have x1 : ¬ (i : Int) < (len : Int) := by omega
        clear e1
        by_cases hz : s7 = 0
        · subst hz
          have PE := PH.out
          rw [if_pos rfl] at PE
          by_cases h9 : 9 ≤ len
          · rw [if_pos h9] at PE
            simp at PE
            obtain ⟨rfl, rfl, rfl⟩ := PE
            have h9' : (9 : Int) ≤ (len : Int) := by omega
            go_wp2_with fail
            go_ret3
            exact ⟨rfl, rfl⟩
          · rw [if_neg h9] at PE
            simp at PE
            obtain ⟨rfl, rfl, rfl⟩ := PE
            have h9' : ¬ (9 : Int) ≤ (len : Int) := by omega
            go_wp2_with fail
            go_ret3
            exact ⟨rfl, rfl⟩
        · have ZR2 : s7 ≤ 9 ∧ s7 ≤ len := by omega
          have PE := PH.out
          rw [if_neg hz] at PE
          obtain ⟨p, rfl⟩ : ∃ p, s7 = p + 1 := ⟨s7 - 1, by omega⟩
          rw [Nat.add_sub_cancel] at PE
          have PE2 : Hid ((n, s, e) = if 1 < p + 1 ∧ l.getD p 0 = 0 then (0, 0, 31) else if most < ((Pk.val (l.take (p + 1)) : Nat) : Int) then (0, 0, 33) else (Pk.val (l.take (p + 1)), p + 1, 0)) := PE
          have c0 := HC.out p (by omega)
          have z1 : (((p + 1 : Nat) : Int) == 0) = false := by simp; omega
          have z2 : (p : Int) < (len : Int) := by omega
          have lcp : l.getD p 0 < 256 := getD_lt l BY.out p
          obtain ⟨c, hcc⟩ : ∃ c, l.getD p 0 = c := ⟨_, rfl⟩
          have CH : Hid (l.getD p 0 = c) := hcc
          rw [hcc] at c0 PE2 lcp
          clear PE hz hcc
          by_cases hq : 0 < p ∧ c = 0
          · obtain ⟨q1, rfl⟩ := hq
            have PE := PE2.out
            rw [if_pos ⟨by omega, rfl⟩] at PE
            simp at PE
            obtain ⟨rfl, rfl, rfl⟩ := PE
            have q2 : (0 : Int) < (p : Int) := by omega
            have q3 : (1 : Int) < (p : Int) + 1 := by omega
            go_wp2_with fail
            go_ret3
            exact ⟨rfl, rfl⟩
          · have PE3 : Hid ((n, s, e) = if most < ((Pk.val (l.take (p + 1)) : Nat) : Int) then (0, 0, 33) else (Pk.val (l.take (p + 1)), p + 1, 0)) := by
              have := PE2.out
              rw [if_neg (by omega)] at this
              exact this
            have hy : p = 0 ∨ (0 < p ∧ 0 < c) := by omega
            clear hq PE2
            rcases hy with y0 | ⟨y1, y2⟩
            · have Y0 : Hid (p = 0) := y0
              have y5 : ¬ 0 < p := by omega
              have y6 : ¬ ((1 : Int) < (p : Int) + 1) := by omega
              clear y0
              go_wp2_with fail
              go_loop [9, 10] (fun x9 x10 => ∃ j : Nat, j ≤ p + 1 ∧ x10 = .int .i64 ((j : Int) - 1) ∧ x9 = .int .i64 ((Pk.val ((l.take (p + 1)).drop j) : Nat) : Int)) (fun _ x10 => ((intOf x10) + 1).toNat)
              case atStart => exact ⟨p + 1, Nat.le_refl _, by go_num, by rw [List.drop_of_length_le (by rw [List.length_take]; omega)]; rfl⟩
              case round =>
                obtain ⟨j, hj, rfl, rfl⟩ := hrel
                by_cases hj0 : j = 0
                · subst hj0
                  have PE := PE3.out
                  rw [List.drop_zero]
                  generalize Pk.val (l.take (p + 1)) = N at *
                  by_cases hm : most < (N : Int)
                  · rw [if_pos hm] at PE
                    simp at PE
                    obtain ⟨rfl, rfl, rfl⟩ := PE
                    go_wp2_with fail
                    go_ret3
                    exact ⟨rfl, rfl⟩
                  · rw [if_neg hm] at PE
                    simp at PE
                    obtain ⟨rfl, rfl, rfl⟩ := PE
                    have hm' : (n : Int) ≤ most := by omega
                    go_wp2_with fail
                    go_ret3
                    exact ⟨by simp, rfl⟩
                · obtain ⟨k, rfl⟩ : ∃ k, j = k + 1 := ⟨j - 1, by omega⟩
                  have ck := HC.out k (by omega)
                  have lk : l.getD k 0 < 256 := getD_lt l BY.out k
                  have vd := Pk.val_drop l (p + 1) k (by omega) (by rw [RL.out]; omega)
                  have vl := Pk.val_lt ((l.take (p + 1)).drop k)
                  have ll : ((l.take (p + 1)).drop k).length ≤ 9 := by rw [List.length_drop, List.length_take]; omega
                  have pw : (128 : Nat) ^ ((l.take (p + 1)).drop k).length ≤ 128 ^ 9 := Nat.pow_le_pow_right (by omega) ll
                  have p9 : (128 : Nat) ^ 9 = 9223372036854775808 := by decide
                  obtain ⟨d, hd⟩ : ∃ d, l.getD k 0 = d := ⟨_, rfl⟩
                  rw [hd] at ck lk vd
                  have vl2 : Pk.val ((l.take (p + 1)).drop k) < 9223372036854775808 := by omega
                  have VD : Hid (Pk.val ((l.take (p + 1)).drop k) = d % 128 + 128 * Pk.val ((l.take (p + 1)).drop (k + 1))) := vd
                  rw [vd] at vl2
                  generalize Pk.val ((l.take (p + 1)).drop (k + 1)) = N at *
                  obtain ⟨f, hf⟩ : ∃ f, d % 128 = f := ⟨_, rfl⟩
                  have rf : ((d : Int) % 128) = (f : Int) := by omega
                  have rt : ((d : Int).tmod 128) = (f : Int) := by rw [rem128 d lk, hf]
                  have lf : f < 128 := by omega
                  rw [hf] at vl2 VD
                  have ej : ((k + 1 : Nat) : Int) - 1 = (k : Int) := by omega
                  rw [ej]
                  have k1 : (k : Int) < (len : Int) := by omega
                  have nb : N * 128 + f < 9223372036854775808 := by omega
                  clear vd vl ll pw p9 hd hf ej
                  go_wp2_with fail
                  go_round
                  case rel => exact ⟨k, by omega, by go_num, by rw [VD.out]; congr 1; simp; omega⟩
                  case measure => simp [intOf]
            · have y3 : (0 : Int) < (p : Int) := by omega
              have y5 : (1 : Int) < (p : Int) + 1 := by omega
              have y4 : ((c : Int) == 0) = false := by simp; omega
              go_wp2_with fail
              go_loop [9, 10] (fun x9 x10 => ∃ j : Nat, j ≤ p + 1 ∧ x10 = .int .i64 ((j : Int) - 1) ∧ x9 = .int .i64 ((Pk.val ((l.take (p + 1)).drop j) : Nat) : Int)) (fun _ x10 => ((intOf x10) + 1).toNat)
              case atStart => exact ⟨p + 1, Nat.le_refl _, by go_num, by rw [List.drop_of_length_le (by rw [List.length_take]; omega)]; rfl⟩
              case round =>
                obtain ⟨j, hj, rfl, rfl⟩ := hrel
                by_cases hj0 : j = 0
                · subst hj0
                  have PE := PE3.out
                  rw [List.drop_zero]
                  generalize Pk.val (l.take (p + 1)) = N at *
                  by_cases hm : most < (N : Int)
                  · rw [if_pos hm] at PE
                    simp at PE
                    obtain ⟨rfl, rfl, rfl⟩ := PE
                    go_wp2_with fail
                    go_ret3
                    exact ⟨rfl, rfl⟩
                  · rw [if_neg hm] at PE
                    simp at PE
                    obtain ⟨rfl, rfl, rfl⟩ := PE
                    have hm' : (n : Int) ≤ most := by omega
                    go_wp2_with fail
                    go_ret3
                    exact ⟨by simp, rfl⟩
                · obtain ⟨k, rfl⟩ : ∃ k, j = k + 1 := ⟨j - 1, by omega⟩
                  have ck := HC.out k (by omega)
                  have lk : l.getD k 0 < 256 := getD_lt l BY.out k
                  have vd := Pk.val_drop l (p + 1) k (by omega) (by rw [RL.out]; omega)
                  have vl := Pk.val_lt ((l.take (p + 1)).drop k)
                  have ll : ((l.take (p + 1)).drop k).length ≤ 9 := by rw [List.length_drop, List.length_take]; omega
                  have pw : (128 : Nat) ^ ((l.take (p + 1)).drop k).length ≤ 128 ^ 9 := Nat.pow_le_pow_right (by omega) ll
                  have p9 : (128 : Nat) ^ 9 = 9223372036854775808 := by decide
                  obtain ⟨d, hd⟩ : ∃ d, l.getD k 0 = d := ⟨_, rfl⟩
                  rw [hd] at ck lk vd
                  have vl2 : Pk.val ((l.take (p + 1)).drop k) < 9223372036854775808 := by omega
                  have VD : Hid (Pk.val ((l.take (p + 1)).drop k) = d % 128 + 128 * Pk.val ((l.take (p + 1)).drop (k + 1))) := vd
                  rw [vd] at vl2
                  generalize Pk.val ((l.take (p + 1)).drop (k + 1)) = N at *
                  obtain ⟨f, hf⟩ : ∃ f, d % 128 = f := ⟨_, rfl⟩
                  have rf : ((d : Int) % 128) = (f : Int) := by omega
                  have rt : ((d : Int).tmod 128) = (f : Int) := by rw [rem128 d lk, hf]
                  have lf : f < 128 := by omega
                  rw [hf] at vl2 VD
                  have ej : ((k + 1 : Nat) : Int) - 1 = (k : Int) := by omega
                  rw [ej]
                  have k1 : (k : Int) < (len : Int) := by omega
                  have nb : N * 128 + f < 9223372036854775808 := by omega
                  clear vd vl ll pw p9 hd hf ej
                  go_wp2_with fail
                  go_round
                  case rel => exact ⟨k, by omega, by go_num, by rw [VD.out]; congr 1; simp; omega⟩
                  case measure => simp [intOf]
      · have x1 : (i : Int) < (len : Int) := by omega
        have x2 : ¬ (i : Int) < 9 := by omega
        clear e2
        by_cases hz : s7 = 0
        · subst hz
          have PE := PH.out
          rw [if_pos rfl] at PE
          by_cases h9 : 9 ≤ len
          · rw [if_pos h9] at PE
            simp at PE
            obtain ⟨rfl, rfl, rfl⟩ := PE
            have h9' : (9 : Int) ≤ (len : Int) := by omega
            go_wp2_with fail
            go_ret3
            exact ⟨rfl, rfl⟩
          · rw [if_neg h9] at PE
            simp at PE
            obtain ⟨rfl, rfl, rfl⟩ := PE
            have h9' : ¬ (9 : Int) ≤ (len : Int) := by omega
            go_wp2_with fail
            go_ret3
            exact ⟨rfl, rfl⟩
        · have ZR2 : s7 ≤ 9 ∧ s7 ≤ len := by omega
          have PE := PH.out
          rw [if_neg hz] at PE
          obtain ⟨p, rfl⟩ : ∃ p, s7 = p + 1 := ⟨s7 - 1, by omega⟩
          rw [Nat.add_sub_cancel] at PE
          have PE2 : Hid ((n, s, e) = if 1 < p + 1 ∧ l.getD p 0 = 0 then (0, 0, 31) else if most < ((Pk.val (l.take (p + 1)) : Nat) : Int) then (0, 0, 33) else (Pk.val (l.take (p + 1)), p + 1, 0)) := PE
          have c0 := HC.out p (by omega)
          have z1 : (((p + 1 : Nat) : Int) == 0) = false := by simp; omega
          have z2 : (p : Int) < (len : Int) := by omega
          have lcp : l.getD p 0 < 256 := getD_lt l BY.out p
          obtain ⟨c, hcc⟩ : ∃ c, l.getD p 0 = c := ⟨_, rfl⟩
          have CH : Hid (l.getD p 0 = c) := hcc
          rw [hcc] at c0 PE2 lcp
          clear PE hz hcc
          by_cases hq : 0 < p ∧ c = 0
          · obtain ⟨q1, rfl⟩ := hq
            have PE := PE2.out
            rw [if_pos ⟨by omega, rfl⟩] at PE
            simp at PE
            obtain ⟨rfl, rfl, rfl⟩ := PE
            have q2 : (0 : Int) < (p : Int) := by omega
            have q3 : (1 : Int) < (p : Int) + 1 := by omega
            go_wp2_with fail
            go_ret3
            exact ⟨rfl, rfl⟩
          · have PE3 : Hid ((n, s, e) = if most < ((Pk.val (l.take (p + 1)) : Nat) : Int) then (0, 0, 33) else (Pk.val (l.take (p + 1)), p + 1, 0)) := by
              have := PE2.out
              rw [if_neg (by omega)] at this
              exact this
            have hy : p = 0 ∨ (0 < p ∧ 0 < c) := by omega
            clear hq PE2
            rcases hy with y0 | ⟨y1, y2⟩
            · have Y0 : Hid (p = 0) := y0
              have y5 : ¬ 0 < p := by omega
              have y6 : ¬ ((1 : Int) < (p : Int) + 1) := by omega
              clear y0
              go_wp2_with fail
              go_loop [9, 10] (fun x9 x10 => ∃ j : Nat, j ≤ p + 1 ∧ x10 = .int .i64 ((j : Int) - 1) ∧ x9 = .int .i64 ((Pk.val ((l.take (p + 1)).drop j) : Nat) : Int)) (fun _ x10 => ((intOf x10) + 1).toNat)
              case atStart => exact ⟨p + 1, Nat.le_refl _, by go_num, by rw [List.drop_of_length_le (by rw [List.length_take]; omega)]; rfl⟩
              case round =>
                obtain ⟨j, hj, rfl, rfl⟩ := hrel
                by_cases hj0 : j = 0
                · subst hj0
                  have PE := PE3.out
                  rw [List.drop_zero]
                  generalize Pk.val (l.take (p + 1)) = N at *
                  by_cases hm : most < (N : Int)
                  · rw [if_pos hm] at PE
                    simp at PE
                    obtain ⟨rfl, rfl, rfl⟩ := PE
                    go_wp2_with fail
                    go_ret3
                    exact ⟨rfl, rfl⟩
                  · rw [if_neg hm] at PE
                    simp at PE
                    obtain ⟨rfl, rfl, rfl⟩ := PE
                    have hm' : (n : Int) ≤ most := by omega
                    go_wp2_with fail
                    go_ret3
                    exact ⟨by simp, rfl⟩
                · obtain ⟨k, rfl⟩ : ∃ k, j = k + 1 := ⟨j - 1, by omega⟩
                  have ck := HC.out k (by omega)
                  have lk : l.getD k 0 < 256 := getD_lt l BY.out k
                  have vd := Pk.val_drop l (p + 1) k (by omega) (by rw [RL.out]; omega)
                  have vl := Pk.val_lt ((l.take (p + 1)).drop k)
                  have ll : ((l.take (p + 1)).drop k).length ≤ 9 := by rw [List.length_drop, List.length_take]; omega
                  have pw : (128 : Nat) ^ ((l.take (p + 1)).drop k).length ≤ 128 ^ 9 := Nat.pow_le_pow_right (by omega) ll
                  have p9 : (128 : Nat) ^ 9 = 9223372036854775808 := by decide
                  obtain ⟨d, hd⟩ : ∃ d, l.getD k 0 = d := ⟨_, rfl⟩
                  rw [hd] at ck lk vd
                  have vl2 : Pk.val ((l.take (p + 1)).drop k) < 9223372036854775808 := by omega
                  have VD : Hid (Pk.val ((l.take (p + 1)).drop k) = d % 128 + 128 * Pk.val ((l.take (p + 1)).drop (k + 1))) := vd
                  rw [vd] at vl2
                  generalize Pk.val ((l.take (p + 1)).drop (k + 1)) = N at *
                  obtain ⟨f, hf⟩ : ∃ f, d % 128 = f := ⟨_, rfl⟩
                  have rf : ((d : Int) % 128) = (f : Int) := by omega
                  have rt : ((d : Int).tmod 128) = (f : Int) := by rw [rem128 d lk, hf]
                  have lf : f < 128 := by omega
                  rw [hf] at vl2 VD
                  have ej : ((k + 1 : Nat) : Int) - 1 = (k : Int) := by omega
                  rw [ej]
                  have k1 : (k : Int) < (len : Int) := by omega
                  have nb : N * 128 + f < 9223372036854775808 := by omega
                  clear vd vl ll pw p9 hd hf ej
                  go_wp2_with fail
                  go_round
                  case rel => exact ⟨k, by omega, by go_num, by rw [VD.out]; congr 1; simp; omega⟩
                  case measure => simp [intOf]
            · have y3 : (0 : Int) < (p : Int) := by omega
              have y5 : (1 : Int) < (p : Int) + 1 := by omega
              have y4 : ((c : Int) == 0) = false := by simp; omega
              go_wp2_with fail
              go_loop [9, 10] (fun x9 x10 => ∃ j : Nat, j ≤ p + 1 ∧ x10 = .int .i64 ((j : Int) - 1) ∧ x9 = .int .i64 ((Pk.val ((l.take (p + 1)).drop j) : Nat) : Int)) (fun _ x10 => ((intOf x10) + 1).toNat)
              case atStart => exact ⟨p + 1, Nat.le_refl _, by go_num, by rw [List.drop_of_length_le (by rw [List.length_take]; omega)]; rfl⟩
              case round =>
                obtain ⟨j, hj, rfl, rfl⟩ := hrel
                by_cases hj0 : j = 0
                · subst hj0
                  have PE := PE3.out
                  rw [List.drop_zero]
                  generalize Pk.val (l.take (p + 1)) = N at *
                  by_cases hm : most < (N : Int)
                  · rw [if_pos hm] at PE
                    simp at PE
                    obtain ⟨rfl, rfl, rfl⟩ := PE
                    go_wp2_with fail
                    go_ret3
                    exact ⟨rfl, rfl⟩
                  · rw [if_neg hm] at PE
                    simp at PE
                    obtain ⟨rfl, rfl, rfl⟩ := PE
                    have hm' : (n : Int) ≤ most := by omega
                    go_wp2_with fail
                    go_ret3
                    exact ⟨by simp, rfl⟩
                · obtain ⟨k, rfl⟩ : ∃ k, j = k + 1 := ⟨j - 1, by omega⟩
                  have ck := HC.out k (by omega)
                  have lk : l.getD k 0 < 256 := getD_lt l BY.out k
                  have vd := Pk.val_drop l (p + 1) k (by omega) (by rw [RL.out]; omega)
                  have vl := Pk.val_lt ((l.take (p + 1)).drop k)
                  have ll : ((l.take (p + 1)).drop k).length ≤ 9 := by rw [List.length_drop, List.length_take]; omega
                  have pw : (128 : Nat) ^ ((l.take (p + 1)).drop k).length ≤ 128 ^ 9 := Nat.pow_le_pow_right (by omega) ll
                  have p9 : (128 : Nat) ^ 9 = 9223372036854775808 := by decide
                  obtain ⟨d, hd⟩ : ∃ d, l.getD k 0 = d := ⟨_, rfl⟩
                  rw [hd] at ck lk vd
                  have vl2 : Pk.val ((l.take (p + 1)).drop k) < 9223372036854775808 := by omega
                  have VD : Hid (Pk.val ((l.take (p + 1)).drop k) = d % 128 + 128 * Pk.val ((l.take (p + 1)).drop (k + 1))) := vd
                  rw [vd] at vl2
                  generalize Pk.val ((l.take (p + 1)).drop (k + 1)) = N at *
                  obtain ⟨f, hf⟩ : ∃ f, d % 128 = f := ⟨_, rfl⟩
                  have rf : ((d : Int) % 128) = (f : Int) := by omega
                  have rt : ((d : Int).tmod 128) = (f : Int) := by rw [rem128 d lk, hf]
                  have lf : f < 128 := by omega
                  rw [hf] at vl2 VD
                  have ej : ((k + 1 : Nat) : Int) - 1 = (k : Int) := by omega
                  rw [ej]
                  have k1 : (k : Int) < (len : Int) := by omega
                  have nb : N * 128 + f < 9223372036854775808 := by omega
                  clear vd vl ll pw p9 hd hf ej
                  go_wp2_with fail
                  go_round
                  case rel => exact ⟨k, by omega, by go_num, by rw [VD.out]; congr 1; simp; omega⟩
                  case measure => simp [intOf]
      · have x1 : (i : Int) < (len : Int) := by omega
        have x2 : (i : Int) < 9 := by omega
        have x3 : ((s7 : Int) == 0) = false := by simp; omega
        have hz : ¬ s7 = 0 := by omega
        clear e3
        have ZR2 : s7 ≤ 9 ∧ s7 ≤ len := by omega
        have PE := PH.out
        rw [if_neg hz] at PE
        obtain ⟨p, rfl⟩ : ∃ p, s7 = p + 1 := ⟨s7 - 1, by omega⟩
        rw [Nat.add_sub_cancel] at PE
        have PE2 : Hid ((n, s, e) = if 1 < p + 1 ∧ l.getD p 0 = 0 then (0, 0, 31) else if most < ((Pk.val (l.take (p + 1)) : Nat) : Int) then (0, 0, 33) else (Pk.val (l.take (p + 1)), p + 1, 0)) := PE
        have c0 := HC.out p (by omega)
        have z1 : (((p + 1 : Nat) : Int) == 0) = false := x3
        have z2 : (p : Int) < (len : Int) := by omega
        have lcp : l.getD p 0 < 256 := getD_lt l BY.out p
        obtain ⟨c, hcc⟩ : ∃ c, l.getD p 0 = c := ⟨_, rfl⟩
        have CH : Hid (l.getD p 0 = c) := hcc
        rw [hcc] at c0 PE2 lcp
        clear PE hz hcc
        by_cases hq : 0 < p ∧ c = 0
        · obtain ⟨q1, rfl⟩ := hq
          have PE := PE2.out
          rw [if_pos ⟨by omega, rfl⟩] at PE
          simp at PE
          obtain ⟨rfl, rfl, rfl⟩ := PE
          have q2 : (0 : Int) < (p : Int) := by omega
          have q3 : (1 : Int) < (p : Int) + 1 := by omega
          go_wp2_with fail
          go_ret3
          exact ⟨rfl, rfl⟩
        · have PE3 : Hid ((n, s, e) = if most < ((Pk.val (l.take (p + 1)) : Nat) : Int) then (0, 0, 33) else (Pk.val (l.take (p + 1)), p + 1, 0)) := by
            have := PE2.out
            rw [if_neg (by omega)] at this
            exact this
          have hy : p = 0 ∨ (0 < p ∧ 0 < c) := by omega
          clear hq PE2
          rcases hy with y0 | ⟨y1, y2⟩
          · have Y0 : Hid (p = 0) := y0
            have y5 : ¬ 0 < p := by omega
            have y6 : ¬ ((1 : Int) < (p : Int) + 1) := by omega
            clear y0
            go_wp2_with fail
            go_loop [9, 10] (fun x9 x10 => ∃ j : Nat, j ≤ p + 1 ∧ x10 = .int .i64 ((j : Int) - 1) ∧ x9 = .int .i64 ((Pk.val ((l.take (p + 1)).drop j) : Nat) : Int)) (fun _ x10 => ((intOf x10) + 1).toNat)
            case atStart => exact ⟨p + 1, Nat.le_refl _, by go_num, by rw [List.drop_of_length_le (by rw [List.length_take]; omega)]; rfl⟩
            case round =>
              obtain ⟨j, hj, rfl, rfl⟩ := hrel
              by_cases hj0 : j = 0
              · subst hj0
                have PE := PE3.out
                rw [List.drop_zero]
                generalize Pk.val (l.take (p + 1)) = N at *
                by_cases hm : most < (N : Int)
                · rw [if_pos hm] at PE
                  simp at PE
                  obtain ⟨rfl, rfl, rfl⟩ := PE
                  go_wp2_with fail
                  go_ret3
                  exact ⟨rfl, rfl⟩
                · rw [if_neg hm] at PE
                  simp at PE
                  obtain ⟨rfl, rfl, rfl⟩ := PE
                  have hm' : (n : Int) ≤ most := by omega
                  go_wp2_with fail
                  go_ret3
                  exact ⟨by simp, rfl⟩
              · obtain ⟨k, rfl⟩ : ∃ k, j = k + 1 := ⟨j - 1, by omega⟩
                have ck := HC.out k (by omega)
                have lk : l.getD k 0 < 256 := getD_lt l BY.out k
                have vd := Pk.val_drop l (p + 1) k (by omega) (by rw [RL.out]; omega)
                have vl := Pk.val_lt ((l.take (p + 1)).drop k)
                have ll : ((l.take (p + 1)).drop k).length ≤ 9 := by rw [List.length_drop, List.length_take]; omega
                have pw : (128 : Nat) ^ ((l.take (p + 1)).drop k).length ≤ 128 ^ 9 := Nat.pow_le_pow_right (by omega) ll
                have p9 : (128 : Nat) ^ 9 = 9223372036854775808 := by decide
                obtain ⟨d, hd⟩ : ∃ d, l.getD k 0 = d := ⟨_, rfl⟩
                rw [hd] at ck lk vd
                have vl2 : Pk.val ((l.take (p + 1)).drop k) < 9223372036854775808 := by omega
                have VD : Hid (Pk.val ((l.take (p + 1)).drop k) = d % 128 + 128 * Pk.val ((l.take (p + 1)).drop (k + 1))) := vd
                rw [vd] at vl2
                generalize Pk.val ((l.take (p + 1)).drop (k + 1)) = N at *
                obtain ⟨f, hf⟩ : ∃ f, d % 128 = f := ⟨_, rfl⟩
                have rf : ((d : Int) % 128) = (f : Int) := by omega
                have rt : ((d : Int).tmod 128) = (f : Int) := by rw [rem128 d lk, hf]
                have lf : f < 128 := by omega
                rw [hf] at vl2 VD
                have ej : ((k + 1 : Nat) : Int) - 1 = (k : Int) := by omega
                rw [ej]
                have k1 : (k : Int) < (len : Int) := by omega
                have nb : N * 128 + f < 9223372036854775808 := by omega
                clear vd vl ll pw p9 hd hf ej
                go_wp2_with fail
                go_round
                case rel => exact ⟨k, by omega, by go_num, by rw [VD.out]; congr 1; simp; omega⟩
                case measure => simp [intOf]
          · have y3 : (0 : Int) < (p : Int) := by omega
            have y5 : (1 : Int) < (p : Int) + 1 := by omega
            have y4 : ((c : Int) == 0) = false := by simp; omega
            go_wp2_with fail
            go_loop [9, 10] (fun x9 x10 => ∃ j : Nat, j ≤ p + 1 ∧ x10 = .int .i64 ((j : Int) - 1) ∧ x9 = .int .i64 ((Pk.val ((l.take (p + 1)).drop j) : Nat) : Int)) (fun _ x10 => ((intOf x10) + 1).toNat)
            case atStart => exact ⟨p + 1, Nat.le_refl _, by go_num, by rw [List.drop_of_length_le (by rw [List.length_take]; omega)]; rfl⟩
            case round =>
              obtain ⟨j, hj, rfl, rfl⟩ := hrel
              by_cases hj0 : j = 0
              · subst hj0
                have PE := PE3.out
                rw [List.drop_zero]
                generalize Pk.val (l.take (p + 1)) = N at *
                by_cases hm : most < (N : Int)
                · rw [if_pos hm] at PE
                  simp at PE
                  obtain ⟨rfl, rfl, rfl⟩ := PE
                  go_wp2_with fail
                  go_ret3
                  exact ⟨rfl, rfl⟩
                · rw [if_neg hm] at PE
                  simp at PE
                  obtain ⟨rfl, rfl, rfl⟩ := PE
                  have hm' : (n : Int) ≤ most := by omega
                  go_wp2_with fail
                  go_ret3
                  exact ⟨by simp, rfl⟩
              · obtain ⟨k, rfl⟩ : ∃ k, j = k + 1 := ⟨j - 1, by omega⟩
                have ck := HC.out k (by omega)
                have lk : l.getD k 0 < 256 := getD_lt l BY.out k
                have vd := Pk.val_drop l (p + 1) k (by omega) (by rw [RL.out]; omega)
                have vl := Pk.val_lt ((l.take (p + 1)).drop k)
                have ll : ((l.take (p + 1)).drop k).length ≤ 9 := by rw [List.length_drop, List.length_take]; omega
                have pw : (128 : Nat) ^ ((l.take (p + 1)).drop k).length ≤ 128 ^ 9 := Nat.pow_le_pow_right (by omega) ll
                have p9 : (128 : Nat) ^ 9 = 9223372036854775808 := by decide
                obtain ⟨d, hd⟩ : ∃ d, l.getD k 0 = d := ⟨_, rfl⟩
                rw [hd] at ck lk vd
                have vl2 : Pk.val ((l.take (p + 1)).drop k) < 9223372036854775808 := by omega
                have VD : Hid (Pk.val ((l.take (p + 1)).drop k) = d % 128 + 128 * Pk.val ((l.take (p + 1)).drop (k + 1))) := vd
                rw [vd] at vl2
                generalize Pk.val ((l.take (p + 1)).drop (k + 1)) = N at *
                obtain ⟨f, hf⟩ : ∃ f, d % 128 = f := ⟨_, rfl⟩
                have rf : ((d : Int) % 128) = (f : Int) := by omega
                have rt : ((d : Int).tmod 128) = (f : Int) := by rw [rem128 d lk, hf]
                have lf : f < 128 := by omega
                rw [hf] at vl2 VD
                have ej : ((k + 1 : Nat) : Int) - 1 = (k : Int) := by omega
                rw [ej]
                have k1 : (k : Int) < (len : Int) := by omega
                have nb : N * 128 + f < 9223372036854775808 := by omega
                clear vd vl ll pw p9 hd hf ej
                go_wp2_with fail
                go_round
                case rel => exact ⟨k, by omega, by go_num, by rw [VD.out]; congr 1; simp; omega⟩
                case measure => simp [intOf]
theorem refNum_empty (a : Option Addr) (cap : Nat) (most : Int) (w : World) :
    Calls Try.prog 65 #[.slice a 0 cap, .int .i64 most] w fun x w' => x = .returned (.tuple #[.int .i64 0, .int .i64 0, .int .i64 30]) ∧ w' = w := by
  go_enter Try.func65, Try.ntmps65
  go_wp2_with fail
  refine wp_loop_rounds 1 ?_
  rw [rounds_succ]
  go_wp2_with fail
  go_ret3
  exact ⟨rfl, rfl⟩
theorem refNum (a : Option Addr) (len cap : Nat) (most : Int) (l : List Nat) (w : World) (n s : Nat) (e : Int) (r : Reads w a len cap l) (hv : Pk.parse most l = (n, s, e)) :
    Calls Try.prog 65 #[.slice a len cap, .int .i64 most] w fun x w' => x = .returned (.tuple #[.int .i64 (n : Int), .int .i64 (s : Int), .int .i64 e]) ∧ w' = w := by
  by_cases h : 0 < len
  · obtain ⟨b, off, rfl, _⟩ := r.cells h
    exact refNum_some b off len cap most l w r h n s e hv
  · have h0 : len = 0 := by omega
    subst h0
    have hl := List.eq_nil_of_length_eq_zero r.length
    subst hl
    rw [Pk.parse_nil] at hv
    simp at hv
    obtain ⟨rfl, rfl, rfl⟩ := hv
    exact refNum_empty a cap most w
end Go.Proofs.Ytgfglbbfoadiaaa
