import Derived.Test.YtpgfmoddhjhlkaaSets
import Derived.Deep.DeepCutAuto
namespace Go.Proofs.Ytpgfmoddhjhlkaa
open Go.RowKit

theorem small16 (n : Nat) (h : (n + 1) * 16 ≤ 211106232532992) : n ≤ 13194139533312 := by
  have : n + 1 ≤ 211106232532992 / 16 := (Nat.le_div_iff_mul_le (by decide)).2 h
  have e : 211106232532992 / 16 = 13194139533312 := by decide
  rw [e] at this
  exact Nat.le_of_succ_le this

set_option maxRecDepth 100000 in
set_option maxHeartbeats 2000000 in
theorem tagSets_good (a a2 : Option Addr) (len cap len2 cap2 : Nat) (l : List (Int × Int)) (sc : List (Int × (Int × Int) × Int)) (w : World) (r : TReads w a len cap l) (o : OReads w a2 len2 cap2 sc) (hb : (len + len2 + 4) * 16 ≤ 211106232532992) (hp : ∀ t ∈ l, isProper t.1 t.2 = true) :
    Calls Try.prog 5 #[.slice a len cap, .slice a2 len2 cap2] w fun x w' => x = .returned (.bool true) ∧ Below w.heap.size w w' := by
  have HB : Hid ((len + len2 + 4) * 16 ≤ 211106232532992) := hb
  clear hb
  have HB1 : Hid ((len + 1) * 16 ≤ 211106232532992) := Nat.le_trans (Nat.mul_le_mul_right 16 (by omega : len + 1 ≤ len + len2 + 4)) HB.out
  have RH : Hid (TReads w a len cap l) := r
  have OH : Hid (OReads w a2 len2 cap2 sc) := o
  have HP : Hid (∀ t ∈ l, isProper t.1 t.2 = true) := hp
  clear r o hp
  go_enter Try.func5, Try.ntmps5
  go_wp2_with fail
  refine (add_none 1 1 _).mono ?_
  rintro x w1 ⟨rfl, B1⟩
  have S1 : Hid (Below w.heap.size w w1) := B1
  clear B1
  go_wp2_with fail
  refine (has_none 0 0 _).mono ?_
  rintro x w2 ⟨rfl, B2⟩
  have S2 : Hid (Below w.heap.size w w2) := S1.out.trans (B2.mono S1.out.size)
  clear B2 S1
  go_wp2_with fail
  refine (len_none _).mono ?_
  rintro x w3 ⟨rfl, B3⟩
  have S3 : Hid (Below w.heap.size w w3) := S2.out.trans (B3.mono S2.out.size)
  clear B3 S2
  go_wp2_with fail
  refine (cut_none 9 0 _).mono ?_
  rintro x w4 ⟨rfl, B4⟩
  have S4 : Hid (Below w.heap.size w w4) := S3.out.trans (B4.mono S3.out.size)
  clear B4 S3
  go_wp2_with fail
  refine (from_none 0 0 _).mono ?_
  rintro x w5 ⟨rfl, B5⟩
  have S5 : Hid (Below w.heap.size w w5) := S4.out.trans (B5.mono S4.out.size)
  clear B5 S4
  go_wp2_with fail
  refine (high_none 0 _).mono ?_
  rintro x w6 ⟨rfl, B6⟩
  have S6 : Hid (Below w.heap.size w (w6.alloc (.cells #[.int .i64 0, .int .i64 0] 24))) := by
    have b : Below w.heap.size w w6 := S5.out.trans (B6.mono S5.out.size)
    exact b.alloc b.size _
  clear B6 S5
  go_wp2_with fail
  refine (tags_g a len cap l w _ S6.out RH.out HB1.out).mono ?_
  rintro x w7 ⟨g, c, rfl, G7⟩
  clear S6
  go_wp2_with fail
  refine (newS_good g c len l w _ G7.out HP.out HB1.out).mono ?_
  rintro x w8 ⟨B, q, m, c1, S, rfl, G8⟩
  clear G7
  go_wp2_with fail
  refine (newR_good g c len l B q m c1 S a cap w _ G8.out RH.out HP.out HB1.out).mono ?_
  rintro x w9 ⟨C, r, m2, c2, rfl, hm, G9⟩
  clear G8
  go_wp2_with fail
  refine (G9.out.kept_call a cap RH.out).mono ?_
  rintro x w10 ⟨rfl, G10⟩
  clear G9
  have hc0 : len + 1 ≤ c := G10.out.row.room
  have hcs := G10.out.row.small
  unfold maxLen at hcs
  have lb : len ≤ 13194139533312 := small16 len HB1.out
  go_wp2_with fail
  go_loopw [15] (fun x wr => ∃ (i : Nat) (T : List (Int × Int)), x = .int .i64 (i : Int) ∧ i ≤ len ∧ Hid (Full w wr g c len T B C q r m c1 m2 c2 S (newR l))) (fun x _ => len - (intOf x).toNat)
  case atStart => exact ⟨0, _, rfl, Nat.zero_le _, G10⟩
  case round =>
    obtain ⟨i, T, rfl, hi, F⟩ := hrel
    clear G10
    by_cases hlt : i < len
    · have F2 := F.out.write i (by omega) (5, 5) (fun t ht => by rw [List.mem_singleton] at ht; subst ht; exact ⟨by omega, by omega⟩)
      have F3 : Hid (Full w ((wr.setCell ⟨g, 0 + i * 2, none⟩ (.int .i64 5)).setCell ⟨g, 0 + i * 2 + 1, none⟩ (.int .i64 5)) g c len (T.set i (5, 5)) B C q r m c1 m2 c2 S (newR l)) := F2
      clear F2
      obtain ⟨cur, hcur, hsz⟩ := Full.blk F.out
      have d0 : ∃ u, wr.cell? ⟨g, 0 + i * 2, none⟩ = some u := cell_ex hcur (by omega)
      have d1 : ∃ u, wr.cell? ⟨g, 0 + i * 2 + 1, none⟩ = some u := cell_ex hcur (by omega)
      obtain ⟨u0, d0⟩ := d0
      obtain ⟨u1, d1⟩ := d1
      have f0 : wr.frozen? ⟨g, 0 + i * 2, none⟩ = false := soft_blk hcur _
      have f1 : wr.frozen? ⟨g, 0 + i * 2 + 1, none⟩ = false := soft_blk hcur _
      have i1 : (i : Int) < (len : Int) := by omega
      clear hcur hsz F
      rw [Nat.zero_add] at d0 d1 f0 f1
      go_wp2_with fail
      go_roundw
      case rel => exact ⟨i + 1, _, by go_num, by omega, by rw [Nat.zero_add] at F3; exact F3⟩
      case measure => simp [intOf]; omega
    · have O0 : Hid (On w wr B C (len + 0)) := F.out.on hm
      have he : i = len := by omega
      subst he
      clear hlt hi F
      have hr2 := OH.out.room
      have hs2 := OH.out.small
      unfold maxLen at hs2
      go_wp2_with fail
      go_loopw [16] (fun x wr => ∃ (j : Nat), x = .int .i64 (j : Int) ∧ j ≤ len2 ∧ Hid (On w wr B C (i + j))) (fun x _ => len2 - (intOf x).toNat)
      case atStart => exact ⟨0, rfl, Nat.zero_le _, O0⟩
      case round =>
        obtain ⟨j, rfl, hj, O⟩ := hrel
        clear O0
        by_cases hlt : j < len2
        · have O1 : Hid (OReads wr a2 len2 cap2 sc) := OH.out.by O.out.bel
          obtain ⟨b, off, rfl, hc⟩ := O1.out.cells (by omega)
          obtain ⟨e0, e1, e2, e3⟩ := hc j (by rw [O1.out.length]; exact hlt)
          have fo := O1.out.fit _ (List.getElem_mem (by rw [O1.out.length]; exact hlt : j < sc.length))
          generalize sc[j]'(by rw [O1.out.length]; exact hlt) = o at e0 e1 e2 e3 fo
          obtain ⟨k, ⟨x, y⟩, z⟩ := o
          simp only at e0 e1 e2 e3 fo
          have FO : Hid (Fit [(x, y)] ∧ (-9223372036854775808 ≤ z ∧ z < 9223372036854775808)) := fo
          have j1 : (j : Int) < (len2 : Int) := by omega
          have HB2 : Hid ((i + j + 1) * 16 ≤ 211106232532992) := Nat.le_trans (Nat.mul_le_mul_right 16 (by omega : i + j + 1 ≤ i + len2 + 4)) HB.out
          clear hc fo O1
          go_wp2_with fail
          refine (O.out.stepped k x y z FO.out.1 FO.out.2 HB2.out).mono ?_
          rintro e w11 ⟨rfl, O2⟩
          obtain ⟨n, hn, L1, L2⟩ := O2.out.lens
          clear e0 e1 e2 e3 O
          go_wp2_with fail
          refine (L1.out _ (Below.refl _ _)).mono ?_
          rintro e w12 ⟨rfl, b12⟩
          go_wp2_with fail
          refine (L2.out _ b12.out).mono ?_
          rintro e w13 ⟨rfl, b13⟩
          have O3 : Hid (On w w13 B C (i + (j + 1))) := by rw [← Nat.add_assoc]; exact O2.out.by b13.out
          clear L1 L2 b12 b13 O2
          go_wp2_with fail
          go_roundw
          case rel => exact ⟨j + 1, by go_num, by omega, O3⟩
          case measure => simp [intOf]; omega
        · have he : j = len2 := by omega
          subst he
          clear hlt hj
          have Z : Hid (Fit [(0, 0)]) := fun t ht => by rw [List.mem_singleton] at ht; subst ht; exact ⟨by omega, by omega⟩
          have HB2 : Hid ((i + j + 1) * 16 ≤ 211106232532992) := Nat.le_trans (Nat.mul_le_mul_right 16 (by omega : i + j + 1 ≤ i + j + 4)) HB.out
          have HB3 : Hid ((i + j + 1 + 1) * 16 ≤ 211106232532992) := Nat.le_trans (Nat.mul_le_mul_right 16 (by omega : i + j + 1 + 1 ≤ i + j + 4)) HB.out
          go_wp2_with fail
          refine (O.out.stepped 3 0 0 0 Z.out (by omega) HB2.out).mono ?_
          rintro e w11 ⟨rfl, O2⟩
          clear O
          go_wp2_with fail
          refine (O2.out.stepped 3 0 0 0 Z.out (by omega) HB3.out).mono ?_
          rintro e w12 ⟨rfl, O3⟩
          clear O2
          go_wp2_with fail
          go_ret
          exact ⟨rfl, O3.out.bel⟩
set_option maxRecDepth 100000 in
set_option maxHeartbeats 2000000 in
theorem tagSets_bad (a a2 : Option Addr) (len cap len2 cap2 : Nat) (l : List (Int × Int)) (sc : List (Int × (Int × Int) × Int)) (w : World) (r : TReads w a len cap l) (o : OReads w a2 len2 cap2 sc) (hb : (len + len2 + 4) * 16 ≤ 211106232532992) (hp : ¬ ∀ t ∈ l, isProper t.1 t.2 = true) :
    Calls Try.prog 5 #[.slice a len cap, .slice a2 len2 cap2] w fun x w' => x = .returned (.bool true) ∧ Below w.heap.size w w' := by
  have HB : Hid ((len + len2 + 4) * 16 ≤ 211106232532992) := hb
  clear hb
  have HB1 : Hid ((len + 1) * 16 ≤ 211106232532992) := Nat.le_trans (Nat.mul_le_mul_right 16 (by omega : len + 1 ≤ len + len2 + 4)) HB.out
  have RH : Hid (TReads w a len cap l) := r
  have OH : Hid (OReads w a2 len2 cap2 sc) := o
  have HP : Hid (¬ ∀ t ∈ l, isProper t.1 t.2 = true) := hp
  clear r o hp
  go_enter Try.func5, Try.ntmps5
  go_wp2_with fail
  refine (add_none 1 1 _).mono ?_
  rintro x w1 ⟨rfl, B1⟩
  have S1 : Hid (Below w.heap.size w w1) := B1
  clear B1
  go_wp2_with fail
  refine (has_none 0 0 _).mono ?_
  rintro x w2 ⟨rfl, B2⟩
  have S2 : Hid (Below w.heap.size w w2) := S1.out.trans (B2.mono S1.out.size)
  clear B2 S1
  go_wp2_with fail
  refine (len_none _).mono ?_
  rintro x w3 ⟨rfl, B3⟩
  have S3 : Hid (Below w.heap.size w w3) := S2.out.trans (B3.mono S2.out.size)
  clear B3 S2
  go_wp2_with fail
  refine (cut_none 9 0 _).mono ?_
  rintro x w4 ⟨rfl, B4⟩
  have S4 : Hid (Below w.heap.size w w4) := S3.out.trans (B4.mono S3.out.size)
  clear B4 S3
  go_wp2_with fail
  refine (from_none 0 0 _).mono ?_
  rintro x w5 ⟨rfl, B5⟩
  have S5 : Hid (Below w.heap.size w w5) := S4.out.trans (B5.mono S4.out.size)
  clear B5 S4
  go_wp2_with fail
  refine (high_none 0 _).mono ?_
  rintro x w6 ⟨rfl, B6⟩
  have S6 : Hid (Below w.heap.size w (w6.alloc (.cells #[.int .i64 0, .int .i64 0] 24))) := by
    have b : Below w.heap.size w w6 := S5.out.trans (B6.mono S5.out.size)
    exact b.alloc b.size _
  clear B6 S5
  go_wp2_with fail
  refine (tags_g a len cap l w _ S6.out RH.out HB1.out).mono ?_
  rintro x w7 ⟨g, c, rfl, G7⟩
  clear S6
  go_wp2_with fail
  refine (newS_bad g c len l w _ G7.out HP.out HB1.out).mono ?_
  rintro x w8 ⟨rfl, G8⟩
  clear G7
  go_wp2_with fail
  refine (newR_bad g c len l a cap w _ G8.out RH.out HP.out HB1.out).mono ?_
  rintro x w9 ⟨rfl, G9⟩
  clear G8
  go_wp2_with fail
  refine (G9.out.kept_call a cap RH.out).mono ?_
  rintro x w10 ⟨rfl, G10⟩
  clear G9
  go_wp2_with fail
  go_ret
  exact ⟨rfl, G10.out.bel⟩
theorem tagSets (a a2 : Option Addr) (len cap len2 cap2 : Nat) (l : List (Int × Int)) (sc : List (Int × (Int × Int) × Int)) (w : World) (r : TReads w a len cap l) (o : OReads w a2 len2 cap2 sc) (hb : (len + len2 + 4) * 16 ≤ 211106232532992) :
    Calls Try.prog 5 #[.slice a len cap, .slice a2 len2 cap2] w fun x w' => x = .returned (.bool true) ∧ Below w.heap.size w w' := by
  by_cases hp : ∀ t ∈ l, isProper t.1 t.2 = true
  · exact tagSets_good a a2 len cap len2 cap2 l sc w r o hb hp
  · exact tagSets_bad a a2 len cap len2 cap2 l sc w r o hb hp
end Go.Proofs.Ytpgfmoddhjhlkaa
