import Derived.Test.YtpgfmoddhjhlkaaNext
import Derived.Deep.DeepCutAuto
namespace Go.Proofs.Ytpgfmoddhjhlkaa
open Go.RowKit

theorem TagAt.facts2 {w : World} {b : Nat} {x y : Int} (h : TagAt w b x y) : w.cell? ⟨b, 0, none⟩ = some (.int .i64 x) ∧ w.cell? ⟨b, 1, none⟩ = some (.int .i64 y) ∧ b < w.heap.size := ⟨h.facts.1, h.facts.2.1, h.lt⟩
/-- Where the law stands: all that was is as it was; its tag lies there. -/
structure NS (w wr : World) (a b : Int) : Prop where
  bel : Below w.heap.size w wr
  t : TagAt wr (w.heap.size + 1) a b
theorem NS.by {w wr w' : World} {a b : Int} (h : NS w wr a b) (B : Below wr.heap.size wr w') : NS w w' a b := ⟨h.bel.trans (B.mono h.bel.size), h.t.by B⟩
theorem NS.alloc {w wr : World} {a b : Int} (h : NS w wr a b) (o : Obj) : NS w (wr.alloc o) a b := ⟨h.bel.alloc h.bel.size o, h.t.alloc o⟩
theorem icmp_cases (a b : Int) : (a < b ∧ icmp a b = -1) ∨ (a = b ∧ icmp a b = 0) ∨ (b < a ∧ icmp a b = 1) := by
  unfold icmp
  by_cases h : a < b
  · exact .inl ⟨h, by simp [h]⟩
  · by_cases h2 : b < a
    · exact .inr (.inr ⟨h2, by simp [h, h2]⟩)
    · exact .inr (.inl ⟨by omega, by simp [h, h2]⟩)
theorem tcmp_cases (a b c d : Int) : ((a < c ∨ a = c ∧ b < d) ∧ tcmp a b c d = -1) ∨ (a = c ∧ b = d ∧ tcmp a b c d = 0) ∨ ((c < a ∨ a = c ∧ d < b) ∧ tcmp a b c d = 1) := by
  unfold tcmp orI
  rcases icmp_cases a c with ⟨h, e⟩ | ⟨h, e⟩ | ⟨h, e⟩
  · rw [e]; exact .inl ⟨.inl h, rfl⟩
  · rw [e]
    rcases icmp_cases b d with ⟨h', e'⟩ | ⟨h', e'⟩ | ⟨h', e'⟩
    · rw [e']; exact .inl ⟨.inr ⟨h, h'⟩, rfl⟩
    · rw [e']; exact .inr (.inl ⟨h, h', rfl⟩)
    · rw [e']; exact .inr (.inr ⟨.inr ⟨h, h'⟩, rfl⟩)
  · rw [e]; exact .inr (.inr ⟨.inl h, rfl⟩)
theorem isProper_iff (a b : Int) : isProper a b = true ↔ 1 ≤ a ∧ a ≤ 4611686018427387903 ∧ 1 ≤ b ∧ b ≤ 65535 := by simp [isProper]
theorem isZero_iff (a b : Int) : isZero a b = true ↔ a = 0 ∧ b = 0 := by simp [isZero]
theorem isClientB_iff (k : Int) : isClientB k = true ↔ 1 ≤ k ∧ k ≤ 65535 := by simp [isClientB]
/-- What Next answers. -/
theorem nextT_cases (a b u k : Int) : (∃ e, nextT a b u k = (0, 0, e) ∧ e ≠ 0 ∧ (e = 42 ∨ (isZero a b || isProper a b) = false ∨ u < 0 ∨ 4611686018427387903 < u ∨ isClientB k = false)) ∨
    (∃ p, nextT a b u k = (p, k, 0) ∧ isProper p k = true ∧ tcmp p k a b = 1 ∧ u < p ∧ 0 ≤ u ∧ isClientB k = true ∧ (isZero a b || isProper a b) = true ∧ (tcmp (p - 1) k a b = 1 → p - 1 ≤ u)) := by
  by_cases hv : (isZero a b || isProper a b) = false
  · exact .inl ⟨41, by simp [nextT, hv], by omega, .inr (.inl hv)⟩
  · by_cases hu : u < 0 ∨ 4611686018427387903 < u ∨ isClientB k = false
    · refine .inl ⟨1, by unfold nextT; rw [if_neg hv, if_pos hu], by omega, ?_⟩
      rcases hu with h | h | h <;> simp [h]
    · have hk : isClientB k = true := by cases h : isClientB k <;> simp_all
      have hv' : (isZero a b || isProper a b) = true := by cases h : (isZero a b || isProper a b) <;> simp_all
      by_cases hc : 4611686018427387903 < nextCount a b u k
      · exact .inl ⟨42, by unfold nextT; rw [if_neg hv, if_neg hu, if_pos hc], by omega, .inl rfl⟩
      · have hk' := (isClientB_iff k).1 hk
        have hvv : (a = 0 ∧ b = 0) ∨ (1 ≤ a ∧ a ≤ 4611686018427387903 ∧ 1 ≤ b ∧ b ≤ 65535) := by
          rcases Bool.or_eq_true_iff.1 hv' with h | h
          · exact .inl ((isZero_iff a b).1 h)
          · exact .inr ((isProper_iff a b).1 h)
        have hf : nextFirst a u = u + 1 ∧ a ≤ u + 1 ∨ nextFirst a u = a ∧ u + 1 < a := by
          unfold nextFirst; split
          · exact .inl ⟨rfl, by omega⟩
          · exact .inr ⟨rfl, by omega⟩
        have t1 := tcmp_cases (nextFirst a u) k a b
        have hn : (nextCount a b u k = nextFirst a u + 1 ∧ tcmp (nextFirst a u) k a b ≤ 0) ∨ (nextCount a b u k = nextFirst a u ∧ tcmp (nextFirst a u) k a b = 1) := by
          unfold nextCount; split
          · exact .inl ⟨rfl, by omega⟩
          · exact .inr ⟨rfl, by omega⟩
        refine .inr ⟨nextCount a b u k, by unfold nextT; rw [if_neg hv, if_neg hu, if_neg hc], ?_, ?_, ?_, by omega, hk, hv', ?_⟩
        · rw [isProper_iff]; omega
        · have t2 := tcmp_cases (nextCount a b u k) k a b; omega
        · omega
        · have t2 := tcmp_cases (nextCount a b u k - 1) k a b; omega
theorem nextT_again (a b p k : Int) (hv : (isZero a b || isProper a b) = true) (hp : isProper p k = true) (ht : tcmp p k a b = 1) : nextT a b p k = if p = 4611686018427387903 then (0, 0, 42) else (p + 1, k, 0) := by
  have h1 := (isProper_iff p k).1 hp
  have hk : isClientB k = true := (isClientB_iff k).2 ⟨h1.2.2.1, h1.2.2.2⟩
  have t1 := tcmp_cases p k a b
  have hf : nextFirst a p = p + 1 := by unfold nextFirst; rw [if_pos (by omega)]
  have t2 := tcmp_cases (p + 1) k a b
  have hc : nextCount a b p k = p + 1 := by unfold nextCount; rw [hf, if_neg (by omega)]
  unfold nextT
  rw [hc, if_neg (by simp [hv]), if_neg (by simp [hk]; omega)]
  by_cases h : p = 4611686018427387903
  · rw [if_pos h, if_pos (by omega)]
  · rw [if_neg h, if_neg (by omega)]
set_option maxRecDepth 100000 in
set_option maxHeartbeats 4000000 in
theorem tagNext_walk (v0 v8 : Value) (a b c d u k o : Int) (w : World) (ha : -9223372036854775808 ≤ a ∧ a < 9223372036854775808) (hu : -9223372036854775808 ≤ u ∧ u < 9223372036854775808) :
    Calls Try.prog 3 #[.agg #[v0, .int .i64 a, .int .i64 b, .int .i64 c, .int .i64 d, .int .i64 u, .int .i64 k, .int .i64 o, v8]] w fun x w' => x = .returned (.bool true) ∧ Below w.heap.size w w' := by
  have S1 : NS w ((w.alloc (Obj.cells #[v0, .int .i64 a, .int .i64 b, .int .i64 c, .int .i64 d, .int .i64 u, .int .i64 k, .int .i64 o, v8] 26)).alloc (Obj.cells #[.int .i64 a, .int .i64 b] 24)).drew a b := ⟨(((Below.refl _ _).alloc (Nat.le_refl _) _).alloc (by simp) _).drew, TagAt.drew (by simpa using TagAt.new (w.alloc (Obj.cells #[v0, .int .i64 a, .int .i64 b, .int .i64 c, .int .i64 d, .int .i64 u, .int .i64 k, .int .i64 o, v8] 26)) a b)⟩
  have S1' : Hid (NS _ _ _ _) := S1
  clear S1
  go_enter Try.func3, Try.ntmps3
  go_wp2_with fail
  go_region
  generalize ((w.alloc (Obj.cells #[v0, .int .i64 a, .int .i64 b, .int .i64 c, .int .i64 d, .int .i64 u, .int .i64 k, .int .i64 o, v8] 26)).alloc (Obj.cells #[.int .i64 a, .int .i64 b] 24)).drew = w1 at S1' ⊢
  go_upto_region 2 with fail
  go_cut [7, 8] from 23 to 27 (fun s7 s8 wc => ∃ F, s7 = .pointer (some ⟨F, 0, none⟩) ∧ s8 = .int .i64 0 ∧ Hid (NS w wc a b ∧ TagAt wc F 1 7))
  case first =>
    go_wp2_with fail
    refine (next 0 0 0 7 w1 (by omega) (by omega)).mono ?_
    rintro x w2 ⟨p, q, e, rfl, hn, B2⟩
    rw [show nextT 0 0 0 7 = (1, 7, 0) from rfl] at hn
    simp at hn
    obtain ⟨rfl, rfl, rfl⟩ := hn
    have S2 : Hid (NS w w2 a b) := S1'.out.by B2
    clear B2 S1'
    go_wp2_with fail
    go_meet
    case rel => exact ⟨_, rfl, rfl, S2.out.alloc _, TagAt.new w2 1 7⟩
  case rest =>
  clear S1'
  obtain ⟨F, rfl, rfl, S2⟩ := hcut
  obtain ⟨t0, t1, t2⟩ := S2.out.1.t.facts2
  obtain ⟨f0, f1, f2⟩ := S2.out.2.facts2
  go_upto_region 5 with fail
  go_cut [8, 9] from 35 to 41 (fun s8 s9 wd => ∃ X p q e, s9 = .pointer (some ⟨X, 0, none⟩) ∧ s8 = .int .i64 e ∧ Hid (nextT a b u k = (p, q, e) ∧ NS w wd a b ∧ TagAt wd X p q))
  case first =>
    go_wp2_with fail
    refine (next a b u k _ ha hu).mono ?_
    rintro x w3 ⟨p, q, e, rfl, hn, B3⟩
    have S3 : Hid (NS w w3 a b) := S2.out.1.by B3
    have hn' : Hid (nextT a b u k = (p, q, e)) := hn
    clear B3 S2 hn t0 t1 t2 f0 f1 f2
    go_wp2_with fail
    go_meet
    case rel => exact ⟨_, p, q, e, rfl, rfl, hn'.out, S3.out.alloc _, TagAt.new w3 p q⟩
  case rest =>
  clear S2 t0 t1 t2 f0 f1 f2
  obtain ⟨X, p, q, e, rfl, rfl, S3⟩ := hcut
  obtain ⟨t0, t1, t2⟩ := S3.out.2.1.t.facts2
  obtain ⟨x0, x1, x2⟩ := S3.out.2.2.facts2
  rcases nextT_cases a b u k with ⟨e', hn', he, _⟩ | ⟨p', hn', hp, ht, hup, hu0, hk, hv, hless⟩
  · have hn := S3.out.1
    rw [hn'] at hn
    simp at hn
    obtain ⟨rfl, rfl, rfl⟩ := hn
    clear hn'
    go_wp2_with fail
    go_ret
    exact ⟨by first | (simp; done) | (simp; omega), S3.out.2.1.bel⟩
  · have hn := S3.out.1
    rw [hn'] at hn
    simp at hn
    obtain ⟨rfl, rfl, rfl⟩ := hn
    have hpp := (isProper_iff p' k).1 hp
    have hz : isZero p' k = false := by cases h : isZero p' k; rfl; have := (isZero_iff p' k).1 h; omega
    have hzl : isZero (p' - 1) k = false := by cases h : isZero (p' - 1) k; rfl; have := (isZero_iff (p' - 1) k).1 h; omega
    have ag := nextT_again a b p' k hv hp ht
    have HL : Hid (tcmp (p' - 1) k a b = 1 → p' - 1 ≤ u) := hless
    have AG : Hid (nextT a b p' k = _) := ag
    have S3 : Hid (NS w wc a b ∧ TagAt wc X p' k) := S3.out.2
    clear ag hless hv hn' hk
    go_upto_region 8 with fail
    go_cut [71] from 47 to 70 (fun s wc => s = .bool false ∧ Hid (NS w wc a b ∧ TagAt wc X p' k))
    case first =>
      go_wp2_with fail
      refine (valid p' k _).mono ?_
      rintro x w4 ⟨rfl, B4⟩
      have S4 : Hid (NS w w4 a b ∧ TagAt w4 X p' k) := ⟨S3.out.1.by B4, S3.out.2.by B4⟩
      clear B4 t0 t1 t2 x0 x1 x2
      obtain ⟨t0, t1, t2⟩ := S4.out.1.t.facts2
      obtain ⟨x0, x1, x2⟩ := S4.out.2.facts2
      go_wp2_with fail
      refine (zero p' k _).mono ?_
      rintro x w5 ⟨rfl, B5⟩
      have S5 : Hid (NS w w5 a b ∧ TagAt w5 X p' k) := ⟨S4.out.1.by B5, S4.out.2.by B5⟩
      clear B5 t0 t1 t2 x0 x1 x2
      obtain ⟨t0, t1, t2⟩ := S5.out.1.t.facts2
      obtain ⟨x0, x1, x2⟩ := S5.out.2.facts2
      go_wp2_with fail
      refine (compare p' k a b _).mono ?_
      rintro x w6 ⟨rfl, B6⟩
      have S6 : Hid (NS w w6 a b ∧ TagAt w6 X p' k) := ⟨S5.out.1.by B6, S5.out.2.by B6⟩
      clear B6 t0 t1 t2 x0 x1 x2
      obtain ⟨x0, x1, x2⟩ := S6.out.2.facts2
      go_wp2_with fail
      go_meet
      case rel => exact ⟨by first | (simp; done) | (simp; omega), S6.out⟩
    case rest =>
    clear S3 t0 t1 t2 x0 x1 x2
    obtain ⟨rfl, S6⟩ := hcut
    obtain ⟨t0, t1, t2⟩ := S6.out.1.t.facts2
    obtain ⟨x0, x1, x2⟩ := S6.out.2.facts2
    go_upto_region 10 with fail
    go_cut [10] from 72 to 76 (fun s wd => ∃ Y, s = .pointer (some ⟨Y, 0, none⟩) ∧ Hid (NS w wd a b ∧ TagAt wd X p' k ∧ TagAt wd Y (p' - 1) k))
    case first =>
      go_wp2_with fail
      go_meet
      case rel => exact ⟨_, rfl, S6.out.1.alloc _, S6.out.2.alloc _, TagAt.new _ _ _⟩
    case rest =>
    clear S6 t0 t1 t2 x0 x1 x2
    obtain ⟨Y, rfl, S7⟩ := hcut
    obtain ⟨t0, t1, t2⟩ := S7.out.1.t.facts2
    obtain ⟨y0, y1, y2⟩ := S7.out.2.2.facts2
    go_upto_region 11 with fail
    go_cut [95] from 77 to 94 (fun s wc => s = .bool false ∧ Hid (NS w wc a b ∧ TagAt wc X p' k))
    case first =>
      go_wp2_with fail
      refine (valid (p' - 1) k _).mono ?_
      rintro x w4 ⟨rfl, B4⟩
      have S8 : Hid (NS w w4 a b ∧ TagAt w4 X p' k ∧ TagAt w4 Y (p' - 1) k) := ⟨S7.out.1.by B4, S7.out.2.1.by B4, S7.out.2.2.by B4⟩
      clear B4 t0 t1 t2 y0 y1 y2 S7
      obtain ⟨t0, t1, t2⟩ := S8.out.1.t.facts2
      obtain ⟨y0, y1, y2⟩ := S8.out.2.2.facts2
      cases hpl : isProper (p' - 1) k
      · go_wp2_with fail
        go_meet
        case rel => exact ⟨by first | (simp; done) | (simp; omega), S8.out.1, S8.out.2.1⟩
      · go_wp2_with fail
        refine (zero (p' - 1) k _).mono ?_
        rintro x w5 ⟨rfl, B5⟩
        have S9 : Hid (NS w w5 a b ∧ TagAt w5 X p' k ∧ TagAt w5 Y (p' - 1) k) := ⟨S8.out.1.by B5, S8.out.2.1.by B5, S8.out.2.2.by B5⟩
        clear B5 t0 t1 t2 y0 y1 y2 S8
        obtain ⟨t0, t1, t2⟩ := S9.out.1.t.facts2
        obtain ⟨y0, y1, y2⟩ := S9.out.2.2.facts2
        go_wp2_with fail
        refine (compare (p' - 1) k a b _).mono ?_
        rintro x w6 ⟨rfl, B6⟩
        have S10 : Hid (NS w w6 a b ∧ TagAt w6 X p' k ∧ TagAt w6 Y (p' - 1) k) := ⟨S9.out.1.by B6, S9.out.2.1.by B6, S9.out.2.2.by B6⟩
        clear B6 t0 t1 t2 y0 y1 y2 S9
        obtain ⟨y0, y1, y2⟩ := S10.out.2.2.facts2
        by_cases hle : tcmp (p' - 1) k a b = 1
        · have hlu := HL.out hle
          go_wp2_with fail
          go_meet
          case rel => exact ⟨by first | (simp; done) | (simp; omega), S10.out.1, S10.out.2.1⟩
        · go_wp2_with fail
          go_meet
          case rel => exact ⟨by first | (simp; done) | (simp; omega), S10.out.1, S10.out.2.1⟩
    case rest =>
    clear S7 t0 t1 t2 y0 y1 y2 hzl HL
    obtain ⟨rfl, S8⟩ := hcut
    obtain ⟨t0, t1, t2⟩ := S8.out.1.t.facts2
    go_upto_region 13 with fail
    go_cut [11, 12] from 96 to 102 (fun s11 s12 wd => ∃ Z p2 q2 e2, s11 = .pointer (some ⟨Z, 0, none⟩) ∧ s12 = .int .i64 e2 ∧ Hid (nextT a b u o = (p2, q2, e2) ∧ NS w wd a b ∧ TagAt wd X p' k ∧ TagAt wd Z p2 q2))
    case first =>
      go_wp2_with fail
      refine (next a b u o _ ha hu).mono ?_
      rintro x w3 ⟨p2, q2, e2, rfl, hn, B3⟩
      have S9 : Hid (NS w w3 a b ∧ TagAt w3 X p' k) := ⟨S8.out.1.by B3, S8.out.2.by B3⟩
      have hn' : Hid (nextT a b u o = (p2, q2, e2)) := hn
      clear B3 S8 hn t0 t1 t2
      go_wp2_with fail
      go_meet
      case rel => exact ⟨_, p2, q2, e2, rfl, rfl, hn'.out, S9.out.1.alloc _, S9.out.2.alloc _, TagAt.new _ _ _⟩
    case rest =>
    clear S8 t0 t1 t2
    obtain ⟨Z, p2, q2, e2, rfl, rfl, S9⟩ := hcut
    obtain ⟨x0, x1, x2⟩ := S9.out.2.2.1.facts2
    obtain ⟨z0, z1, z2⟩ := S9.out.2.2.2.facts2
    have hq : e2 = 0 → q2 = o := by
      intro h0
      have hn2 := S9.out.1
      rcases nextT_cases a b u o with ⟨e', hn', he, _⟩ | ⟨p'', hn', _⟩
      · rw [hn'] at hn2; simp at hn2; omega
      · rw [hn'] at hn2; simp at hn2; omega
    have hq' : Hid (e2 = 0 → q2 = o) := hq
    clear hq
    go_upto_region 14 with fail
    go_cut [114] from 103 to 113 (fun s wc => s = .bool false ∧ Hid (NS w wc a b ∧ TagAt wc X p' k))
    case first =>
      by_cases he2 : e2 = 0
      · have hqo := hq'.out he2
        subst hqo
        subst he2
        by_cases hok : q2 = k
        · subst hok
          go_wp2_with fail
          go_meet
          case rel => exact ⟨by first | (simp; done) | (simp; omega), S9.out.2.1, S9.out.2.2.1⟩
        · go_wp2_with fail
          all_goals go_meet
          all_goals exact ⟨by first | (simp; done) | (simp; omega), S9.out.2.1, S9.out.2.2.1⟩
      · go_wp2_with fail
        go_meet
        case rel => exact ⟨by first | (simp; done) | (simp; omega), S9.out.2.1, S9.out.2.2.1⟩
    case rest =>
    clear S9 x0 x1 x2 z0 z1 z2 hq'
    obtain ⟨rfl, S10⟩ := hcut
    obtain ⟨t0, t1, t2⟩ := S10.out.1.t.facts2
    obtain ⟨x0, x1, x2⟩ := S10.out.2.facts2
    go_upto_region 16 with fail
    go_cut [13, 14] from 115 to 122 (fun s13 s14 wd => ∃ Z p3 q3 e3, s13 = .pointer (some ⟨Z, 0, none⟩) ∧ s14 = .int .i64 e3 ∧ Hid (nextT a b p' k = (p3, q3, e3) ∧ NS w wd a b ∧ TagAt wd X p' k ∧ TagAt wd Z p3 q3))
    case first =>
      go_wp2_with fail
      refine (next a b p' k _ ha (by omega)).mono ?_
      rintro x w3 ⟨p3, q3, e3, rfl, hn, B3⟩
      have S11 : Hid (NS w w3 a b ∧ TagAt w3 X p' k) := ⟨S10.out.1.by B3, S10.out.2.by B3⟩
      have hn' : Hid (nextT a b p' k = (p3, q3, e3)) := hn
      clear B3 S10 hn t0 t1 t2 x0 x1 x2
      go_wp2_with fail
      go_meet
      case rel => exact ⟨_, p3, q3, e3, rfl, rfl, hn'.out, S11.out.1.alloc _, S11.out.2.alloc _, TagAt.new _ _ _⟩
    case rest =>
    clear S10 t0 t1 t2 x0 x1 x2
    obtain ⟨Z, p3, q3, e3, rfl, rfl, S11⟩ := hcut
    obtain ⟨x0, x1, x2⟩ := S11.out.2.2.1.facts2
    obtain ⟨z0, z1, z2⟩ := S11.out.2.2.2.facts2
    have hn3 := S11.out.1
    rw [AG.out] at hn3
    by_cases hm : p' = 4611686018427387903
    · rw [if_pos hm] at hn3
      simp at hn3
      obtain ⟨rfl, rfl, rfl⟩ := hn3
      go_wp2_with fail
      go_ret
      exact ⟨by first | (simp; done) | (simp; omega), S11.out.2.1.bel⟩
    · rw [if_neg hm] at hn3
      simp at hn3
      obtain ⟨rfl, rfl, rfl⟩ := hn3
      have hgt : tcmp (p' + 1) k p' k = 1 := by have := tcmp_cases (p' + 1) k p' k; omega
      go_wp2_with fail
      refine (compare (p' + 1) k p' k _).mono ?_
      rintro x we ⟨rfl, Be⟩
      have Be : Hid (Below w.heap.size w we) := S11.out.2.1.bel.trans (Be.mono S11.out.2.1.bel.size)
      go_wp2_with fail
      go_ret
      exact ⟨by simp, Be.out⟩
end Go.Proofs.Ytpgfmoddhjhlkaa
