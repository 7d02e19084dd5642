import Derived.Test.YtpgfmoddhjhlkaaMax
namespace Go.Proofs.Ytpgfmoddhjhlkaa
open Go.RowKit

theorem TagAt.facts3 {w : World} {b : Nat} {x y : Int} (h : TagAt w b x y) : w.cell? ⟨b, 0, none⟩ = some (.int .i64 x) ∧ w.cell? ⟨b, 1, none⟩ = some (.int .i64 y) ∧ b < w.heap.size := ⟨h.facts.1, h.facts.2.1, h.lt⟩
theorem icmp_three (a b : Int) : (a < b ∧ icmp a b = -1) ∨ (a = b ∧ icmp a b = 0) ∨ (b < a ∧ icmp a b = 1) := by
  unfold icmp
  by_cases h : a < b
  · exact .inl ⟨h, by simp [h]⟩
  · by_cases h2 : b < a
    · exact .inr (.inr ⟨h2, by simp [h, h2]⟩)
    · exact .inr (.inl ⟨by omega, by simp [h, h2]⟩)
theorem tcmp_three (a b c d : Int) : ((a < c ∨ a = c ∧ b < d) ∧ tcmp a b c d = -1) ∨ (a = c ∧ b = d ∧ tcmp a b c d = 0) ∨ ((c < a ∨ a = c ∧ d < b) ∧ tcmp a b c d = 1) := by
  unfold tcmp orI
  rcases icmp_three a c with ⟨h, e⟩ | ⟨h, e⟩ | ⟨h, e⟩
  · rw [e]; exact .inl ⟨.inl h, rfl⟩
  · rw [e]
    rcases icmp_three b d with ⟨h', e'⟩ | ⟨h', e'⟩ | ⟨h', e'⟩
    · rw [e']; exact .inl ⟨.inr ⟨h, h'⟩, rfl⟩
    · rw [e']; exact .inr (.inl ⟨h, h', rfl⟩)
    · rw [e']; exact .inr (.inr ⟨.inr ⟨h, h'⟩, rfl⟩)
  · rw [e]; exact .inr (.inr ⟨.inl h, rfl⟩)

/-- Five ways in which two tags lie. -/
theorem tcmp_five (a b c d : Int) : (a < c ∧ tcmp a b c d = -1 ∧ tcmp c d a b = 1) ∨ (a = c ∧ b < d ∧ tcmp a b c d = -1 ∧ tcmp c d a b = 1) ∨ (a = c ∧ b = d ∧ tcmp a b c d = 0 ∧ tcmp c d a b = 0) ∨ (c < a ∧ tcmp a b c d = 1 ∧ tcmp c d a b = -1) ∨ (a = c ∧ d < b ∧ tcmp a b c d = 1 ∧ tcmp c d a b = -1) := by
  have h1 := tcmp_three a b c d
  have h2 := tcmp_three c d a b
  omega
theorem tcmp_self (a b : Int) : tcmp a b a b = 0 := by have := tcmp_three a b a b; omega
/-- Where the law stands. -/
structure OS (w wr : World) (a1 a2 b1 b2 c1 c2 : Int) : Prop where
  bel : Below w.heap.size w wr
  a : TagAt wr w.heap.size a1 a2
  b : TagAt wr (w.heap.size + 1) b1 b2
  c : TagAt wr (w.heap.size + 1 + 1) c1 c2
theorem OS.by {w wr w' : World} {a1 a2 b1 b2 c1 c2 : Int} (h : OS w wr a1 a2 b1 b2 c1 c2) (B : Below wr.heap.size wr w') : OS w w' a1 a2 b1 b2 c1 c2 := ⟨h.bel.trans (B.mono h.bel.size), h.a.by B, h.b.by B, h.c.by B⟩
theorem OS.alloc {w wr : World} {a1 a2 b1 b2 c1 c2 : Int} (h : OS w wr a1 a2 b1 b2 c1 c2) (o : Obj) : OS w (wr.alloc o) a1 a2 b1 b2 c1 c2 := ⟨h.bel.alloc h.bel.size o, h.a.alloc o, h.b.alloc o, h.c.alloc o⟩
/-- What the greatest of three is. -/
theorem maxT_three (a1 a2 b1 b2 c1 c2 m1 m2 : Int) (h : maxT [(a1, a2), (b1, b2), (c1, c2)] = (m1, m2)) :
    ((m1 = a1 ∧ m2 = a2) ∨ (m1 = b1 ∧ m2 = b2) ∨ (m1 = c1 ∧ m2 = c2)) ∧ 0 ≤ tcmp m1 m2 a1 a2 ∧ 0 ≤ tcmp m1 m2 b1 b2 ∧ 0 ≤ tcmp m1 m2 c1 c2 := by
  unfold maxT maxFrom maxFrom maxFrom at h
  simp only [] at h
  have h1 := tcmp_three b1 b2 a1 a2
  have h2 := tcmp_three c1 c2 a1 a2
  have h3 := tcmp_three c1 c2 b1 b2
  have g1 := tcmp_three m1 m2 a1 a2
  have g2 := tcmp_three m1 m2 b1 b2
  have g3 := tcmp_three m1 m2 c1 c2
  by_cases p : 0 < tcmp b1 b2 a1 a2
  · rw [if_pos p] at h
    simp only [] at h
    by_cases q : 0 < tcmp c1 c2 b1 b2
    · rw [if_pos q] at h
      simp at h; omega
    · rw [if_neg q] at h
      simp at h; omega
  · rw [if_neg p] at h
    simp only [] at h
    by_cases q : 0 < tcmp c1 c2 a1 a2
    · rw [if_pos q] at h
      simp at h; omega
    · rw [if_neg q] at h
      simp at h; omega
set_option maxRecDepth 100000 in
set_option maxHeartbeats 4000000 in
theorem tagOrder_walk (a1 a2 b1 b2 c1 c2 : Int) (w : World)
    (fa : (-9223372036854775808 ≤ a1 ∧ a1 < 9223372036854775808) ∧ (-9223372036854775808 ≤ a2 ∧ a2 < 9223372036854775808)) (fb : (-9223372036854775808 ≤ b1 ∧ b1 < 9223372036854775808) ∧ (-9223372036854775808 ≤ b2 ∧ b2 < 9223372036854775808)) (fc : (-9223372036854775808 ≤ c1 ∧ c1 < 9223372036854775808) ∧ (-9223372036854775808 ≤ c2 ∧ c2 < 9223372036854775808)) :
    Calls Try.prog 4 #[.agg #[.int .i64 a1, .int .i64 a2], .agg #[.int .i64 b1, .int .i64 b2], .agg #[.int .i64 c1, .int .i64 c2]] w fun x w' => x = .returned (.bool true) ∧ Below w.heap.size w w' := by
  have S0 : OS w (((w.alloc (Obj.cells #[.int .i64 a1, .int .i64 a2] 24)).alloc (Obj.cells #[.int .i64 b1, .int .i64 b2] 24)).alloc (Obj.cells #[.int .i64 c1, .int .i64 c2] 24)) a1 a2 b1 b2 c1 c2 :=
    ⟨(((Below.refl _ _).alloc (Nat.le_refl _) _).alloc (by simp) _).alloc (by simp; omega) _, ((TagAt.new w a1 a2).alloc _).alloc _, by simpa using (TagAt.new (w.alloc (Obj.cells #[.int .i64 a1, .int .i64 a2] 24)) b1 b2).alloc _, by simpa using TagAt.new ((w.alloc (Obj.cells #[.int .i64 a1, .int .i64 a2] 24)).alloc (Obj.cells #[.int .i64 b1, .int .i64 b2] 24)) c1 c2⟩
  have FA : Hid (_ ∧ _ ∧ _) := And.intro fa (And.intro fb fc)
  have S0' : Hid (OS _ _ _ _ _ _ _ _) := S0
  clear S0 fa fb fc
  obtain ⟨X, hX⟩ : ∃ X, tcmp a1 a2 b1 b2 = X := ⟨_, rfl⟩
  obtain ⟨Y, hY⟩ : ∃ X, tcmp b1 b2 c1 c2 = X := ⟨_, rfl⟩
  obtain ⟨Z, hZ⟩ : ∃ X, tcmp a1 a2 c1 c2 = X := ⟨_, rfl⟩
  have HX : Hid (tcmp a1 a2 b1 b2 = X) := hX
  have HY : Hid (tcmp b1 b2 c1 c2 = Y) := hY
  have HZ : Hid (tcmp a1 a2 c1 c2 = Z) := hZ
  clear hX hY hZ
  go_enter Try.func4, Try.ntmps4
  obtain ⟨p0, p1, p2⟩ := S0'.out.a.facts3
  obtain ⟨q0, q1, q2⟩ := S0'.out.b.facts3
  obtain ⟨r0, r1, r2⟩ := S0'.out.c.facts3
  go_upto_region 1 with fail
  go_cut [7] from 11 to 13 (fun s wc => s = .int .i64 X ∧ Hid (OS w wc a1 a2 b1 b2 c1 c2))
  case first =>
    go_wp2_with fail
    refine (compare a1 a2 b1 b2 _).mono ?_
    rintro x w1 ⟨rfl, B1⟩
    have S1 : Hid (OS w w1 a1 a2 b1 b2 c1 c2) := S0'.out.by B1
    clear B1 S0' p0 p1 p2 q0 q1 q2 r0 r1 r2
    go_wp2_with fail
    go_meet
    case rel => exact ⟨by rw [HX.out], S1.out⟩
  case rest =>
  clear S0' p0 p1 p2 q0 q1 q2 r0 r1 r2
  obtain ⟨rfl, S2⟩ := hcut
  obtain ⟨p0, p1, p2⟩ := S2.out.a.facts3
  obtain ⟨q0, q1, q2⟩ := S2.out.b.facts3
  obtain ⟨r0, r1, r2⟩ := S2.out.c.facts3
  go_upto_region 2 with fail
  go_cut [8] from 14 to 16 (fun s wc => s = .int .i64 Y ∧ Hid (OS w wc a1 a2 b1 b2 c1 c2))
  case first =>
    go_wp2_with fail
    refine (compare b1 b2 c1 c2 _).mono ?_
    rintro x w1 ⟨rfl, B1⟩
    have S1 : Hid (OS w w1 a1 a2 b1 b2 c1 c2) := S2.out.by B1
    clear B1 S2 p0 p1 p2 q0 q1 q2 r0 r1 r2
    go_wp2_with fail
    go_meet
    case rel => exact ⟨by rw [HY.out], S1.out⟩
  case rest =>
  clear S2 p0 p1 p2 q0 q1 q2 r0 r1 r2
  obtain ⟨rfl, S3⟩ := hcut
  obtain ⟨p0, p1, p2⟩ := S3.out.a.facts3
  obtain ⟨q0, q1, q2⟩ := S3.out.b.facts3
  obtain ⟨r0, r1, r2⟩ := S3.out.c.facts3
  go_upto_region 3 with fail
  go_cut [9] from 17 to 19 (fun s wc => s = .int .i64 Z ∧ Hid (OS w wc a1 a2 b1 b2 c1 c2))
  case first =>
    go_wp2_with fail
    refine (compare a1 a2 c1 c2 _).mono ?_
    rintro x w1 ⟨rfl, B1⟩
    have S1 : Hid (OS w w1 a1 a2 b1 b2 c1 c2) := S3.out.by B1
    clear B1 S3 p0 p1 p2 q0 q1 q2 r0 r1 r2
    go_wp2_with fail
    go_meet
    case rel => exact ⟨by rw [HZ.out], S1.out⟩
  case rest =>
  clear S3 p0 p1 p2 q0 q1 q2 r0 r1 r2
  obtain ⟨rfl, S4⟩ := hcut
  obtain ⟨p0, p1, p2⟩ := S4.out.a.facts3
  obtain ⟨q0, q1, q2⟩ := S4.out.b.facts3
  obtain ⟨r0, r1, r2⟩ := S4.out.c.facts3
  go_upto_region 4 with fail
  go_cut [50] from 20 to 49 (fun s wc => s = .bool false ∧ Hid (OS w wc a1 a2 b1 b2 c1 c2))
  case first =>
    have ss := tcmp_self a1 a2
    have F5 := tcmp_five a1 a2 b1 b2
    rw [HX.out] at F5
    go_wp2_with fail
    refine (compare a1 a2 a1 a2 _).mono ?_
    rintro x w1 ⟨rfl, B1⟩
    have S5 : Hid (OS w w1 a1 a2 b1 b2 c1 c2) := S4.out.by B1
    clear B1 S4 p0 p1 p2 q0 q1 q2 r0 r1 r2
    obtain ⟨p0, p1, p2⟩ := S5.out.a.facts3
    obtain ⟨q0, q1, q2⟩ := S5.out.b.facts3
    have F6 : Hid (_ ∨ _) := F5
    clear F5
    go_wp2_with fail
    refine (compare b1 b2 a1 a2 _).mono ?_
    rintro x w2 ⟨rfl, B2⟩
    have S6 : Hid (OS w w2 a1 a2 b1 b2 c1 c2) := S5.out.by B2
    clear B2 S5 p0 p1 p2 q0 q1 q2 ss
    obtain ⟨p0, p1, p2⟩ := S6.out.a.facts3
    obtain ⟨q0, q1, q2⟩ := S6.out.b.facts3
    rcases F6.out with ⟨h1, h2, h3⟩ | ⟨h0, h1, h2, h3⟩ | ⟨h0, h1, h2, h3⟩ | ⟨h1, h2, h3⟩ | ⟨h0, h1, h2, h3⟩
    · subst h2
      have n1 : ¬ a1 = b1 := by omega
      clear F6 HX
      go_wp2_with fail
      go_meet
      case rel => exact ⟨by simp, S6.out⟩
    · subst h2
      clear F6 HX
      subst h0
      have n1 : ¬ a2 = b2 := by omega
      go_wp2_with fail
      go_meet
      case rel => exact ⟨by simp, S6.out⟩
    · subst h2
      clear F6 HX
      subst h0 h1
      go_wp2_with fail
      go_meet
      case rel => exact ⟨by simp, S6.out⟩
    · subst h2
      clear F6 HX
      have n1 : ¬ a1 = b1 := by omega
      have n2 : ¬ a1 < b1 := by omega
      go_wp2_with fail
      go_meet
      case rel => exact ⟨by simp, S6.out⟩
    · subst h2
      clear F6 HX
      subst h0
      have n1 : ¬ a2 = b2 := by omega
      go_wp2_with fail
      go_meet
      case rel => exact ⟨by simp, S6.out⟩
  case rest =>
  clear S4 p0 p1 p2 q0 q1 q2 r0 r1 r2
  obtain ⟨rfl, S5⟩ := hcut
  go_upto_region 6 with fail
  go_cut [71] from 51 to 70 (fun s wd => s = .bool false ∧ wd = wc)
  case first =>
    have F1 := tcmp_three a1 a2 b1 b2
    have F2 := tcmp_three b1 b2 c1 c2
    have F3 := tcmp_three a1 a2 c1 c2
    rw [HX.out] at F1
    rw [HY.out] at F2
    rw [HZ.out] at F3
    have F : Hid (X = 1 ∨ Y = 1 ∧ (X = 0 ∨ X = -1) ∨ X = 0 ∧ Y = 0 ∧ Z = 0 ∨ X = 0 ∧ Y = -1 ∧ Z = -1 ∨ X = -1 ∧ Y = 0 ∧ Z = -1 ∨ X = -1 ∧ Y = -1 ∧ Z = -1) := by
      show _ ∨ _
      omega
    clear F1 F2 F3
    rcases F.out with rfl | ⟨rfl, rfl | rfl⟩ | ⟨rfl, rfl, rfl⟩ | ⟨rfl, rfl, rfl⟩ | ⟨rfl, rfl, rfl⟩ | ⟨rfl, rfl, rfl⟩
    all_goals go_wp2_with fail
    all_goals go_meet
    all_goals exact ⟨by simp, rfl⟩
  case rest =>
  obtain ⟨rfl, rfl⟩ := hcut
  obtain ⟨p0, p1, p2⟩ := S5.out.a.facts3
  obtain ⟨q0, q1, q2⟩ := S5.out.b.facts3
  obtain ⟨r0, r1, r2⟩ := S5.out.c.facts3
  go_upto_region 8 with fail
  go_cut [84] from 72 to 83 (fun s wc => s = .bool false ∧ Hid (OS w wc a1 a2 b1 b2 c1 c2))
  case first =>
    go_wp2_with fail
    refine (valid a1 a2 _).mono ?_
    rintro x w1 ⟨rfl, B1⟩
    have S6 : Hid (OS w w1 a1 a2 b1 b2 c1 c2) := S5.out.by B1
    clear B1 S5 p0 p1 p2 q0 q1 q2 r0 r1 r2
    obtain ⟨p0, p1, p2⟩ := S6.out.a.facts3
    cases hv : isZero a1 a2 || isProper a1 a2
    · go_wp2_with fail
      go_meet
      case rel => exact ⟨by simp, S6.out⟩
    · go_wp2_with fail
      refine (zero a1 a2 _).mono ?_
      rintro x w2 ⟨rfl, B2⟩
      have S7 : Hid (OS w w2 a1 a2 b1 b2 c1 c2) := S6.out.by B2
      clear B2 S6 p0 p1 p2
      obtain ⟨p0, p1, p2⟩ := S7.out.a.facts3
      cases hz : isZero a1 a2
      · have hp : isProper a1 a2 = true := by rw [hz] at hv; simpa using hv
        have hpp : 1 ≤ a1 := by simp [isProper] at hp; omega
        have ht : tcmp 0 0 a1 a2 = -1 := by have := tcmp_three 0 0 a1 a2; omega
        go_wp2_with fail
        refine (compare 0 0 a1 a2 _).mono ?_
        rintro x w3 ⟨rfl, B3⟩
        have S8 : Hid (OS w w3 a1 a2 b1 b2 c1 c2) := S7.out.by B3
        clear B3 S7 p0 p1 p2
        go_wp2_with fail
        go_meet
        case rel => exact ⟨by simp, S8.out⟩
      · go_wp2_with fail
        go_meet
        case rel => exact ⟨by simp, S7.out⟩
  case rest =>
  clear S5 p0 p1 p2 q0 q1 q2 r0 r1 r2
  obtain ⟨rfl, S6⟩ := hcut
  obtain ⟨p0, p1, p2⟩ := S6.out.a.facts3
  obtain ⟨q0, q1, q2⟩ := S6.out.b.facts3
  obtain ⟨r0, r1, r2⟩ := S6.out.c.facts3
  go_upto_region 10 with fail
  go_cut [10] from 85 to 89 (fun s wc => ∃ M m1 m2, s = .pointer (some ⟨M, 0, none⟩) ∧ Hid (maxT [(a1, a2), (b1, b2), (c1, c2)] = (m1, m2) ∧ OS w wc a1 a2 b1 b2 c1 c2 ∧ TagAt wc M m1 m2))
  case first =>
    go_wp2_with fail
    refine (max_some _ 3 3 [(a1, a2), (b1, b2), (c1, c2)] _ ?_ (by omega)).mono ?_
    · refine ⟨rfl, by omega, by unfold maxLen; omega, ?_, fun _ => ⟨_, _, rfl, ?_⟩⟩
      · intro t ht
        simp at ht
        rcases ht with rfl | rfl | rfl
        · exact FA.out.1
        · exact FA.out.2.1
        · exact FA.out.2.2
      · intro i hi
        have : i = 0 ∨ i = 1 ∨ i = 2 := by omega
        rcases this with rfl | rfl | rfl <;> simp
    · obtain ⟨⟨m1, m2⟩, hm⟩ : ∃ m, maxT [(a1, a2), (b1, b2), (c1, c2)] = m := ⟨_, rfl⟩
      have HM : Hid (maxT [(a1, a2), (b1, b2), (c1, c2)] = (m1, m2)) := hm
      clear hm
      rw [HM.out]
      rintro x w1 ⟨rfl, B1⟩
      have S7 : Hid (OS w w1 a1 a2 b1 b2 c1 c2) := (S6.out.alloc _).by B1
      clear B1 S6 p0 p1 p2 q0 q1 q2 r0 r1 r2
      go_wp2_with fail
      go_meet
      case rel => exact ⟨_, m1, m2, rfl, HM.out, S7.out.alloc _, TagAt.new _ _ _⟩
  case rest =>
  clear S6 p0 p1 p2 q0 q1 q2 r0 r1 r2 FA HX HY HZ
  obtain ⟨M, m1, m2, rfl, S7⟩ := hcut
  have M3 := maxT_three a1 a2 b1 b2 c1 c2 m1 m2 S7.out.1
  have S7 : Hid (OS w wc a1 a2 b1 b2 c1 c2 ∧ TagAt wc M m1 m2) := S7.out.2
  obtain ⟨p0, p1, p2⟩ := S7.out.1.a.facts3
  obtain ⟨q0, q1, q2⟩ := S7.out.1.b.facts3
  obtain ⟨r0, r1, r2⟩ := S7.out.1.c.facts3
  obtain ⟨m0, mm1, mm2⟩ := S7.out.2.facts3
  obtain ⟨M3, ga, gb, gc⟩ := M3
  have MH : Hid (_ ∨ _) := M3
  clear M3
  go_upto_region 11 with fail
  go_cut [102] from 90 to 101 (fun s wd => s = .bool false ∧ wd = wc)
  case first =>
    rcases MH.out with ⟨h1, h2⟩ | ⟨h1, h2⟩ | ⟨h1, h2⟩
    · clear MH ga gb gc
      subst h1 h2
      go_wp2_with fail
      go_meet
      case rel => exact ⟨by simp, rfl⟩
    · clear MH ga gb gc
      subst h1 h2
      by_cases h1 : m1 = a1
      · subst h1
        by_cases h2 : m2 = a2
        · subst h2
          go_wp2_with fail
          go_meet
          case rel => exact ⟨by simp, rfl⟩
        · go_wp2_with fail
          go_meet
          case rel => exact ⟨by simp, rfl⟩
      · go_wp2_with fail
        go_meet
        case rel => exact ⟨by simp, rfl⟩
    · clear MH ga gb gc
      subst h1 h2
      by_cases h1 : m1 = a1 ∧ m2 = a2
      · obtain ⟨h1, h2⟩ := h1
        subst h1 h2
        go_wp2_with fail
        go_meet
        case rel => exact ⟨by simp, rfl⟩
      · by_cases h3 : m1 = b1 ∧ m2 = b2
        · obtain ⟨h1, h2⟩ := h3
          subst h1 h2
          by_cases k1 : m1 = a1
          · subst k1
            have k2 : ¬ m2 = a2 := fun e => h1 ⟨rfl, e⟩
            clear h1
            go_wp2_with fail
            go_meet
            case rel => exact ⟨by simp, rfl⟩
          · clear h1
            go_wp2_with fail
            go_meet
            case rel => exact ⟨by simp, rfl⟩
        · by_cases k1 : m1 = a1
          · subst k1
            have k2 : ¬ m2 = a2 := fun e => h1 ⟨rfl, e⟩
            clear h1
            by_cases k3 : m1 = b1
            · subst k3
              have k4 : ¬ m2 = b2 := fun e => h3 ⟨rfl, e⟩
              clear h3
              go_wp2_with fail
              go_meet
              case rel => exact ⟨by simp, rfl⟩
            · clear h3
              go_wp2_with fail
              go_meet
              case rel => exact ⟨by simp, rfl⟩
          · clear h1
            by_cases k3 : m1 = b1
            · subst k3
              have k4 : ¬ m2 = b2 := fun e => h3 ⟨rfl, e⟩
              clear h3
              go_wp2_with fail
              go_meet
              case rel => exact ⟨by simp, rfl⟩
            · clear h3
              go_wp2_with fail
              go_meet
              case rel => exact ⟨by simp, rfl⟩
  case rest =>
  obtain ⟨rfl, rfl⟩ := hcut
  go_wp2_with fail
  refine (compare m1 m2 a1 a2 _).mono ?_
  rintro x w1 ⟨rfl, B1⟩
  have S8 : Hid (OS w w1 a1 a2 b1 b2 c1 c2 ∧ TagAt w1 M m1 m2) := ⟨S7.out.1.by B1, S7.out.2.by B1⟩
  clear B1 S7 p0 p1 p2 q0 q1 q2 r0 r1 r2 m0 mm1 mm2
  obtain ⟨p0, p1, p2⟩ := S8.out.1.a.facts3
  obtain ⟨q0, q1, q2⟩ := S8.out.1.b.facts3
  obtain ⟨r0, r1, r2⟩ := S8.out.1.c.facts3
  obtain ⟨m0, mm1, mm2⟩ := S8.out.2.facts3
  go_wp2_with fail
  refine (compare m1 m2 b1 b2 _).mono ?_
  rintro x w2 ⟨rfl, B1⟩
  have S9 : Hid (OS w w2 a1 a2 b1 b2 c1 c2 ∧ TagAt w2 M m1 m2) := ⟨S8.out.1.by B1, S8.out.2.by B1⟩
  clear B1 S8 p0 p1 p2 q0 q1 q2 r0 r1 r2 m0 mm1 mm2
  obtain ⟨p0, p1, p2⟩ := S9.out.1.a.facts3
  obtain ⟨q0, q1, q2⟩ := S9.out.1.b.facts3
  obtain ⟨r0, r1, r2⟩ := S9.out.1.c.facts3
  obtain ⟨m0, mm1, mm2⟩ := S9.out.2.facts3
  go_wp2_with fail
  refine (compare m1 m2 c1 c2 _).mono ?_
  rintro x w3 ⟨rfl, B1⟩
  have S10 : Hid (OS w w3 a1 a2 b1 b2 c1 c2 ∧ TagAt w3 M m1 m2) := ⟨S9.out.1.by B1, S9.out.2.by B1⟩
  clear B1 S9 p0 p1 p2 q0 q1 q2 r0 r1 r2 m0 mm1 mm2
  go_wp2_with fail
  refine (max_none _).mono ?_
  rintro x w4 ⟨rfl, B1⟩
  have S11 : Hid (Below w.heap.size w w4) := S10.out.1.bel.trans (B1.mono S10.out.1.bel.size)
  clear B1 S10
  go_wp2_with fail
  refine (compare 2 1 1 9 _).mono ?_
  rintro x w5 ⟨rfl, B1⟩
  have S12 : Hid (Below w.heap.size w w5) := S11.out.trans (B1.mono S11.out.size)
  have t21 : tcmp 2 1 1 9 = 1 := rfl
  clear B1 S11
  go_wp2_with fail
  go_ret
  exact ⟨by simp, S12.out⟩
end Go.Proofs.Ytpgfmoddhjhlkaa
