import Derived.Test.YtpgfmoddhjhlkaaDoorText
namespace Go.Proofs.YtpgfmoddhjhlkaaDoor
open Go.RowKit

theorem isProper_iff (a b : Int) : isProper a b = true ↔ 1 ≤ a ∧ a ≤ 4611686018427387903 ∧ 1 ≤ b ∧ b ≤ 65535 := by simp [isProper]
theorem isZero_iff (a b : Int) : isZero a b = true ↔ a = 0 ∧ b = 0 := by simp [isZero]
theorem valid_bounds (a b : Int) (h : (isZero a b || isProper a b) = true) : 0 ≤ a ∧ a ≤ 4611686018427387903 ∧ 0 ≤ b ∧ b ≤ 65535 := by
  rcases Bool.or_eq_true_iff.1 h with q | q
  · have := (isZero_iff a b).1 q; omega
  · have := (isProper_iff a b).1 q; omega
theorem itoa_digs (a : Int) (h : 0 ≤ a) : Lib.itoa a = Lib.decDigits a.toNat := by
  unfold Lib.itoa
  rw [if_neg (by omega)]
theorem text_valid (a b : Int) (h : (isZero a b || isProper a b) = true) : textL a b = Lib.decDigits a.toNat ++ (46 :: Lib.decDigits b.toNat) := by
  have q := valid_bounds a b h
  unfold textL
  rw [if_pos h, itoa_digs a q.1, itoa_digs b q.2.2.1]
theorem text_none (a b : Int) (h : (isZero a b || isProper a b) = false) : textL a b = [] := by
  unfold textL
  rw [if_neg (by rw [h]; simp)]
/-- A tag comes back from its text. -/
theorem parseT_text (a b : Int) (h : (isZero a b || isProper a b) = true) : parseT (textL a b) = (a, b, 0) := by
  have q := valid_bounds a b h
  have e := text_valid a b h
  obtain ⟨l1, l2⟩ := left_digits (Lib.decDigits a.toNat) (Lib.decDigits b.toNat) (digs_digit _)
  unfold parseT
  rw [e, l1, l2, atoi_digs _ (by omega), atoi_digs _ (by omega)]
  simp only []
  rw [Int.toNat_of_nonneg q.1, Int.toNat_of_nonneg q.2.2.1, if_pos e]
/-- What is taken is a tag's text. -/
theorem parseT_cases (l : List UInt8) : (∃ p q, parseT l = (p, q, 0) ∧ (isZero p q || isProper p q) = true ∧ textL p q = l) ∨ (parseT l = (0, 0, 31) ∧ ∀ p q, (isZero p q || isProper p q) = true → textL p q ≠ l) := by
  have no : parseT l = (0, 0, 31) → ∀ p q, (isZero p q || isProper p q) = true → textL p q ≠ l := fun h p q hv e => by
    have := parseT_text p q hv
    rw [e, h] at this
    simp at this
  by_cases hp : ∃ c k, Lib.atoiAll (left l) = .ok c ∧ Lib.atoiAll (right l) = .ok k ∧ textL c k = l
  · obtain ⟨c, k, h1, h2, h3⟩ := hp
    refine .inl ⟨c, k, ?_, ?_, h3⟩
    · unfold parseT
      rw [h1, h2]
      simp only []
      rw [if_pos h3]
    · cases hv : isZero c k || isProper c k
      · rw [text_none c k hv] at h3
        subst h3
        simp [left, Lib.atoiAll] at h1
      · rfl
  · have h : parseT l = (0, 0, 31) := by
      unfold parseT
      cases e1 : Lib.atoiAll (left l) with
      | ok c =>
        cases e2 : Lib.atoiAll (right l) with
        | ok k =>
          simp only []
          rw [if_neg (fun e => hp ⟨c, k, e1, e2, e⟩)]
        | «syntax» => rfl
        | range => rfl
      | «syntax» => rfl
      | range => rfl
    exact .inr ⟨h, no h⟩
theorem text_12_3 : textL 12 3 = [49, 50, 46, 51] := by
  rw [text_valid 12 3 (by decide)]
  show Lib.decDigits 12 ++ (46 :: Lib.decDigits 3) = _
  rw [Lib.decDigits_two (by omega) (by omega), Lib.decDigits_one (by omega)]
  rfl
theorem text_0_0 : textL 0 0 = [48, 46, 48] := by
  rw [text_valid 0 0 (by decide)]
  show Lib.decDigits 0 ++ (46 :: Lib.decDigits 0) = _
  rw [Lib.decDigits_one (by omega)]
  rfl
/-- A tag's block is none of the variables'. -/
theorem var_set {w : World} {b : Nat} {x y : Int} (T : TagAt w b x y) {n : String} {cs : Array Value} (h : w.var? Tryd.prog n = some cs) (hc : cs ≠ #[.int .i64 x, .int .i64 y]) (i : Nat) (u : Value) : (w.setCell ⟨b, i, none⟩ u).var? Tryd.prog n = some cs := by
  unfold World.var? at h ⊢
  cases e : Tryd.prog.globalNamed n with
  | none => rw [e] at h; cases h
  | some g =>
    rw [e] at h
    simp only [Option.bind_some] at h ⊢
    have hg : g ≠ b := by
      intro q
      subst q
      rw [T.blk] at h
      simp at h
      exact hc h.symm
    rw [Below.heap_setCell w ⟨b, i, none⟩ u g hg]
    exact h
theorem Vars.set0 {w : World} (V : Vars w) {b : Nat} {x y : Int} (T : TagAt w b x y) {i : Nat} (u : Value) : Vars (w.setCell ⟨b, i, none⟩ u) := by
  refine ⟨var_set T V.tab ?_ i u, ?_, ?_⟩
  · intro e
    have := congrArg Array.size e
    simp [Lib.pow10Tab_length] at this
  · obtain ⟨tp, p, e⟩ := V.syn
    exact ⟨tp, p, var_set T e (by simp) i u⟩
  · obtain ⟨tp, p, e⟩ := V.rng
    exact ⟨tp, p, var_set T e (by simp) i u⟩
/-- Where the law stands. -/
structure TS (w wr : World) (a b : Int) : Prop where
  bel : Below w.heap.size w wr
  t : TagAt wr w.heap.size a b
  v : Vars wr
theorem TS.by {w wr w' : World} {a b : Int} (h : TS w wr a b) (B : Below wr.heap.size wr w') : TS w w' a b := ⟨h.bel.trans (B.mono h.bel.size), h.t.by B, h.v.by B⟩
theorem TS.alloc {w wr : World} {a b : Int} (h : TS w wr a b) (o : Obj) : TS w (wr.alloc o) a b := h.by ((Below.refl _ _).alloc (Nat.le_refl _) o)
theorem TagAt.facts2 {w : World} {b : Nat} {x y : Int} (h : TagAt w b x y) : w.cell? ⟨b, 0, none⟩ = some (.int .i64 x) ∧ w.cell? ⟨b, 1, none⟩ = some (.int .i64 y) ∧ b < w.heap.size := ⟨h.facts.1, h.facts.2.1, h.lt⟩
set_option maxRecDepth 100000 in
set_option maxHeartbeats 4000000 in
theorem tagTexts_walk (a b : Int) (s : ByteArray) (w : World) (ha : -9223372036854775808 ≤ a ∧ a < 9223372036854775808) (hb : -9223372036854775808 ≤ b ∧ b < 9223372036854775808) (hs : s.size ≤ 140737488355328) (V : Vars w) :
    Calls Tryd.prog 3 #[.agg #[.int .i64 a, .int .i64 b], .string s] w fun x w' => x = .returned (.bool true) ∧ Below w.heap.size w w' := by
  have B0 : Below w.heap.size w (w.alloc (Obj.cells #[.int .i64 a, .int .i64 b] 23)) := (Below.refl w.heap.size w).alloc (Nat.le_refl _) _
  have T0 : TagAt (w.alloc (Obj.cells #[.int .i64 a, .int .i64 b] 23)) w.heap.size a b := TagAt.new w a b
  have S0 : Hid (TS w (w.alloc (Obj.cells #[.int .i64 a, .int .i64 b] 23)) a b) := ⟨B0, T0, V.by B0⟩
  clear B0 T0 V
  obtain ⟨D, hD⟩ : ∃ D, (⟨(textL a b).toArray⟩ : ByteArray) = D := ⟨_, rfl⟩
  have DH : Hid ((⟨(textL a b).toArray⟩ : ByteArray) = D) := hD
  have cT : Hid (∀ w, Vars w → Calls Tryd.prog 5 #[.agg #[.int .i64 a, .int .i64 b]] w fun x w' => x = .returned (.string D) ∧ Below w.heap.size w w') := fun w V => by
    have := text a b w ha hb V
    rw [hD] at this
    exact this
  have dl : D.data.toList = textL a b := by rw [← hD]
  have DL : Hid (D.data.toList = textL a b) := dl
  have sD : D.size ≤ 140737488355328 := by
    show D.data.size ≤ _
    rw [← Array.length_toList, dl]
    cases hv : isZero a b || isProper a b
    · rw [text_none a b hv]; simp
    · have l1 := Lib.itoa_length_le a (by omega) (by omega)
      have l2 := Lib.itoa_length_le b (by omega) (by omega)
      unfold textL
      rw [if_pos hv]
      simp
      omega
  have DE : Hid (D.toList.isEmpty = !(isZero a b || isProper a b)) := by
    show D.toList.isEmpty = !(isZero a b || isProper a b)
    rw [Go.ByteArray.toList_eq, dl]
    cases hv : isZero a b || isProper a b
    · rw [text_none a b hv]; rfl
    · rw [text_valid a b hv]
      simp
  have SD : Hid (D.size ≤ 140737488355328 ∧ s.size ≤ 140737488355328) := ⟨sD, hs⟩
  clear hD dl sD hs
  go_enter Tryd.func3, Tryd.ntmps3
  go_upto_region 1 with fail
  go_cut [15] from 8 to 14 (fun x wc => x = .bool false ∧ Hid (TS w wc a b))
  case first =>
    go_wp2_with fail
    refine (text 12 3 _ (by omega) (by omega) S0.out.v).mono ?_
    rw [text_12_3]
    rintro x w1 ⟨rfl, B1⟩
    have S1 : Hid (TS w w1 a b) := S0.out.by B1
    clear B1 S0
    go_wp2_with fail
    refine (text 0 0 _ (by omega) (by omega) S1.out.v).mono ?_
    rw [text_0_0]
    rintro x w2 ⟨rfl, B2⟩
    have S2 : Hid (TS w w2 a b) := S1.out.by B2
    clear B2 S1
    go_wp2_with fail
    go_meet
    case rel => exact ⟨by simp, S2.out⟩
  case rest =>
  clear S0
  obtain ⟨rfl, S1⟩ := hcut
  obtain ⟨t0, t1, t2⟩ := S1.out.t.facts2
  go_wp2_with fail
  refine (cT.out _ S1.out.v).mono ?_
  rintro x w2 ⟨rfl, B2⟩
  have S2 : Hid (TS w w2 a b) := S1.out.by B2
  clear B2 S1 t0 t1 t2
  obtain ⟨t0, t1, t2⟩ := S2.out.t.facts2
  go_wp2_with fail
  refine (valid a b _).mono ?_
  rintro x w3 ⟨rfl, B3⟩
  have S3 : Hid (TS w w3 a b) := S2.out.by B3
  clear B3 S2 t0 t1 t2
  obtain ⟨t0, t1, t2⟩ := S3.out.t.facts2
  have de := DE.out
  obtain ⟨vv, hvv⟩ : ∃ v, (isZero a b || isProper a b) = v := ⟨_, rfl⟩
  rw [hvv] at de
  have HV : Hid ((isZero a b || isProper a b) = vv) := hvv
  rw [hvv]
  clear DE hvv
  have cD : Hid (∀ w, Vars w → Calls Tryd.prog 7 #[.string D] w fun x w' => ∃ p q e, x = .returned (.tuple #[.agg #[.int .i64 p, .int .i64 q], .int .i64 e]) ∧ parseT (textL a b) = (p, q, e) ∧ Below w.heap.size w w') := fun w V => by
    have := parse D w SD.out.1 V
    rw [DL.out] at this
    exact this
  cases vv
  case' false => have de' : D.toList.isEmpty = true := de
  case' true => have de' : D.toList.isEmpty = false := de
  all_goals clear de
  case false =>
    go_upto_region 6 with fail
    go_cut [6, 7] from 23 to 27 (fun s6 s7 wc => ∃ X p q e, s6 = .pointer (some ⟨X, 0, none⟩) ∧ s7 = .int .i64 e ∧ Hid (w.heap.size < X ∧ TS w wc a b ∧ TagAt wc X p q))
    case first =>
      go_wp2_with fail
      refine (cD.out _ S3.out.v).mono ?_
      rintro x w4 ⟨p, q, e, rfl, hn, B4⟩
      have S4 : Hid (TS w w4 a b) := S3.out.by B4
      clear B4 S3 t0 t1 t2 hn
      go_wp2_with fail
      go_meet
      case rel => exact ⟨_, p, q, e, rfl, rfl, S4.out.t.lt, S4.out.alloc _, TagAt.new w4 p q⟩
    case rest =>
    clear S3 t0 t1 t2
    obtain ⟨X, p, q, e, rfl, rfl, S4⟩ := hcut
    go_upto_region 9 with fail
    obtain ⟨x0, x1, fx0, fx1⟩ := S4.out.2.2.facts
    have lx := S4.out.2.2.lt
    go_wp2_with fail
    refine (parse s _ SD.out.2 S4.out.2.1.v).mono ?_
    rintro x w5 ⟨p2, q2, e2, rfl, hn, B5⟩
    have S5 : Hid (TS w w5 a b ∧ TagAt w5 X p q) := ⟨S4.out.2.1.by B5, S4.out.2.2.by B5⟩
    have lx0 := S4.out.1
    clear B5 S4 x0 x1 fx0 fx1 lx
    obtain ⟨x0, x1, fx0, fx1⟩ := S5.out.2.facts
    have lx := S5.out.2.lt
    rcases parseT_cases s.data.toList with ⟨p3, q3, h1, h2, h3⟩ | ⟨h1, _⟩
    · rw [h1] at hn
      simp at hn
      obtain ⟨rfl, rfl, rfl⟩ := hn
      have S6 : TS w ((w5.setCell ⟨X, 0, none⟩ (.int .i64 p3)).setCell ⟨X, 1, none⟩ (.int .i64 q3)) a b ∧ TagAt ((w5.setCell ⟨X, 0, none⟩ (.int .i64 p3)).setCell ⟨X, 1, none⟩ (.int .i64 q3)) X p3 q3 :=
        ⟨⟨(S5.out.1.bel.setCell (by simp; omega) _).setCell (by simp; omega) _, (S5.out.1.t.other _ (by omega)).other _ (by omega), ((S5.out.1.v.set0 S5.out.2 _).set0 (S5.out.2.set0 _) _)⟩, (S5.out.2.set0 _).set1 _⟩
      have S6' : Hid (_ ∧ _) := S6
      clear S6
      have PB := valid_bounds p3 q3 h2
      have TXS : Hid (⟨(textL p3 q3).toArray⟩ = s) := by
        show (⟨(textL p3 q3).toArray⟩ : ByteArray) = s
        rw [h3]
      clear h1 h3
      go_wp2_with fail
      refine (valid p3 q3 _).mono ?_
      rintro x w7 ⟨rfl, B7⟩
      have S7 : Hid (TS w w7 a b ∧ TagAt w7 X p3 q3) := ⟨S6'.out.1.by B7, S6'.out.2.by B7⟩
      clear B7 S6' x0 x1 fx0 fx1
      obtain ⟨x0, x1, x2⟩ := S7.out.2.facts2
      go_wp2_with fail
      refine (text p3 q3 _ (by omega) (by omega) S7.out.1.v).mono ?_
      rw [TXS.out]
      rintro x w8 ⟨rfl, B8⟩
      have B8 : Hid (Below w.heap.size w w8) := S7.out.1.bel.trans (B8.mono S7.out.1.bel.size)
      go_wp2_with fail
      go_ret
      exact ⟨by simp, B8.out⟩
    · rw [h1] at hn
      simp at hn
      obtain ⟨rfl, rfl, rfl⟩ := hn
      have S6 : Below w.heap.size w ((w5.setCell ⟨X, 0, none⟩ (.int .i64 0)).setCell ⟨X, 1, none⟩ (.int .i64 0)) := (S5.out.1.bel.setCell (by simp; omega) _).setCell (by simp; omega) _
      have S6' : Hid (Below _ _ _) := S6
      clear S6 h1
      go_wp2_with fail
      go_ret
      exact ⟨by simp, S6'.out⟩
  case true =>
    go_upto_region 6 with fail
    go_cut [6, 7] from 23 to 27 (fun s6 s7 wc => ∃ X, s6 = .pointer (some ⟨X, 0, none⟩) ∧ s7 = .int .i64 0 ∧ Hid (w.heap.size < X ∧ TS w wc a b ∧ TagAt wc X a b))
    case first =>
      go_wp2_with fail
      refine (cD.out _ S3.out.v).mono ?_
      rw [parseT_text a b HV.out]
      rintro x w4 ⟨p, q, e, rfl, hn, B4⟩
      simp at hn
      obtain ⟨rfl, rfl, rfl⟩ := hn
      have S4 : Hid (TS w w4 a b) := S3.out.by B4
      clear B4 S3 t0 t1 t2
      go_wp2_with fail
      go_meet
      case rel => exact ⟨_, rfl, rfl, S4.out.t.lt, S4.out.alloc _, TagAt.new w4 a b⟩
    case rest =>
    clear S3 t0 t1 t2
    obtain ⟨X, rfl, rfl, S4⟩ := hcut
    obtain ⟨t0, t1, t2⟩ := S4.out.2.1.t.facts2
    obtain ⟨x0, x1, x2⟩ := S4.out.2.2.facts2
    go_upto_region 9 with fail
    clear t0 t1 t2 x0 x1 x2
    obtain ⟨x0, x1, fx0, fx1⟩ := S4.out.2.2.facts
    have lx := S4.out.2.2.lt
    go_wp2_with fail
    refine (parse s _ SD.out.2 S4.out.2.1.v).mono ?_
    rintro x w5 ⟨p2, q2, e2, rfl, hn, B5⟩
    have S5 : Hid (TS w w5 a b ∧ TagAt w5 X a b) := ⟨S4.out.2.1.by B5, S4.out.2.2.by B5⟩
    have lx0 := S4.out.1
    clear B5 S4 x0 x1 fx0 fx1 lx
    obtain ⟨x0, x1, fx0, fx1⟩ := S5.out.2.facts
    have lx := S5.out.2.lt
    rcases parseT_cases s.data.toList with ⟨p3, q3, h1, h2, h3⟩ | ⟨h1, _⟩
    · rw [h1] at hn
      simp at hn
      obtain ⟨rfl, rfl, rfl⟩ := hn
      have S6 : TS w ((w5.setCell ⟨X, 0, none⟩ (.int .i64 p3)).setCell ⟨X, 1, none⟩ (.int .i64 q3)) a b ∧ TagAt ((w5.setCell ⟨X, 0, none⟩ (.int .i64 p3)).setCell ⟨X, 1, none⟩ (.int .i64 q3)) X p3 q3 :=
        ⟨⟨(S5.out.1.bel.setCell (by simp; omega) _).setCell (by simp; omega) _, (S5.out.1.t.other _ (by omega)).other _ (by omega), ((S5.out.1.v.set0 S5.out.2 _).set0 (S5.out.2.set0 _) _)⟩, (S5.out.2.set0 _).set1 _⟩
      have S6' : Hid (_ ∧ _) := S6
      clear S6
      have PB := valid_bounds p3 q3 h2
      have TXS : Hid (⟨(textL p3 q3).toArray⟩ = s) := by
        show (⟨(textL p3 q3).toArray⟩ : ByteArray) = s
        rw [h3]
      clear h1 h3
      go_wp2_with fail
      refine (valid p3 q3 _).mono ?_
      rintro x w7 ⟨rfl, B7⟩
      have S7 : Hid (TS w w7 a b ∧ TagAt w7 X p3 q3) := ⟨S6'.out.1.by B7, S6'.out.2.by B7⟩
      clear B7 S6' x0 x1 fx0 fx1
      obtain ⟨x0, x1, x2⟩ := S7.out.2.facts2
      go_wp2_with fail
      refine (text p3 q3 _ (by omega) (by omega) S7.out.1.v).mono ?_
      rw [TXS.out]
      rintro x w8 ⟨rfl, B8⟩
      have B8 : Hid (Below w.heap.size w w8) := S7.out.1.bel.trans (B8.mono S7.out.1.bel.size)
      go_wp2_with fail
      go_ret
      exact ⟨by simp, B8.out⟩
    · rw [h1] at hn
      simp at hn
      obtain ⟨rfl, rfl, rfl⟩ := hn
      have S6 : Below w.heap.size w ((w5.setCell ⟨X, 0, none⟩ (.int .i64 0)).setCell ⟨X, 1, none⟩ (.int .i64 0)) := (S5.out.1.bel.setCell (by simp; omega) _).setCell (by simp; omega) _
      have S6' : Hid (Below _ _ _) := S6
      clear S6 h1
      go_wp2_with fail
      go_ret
      exact ⟨by simp, S6'.out⟩
end Go.Proofs.YtpgfmoddhjhlkaaDoor
