import Derived.Test.YtpgfmoddhjhlkaaDoorTextsWalk
import Derived.Test.YtpgfmoddhjhlkaaDoorRef
namespace Go.Proofs.YtpgfmoddhjhlkaaDoor
open Go.RowKit

/-- A row of one byte as a text. -/
theorem digs_step (n : Nat) (h : ¬ n < 10) : Lib.decDigits n = Lib.decDigits (n / 10) ++ [UInt8.ofNat (48 + n % 10)] := by
  rw [Lib.decDigits, dif_neg h]
/-- A row of one byte as a text. -/
theorem one_string (w : World) (d : Nat) (hd : d < 256) : (convert 58 9 (.slice (some ⟨w.heap.size, 0, none⟩) 1 1)).run Tryd.prog (w.alloc (.cells #[.int .u8 (d : Int)] 5)) = .ok (.string ⟨#[UInt8.ofNat d]⟩) (w.alloc (.cells #[.int .u8 (d : Int)] 5)) := by
  have := run_convert_bytes_back (P := Tryd.prog) (w.alloc (.cells #[.int .u8 (d : Int)] 5)) 58 9 5 ⟨w.heap.size, 0, none⟩ 1 [UInt8.ofNat d] Tryd.underlying58 Tryd.underlying5 Tryd.underlying9 (fun j hj => by
    have : j = 0 := by simpa using hj
    subst this
    have e : (⟨w.heap.size, 0, none⟩ : Addr).add 0 = ⟨w.heap.size, 0, none⟩ := by unfold Addr.add; split <;> simp_all
    rw [e]
    simp
    omega)
  exact this
structure DG (n : Nat) (k m : Nat) (S : ByteArray) : Prop where
  le : m ≤ n
  sz : S.size ≤ 21
  st : (S.size = 0 ∧ m = n ∧ k = n + 1) ∨ (S.size ≠ 0 ∧ k = m ∧ ((m = 0 ∧ S.data.toList = Lib.decDigits n) ∨ (0 < m ∧ Lib.decDigits m ++ S.data.toList = Lib.decDigits n)))
theorem size_list (S : ByteArray) : S.data.toList.length = S.size := by rw [Array.length_toList]; rfl
theorem empty_of (S : ByteArray) (h : S.size = 0) : S = ⟨#[]⟩ := by
  apply ByteArray.ext
  exact Array.eq_empty_of_size_eq_zero h
theorem DG.step {n k m : Nat} {S : ByteArray} (h : DG n k m S) (hn : n < 9223372036854775808) (hr : 0 < m ∨ S.size = 0) :
    DG n (m / 10) (m / 10) ((⟨#[UInt8.ofNat (48 + m % 10)]⟩ : ByteArray) ++ S) ∧ m / 10 < k := by
  have lim := Lib.itoa_length_le (n : Int) (by omega) (by omega)
  rw [Lib.itoa_nonneg] at lim
  have dl : ((⟨#[UInt8.ofNat (48 + m % 10)]⟩ : ByteArray) ++ S).data.toList = UInt8.ofNat (48 + m % 10) :: S.data.toList := by simp
  have sl := size_list ((⟨#[UInt8.ofNat (48 + m % 10)]⟩ : ByteArray) ++ S)
  rw [dl, List.length_cons, size_list] at sl
  have key : ((m / 10 = 0 ∧ UInt8.ofNat (48 + m % 10) :: S.data.toList = Lib.decDigits n) ∨ (0 < m / 10 ∧ Lib.decDigits (m / 10) ++ (UInt8.ofNat (48 + m % 10) :: S.data.toList) = Lib.decDigits n)) := by
    have whole : Lib.decDigits m ++ S.data.toList = Lib.decDigits n := by
      rcases h.st with ⟨h1, h2, h3⟩ | ⟨h1, h2, ⟨h3, h4⟩ | ⟨h3, h4⟩⟩
      · rw [empty_of S h1, h2]; simp
      · omega
      · exact h4
    by_cases hm : m < 10
    · left
      refine ⟨by omega, ?_⟩
      rw [Lib.decDigits_one hm] at whole
      rw [← whole, Nat.mod_eq_of_lt hm]
      rfl
    · right
      refine ⟨by omega, ?_⟩
      rw [digs_step m hm] at whole
      rw [← whole, List.append_assoc]
      rfl
  refine ⟨⟨by have := h.le; omega, ?_, .inr ⟨by omega, rfl, ?_⟩⟩, ?_⟩
  · rcases key with ⟨_, e⟩ | ⟨_, e⟩
    · have := congrArg List.length e
      rw [List.length_cons, size_list] at this
      omega
    · have := congrArg List.length e
      rw [List.length_append, List.length_cons, size_list] at this
      omega
  · rw [dl]; exact key
  · rcases h.st with ⟨h1, h2, h3⟩ | ⟨h1, h2, _⟩
    · omega
    · omega
set_option maxRecDepth 100000 in
set_option maxHeartbeats 1000000 in
theorem digits (n : Nat) (w : World) (hn : n < 9223372036854775808) :
    Calls Tryd.prog 34 #[.int .i64 (n : Int)] w fun x w' => x = .returned (.string ⟨(Lib.decDigits n).toArray⟩) ∧ Below w.heap.size w w' := by
  go_enter Tryd.func34, Tryd.ntmps34
  go_wp2_with fail
  go_loopg [0, 3] (n + 1) (fun k x y wr => ∃ (m : Nat) (S : ByteArray), x = .int .i64 (m : Int) ∧ y = .string S ∧ m ≤ n ∧ Hid (DG n k m S ∧ Below w.heap.size w wr))
  case atStart => exact ⟨n, ⟨#[]⟩, rfl, rfl, Nat.le_refl _, ⟨⟨Nat.le_refl _, Nat.zero_le _, .inl ⟨rfl, rfl, rfl⟩⟩, Below.refl _ _⟩⟩
  case round =>
    obtain ⟨m, S, rfl, rfl, hm, P⟩ := hrel
    by_cases hr : 0 < m ∨ S.size = 0
    · obtain ⟨D2, lt⟩ := P.out.1.step hn hr
      have PP : Hid (DG n (m / 10) (m / 10) ((⟨#[UInt8.ofNat (48 + m % 10)]⟩ : ByteArray) ++ S) ∧ Below w.heap.size w wr) := ⟨D2, P.out.2⟩
      have sz := P.out.1.sz
      have c1 := one_string wr (48 + m % 10) (by omega)
      have e1 : 48 + (m : Int) % 10 = ((48 + m % 10 : Nat) : Int) := by omega
      obtain ⟨d, hd⟩ : ∃ d, 48 + m % 10 = d := ⟨_, rfl⟩
      rw [hd] at c1 e1 PP
      obtain ⟨N, hN⟩ : ∃ N, (⟨#[UInt8.ofNat d]⟩ : ByteArray) ++ S = N := ⟨_, rfl⟩
      have add : ∀ w, (Op.stringOp .add ⟨#[UInt8.ofNat d]⟩ S).run Tryd.prog w = .ok (.string N) w := fun w => by rw [run_string_add_sum w ⟨#[UInt8.ofNat d]⟩ S (by show 1 + S.size ≤ _; omega), hN]
      rw [hN] at PP
      clear hN hd D2 P
      have mb : m < 9223372036854775808 := by omega
      by_cases h0 : 0 < m
      · go_wp2_with fail
        go_roundg (m / 10)
        case rel => exact ⟨m / 10, N, by simp, rfl, by omega, PP.out.1, PP.out.2.alloc PP.out.2.size _⟩
        all_goals exact lt
      · have S0 := empty_of S (by omega)
        have se : S.toList.isEmpty = true := by rw [S0, Go.ByteArray.toList_eq]; rfl
        clear S0
        go_wp2_with fail
        go_roundg (m / 10)
        case rel => exact ⟨m / 10, N, by simp, rfl, by omega, PP.out.1, PP.out.2.alloc PP.out.2.size _⟩
        all_goals exact lt
    · have m0 : m = 0 := by omega
      have se : S.toList.isEmpty = false := by
        rw [Go.ByteArray.toList_eq]
        have := size_list S
        cases e : S.data.toList with
        | nil => rw [e] at this; simp at this; omega
        | cons c r => rfl
      have fin : Hid ((⟨(Lib.decDigits n).toArray⟩ : ByteArray) = S) := by
        show (⟨(Lib.decDigits n).toArray⟩ : ByteArray) = S
        rcases P.out.1.st with ⟨h1, _⟩ | ⟨_, _, ⟨_, h4⟩ | ⟨h3, _⟩⟩
        · omega
        · rw [← h4]
        · omega
      subst m0
      go_wp2_with fail
      go_ret
      exact ⟨by rw [fin.out]; rfl, P.out.2⟩
set_option maxRecDepth 100000 in
theorem rText (a b : Int) (w : World) : Calls Tryd.prog 19 #[.agg #[.int .i64 a, .int .i64 b]] w fun x w' => x = .returned (.string ⟨(textL a b).toArray⟩) ∧ Below w.heap.size w w' := by
  have B0 : Below w.heap.size w (w.alloc (Obj.cells #[.int .i64 a, .int .i64 b] 23)) := (Below.refl w.heap.size w).alloc (Nat.le_refl _) _
  have T0 : TagAt (w.alloc (Obj.cells #[.int .i64 a, .int .i64 b] 23)) w.heap.size a b := TagAt.new w a b
  have S0 : Hid (_ ∧ _) := And.intro B0 T0
  clear B0 T0
  go_enter Tryd.func19, Tryd.ntmps19
  go_wp2_with fail
  refine (rValid a b _).mono ?_
  rintro x w1 ⟨rfl, B1⟩
  have S1 : Hid (Below w.heap.size w w1 ∧ TagAt w1 w.heap.size a b) := ⟨S0.out.1.trans (B1.mono S0.out.1.size), S0.out.2.by B1⟩
  clear B1 S0
  obtain ⟨c0, c1, _, _⟩ := S1.out.2.facts
  have lt := S1.out.2.lt
  cases hv : isZero a b || isProper a b
  · go_wp2_with fail
    go_ret
    exact ⟨by simp [textL, hv], S1.out.1⟩
  · have vb := valid_bounds a b hv
    have la := Lib.itoa_length_le a (by omega) (by omega)
    have lb := Lib.itoa_length_le b (by omega) (by omega)
    rw [itoa_digs a vb.1] at la
    rw [itoa_digs b vb.2.2.1] at lb
    obtain ⟨A, hA⟩ : ∃ A, (⟨(Lib.decDigits a.toNat).toArray⟩ : ByteArray) = A := ⟨_, rfl⟩
    obtain ⟨B, hB⟩ : ∃ A, (⟨(Lib.decDigits b.toNat).toArray⟩ : ByteArray) = A := ⟨_, rfl⟩
    obtain ⟨C, hC⟩ : ∃ C, A ++ (⟨#[46]⟩ : ByteArray) = C := ⟨_, rfl⟩
    obtain ⟨D, hD⟩ : ∃ D, C ++ B = D := ⟨_, rfl⟩
    have sA : A.size ≤ 21 := by rw [← hA]; simpa [ByteArray.size] using la
    have sB : B.size ≤ 21 := by rw [← hB]; simpa [ByteArray.size] using lb
    have sC : C.size ≤ 22 := by rw [← hC, ByteArray.size_append]; show A.size + 1 ≤ 22; omega
    have add1 : ∀ w, (Op.stringOp .add A ⟨#[46]⟩).run Tryd.prog w = .ok (.string C) w := fun w => by rw [run_string_add_sum w A ⟨#[46]⟩ (by show A.size + 1 ≤ _; omega), hC]
    have add2 : ∀ w, (Op.stringOp .add C B).run Tryd.prog w = .ok (.string D) w := fun w => by rw [run_string_add_sum w C B (by omega), hD]
    have TX : Hid ((⟨(textL a b).toArray⟩ : ByteArray) = D) := by
      show (⟨(textL a b).toArray⟩ : ByteArray) = D
      rw [text_valid a b hv, ← hD, ← hC, ← hA, ← hB]
      apply ByteArray.ext
      simp
    have cF : Hid (∀ w, Calls Tryd.prog 34 #[.int .i64 a] w fun x w' => x = .returned (.string A) ∧ Below w.heap.size w w') := fun w => by
      have := digits a.toNat w (by omega)
      rw [Int.toNat_of_nonneg vb.1, hA] at this
      exact this
    have cI : Hid (∀ w, Calls Tryd.prog 34 #[.int .i64 b] w fun x w' => x = .returned (.string B) ∧ Below w.heap.size w w') := fun w => by
      have := digits b.toNat w (by omega)
      rw [Int.toNat_of_nonneg vb.2.2.1, hB] at this
      exact this
    clear hA hB hC hD sA sB sC la lb vb
    have KP : Hid (∀ w2, Below w1.drew.heap.size w1.drew w2 → w2.cell? ⟨w.heap.size, 0, none⟩ = some (.int .i64 a) ∧ w2.cell? ⟨w.heap.size, 1, none⟩ = some (.int .i64 b) ∧ Below w.heap.size w w2) :=
      fun w2 B2 => ⟨(B2.cell lt).trans c0, (B2.cell lt).trans c1, S1.out.1.drew.trans (B2.mono S1.out.1.size)⟩
    go_upto_region 3 with fail
    go_region_held3 (fun w' => w'.cell? ⟨w.heap.size, 0, none⟩ = some (.int .i64 a) ∧ w'.cell? ⟨w.heap.size, 1, none⟩ = some (.int .i64 b)) (go_keep)
      (first | (go_at_call 34; refine (cF.out _).mono ?_; rintro x w2 ⟨rfl, B2⟩; clear cF; obtain ⟨q0, q1, B3⟩ := KP.out w2 B2; have S2 : Hid (Below w.heap.size w w2) := B3; clear B3 B2) | (go_at_call 34; refine (cI.out _).mono ?_; rintro x w3 ⟨rfl, B3⟩; have B4 : Hid (Below w.heap.size w w3) := S2.out.trans (B3.mono S2.out.size); have q2 : w3.cell? ⟨w.heap.size, 0, none⟩ = some (.int .i64 a) := (B3.cell (World.block_lt_of_cell? w2 _ q0)).trans q0; have q3 : w3.cell? ⟨w.heap.size, 1, none⟩ = some (.int .i64 b) := (B3.cell (World.block_lt_of_cell? w2 _ q1)).trans q1; clear B3) | fail)
    go_wp2_with fail
    go_ret
    refine ⟨?_, B4.out⟩
    rw [TX.out]
    rfl
end Go.Proofs.YtpgfmoddhjhlkaaDoor
