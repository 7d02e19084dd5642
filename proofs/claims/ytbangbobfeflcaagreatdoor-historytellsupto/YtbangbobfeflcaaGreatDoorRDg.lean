import Derived.Test.YtbangbobfeflcaaGreatDoorRFo
import Derived.Test.YtbangbobfeflcaaGreatDoorRFmJ
import Derived.Deep.RegionHeld3
import Derived.Deep.DeepCutAuto
import Derived.Laws.Concat
import Derived.Lib.ItoaLen
import Derived.Lib.ItoaMem
namespace Go.Proofs.YtbangbobfeflcaaGreatDoor
open Go.RowKit 

theorem rValidB (a b : Int) (w : World) : Calls Tryz.prog 95 #[.agg #[.int .i64 a, .int .i64 b]] w fun x w' => x = .returned (.bool (kIsZero a b || kIsProper a b)) ∧ Below w.heap.size w w' := by
  refine (hRValid a b w).mono ?_
  rintro o w1 ⟨rfl, K⟩
  exact ⟨rfl, below_kept K⟩
structure TagAt (w : World) (b : Nat) (x y : Int) : Prop where
  blk : w.heap[b]? = some (.cells #[.int .i64 x, .int .i64 y] 37 (0, 0))
theorem TagAt.lt {w : World} {b : Nat} {x y : Int} (h : TagAt w b x y) : b < w.heap.size := (Array.getElem?_eq_some_iff.1 h.blk).1
theorem TagAt.new (w : World) (x y : Int) : TagAt (w.alloc (.cells #[.int .i64 x, .int .i64 y] 37)) w.heap.size x y := ⟨heap_alloc_new w _⟩
theorem TagAt.alloc {w : World} {b : Nat} {x y : Int} (h : TagAt w b x y) (o : Obj) : TagAt (w.alloc o) b x y := ⟨(Below.heap_alloc w o b h.lt).trans h.blk⟩
theorem TagAt.below {w w' : World} {b N : Nat} {x y : Int} (h : TagAt w b x y) (B : Below N w w') (hN : b < N) : TagAt w' b x y := ⟨(B.block b hN).trans h.blk⟩
theorem TagAt.by {w w' : World} {b : Nat} {x y : Int} (h : TagAt w b x y) (B : Below w.heap.size w w') : TagAt w' b x y := h.below B h.lt
theorem TagAt.drew {w : World} {b : Nat} {x y : Int} (h : TagAt w b x y) : TagAt w.drew b x y := ⟨h.blk⟩
theorem TagAt.drewN {w : World} {b : Nat} {x y : Int} (h : TagAt w b x y) (n : Nat) : TagAt (w.drewN n) b x y := ⟨h.blk⟩
theorem TagAt.other {w : World} {b : Nat} {x y : Int} (h : TagAt w b x y) {k i : Nat} (u : Value) (hk : b ≠ k) : TagAt (w.setCell ⟨k, i, none⟩ u) b x y := ⟨(Below.heap_setCell w ⟨k, i, none⟩ u b hk).trans h.blk⟩
theorem TagAt.facts {w : World} {b : Nat} {x y : Int} (h : TagAt w b x y) : w.cell? ⟨b, 0, none⟩ = some (.int .i64 x) ∧ w.cell? ⟨b, 1, none⟩ = some (.int .i64 y) ∧ w.frozen? ⟨b, 0, none⟩ = false ∧ w.frozen? ⟨b, 1, none⟩ = false := by
  refine ⟨?_, ?_, ?_, ?_⟩
  · rw [cell_of_row w b 0 _ 37 (0, 0) h.blk]; rfl
  · rw [cell_of_row w b 1 _ 37 (0, 0) h.blk]; rfl
  · simp [World.frozen?, h.blk]
  · simp [World.frozen?, h.blk]
def textL (a b : Int) : List UInt8 := if (kIsZero a b || kIsProper a b) = true then Lib.itoa a ++ (46 :: Lib.itoa b) else []
theorem valid_bounds (a b : Int) (h : (kIsZero a b || kIsProper a b) = true) : 0 ≤ a ∧ a ≤ 4611686018427387903 ∧ 0 ≤ b ∧ b ≤ 65535 := by
  unfold kIsZero kIsProper at h
  simp at h
  omega
theorem itoa_digs (a : Int) (h : 0 ≤ a) : Lib.itoa a = Lib.decDigits a.toNat := by
  unfold Lib.itoa
  rw [if_neg (by omega)]
theorem text_valid (a b : Int) (h : (kIsZero a b || kIsProper a b) = true) : textL a b = Lib.decDigits a.toNat ++ (46 :: Lib.decDigits b.toNat) := by
  have q := valid_bounds a b h
  unfold textL
  rw [if_pos h, itoa_digs a q.1, itoa_digs b q.2.2.1]
theorem digs_step (n : Nat) (h : ¬ n < 10) : Lib.decDigits n = Lib.decDigits (n / 10) ++ [UInt8.ofNat (48 + n % 10)] := by
  rw [Lib.decDigits, dif_neg h]
/-- A row of one byte as a text. -/
theorem one_string (w : World) (d : Nat) (hd : d < 256) : (convert 34 9 (.slice (some ⟨w.heap.size, 0, none⟩) 1 1)).run Tryz.prog (w.alloc (.cells #[.int .u8 (d : Int)] 5)) = .ok (.string ⟨#[UInt8.ofNat d]⟩) (w.alloc (.cells #[.int .u8 (d : Int)] 5)) := by
  have := run_convert_bytes_back (P := Tryz.prog) (w.alloc (.cells #[.int .u8 (d : Int)] 5)) 34 9 5 ⟨w.heap.size, 0, none⟩ 1 [UInt8.ofNat d] Tryz.underlying34 Tryz.underlying5 Tryz.underlying9 (fun j hj => by
    have : j = 0 := by simpa using hj
    subst this
    have e : (⟨w.heap.size, 0, none⟩ : Addr).add 0 = ⟨w.heap.size, 0, none⟩ := by unfold Addr.add; split <;> simp_all
    rw [e]
    simp
    omega)
  exact this
structure DG (n : Nat) (k m : Nat) (S : ByteArray) : Prop where
  le : m ≤ n
  sz : S.size ≤ 21
  st : (S.size = 0 ∧ m = n ∧ k = n + 1) ∨ (S.size ≠ 0 ∧ k = m ∧ ((m = 0 ∧ S.data.toList = Lib.decDigits n) ∨ (0 < m ∧ Lib.decDigits m ++ S.data.toList = Lib.decDigits n)))
theorem size_list (S : ByteArray) : S.data.toList.length = S.size := by rw [Array.length_toList]; rfl
theorem empty_of (S : ByteArray) (h : S.size = 0) : S = ⟨#[]⟩ := by
  apply ByteArray.ext
  exact Array.eq_empty_of_size_eq_zero h
theorem DG.step {n k m : Nat} {S : ByteArray} (h : DG n k m S) (hn : n < 9223372036854775808) (hr : 0 < m ∨ S.size = 0) :
    DG n (m / 10) (m / 10) ((⟨#[UInt8.ofNat (48 + m % 10)]⟩ : ByteArray) ++ S) ∧ m / 10 < k := by
  have lim := Lib.itoa_length_le (n : Int) (by omega) (by omega)
  rw [Lib.itoa_nonneg] at lim
  have dl : ((⟨#[UInt8.ofNat (48 + m % 10)]⟩ : ByteArray) ++ S).data.toList = UInt8.ofNat (48 + m % 10) :: S.data.toList := by simp
  have sl := size_list ((⟨#[UInt8.ofNat (48 + m % 10)]⟩ : ByteArray) ++ S)
  rw [dl, List.length_cons, size_list] at sl
  have key : ((m / 10 = 0 ∧ UInt8.ofNat (48 + m % 10) :: S.data.toList = Lib.decDigits n) ∨ (0 < m / 10 ∧ Lib.decDigits (m / 10) ++ (UInt8.ofNat (48 + m % 10) :: S.data.toList) = Lib.decDigits n)) := by
    have whole : Lib.decDigits m ++ S.data.toList = Lib.decDigits n := by
      rcases h.st with ⟨h1, h2, h3⟩ | ⟨h1, h2, ⟨h3, h4⟩ | ⟨h3, h4⟩⟩
      · rw [empty_of S h1, h2]; simp
      · omega
      · exact h4
    by_cases hm : m < 10
    · left
      refine ⟨by omega, ?_⟩
      rw [Lib.decDigits_one hm] at whole
      rw [← whole, Nat.mod_eq_of_lt hm]
      rfl
    · right
      refine ⟨by omega, ?_⟩
      rw [digs_step m hm] at whole
      rw [← whole, List.append_assoc]
      rfl
  refine ⟨⟨by have := h.le; omega, ?_, .inr ⟨by omega, rfl, ?_⟩⟩, ?_⟩
  · rcases key with ⟨_, e⟩ | ⟨_, e⟩
    · have := congrArg List.length e
      rw [List.length_cons, size_list] at this
      omega
    · have := congrArg List.length e
      rw [List.length_append, List.length_cons, size_list] at this
      omega
  · rw [dl]; exact key
  · rcases h.st with ⟨h1, h2, h3⟩ | ⟨h1, h2, _⟩
    · omega
    · omega
set_option maxRecDepth 100000 in
set_option maxHeartbeats 1000000 in
theorem digits (n : Nat) (w : World) (hn : n < 9223372036854775808) :
    Calls Tryz.prog 96 #[.int .i64 (n : Int)] w fun x w' => x = .returned (.string ⟨(Lib.decDigits n).toArray⟩) ∧ Below w.heap.size w w' := by
  go_enter Tryz.func96, Tryz.ntmps96
  go_wp2_with fail
  go_loopg [0, 3] (n + 1) (fun k x y wr => ∃ (m : Nat) (S : ByteArray), x = .int .i64 (m : Int) ∧ y = .string S ∧ m ≤ n ∧ Hid (DG n k m S ∧ Below w.heap.size w wr))
  case atStart => exact ⟨n, ⟨#[]⟩, rfl, rfl, Nat.le_refl _, ⟨⟨Nat.le_refl _, Nat.zero_le _, .inl ⟨rfl, rfl, rfl⟩⟩, Below.refl _ _⟩⟩
  case round =>
    obtain ⟨m, S, rfl, rfl, hm, P⟩ := hrel
    by_cases hr : 0 < m ∨ S.size = 0
    · obtain ⟨D2, lt⟩ := P.out.1.step hn hr
      have PP : Hid (DG n (m / 10) (m / 10) ((⟨#[UInt8.ofNat (48 + m % 10)]⟩ : ByteArray) ++ S) ∧ Below w.heap.size w wr) := ⟨D2, P.out.2⟩
      have sz := P.out.1.sz
      have c1 := one_string wr (48 + m % 10) (by omega)
      have e1 : 48 + (m : Int) % 10 = ((48 + m % 10 : Nat) : Int) := by omega
      obtain ⟨d, hd⟩ : ∃ d, 48 + m % 10 = d := ⟨_, rfl⟩
      rw [hd] at c1 e1 PP
      obtain ⟨N, hN⟩ : ∃ N, (⟨#[UInt8.ofNat d]⟩ : ByteArray) ++ S = N := ⟨_, rfl⟩
      have add : ∀ w, (Op.stringOp .add ⟨#[UInt8.ofNat d]⟩ S).run Tryz.prog w = .ok (.string N) w := fun w => by rw [run_string_add_sum w ⟨#[UInt8.ofNat d]⟩ S (by show 1 + S.size ≤ _; omega), hN]
      rw [hN] at PP
      clear hN hd D2 P
      have mb : m < 9223372036854775808 := by omega
      by_cases h0 : 0 < m
      · go_wp2_with fail
        go_roundg (m / 10)
        case rel => exact ⟨m / 10, N, by simp, rfl, by omega, PP.out.1, PP.out.2.alloc PP.out.2.size _⟩
        all_goals exact lt
      · have S0 := empty_of S (by omega)
        have se : S.toList.isEmpty = true := by rw [S0, Go.ByteArray.toList_eq]; rfl
        clear S0
        go_wp2_with fail
        go_roundg (m / 10)
        case rel => exact ⟨m / 10, N, by simp, rfl, by omega, PP.out.1, PP.out.2.alloc PP.out.2.size _⟩
        all_goals exact lt
    · have m0 : m = 0 := by omega
      have se : S.toList.isEmpty = false := by
        rw [Go.ByteArray.toList_eq]
        have := size_list S
        cases e : S.data.toList with
        | nil => rw [e] at this; simp at this; omega
        | cons c r => rfl
      have fin : Hid ((⟨(Lib.decDigits n).toArray⟩ : ByteArray) = S) := by
        show (⟨(Lib.decDigits n).toArray⟩ : ByteArray) = S
        rcases P.out.1.st with ⟨h1, _⟩ | ⟨_, _, ⟨_, h4⟩ | ⟨h3, _⟩⟩
        · omega
        · rw [← h4]
        · omega
      subst m0
      go_wp2_with fail
      go_ret
      exact ⟨by rw [fin.out]; rfl, P.out.2⟩
set_option maxRecDepth 100000 in
theorem rText (a b : Int) (w : World) : Calls Tryz.prog 77 #[.agg #[.int .i64 a, .int .i64 b]] w fun x w' => x = .returned (.string ⟨(textL a b).toArray⟩) ∧ Below w.heap.size w w' := by
  have B0 : Below w.heap.size w (w.alloc (Obj.cells #[.int .i64 a, .int .i64 b] 37)) := (Below.refl w.heap.size w).alloc (Nat.le_refl _) _
  have T0 : TagAt (w.alloc (Obj.cells #[.int .i64 a, .int .i64 b] 37)) w.heap.size a b := TagAt.new w a b
  have S0 : Hid (_ ∧ _) := And.intro B0 T0
  clear B0 T0
  go_enter Tryz.func77, Tryz.ntmps77
  go_wp2_with fail
  refine (rValidB a b _).mono ?_
  rintro x w1 ⟨rfl, B1⟩
  have S1 : Hid (Below w.heap.size w w1 ∧ TagAt w1 w.heap.size a b) := ⟨S0.out.1.trans (B1.mono S0.out.1.size), S0.out.2.by B1⟩
  clear B1 S0
  obtain ⟨c0, c1, _, _⟩ := S1.out.2.facts
  have lt := S1.out.2.lt
  cases hv : kIsZero a b || kIsProper a b
  · go_wp2_with fail
    go_ret
    exact ⟨by simp [textL, hv], S1.out.1⟩
  · have vb := valid_bounds a b hv
    have la := Lib.itoa_length_le a (by omega) (by omega)
    have lb := Lib.itoa_length_le b (by omega) (by omega)
    rw [itoa_digs a vb.1] at la
    rw [itoa_digs b vb.2.2.1] at lb
    obtain ⟨A, hA⟩ : ∃ A, (⟨(Lib.decDigits a.toNat).toArray⟩ : ByteArray) = A := ⟨_, rfl⟩
    obtain ⟨B, hB⟩ : ∃ A, (⟨(Lib.decDigits b.toNat).toArray⟩ : ByteArray) = A := ⟨_, rfl⟩
    obtain ⟨C, hC⟩ : ∃ C, A ++ (⟨#[46]⟩ : ByteArray) = C := ⟨_, rfl⟩
    obtain ⟨D, hD⟩ : ∃ D, C ++ B = D := ⟨_, rfl⟩
    have sA : A.size ≤ 21 := by rw [← hA]; simpa [ByteArray.size] using la
    have sB : B.size ≤ 21 := by rw [← hB]; simpa [ByteArray.size] using lb
    have sC : C.size ≤ 22 := by rw [← hC, ByteArray.size_append]; show A.size + 1 ≤ 22; omega
    have add1 : ∀ w, (Op.stringOp .add A ⟨#[46]⟩).run Tryz.prog w = .ok (.string C) w := fun w => by rw [run_string_add_sum w A ⟨#[46]⟩ (by show A.size + 1 ≤ _; omega), hC]
    have add2 : ∀ w, (Op.stringOp .add C B).run Tryz.prog w = .ok (.string D) w := fun w => by rw [run_string_add_sum w C B (by omega), hD]
    have TX : Hid ((⟨(textL a b).toArray⟩ : ByteArray) = D) := by
      show (⟨(textL a b).toArray⟩ : ByteArray) = D
      rw [text_valid a b hv, ← hD, ← hC, ← hA, ← hB]
      apply ByteArray.ext
      simp
    have cF : Hid (∀ w, Calls Tryz.prog 96 #[.int .i64 a] w fun x w' => x = .returned (.string A) ∧ Below w.heap.size w w') := fun w => by
      have := digits a.toNat w (by omega)
      rw [Int.toNat_of_nonneg vb.1, hA] at this
      exact this
    have cI : Hid (∀ w, Calls Tryz.prog 96 #[.int .i64 b] w fun x w' => x = .returned (.string B) ∧ Below w.heap.size w w') := fun w => by
      have := digits b.toNat w (by omega)
      rw [Int.toNat_of_nonneg vb.2.2.1, hB] at this
      exact this
    clear hA hB hC hD sA sB sC la lb vb
    have KP : Hid (∀ w2, Below w1.drew.heap.size w1.drew w2 → w2.cell? ⟨w.heap.size, 0, none⟩ = some (.int .i64 a) ∧ w2.cell? ⟨w.heap.size, 1, none⟩ = some (.int .i64 b) ∧ Below w.heap.size w w2) :=
      fun w2 B2 => ⟨(B2.cell lt).trans c0, (B2.cell lt).trans c1, S1.out.1.drew.trans (B2.mono S1.out.1.size)⟩
    go_upto_region 3 with fail
    go_region_held3 (fun w' => w'.cell? ⟨w.heap.size, 0, none⟩ = some (.int .i64 a) ∧ w'.cell? ⟨w.heap.size, 1, none⟩ = some (.int .i64 b)) (go_keep)
      (first | (go_at_call 96; refine (cF.out _).mono ?_; rintro x w2 ⟨rfl, B2⟩; clear cF; obtain ⟨q0, q1, B3⟩ := KP.out w2 B2; have S2 : Hid (Below w.heap.size w w2) := B3; clear B3 B2) | (go_at_call 96; refine (cI.out _).mono ?_; rintro x w3 ⟨rfl, B3⟩; have B4 : Hid (Below w.heap.size w w3) := S2.out.trans (B3.mono S2.out.size); have q2 : w3.cell? ⟨w.heap.size, 0, none⟩ = some (.int .i64 a) := (B3.cell (World.block_lt_of_cell? w2 _ q0)).trans q0; have q3 : w3.cell? ⟨w.heap.size, 1, none⟩ = some (.int .i64 b) := (B3.cell (World.block_lt_of_cell? w2 _ q1)).trans q1; clear B3) | fail)
    go_wp2_with fail
    go_ret
    refine ⟨?_, B4.out⟩
    rw [TX.out]
    rfl
/-- One byte more. -/
def pstep (st : Nat × Int × Int) (c : UInt8) : Nat × Int × Int :=
  if c = 46 then (st.1 + 1, st.2.1, st.2.2)
  else if st.1 = 0 then (st.1, wrap64 (wrap64 (st.2.1 * 10) + ((c.toNat : Int) - 48)), st.2.2)
  else (st.1, st.2.1, wrap64 (wrap64 (st.2.2 * 10) + ((c.toNat : Int) - 48)))
def pst (l : List UInt8) : Nat × Int × Int := l.foldl pstep (0, 0, 0)
/-- Where the loop stands. -/
structure PL (w wr : World) (l : List UInt8) (i n : Nat) (C K : Int) : Prop where
  st : pst (l.take i) = (n, C, K)
  bel : Below w.heap.size w wr
  z : TagAt wr w.heap.size 0 0
  t : TagAt wr (w.heap.size + 1) C K
  n : n ≤ i
end Go.Proofs.YtbangbobfeflcaaGreatDoor
