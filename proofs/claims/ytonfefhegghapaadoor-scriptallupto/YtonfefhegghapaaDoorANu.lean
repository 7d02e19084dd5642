import Derived.Test.YtonfefhegghapaaDoorTBk
import Derived.Test.YtonfefhegghapaaDoorTLxJ
namespace Go.Proofs.YtonfefhegghapaaDoor
open Go.RowKit 

theorem w64 (x : Int) : IntKind.i64.wrap x = wrap64 x := by
  rw [IntKind.wrap_i64]
  unfold wrap64
  rfl
/-- The document's number, byte by byte. -/
def stpN (n : Int) (c : UInt8) : Int := IntKind.i64.wrap (IntKind.i64.wrap (IntKind.i64.wrap (n * 10) + (c.toNat : Int)) - 48)
def numF2 (n : Int) (l : List UInt8) : Int := l.foldl stpN n
theorem stp_eq (n : Int) (c : UInt8) : stpN n c = IntKind.i64.wrap (n * 10 + (c.toNat : Int) - 48) := by
  unfold stpN
  rw [IntKind.wrap_i64, IntKind.wrap_i64, IntKind.wrap_i64, IntKind.wrap_i64]
  omega
theorem stp_ki (n : Int) (c : UInt8) : KI (stpN n c) := by
  rw [stp_eq, IntKind.wrap_i64]
  constructor <;> omega
theorem num2_ki (l : List UInt8) : ∀ n : Int, KI n → KI (numF2 n l) := by
  induction l with
  | nil => intro n h; exact h
  | cons c r ih => intro n h; exact ih _ (stp_ki n c)
theorem num2_snoc (n : Int) (l : List UInt8) (c : UInt8) : numF2 n (l ++ [c]) = stpN (numF2 n l) c := by unfold numF2; rw [List.foldl_append]; rfl
theorem num2_dv (l : List UInt8) : ∀ (x : Nat) (n : Int), (∀ c ∈ l, Digit c) → n = IntKind.i64.wrap (x : Int) → numF2 n l = IntKind.i64.wrap ((dv x l : Nat) : Int) := by
  induction l with
  | nil => intro x n _ h; exact h
  | cons c r ih =>
    intro x n hd h
    have hc : 48 ≤ c.toNat ∧ c.toNat ≤ 57 := hd c (by simp)
    refine ih (x * 10 + (c.toNat - 48)) (stpN n c) (fun y hy => hd y (by simp [hy])) ?_
    rw [stp_eq, h, IntKind.wrap_i64, IntKind.wrap_i64, IntKind.wrap_i64]
    omega
/-- The document's number. -/
def stN (l : List UInt8) (i : Nat) : Int := if l.head? = some 45 then numF2 0 ((l.take i).drop 1) else numF2 0 (l.take i)
def numV (l : List UInt8) : Int := if l.head? = some 45 then IntKind.i64.wrap (-(stN l l.length)) else stN l l.length
theorem stN_ki (l : List UInt8) (i : Nat) : KI (stN l i) := by
  unfold stN
  split
  · exact num2_ki _ 0 ki0
  · exact num2_ki _ 0 ki0
theorem numV_ki (l : List UInt8) : KI (numV l) := by
  unfold numV
  split
  · rw [IntKind.wrap_i64]
    constructor <;> omega
  · exact stN_ki _ _
theorem stN_zero (l : List UInt8) : stN l 0 = 0 := by
  unfold stN
  split
  · simp [numF2]
  · simp [numF2]
theorem stN_minus {l : List UInt8} (h : l.head? = some 45) : stN l 1 = 0 := by
  unfold stN
  rw [if_pos h]
  cases l with
  | nil => simp [numF2]
  | cons c r => simp [numF2]
theorem stN_step {l : List UInt8} {i : Nat} {c : UInt8} (h : l[i]? = some c) (hz : ¬ (i = 0 ∧ l.head? = some 45)) : stN l (i + 1) = stpN (stN l i) c := by
  have hl := (List.getElem?_eq_some_iff.1 h).1
  have e : l.take (i + 1) = l.take i ++ [c] := by rw [List.take_add_one, h]; rfl
  unfold stN
  by_cases q : l.head? = some 45
  · have hi : 1 ≤ i := by
      refine Nat.one_le_iff_ne_zero.2 fun z => hz ⟨z, q⟩
    rw [if_pos q, if_pos q, e, List.drop_append_of_le_length (by rw [List.length_take]; omega), num2_snoc]
  · rw [if_neg q, if_neg q, e, num2_snoc]
/-- A number's digits are read as that number. -/
theorem numV_back (z : Int) (h : KI z) : numV (Lib.itoa z) = z := by
  obtain ⟨h1, h2⟩ := h
  unfold Lib.itoa
  by_cases hn : z < 0
  · rw [if_pos hn]
    unfold numV stN
    rw [if_pos (show (45 :: Lib.decDigits z.natAbs).head? = some 45 from rfl), if_pos (show (45 :: Lib.decDigits z.natAbs).head? = some 45 from rfl), List.take_length]
    show IntKind.i64.wrap (-numF2 0 (Lib.decDigits z.natAbs)) = z
    rw [num2_dv _ 0 0 (digs_digit _) (by rw [IntKind.wrap_i64]; omega), digs_dv, IntKind.wrap_i64, IntKind.wrap_i64]
    omega
  · rw [if_neg hn]
    have ne := digs_ne z.toNat
    have nm : ¬ (Lib.decDigits z.toNat).head? = some 45 := fun q => by
      have hd := digs_digit z.toNat 45 (List.mem_of_mem_head? q)
      unfold Digit at hd
      revert hd
      decide
    unfold numV stN
    rw [if_neg nm, if_neg nm, List.take_length, num2_dv _ 0 0 (digs_digit _) (by rw [IntKind.wrap_i64]; omega), digs_dv, IntKind.wrap_i64]
    omega
set_option maxRecDepth 100000 in
set_option maxHeartbeats 4000000 in
/-- The document's number. -/
theorem hRefNum {w : World} {t : ByteArray} (ht : t.size ≤ 33554432) : Calls Tryd.prog 47 #[.string t] w fun o w' => o = .returned (.int .i64 (numV t.data.toList)) ∧ w' = w := by
  obtain ⟨G, hG⟩ : ∃ G, numV t.data.toList = G := ⟨_, rfl⟩
  rw [hG]
  have HG : Hid (numV t.data.toList = G) := hG
  clear hG
  go_enter Tryd.func47, Tryd.ntmps47
  go_upto_region 3 with fail
  go_loopw [3, 4] (fun u3 u4 wr => ∃ (i : Nat) (n : Int), u3 = .int .i64 n ∧ u4 = .int .i64 (i : Int) ∧ i ≤ t.size ∧ Hid (n = stN t.data.toList i ∧ wr = w)) (fun _ u4 _ => t.size - (intOf u4).toNat)
  case atStart => exact ⟨0, 0, rfl, rfl, Nat.zero_le _, (stN_zero _).symm, rfl⟩
  case round =>
    obtain ⟨i, n, rfl, rfl, hi, SW⟩ := hrel
    have hw := SW.out.2
    subst hw
    have S : Hid (n = stN t.data.toList i) := SW.out.1
    clear SW
    have tl : t.data.toList.length = t.size := Array.length_toList
    have nk : KI n := by rw [S.out]; exact stN_ki _ _
    obtain ⟨n1, n2⟩ := nk
    by_cases hlt : i < t.size
    · have i1 : (i : Int) < (t.size : Int) := by omega
      obtain ⟨x, hx⟩ : ∃ x, t.data.toList[i]? = some x := ⟨_, List.getElem?_eq_getElem (by rw [tl]; exact hlt)⟩
      have ri := run_at hx wr
      obtain ⟨y, hy⟩ : ∃ y, x.toNat = y := ⟨_, rfl⟩
      have yl : y < 256 := by rw [← hy]; exact x.toNat_lt
      rw [hy] at ri
      have HX : Hid (t.data.toList[i]? = some x ∧ x.toNat = y ∧ n = stN t.data.toList i) := ⟨hx, hy, S.out⟩
      clear hx hy tl S
      have HD : Hid (t.data.toList[0]? = t.data.toList.head?) := List.head?_eq_getElem?.symm
      by_cases i0 : i = 0
      · have e0 : ((i : Int) == 0) = true := by rw [i0]; rfl
        have ri0 : (Instr.index 9 (.string t) (.int .i64 0)).run Tryd.prog wr = .ok (.int .u8 (y : Int)) wr := by
          have q := ri
          rw [i0] at q
          exact q
        have HI : Hid (i = 0) := i0
        clear i0
        by_cases y45 : y = 45
        · subst y45
          have N : Hid ((0 : Int) = stN t.data.toList (i + 1) ∧ wr = wr) := by
            have e : x = 45 := UInt8.toNat_inj.1 HX.out.2.1
            have q := HX.out.1
            rw [e, HI.out, HD.out] at q
            refine ⟨?_, rfl⟩
            rw [HI.out]
            exact (stN_minus q).symm
          clear HX
          go_wp2_with fail
          go_roundw
          case rel => exact ⟨i + 1, 0, rfl, by go_num, by omega, N.out.1, trivial⟩
          case measure => simp [intOf] <;> omega
        · have y1 : ¬ (y : Int) = 45 := by omega
          have N : Hid (IntKind.i64.wrap (IntKind.i64.wrap (IntKind.i64.wrap (n * 10) + (y : Int)) - 48) = stN t.data.toList (i + 1) ∧ wr = wr) := by
            have q := stN_step HX.out.1 (fun z => by
              have h1 := HX.out.1
              rw [HI.out, HD.out, z.2] at h1
              have e : (45 : UInt8) = x := Option.some.inj h1
              apply y45
              rw [← HX.out.2.1, ← e]
              rfl)
            rw [q, ← HX.out.2.2]
            unfold stpN
            rw [HX.out.2.1]
            exact ⟨rfl, rfl⟩
          clear HX
          go_wp2_with fail
          go_roundw
          case rel => exact ⟨i + 1, _, rfl, by go_num, by omega, by have q := N.out.1; rw [w64, w64, w64] at q; exact q, trivial⟩
          case measure => simp [intOf] <;> omega
      · have i2 : ¬ (i : Int) = 0 := by omega
        have N : Hid (IntKind.i64.wrap (IntKind.i64.wrap (IntKind.i64.wrap (n * 10) + (y : Int)) - 48) = stN t.data.toList (i + 1) ∧ wr = wr) := by
          have q := stN_step HX.out.1 (fun z => i0 z.1)
          rw [q, ← HX.out.2.2]
          unfold stpN
          rw [HX.out.2.1]
          exact ⟨rfl, rfl⟩
        clear HX
        go_wp2_with fail
        go_roundw
        case rel => exact ⟨i + 1, _, rfl, by go_num, by omega, by have q := N.out.1; rw [w64, w64, w64] at q; exact q, trivial⟩
        case measure => simp [intOf] <;> omega
    · have i1 : ¬ (i : Int) < (t.size : Int) := by omega
      have ei : i = t.data.toList.length := by omega
      by_cases t0 : t.size = 0
      · have eb : t.toList.isEmpty = true := emp_yes (by
          rw [← ofL_self t, List.eq_nil_of_length_eq_zero (tl.trans t0)]
          rfl)
        have FN : Hid (n = G) := by
          rw [← HG.out, S.out, ei]
          unfold numV
          rw [if_neg (by rw [List.eq_nil_of_length_eq_zero (tl.trans t0)]; simp)]
          exact rfl
        clear S ei
        go_wp2_with fail
        go_ret
        exact ⟨by rw [← FN.out]; first | rfl | simp, rfl⟩
      · have eb : t.toList.isEmpty = false := emp_no (fun z => t0 (by rw [← z]; rfl))
        obtain ⟨x, hx⟩ : ∃ x, t.data.toList[0]? = some x := ⟨_, List.getElem?_eq_getElem (by omega)⟩
        have ri := run_at hx wr
        obtain ⟨y, hy⟩ : ∃ y, x.toNat = y := ⟨_, rfl⟩
        have yl : y < 256 := by rw [← hy]; exact x.toNat_lt
        rw [hy] at ri
        have t1 : (0 : Int) < (t.size : Int) := by omega
        have hh : t.data.toList.head? = some x := by rw [List.head?_eq_getElem?]; exact hx
        by_cases y45 : y = 45
        · have FN : Hid (IntKind.i64.wrap (-n) = G) := by
            rw [← HG.out, S.out, ei]
            unfold numV
            rw [if_pos (by rw [hh, show x = 45 from UInt8.toNat_inj.1 (hy.trans y45)])]
            exact rfl
          have ri2 : (Instr.index 9 (.string t) (.int .i64 0)).run Tryd.prog wr = .ok (.int .u8 45) wr := by
            have q := ri
            rw [y45] at q
            exact q
          clear S ei hh hx hy ri y45 yl
          go_wp2_with fail
          go_ret
          exact ⟨by rw [← FN.out, w64]; first | rfl | simp, rfl⟩
        · have y1 : ¬ (y : Int) = 45 := by omega
          have FN : Hid (n = G) := by
            rw [← HG.out, S.out, ei]
            unfold numV
            rw [if_neg (fun z => by
              rw [hh] at z
              have e : x = 45 := Option.some.inj z
              apply y45
              rw [← hy, e]
              rfl)]
            exact rfl
          have ri2 : (Instr.index 9 (.string t) (.int .i64 0)).run Tryd.prog wr = .ok (.int .u8 (y : Int)) wr := ri
          clear S ei hh hx hy ri
          go_wp2_with fail
          go_ret
          exact ⟨by rw [← FN.out]; first | rfl | simp, rfl⟩
end Go.Proofs.YtonfefhegghapaaDoor
