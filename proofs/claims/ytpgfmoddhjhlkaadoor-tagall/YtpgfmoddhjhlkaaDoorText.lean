import Derived.Test.YtpgfmoddhjhlkaaDoorCalls
import Derived.Test.YtpgfmoddhjhlkaaDoorMath
import Derived.Test.YtpgfmoddhjhlkaaDoorShelf
import Derived.Deep.DeepCutAuto
import Derived.Laws.Concat
import Derived.Lib.ItoaLen
import Derived.Lib.AtoiErrMem
namespace Go.Proofs.YtpgfmoddhjhlkaaDoor
open Go.RowKit

/-- What the library's variables hold. -/
structure Vars (w : World) : Prop where
  tab : Lib.TabIs Tryd.prog w "internal/strconv.uint64pow10" .u64 Lib.pow10Tab
  syn : ∃ tp p, w.var? Tryd.prog "strconv.ErrSyntax" = some #[.iface tp p]
  rng : ∃ tp p, w.var? Tryd.prog "strconv.ErrRange" = some #[.iface tp p]
theorem var_by {P : Program} {w w' : World} (B : Below w.heap.size w w') {n : String} {cs : Array Value} (h : w.var? P n = some cs) : w'.var? P n = some cs := by
  unfold World.var? at h ⊢
  cases e : P.globalNamed n with
  | none => rw [e] at h; cases h
  | some g =>
    rw [e] at h
    simp only [Option.bind_some] at h ⊢
    cases q : w.heap[g]? with
    | none => rw [q] at h; cases h
    | some o =>
      have lt : g < w.heap.size := (Array.getElem?_eq_some_iff.1 q).1
      rw [B.block g lt]
      exact h
theorem Vars.by {w w' : World} (h : Vars w) (B : Below w.heap.size w w') : Vars w' := by
  refine ⟨var_by B h.tab, ?_, ?_⟩
  · obtain ⟨tp, p, e⟩ := h.syn
    exact ⟨tp, p, var_by B e⟩
  · obtain ⟨tp, p, e⟩ := h.rng
    exact ⟨tp, p, var_by B e⟩
theorem grow_below (w : World) (k : Nat) (os : Array Obj) : Below w.heap.size w (Sort.grow (w.drewN k) os) :=
  ⟨rfl, rfl, rfl, by simp [Sort.grow], fun j hj => Sort.heap_grow_old (w.drewN k) os hj⟩
/-- A tag's text. -/
def textL (a b : Int) : List UInt8 := if (isZero a b || isProper a b) = true then Lib.itoa a ++ (46 :: Lib.itoa b) else []
set_option maxRecDepth 100000 in
theorem text (a b : Int) (w : World) (ha : -9223372036854775808 ≤ a ∧ a < 9223372036854775808) (hb : -9223372036854775808 ≤ b ∧ b < 9223372036854775808) (V : Vars w) :
    Calls Tryd.prog 5 #[.agg #[.int .i64 a, .int .i64 b]] w fun x w' => x = .returned (.string ⟨(textL a b).toArray⟩) ∧ Below w.heap.size w w' := by
  have B0 : Below w.heap.size w (w.alloc (Obj.cells #[.int .i64 a, .int .i64 b] 23)) := (Below.refl w.heap.size w).alloc (Nat.le_refl _) _
  have T0 : TagAt (w.alloc (Obj.cells #[.int .i64 a, .int .i64 b] 23)) w.heap.size a b := TagAt.new w a b
  have S0 : Hid (_ ∧ _ ∧ _) := And.intro B0 (And.intro T0 (V.by B0))
  clear B0 T0 V
  go_enter Tryd.func5, Tryd.ntmps5
  go_wp2_with fail
  refine (valid a b _).mono ?_
  rintro x w1 ⟨rfl, B1⟩
  have S1 : Hid (Below w.heap.size w w1 ∧ TagAt w1 w.heap.size a b ∧ Vars w1) := ⟨S0.out.1.trans (B1.mono S0.out.1.size), S0.out.2.1.by B1, S0.out.2.2.by B1⟩
  clear B1 S0
  obtain ⟨c0, c1, _, _⟩ := S1.out.2.1.facts
  have lt := S1.out.2.1.lt
  cases hv : isZero a b || isProper a b
  · go_wp2_with fail
    go_ret
    exact ⟨by simp [textL, hv], S1.out.1⟩
  · have la := Lib.itoa_length_le a (by omega) (by omega)
    have lb := Lib.itoa_length_le b (by omega) (by omega)
    obtain ⟨A, hA⟩ : ∃ A, (⟨(Lib.itoa a).toArray⟩ : ByteArray) = A := ⟨_, rfl⟩
    obtain ⟨B, hB⟩ : ∃ A, (⟨(Lib.itoa b).toArray⟩ : ByteArray) = A := ⟨_, rfl⟩
    obtain ⟨C, hC⟩ : ∃ C, A ++ (⟨#[46]⟩ : ByteArray) = C := ⟨_, rfl⟩
    obtain ⟨D, hD⟩ : ∃ D, C ++ B = D := ⟨_, rfl⟩
    have sA : A.size ≤ 21 := by rw [← hA]; simpa [ByteArray.size] using la
    have sB : B.size ≤ 21 := by rw [← hB]; simpa [ByteArray.size] using lb
    have sC : C.size ≤ 22 := by rw [← hC, ByteArray.size_append]; show A.size + 1 ≤ 22; omega
    have add1 : ∀ w, (Op.stringOp .add A ⟨#[46]⟩).run Tryd.prog w = .ok (.string C) w := fun w => by rw [run_string_add_sum w A ⟨#[46]⟩ (by show A.size + 1 ≤ _; omega), hC]
    have add2 : ∀ w, (Op.stringOp .add C B).run Tryd.prog w = .ok (.string D) w := fun w => by rw [run_string_add_sum w C B (by omega), hD]
    have TX : Hid ((⟨(textL a b).toArray⟩ : ByteArray) = D) := by
      show (⟨(textL a b).toArray⟩ : ByteArray) = D
      unfold textL
      rw [if_pos hv, ← hD, ← hC, ← hA, ← hB]
      apply ByteArray.ext
      simp
    have cF : Hid (∀ w, Vars w → Calls Tryd.prog 21 #[.int .i64 a, .int .i64 10] w fun x w' => x = .returned (.string A) ∧ Below w.heap.size w w') := fun w V => by
      refine (Tryd.strconv_FormatInt_10 a (by omega) (by omega) w V.tab).mono ?_
      rintro x w2 ⟨rfl, k, os, rfl⟩
      exact ⟨by rw [hA], grow_below w k os⟩
    have cI : Hid (∀ w, Vars w → Calls Tryd.prog 22 #[.int .i64 b] w fun x w' => x = .returned (.string B) ∧ Below w.heap.size w w') := fun w V => by
      refine (Tryd.strconv_Itoa b (by omega) (by omega) w V.tab).mono ?_
      rintro x w2 ⟨rfl, k, os, rfl⟩
      exact ⟨by rw [hB], grow_below w k os⟩
    clear hA hB hC hD sA sB sC la lb
    have B1 : Below w1.heap.size w1 w1.drew := (Below.refl _ _).drew
    have V1 : Hid (Vars w1.drew) := S1.out.2.2.by B1
    have KP : Hid (∀ w2, Below w1.drew.heap.size w1.drew w2 → w2.cell? ⟨w.heap.size, 0, none⟩ = some (.int .i64 a) ∧ w2.cell? ⟨w.heap.size, 1, none⟩ = some (.int .i64 b) ∧ Vars w2 ∧ Below w.heap.size w w2) :=
      fun w2 B2 => ⟨(B2.cell lt).trans c0, (B2.cell lt).trans c1, V1.out.by B2, S1.out.1.drew.trans (B2.mono S1.out.1.size)⟩
    clear B1
    go_upto_region 3 with fail
    go_region_held3 (fun w' => w'.cell? ⟨w.heap.size, 0, none⟩ = some (.int .i64 a) ∧ w'.cell? ⟨w.heap.size, 1, none⟩ = some (.int .i64 b)) (go_keep)
      (first | (go_at_call 21; refine (cF.out _ V1.out).mono ?_; rintro x w2 ⟨rfl, B2⟩; obtain ⟨q0, q1, V2, B3⟩ := KP.out w2 B2; have S2 : Hid (_ ∧ _) := And.intro V2 B3; clear V2 B3 B2) | (go_at_call 22; refine (cI.out _ S2.out.1).mono ?_; rintro x w3 ⟨rfl, B3⟩; have B4 : Hid (Below w.heap.size w w3) := S2.out.2.trans (B3.mono S2.out.2.size); have q2 : w3.cell? ⟨w.heap.size, 0, none⟩ = some (.int .i64 a) := (B3.cell (World.block_lt_of_cell? w2 _ q0)).trans q0; have q3 : w3.cell? ⟨w.heap.size, 1, none⟩ = some (.int .i64 b) := (B3.cell (World.block_lt_of_cell? w2 _ q1)).trans q1; clear B3) | fail)
    go_wp2_with fail
    go_ret
    refine ⟨?_, B4.out⟩
    rw [TX.out]
    rfl
/-- strings.Cut at the dot. -/
theorem cutIn (s : ByteArray) (w : World) (hs : s.size ≤ 9223372036854775807) :
    Calls Tryd.prog 37 #[.string s, .string ⟨#[46]⟩] w fun x w' => ∃ t, x = .returned (.tuple #[.string ⟨(left s.data.toList).toArray⟩, .string ⟨(right s.data.toList).toArray⟩, .bool t]) ∧ Below w.heap.size w w' := by
  have hl : s.data.toList.length = s.size := by rw [Array.length_toList]; rfl
  rcases index_dot s.data.toList with ⟨h1, h2, h3⟩ | ⟨k, h1, h2, h3, h4⟩
  · rw [h2, h3]
    go_enter Tryd.func37, Tryd.ntmps37
    go_wp2_with fail
    refine (Tryd.stringslite_Index_one s 46 _).mono ?_
    rintro x w1 ⟨rfl, rfl⟩
    rw [h1]
    go_wp2_with fail
    go_ret3
    refine ⟨false, ?_, Below.refl _ _⟩
    rfl
  · rw [h3, h4]
    have k1 : (k : Int) < (s.size : Int) := by omega
    have k2 : k < s.size := by omega
    go_enter Tryd.func37, Tryd.ntmps37
    go_wp2_with fail
    refine (Tryd.stringslite_Index_one s 46 _).mono ?_
    rintro x w1 ⟨rfl, rfl⟩
    rw [h1]
    clear h1 h2 h3 h4
    go_wp2_with fail
    go_quiet (fail)
    go_wp2_with fail
    go_ret3
    refine ⟨true, ?_, (Below.refl _ _).trans ⟨rfl, rfl, rfl, Nat.le_refl _, fun _ _ => rfl⟩⟩
    have e1 : s.extract 0 k = ⟨(s.data.toList.take k).toArray⟩ := by
      apply ByteArray.ext
      apply Array.toList_inj.1
      simp
    have e2 : s.extract (k + 1) s.size = ⟨(s.data.toList.drop (k + 1)).toArray⟩ := by
      apply ByteArray.ext
      apply Array.toList_inj.1
      rw [ByteArray.data_extract, Array.toList_extract]
      show (List.drop (k + 1) s.data.toList).take (s.size - (k + 1)) = _
      rw [List.take_of_length_le (by rw [List.length_drop]; omega)]
    rw [← e1, ← e2]
    rfl
theorem cutDot (s : ByteArray) (w : World) (hs : s.size ≤ 9223372036854775807) :
    Calls Tryd.prog 24 #[.string s, .string ⟨#[46]⟩] w fun x w' => ∃ t, x = .returned (.tuple #[.string ⟨(left s.data.toList).toArray⟩, .string ⟨(right s.data.toList).toArray⟩, .bool t]) ∧ Below w.heap.size w w' := by
  go_enter Tryd.func24, Tryd.ntmps24
  go_wp2_with fail
  refine (cutIn s w hs).mono ?_
  rintro x w1 ⟨t, rfl, B1⟩
  have B1 : Hid (Below _ _ _) := B1
  go_wp2_with fail
  go_ret3
  exact ⟨t, rfl, B1.out⟩
/-- A number's end. -/
def NumIs (l : List UInt8) (v : Int) (i : Value) : Prop := (∃ u, Lib.atoiAll l = .ok u ∧ u = v ∧ i = .nilIface) ∨ ((∀ u, Lib.atoiAll l ≠ .ok u) ∧ ∃ t q, i = .iface t (.pointer (some q)))
theorem bytes_below (w : World) (t : TypeId) (s : ByteArray) : Below w.heap.size w (Lib.bytesWorld w t s) := Lib.bytesWorld_below _ _ _
theorem atoiAny (s : ByteArray) (w : World) (hs : s.size ≤ 281474976710656) (V : Vars w) :
    Calls Tryd.prog 26 #[.string s] w fun x w' => ∃ v i, x = .returned (.tuple #[.int .i64 v, i]) ∧ NumIs s.data.toList v i ∧ Below w.heap.size w w' := by
  cases h : Lib.atoiAll s.data.toList with
  | ok u =>
    refine (Tryd.strconv_Atoi_ok s (by omega) u h w).mono ?_
    rintro x w1 ⟨rfl, hw⟩
    refine ⟨u, .nilIface, rfl, .inl ⟨u, h, rfl, rfl⟩, ?_⟩
    rcases hw with rfl | ⟨t, rfl⟩
    · exact Below.refl _ _
    · exact bytes_below _ _ _
  | «syntax» =>
    obtain ⟨tp, p, hv⟩ := V.syn
    refine (Tryd.strconv_Atoi_syntax_var s hs h tp p w hv).mono ?_
    rintro x w1 ⟨N, rfl, -, -, hb⟩
    exact ⟨0, _, rfl, .inr ⟨(fun u q => by rw [h] at q; exact absurd q (by simp)), 70, _, rfl⟩, hb⟩
  | range =>
    obtain ⟨tp, p, hv⟩ := V.rng
    refine (Tryd.strconv_Atoi_range_var s hs h tp p w hv).mono ?_
    rintro x w1 ⟨N, rfl, -, -, hb⟩
    exact ⟨_, _, rfl, .inr ⟨(fun u q => by rw [h] at q; exact absurd q (by simp)), 70, _, rfl⟩, hb⟩
theorem parseAny (s : ByteArray) (w : World) (hs : s.size ≤ 281474976710656) (V : Vars w) :
    Calls Tryd.prog 25 #[.string s, .int .i64 10, .int .i64 64] w fun x w' => ∃ v i, x = .returned (.tuple #[.int .i64 v, i]) ∧ NumIs s.data.toList v i ∧ Below w.heap.size w w' := by
  have P := Lib.parseIntB_64 s.data.toList
  cases h : Lib.atoiAll s.data.toList with
  | ok u =>
    refine (Tryd.strconv_ParseInt_10_at64_ok s (by omega) u (P.trans h) w).mono ?_
    rintro x w1 ⟨rfl, hw⟩
    refine ⟨u, .nilIface, rfl, .inl ⟨u, h, rfl, rfl⟩, ?_⟩
    rcases hw with rfl | ⟨t, rfl⟩
    · exact Below.refl _ _
    · exact bytes_below _ _ _
  | «syntax» =>
    obtain ⟨tp, p, hv⟩ := V.syn
    refine (Tryd.strconv_ParseInt_10_at64_syntax_var s hs (P.trans h) tp p w hv).mono ?_
    rintro x w1 ⟨N, rfl, -, -, hb⟩
    exact ⟨0, _, rfl, .inr ⟨(fun u q => by rw [h] at q; exact absurd q (by simp)), 70, _, rfl⟩, hb⟩
  | range =>
    obtain ⟨tp, p, hv⟩ := V.rng
    refine (Tryd.strconv_ParseInt_10_at64_range_var s hs (P.trans h) tp p w hv).mono ?_
    rintro x w1 ⟨N, rfl, -, -, hb⟩
    exact ⟨_, _, rfl, .inr ⟨(fun u q => by rw [h] at q; exact absurd q (by simp)), 70, _, rfl⟩, hb⟩
theorem eq_bytes (x y : ByteArray) : (x.toList == y.toList) = decide (x = y) := by
  rw [Go.ByteArray.toList_eq, Go.ByteArray.toList_eq]
  by_cases h : x = y
  · subst h; simp
  · rw [decide_eq_false h]
    apply beq_eq_false_iff_ne.2
    intro e
    apply h
    apply ByteArray.ext
    exact Array.toList_inj.1 e
/-- What Parse answers. -/
def parseT (l : List UInt8) : Int × Int × Int :=
  match Lib.atoiAll (left l), Lib.atoiAll (right l) with
  | .ok c, .ok k => if textL c k = l then (c, k, 0) else (0, 0, 31)
  | _, _ => (0, 0, 31)
theorem parse_end {w w1 : World} {s : ByteArray} {p q e : Int} {tmps : Array Value} (B1 : Below w.heap.size w w1) (Z1 : TagAt w1 w.heap.size 0 0) (hp : tmps.getD 2 undef = .pointer (some ⟨w.heap.size, 0, none⟩)) (he : tmps.getD 3 undef = .int .i64 e) (hn : parseT s.data.toList = (p, q, e)) :
    bodyPost Tryd.prog Tryd.f7 (fun x w' => ∃ p q e, x = .returned (.tuple #[.agg #[.int .i64 p, .int .i64 q], .int .i64 e]) ∧ parseT s.data.toList = (p, q, e) ∧ Below w.heap.size w w') .ret { tmps := tmps, defers := [] }
      ((w1.setCell ⟨w.heap.size, 0, none⟩ (.int .i64 p)).setCell ⟨w.heap.size, 1, none⟩ (.int .i64 q)) := by
  refine bodyPost_ret (results_tag_tmp rfl _ _ _ p q hp ((Z1.set0 p).set1 q)) rfl ⟨p, q, e, by rw [he], hn, ?_⟩
  exact (B1.setCell (by simp) _).setCell (by simp) _
theorem left_length (l : List UInt8) : (left l).length ≤ l.length := by
  induction l with
  | nil => simp [left]
  | cons c r ih => unfold left; split <;> simp <;> omega
theorem right_length (l : List UInt8) : (right l).length ≤ l.length := by
  induction l with
  | nil => simp [right]
  | cons c r ih => unfold right; split <;> simp <;> omega
set_option maxRecDepth 100000 in
set_option maxHeartbeats 1000000 in
theorem parse (s : ByteArray) (w : World) (hs : s.size ≤ 140737488355328) (V : Vars w) :
    Calls Tryd.prog 7 #[.string s] w fun x w' => ∃ p q e, x = .returned (.tuple #[.agg #[.int .i64 p, .int .i64 q], .int .i64 e]) ∧ parseT s.data.toList = (p, q, e) ∧ Below w.heap.size w w' := by
  have hl : s.data.toList.length = s.size := by rw [Array.length_toList]; rfl
  have B0 : Below w.heap.size w (w.alloc (Obj.cells #[.int .i64 0, .int .i64 0] 23)) := (Below.refl w.heap.size w).alloc (Nat.le_refl _) _
  have T0 : TagAt (w.alloc (Obj.cells #[.int .i64 0, .int .i64 0] 23)) w.heap.size 0 0 := TagAt.new w 0 0
  have S0 : Hid (_ ∧ _ ∧ _) := And.intro B0 (And.intro T0 (V.by B0))
  obtain ⟨LL, hLL⟩ : ∃ L, (⟨(left s.data.toList).toArray⟩ : ByteArray) = L := ⟨_, rfl⟩
  obtain ⟨RR, hRR⟩ : ∃ L, (⟨(right s.data.toList).toArray⟩ : ByteArray) = L := ⟨_, rfl⟩
  have eL : left s.data.toList = LL.data.toList := by rw [← hLL]
  have eR : right s.data.toList = RR.data.toList := by rw [← hRR]
  have sL : LL.size ≤ s.size := by
    have := left_length s.data.toList
    rw [eL] at this
    rw [Array.length_toList] at this
    show LL.data.size ≤ s.size
    omega
  have sR : RR.size ≤ s.size := by
    have := right_length s.data.toList
    rw [eR] at this
    rw [Array.length_toList] at this
    show RR.data.size ≤ s.size
    omega
  have PT : Hid (parseT s.data.toList = match Lib.atoiAll LL.data.toList, Lib.atoiAll RR.data.toList with | .ok c, .ok k => if textL c k = s.data.toList then (c, k, 0) else (0, 0, 31) | _, _ => (0, 0, 31)) := by
    show parseT s.data.toList = _
    unfold parseT
    rw [eL, eR]
  have CD : Hid (∀ w, Calls Tryd.prog 24 #[.string s, .string ⟨#[46]⟩] w fun x w' => ∃ t, x = .returned (.tuple #[.string LL, .string RR, .bool t]) ∧ Below w.heap.size w w') := fun w => by
    have := cutDot s w (by omega)
    rw [hLL, hRR] at this
    exact this
  have HS : Hid (s.size ≤ 140737488355328 ∧ LL.size ≤ s.size ∧ RR.size ≤ s.size) := ⟨hs, sL, sR⟩
  clear B0 T0 V eL eR sL sR hLL hRR hl hs
  go_enter Tryd.func7, Tryd.ntmps7
  go_wp2_with fail
  refine (CD.out _).mono ?_
  rintro x w1 ⟨t, rfl, B1⟩
  have S1 : Hid (Below w.heap.size w w1 ∧ TagAt w1 w.heap.size 0 0 ∧ Vars w1) := ⟨S0.out.1.trans (B1.mono S0.out.1.size), S0.out.2.1.by B1, S0.out.2.2.by B1⟩
  clear B1 S0 CD
  go_wp2_with fail
  refine (parseAny LL w1 (by have := HS.out; omega) S1.out.2.2).mono ?_
  rintro x w2 ⟨v, i, rfl, N1, B2⟩
  have S2 : Hid (Below w.heap.size w w2 ∧ TagAt w2 w.heap.size 0 0 ∧ Vars w2) := ⟨S1.out.1.trans (B2.mono S1.out.1.size), S1.out.2.1.by B2, S1.out.2.2.by B2⟩
  clear B2 S1
  obtain ⟨z0, z1, f0, f1⟩ := S2.out.2.1.facts
  have lz := S2.out.2.1.lt
  rcases N1 with ⟨u, hu, rfl, rfl⟩ | ⟨hu, ti, qi, rfl⟩
  · have bu := Lib.atoiAll_bounds hu
    have HU : Hid (Lib.atoiAll LL.data.toList = .ok u) := hu
    clear hu
    go_wp2_with fail
    refine (atoiAny RR w2 (by have := HS.out; omega) S2.out.2.2).mono ?_
    rintro x w3 ⟨v3, i3, rfl, N3, B3⟩
    have S3 : Hid (Below w.heap.size w w3 ∧ TagAt w3 w.heap.size 0 0 ∧ Vars w3) := ⟨S2.out.1.trans (B3.mono S2.out.1.size), S2.out.2.1.by B3, S2.out.2.2.by B3⟩
    clear B3 S2 z0 z1 f0 f1 lz
    obtain ⟨z0, z1, f0, f1⟩ := S3.out.2.1.facts
    have lz := S3.out.2.1.lt
    rcases N3 with ⟨k, hk, rfl, rfl⟩ | ⟨hk, ti, qi, rfl⟩
    · have bk := Lib.atoiAll_bounds hk
      have HK : Hid (Lib.atoiAll RR.data.toList = .ok k) := hk
      clear hk
      obtain ⟨D, hD⟩ : ∃ D, (⟨(textL u k).toArray⟩ : ByteArray) = D := ⟨_, rfl⟩
      have TXc : Hid (∀ w, Vars w → Calls Tryd.prog 5 #[.agg #[.int .i64 u, .int .i64 k]] w fun x w' => x = .returned (.string D) ∧ Below w.heap.size w w') := fun w V => by
        have := text u k w (by omega) (by omega) V
        rw [hD] at this
        exact this
      have DH : Hid ((⟨(textL u k).toArray⟩ : ByteArray) = D) := hD
      clear hD
      go_wp2_with fail
      refine (TXc.out _ (S3.out.2.2.by ((Below.refl _ _).alloc (Nat.le_refl _) _))).mono ?_
      rintro x w4 ⟨rfl, B4⟩
      have S4 : Hid (Below w.heap.size w w4 ∧ TagAt w4 w.heap.size 0 0 ∧ TagAt w4 w3.heap.size u k) := ⟨(S3.out.1.alloc (by omega) _).trans (B4.mono (by simp; omega)), (S3.out.2.1.alloc _).by B4, (TagAt.new w3 u k).by B4⟩
      clear B4 S3 z0 z1 f0 f1 lz TXc
      obtain ⟨z0, z1, f0, f1⟩ := S4.out.2.1.facts
      obtain ⟨t0, t1, _, _⟩ := S4.out.2.2.facts
      have lz := S4.out.2.1.lt
      by_cases he : D = s
      · have fin : Hid (parseT s.data.toList = (u, k, 0)) := by
          show parseT s.data.toList = _
          rw [PT.out, HU.out, HK.out]
          simp only []
          rw [if_pos]
          rw [← he, ← DH.out]
        clear DH
        subst he
        go_wp2_with fail
        exact parse_end S4.out.1 S4.out.2.1 rfl rfl fin.out
      · have fin : Hid (parseT s.data.toList = (0, 0, 31)) := by
          show parseT s.data.toList = _
          rw [PT.out, HU.out, HK.out]
          simp only []
          rw [if_neg]
          intro e
          apply he
          rw [← DH.out, e]
        have hne : (D.toList == s.toList) = false := by rw [eq_bytes]; exact decide_eq_false he
        clear DH
        go_wp2_with fail
        exact parse_end S4.out.1 S4.out.2.1 rfl rfl fin.out
    · have fin : Hid (parseT s.data.toList = (0, 0, 31)) := by
        show parseT s.data.toList = _
        rw [PT.out, HU.out]
        cases e : Lib.atoiAll RR.data.toList with
        | ok q => exact absurd e (hk q)
        | «syntax» => rfl
        | range => rfl
      clear hk
      go_wp2_with fail
      exact parse_end S3.out.1 S3.out.2.1 rfl rfl fin.out
  · have fin : Hid (parseT s.data.toList = (0, 0, 31)) := by
      show parseT s.data.toList = _
      rw [PT.out]
      cases e : Lib.atoiAll LL.data.toList with
      | ok q => exact absurd e (hu q)
      | «syntax» => rfl
      | range => rfl
    clear hu
    go_wp2_with fail
    exact parse_end S2.out.1 S2.out.2.1 rfl rfl fin.out
end Go.Proofs.YtpgfmoddhjhlkaaDoor
