import Derived.Test.YtojepeefphbekabGreatInsert
import Derived.Test.YtojepeefphbekabGreatBaseJ
import Derived.Maps.RangeWalk
import Derived.Maps.OwnSet
import Derived.DeepKeys4
namespace Go.Proofs.YtojepeefphbekabGreat
open Go.RowKit

theorem Moved.ins {w w3 w5 : World} {C : Nat} {q q5 : Option Addr} {v : Value} (B3 : Below w.heap.size w w3) (hg : w3.grownBy w5 (blockOf q)) (hn : blockOf q5 = blockOf q ∨ blockOf q5 = some w3.heap.size) : Moved w (w5.setCell ⟨C, 0, none⟩ v) C q q5 := by
  refine ⟨⟨hg.os.trans B3.os, hg.tape.trans B3.tape, hg.output.trans B3.output, Nat.le_trans B3.size (Nat.le_trans hg.size (by simp [World.setCell])), fun k hk hne => ?_⟩, fun k hk => ?_⟩
  · rw [Below.heap_setCell w5 ⟨C, 0, none⟩ _ k (fun e => hne (.inl e))]
    exact (hg.block k (Nat.lt_of_lt_of_le hk B3.size) (fun e => hne (.inr e.symm))).trans (B3.block k hk)
  · rcases hn with e | e
    · exact .inl (by rw [← e]; exact hk)
    · rw [e] at hk
      have := B3.size
      right
      simp at hk
      omega
/-- What Add makes of a rising list. -/
def AddS (S : List (Int × Int)) (x y : Int) (b : Bool) (e : Int) (S' : List (Int × Int)) : Prop :=
  (isProper x y = false ∧ b = false ∧ e = 41 ∧ S' = S) ∨ (isProper x y = true ∧ (x, y) ∈ S ∧ b = false ∧ e = 0 ∧ S' = S) ∨ (isProper x y = true ∧ (x, y) ∉ S ∧ b = true ∧ e = 0 ∧ S' = put S (x, y))
set_option maxRecDepth 100000 in
set_option maxHeartbeats 2000000 in
/-- Add. -/
theorem sAdd (B : Nat) (q : Option Addr) (len cap : Nat) (S : List (Int × Int)) (x y : Int) (w : World) (h : IsSet 105 w B q len cap S) (hS : Rising S) (hf : Fit [(x, y)]) (hb : (len + 1) * 16 ≤ 211106232532992) :
    Calls Tryz.prog 44 #[.pointer (some ⟨B, 0, none⟩), .agg #[.int .i64 x, .int .i64 y]] w fun o w' => ∃ b e q' len' cap' S', o = .returned (.tuple #[.bool b, .int .i64 e]) ∧ AddS S x y b e S' ∧ IsSet 105 w' B q' len' cap' S' ∧ Moved w w' B q q' := by
  have B0 : Below w.heap.size w (w.alloc (Obj.cells #[.int .i64 x, .int .i64 y] 31)) := (Below.refl w.heap.size w).alloc (Nat.le_refl _) _
  have S0 : Hid (Below w.heap.size w (w.alloc (Obj.cells #[.int .i64 x, .int .i64 y] 31)) ∧ IsSet 105 (w.alloc (Obj.cells #[.int .i64 x, .int .i64 y] 31)) B q len cap S ∧ TagAt (w.alloc (Obj.cells #[.int .i64 x, .int .i64 y] 31)) w.heap.size x y) := ⟨B0, h.by B0, TagAt.new w x y⟩
  have HH : Hid (IsSet 105 w B q len cap S ∧ Fit [(x, y)] ∧ Rising S) := ⟨h, hf, hS⟩
  obtain ⟨A, hA⟩ : ∃ A, ahead S (x, y) = A := ⟨_, rfl⟩
  have hl := h.row.length
  have hAl : A ≤ len := by rw [← hA, ← hl]; exact ahead_le _ _
  have HA : Hid (ahead S (x, y) = A) := hA
  have cP : Hid (∀ w1, SV w1 B 105 q len cap S → Calls Tryz.prog 59 #[.pointer (some ⟨B, 0, none⟩), .agg #[.int .i64 x, .int .i64 y]] w1 fun o w' => o = .returned (.int .i64 (A : Int)) ∧ Below w1.heap.size w1 w') := fun w1 h1 => by
    have := place B q len cap S x y w1 h1 hS (by omega)
    rw [hA] at this
    exact this
  have cA : Hid (∀ w1, SV w1 B 105 q len cap S → Calls Tryz.prog 60 #[.pointer (some ⟨B, 0, none⟩), .int .i64 (A : Int), .agg #[.int .i64 x, .int .i64 y]] w1 fun o w' => o = .returned (.bool (decide ((x, y) ∈ S))) ∧ Below w1.heap.size w1 w') := fun w1 h1 => by
    have := sAt B q len cap S x y A w1 h1 hAl (by omega)
    have e : decide (S[A]? = some (x, y)) = decide ((x, y) ∈ S) := by
      rw [decide_eq_decide, ← hA]
      exact (mem_iff S (x, y) hS).symm
    rw [e] at this
    exact this
  clear B0 h hf hS hA
  go_enter Tryz.func44, Tryz.ntmps44
  go_wp2_with fail
  refine (proper x y _).mono ?_
  rintro o w1 ⟨rfl, B1⟩
  have S1 : Hid (Below w.heap.size w w1 ∧ IsSet 105 w1 B q len cap S ∧ TagAt w1 w.heap.size x y) := ⟨S0.out.1.trans (B1.mono S0.out.1.size), S0.out.2.1.by B1, S0.out.2.2.by B1⟩
  clear B1 S0
  obtain ⟨t0, t1, _, _⟩ := S1.out.2.2.facts
  cases hp : isProper x y
  · go_wp2_with fail
    go_ret2
    exact ⟨false, 41, q, len, cap, S, rfl, .inl ⟨hp, rfl, rfl, rfl⟩, S1.out.2.1, Moved.of_below S1.out.1 B q⟩
  · go_wp2_with fail
    refine (cP.out _ S1.out.2.1.sv).mono ?_
    rintro o w2 ⟨rfl, B2⟩
    have S2 : Hid (Below w.heap.size w w2 ∧ IsSet 105 w2 B q len cap S ∧ TagAt w2 w.heap.size x y) := ⟨S1.out.1.trans (B2.mono S1.out.1.size), S1.out.2.1.by B2, S1.out.2.2.by B2⟩
    clear B2 S1 t0 t1
    obtain ⟨t0, t1, _, _⟩ := S2.out.2.2.facts
    go_wp2_with fail
    refine (cA.out _ S2.out.2.1.sv).mono ?_
    rintro o w3 ⟨rfl, B3⟩
    have S3 : Hid (Below w.heap.size w w3 ∧ IsSet 105 w3 B q len cap S ∧ TagAt w3 w.heap.size x y) := ⟨S2.out.1.trans (B3.mono S2.out.1.size), S2.out.2.1.by B3, S2.out.2.2.by B3⟩
    clear B3 S2 t0 t1
    by_cases hm : (x, y) ∈ S
    · have d1 : decide ((x, y) ∈ S) = true := decide_eq_true hm
      have HM : Hid ((x, y) ∈ S) := hm
      clear hm
      go_wp2_with fail
      go_ret2
      exact ⟨false, 0, q, len, cap, S, rfl, .inr (.inl ⟨hp, HM.out, rfl, rfl, rfl⟩), S3.out.2.1, Moved.of_below S3.out.1 B q⟩
    · have d1 : decide ((x, y) ∈ S) = false := decide_eq_false hm
      have HM : Hid ((x, y) ∉ S) := hm
      obtain ⟨t0, t1, _, _⟩ := S3.out.2.2.facts
      have cC := S3.out.2.1.sv.cell
      have lC := S3.out.2.1.sv.lt
      have lt := S3.out.2.2.lt
      have AP : Hid (blockOf q ≠ some B) := S3.out.2.1.apart
      have B4 : Below w3.heap.size w3 ((w3.alloc (Obj.cells #[.int .i64 x, .int .i64 y] 31)).drew) := ((Below.refl _ _).alloc (Nat.le_refl _) _).drew
      have B3 : Hid (Below w.heap.size w ((w3.alloc (Obj.cells #[.int .i64 x, .int .i64 y] 31)).drew)) := S3.out.1.trans (B4.mono S3.out.1.size)
      have I3 : Hid (IsSet 105 ((w3.alloc (Obj.cells #[.int .i64 x, .int .i64 y] 31)).drew) B q len cap S) := S3.out.2.1.by B4
      have cI : Hid (Calls Tryz.prog 61 #[.slice q len cap, .int .i64 (A : Int), .slice (some ⟨w3.heap.size, 0, none⟩) 1 1] ((w3.alloc (Obj.cells #[.int .i64 x, .int .i64 y] 31)).drew) fun o w' => ∃ q' c', o = .returned (.slice q' (len + 1) c') ∧ Hid (InsIs ((w3.alloc (Obj.cells #[.int .i64 x, .int .i64 y] 31)).drew) w' q q' len c' S A x y) ∧ Hid (w'.heap[B]? = some (.cells #[.slice q len cap] 105 (0, 0))) ∧ w'.cell? ⟨B, 0, none⟩ = some (.slice q len cap) ∧ w'.frozen? ⟨B, 0, none⟩ = false) := by
        refine (insert q len cap S x y A w3.heap.size _ I3.out.row (TagAt.new w3 x y).drew HH.out.2.1 hAl (fun e => ?_) hb).mono ?_
        · have := S3.out.2.1.rowlt _ e
          omega
        · rintro o w' ⟨q', c', rfl, II⟩
          have hb5 : w'.heap[B]? = some (.cells #[.slice q len cap] 105 (0, 0)) := (II.2.1.block B (Nat.lt_of_lt_of_le lC B4.size) (fun e => AP.out e.symm)).trans I3.out.blk
          exact ⟨q', c', rfl, II, hb5, by rw [cell_of_row w' B 0 _ 105 (0, 0) hb5]; rfl, by simp [World.frozen?, hb5]⟩
      clear hm B4
      go_upto_region 8 with fail
      go_region_with (first | (go_at_call 61; refine cI.out.mono ?_; rintro o w5 ⟨q5, c5, rfl, II, K0, k3, k4⟩) | fail)
      all_goals go_wp2_with fail
      all_goals go_ret2
      all_goals exact ⟨true, 0, q5, len + 1, c5, put S (x, y), rfl, .inr (.inr ⟨hp, HM.out, rfl, rfl, rfl⟩), IsSet.laid K0.out (by decide) (by unfold put; rw [HA.out]; exact II.out.1), Moved.ins B3.out II.out.2.1 II.out.2.2⟩
end Go.Proofs.YtojepeefphbekabGreat

namespace Go.Proofs.YtojepeefphbekabGreat
open Go.RowKit

theorem k0_of {w w' : World} (B : Below w.heap.size w w') : Kept (fun _ => False) w w' := ⟨B.os, B.tape, B.output, B.size, fun k hk _ => B.block k hk⟩
theorem k0_alloc (w : World) (o : Obj) : Kept (fun _ => False) w (w.alloc o) := (Kept.refl _ w).alloc o
theorem Kept.and0 {S : Nat → Prop} {a b c : World} (h : Kept S a b) (k : Kept (fun _ => False) b c) : Kept S a c := h.trans k (fun _ _ z => z.elim)
/-- An update. -/
structure Upd where
  kind : Int
  key : ByteArray
  x : Int
  y : Int
  fin : Bool
  has : Bool
  a : Option Addr
  n : Nat
  c : Nat
def Upd.val (u : Upd) : Value := .agg #[.int .i64 u.kind, .string u.key, .int .i64 u.x, .int .i64 u.y, .bool u.fin, .bool u.has, .slice u.a u.n u.c]
def keyB (k : ByteArray) : Bool := decide (1 ≤ k.size ∧ k.size ≤ 64)
def Upd.fits (u : Upd) : Bool := if u.kind = 1 then !u.fin && !u.has else if u.kind = 2 then !u.fin && !u.has && ((u.n : Int) == 0) else if u.kind = 3 then u.has || (u.fin && ((u.n : Int) == 0)) else false
def Upd.brings (u : Upd) : Bool := decide (u.kind = 1) || u.has
def Upd.final (u : Upd) : Bool := decide (u.kind = 2) || u.fin
def Upd.may (u : Upd) : Bool := keyB u.key && (isZero u.x u.y || isProper u.x u.y) && !isZero u.x u.y && decide (u.n ≤ 65540) && u.fits
theorem isKey (k : ByteArray) (w : World) : Calls Tryz.prog 35 #[.string k] w fun x w' => x = .returned (.bool (keyB k)) ∧ w' = w := by
  unfold keyB
  go_enter Tryz.func35, Tryz.ntmps35
  by_cases h : (1 : Int) ≤ (k.size : Int)
  · by_cases h2 : (k.size : Int) ≤ 64
    · go_wp2_with fail
      go_ret
      exact ⟨by simp; omega, rfl⟩
    · go_wp2_with fail
      go_ret
      exact ⟨by simp; omega, rfl⟩
  · go_wp2_with fail
    go_ret
    exact ⟨by simp; omega, rfl⟩
theorem brings (u : Upd) (w : World) : Calls Tryz.prog 40 #[u.val] w fun x w' => x = .returned (.bool u.brings) ∧ Kept (fun _ => False) w w' := by
  obtain ⟨kd, key, x, y, fin, has, a, n, c⟩ := u
  unfold Upd.brings Upd.val
  dsimp only
  go_enter Tryz.func40, Tryz.ntmps40
  by_cases h : kd = 1
  · go_wp2_with fail
    go_ret
    exact ⟨by simp [h], k0_alloc _ _⟩
  · go_wp2_with fail
    go_ret
    exact ⟨by simp [h], k0_alloc _ _⟩
theorem finalizes (u : Upd) (w : World) : Calls Tryz.prog 41 #[u.val] w fun x w' => x = .returned (.bool u.final) ∧ Kept (fun _ => False) w w' := by
  obtain ⟨kd, key, x, y, fin, has, a, n, c⟩ := u
  unfold Upd.final Upd.val
  dsimp only
  go_enter Tryz.func41, Tryz.ntmps41
  by_cases h : kd = 2
  · go_wp2_with fail
    go_ret
    exact ⟨by simp [h], k0_alloc _ _⟩
  · go_wp2_with fail
    go_ret
    exact ⟨by simp [h], k0_alloc _ _⟩
theorem fits1 (key : ByteArray) (x y : Int) (fin has : Bool) (a : Option Addr) (n c : Nat) (w : World) : Calls Tryz.prog 38 #[.agg #[.int .i64 1, .string key, .int .i64 x, .int .i64 y, .bool fin, .bool has, .slice a n c]] w fun z w' => z = .returned (.bool (!fin && !has)) ∧ Kept (fun _ => False) w w' := by
  have KZ : Hid (∀ o1 o2, Kept (fun _ => False) w ((w.alloc o1).alloc o2)) := fun _ _ => ((Kept.refl _ w).alloc _).alloc _
  go_enter Tryz.func38, Tryz.ntmps38
  cases fin
  · go_wp2_with fail
    go_ret
    exact ⟨by simp, KZ.out _ _⟩
  · go_wp2_with fail
    go_ret
    exact ⟨by simp, KZ.out _ _⟩
theorem fits2 (key : ByteArray) (x y : Int) (fin has : Bool) (a : Option Addr) (n c : Nat) (w : World) : Calls Tryz.prog 38 #[.agg #[.int .i64 2, .string key, .int .i64 x, .int .i64 y, .bool fin, .bool has, .slice a n c]] w fun z w' => z = .returned (.bool (!fin && !has && ((n : Int) == 0))) ∧ Kept (fun _ => False) w w' := by
  have KZ : Hid (∀ o1 o2, Kept (fun _ => False) w ((w.alloc o1).alloc o2)) := fun _ _ => ((Kept.refl _ w).alloc _).alloc _
  go_enter Tryz.func38, Tryz.ntmps38
  cases fin
  · cases has
    · go_wp2_with fail
      go_ret
      exact ⟨by simp, KZ.out _ _⟩
    · go_wp2_with fail
      go_ret
      exact ⟨by simp, KZ.out _ _⟩
  · go_wp2_with fail
    go_ret
    exact ⟨by simp, KZ.out _ _⟩
theorem fits3 (key : ByteArray) (x y : Int) (fin has : Bool) (a : Option Addr) (n c : Nat) (w : World) : Calls Tryz.prog 38 #[.agg #[.int .i64 3, .string key, .int .i64 x, .int .i64 y, .bool fin, .bool has, .slice a n c]] w fun z w' => z = .returned (.bool (has || (fin && ((n : Int) == 0)))) ∧ Kept (fun _ => False) w w' := by
  have KZ : Hid (∀ o1 o2, Kept (fun _ => False) w ((w.alloc o1).alloc o2)) := fun _ _ => ((Kept.refl _ w).alloc _).alloc _
  go_enter Tryz.func38, Tryz.ntmps38
  cases has
  · cases fin
    · go_wp2_with fail
      go_ret
      exact ⟨by simp, KZ.out _ _⟩
    · go_wp2_with fail
      go_ret
      exact ⟨by simp, KZ.out _ _⟩
  · go_wp2_with fail
    go_ret
    exact ⟨by simp, KZ.out _ _⟩
theorem fits0 (kd : Int) (key : ByteArray) (x y : Int) (fin has : Bool) (a : Option Addr) (n c : Nat) (w : World) (h1 : ¬ kd = 1) (h2 : ¬ kd = 2) (h3 : ¬ kd = 3) : Calls Tryz.prog 38 #[.agg #[.int .i64 kd, .string key, .int .i64 x, .int .i64 y, .bool fin, .bool has, .slice a n c]] w fun z w' => z = .returned (.bool false) ∧ Kept (fun _ => False) w w' := by
  have KZ : Hid (∀ o1 o2, Kept (fun _ => False) w ((w.alloc o1).alloc o2)) := fun _ _ => ((Kept.refl _ w).alloc _).alloc _
  go_enter Tryz.func38, Tryz.ntmps38
  go_wp2_with fail
  go_ret
  exact ⟨by simp, KZ.out _ _⟩
theorem fitsKind (u : Upd) (w : World) : Calls Tryz.prog 38 #[u.val] w fun x w' => x = .returned (.bool u.fits) ∧ Kept (fun _ => False) w w' := by
  obtain ⟨kd, key, x, y, fin, has, a, n, c⟩ := u
  unfold Upd.fits Upd.val
  dsimp only
  by_cases h1 : kd = 1
  · rw [if_pos h1]
    subst h1
    exact fits1 key x y fin has a n c w
  · rw [if_neg h1]
    by_cases h2 : kd = 2
    · rw [if_pos h2]
      subst h2
      exact fits2 key x y fin has a n c w
    · rw [if_neg h2]
      by_cases h3 : kd = 3
      · rw [if_pos h3]
        subst h3
        exact fits3 key x y fin has a n c w
      · rw [if_neg h3]
        exact fits0 kd key x y fin has a n c w h1 h2 h3
end Go.Proofs.YtojepeefphbekabGreat

namespace Go.Proofs.YtojepeefphbekabGreat
open Go.RowKit
theorem Tryz.laid : laidOutB Tryz.prog = true := by kernel_rfl
theorem Tryz.tsize : Tryz.prog.types.size = 176 := by kernel_rfl
theorem Tryz.keyAt31 : Tryz.prog.keyTypeAt 176 31 = true := by kernel_rfl
theorem Tryz.keyType31 : Tryz.prog.keyType 31 = true := by kernel_rfl
theorem Tryz.cellsOf31 : Tryz.prog.cellsOf 31 = 2 := by kernel_rfl
theorem Tryz.cellsOf2 : Tryz.prog.cellsOf 2 = 1 := by kernel_rfl
theorem Tryz.cellsOf3 : Tryz.prog.cellsOf 3 = 1 := by kernel_rfl
theorem tagLaw : Maps.Keyed Tryz.prog 31 := Maps.Keyed.of_law (deep_law_laid Tryz.laid (m := 176) (by decide) (by rw [Tryz.tsize]; decide) Tryz.keyAt31 (by rw [Tryz.underlying31]))
theorem strLaw : Maps.Keyed Tryz.prog 9 := Maps.string_keyed Tryz.underlying9
def tv (t : Int × Int) : Value := .agg #[.int .i64 t.1, .int .i64 t.2]
def tl (t : Int × Int) : Lit := .string (keyBytes [.int .i64 t.1, .int .i64 t.2])
def TFit (t : Int × Int) : Prop := (-9223372036854775808 ≤ t.1 ∧ t.1 < 9223372036854775808) ∧ (-9223372036854775808 ≤ t.2 ∧ t.2 < 9223372036854775808)
theorem wf_i64 (a : Int) : (Lit.int .i64 a).wf = true ↔ (-9223372036854775808 ≤ a ∧ a < 9223372036854775808) := by
  have e1 : IntKind.i64.min = -9223372036854775808 := by decide
  have e2 : IntKind.i64.max = 9223372036854775807 := by decide
  show (decide (IntKind.i64.min ≤ a) && decide (a ≤ IntKind.i64.max)) = true ↔ _
  rw [e1, e2]
  simp
  omega
theorem lits_int (d t : Nat) (ht : Tryz.prog.underlying t = some (.int .i64)) (a : Int) (h : (Lit.int .i64 a).wf = true) : Tryz.prog.keyLits (d + 1) t [.int .i64 a] = some [.int .i64 a] := by
  unfold Program.keyLits
  rw [ht]
  simp [h]
theorem keyOf29 (v : Value) : keyOf Tryz.prog 31 v = if v.formed Tryz.prog 31 = true then (Tryz.prog.keyLits (176 + 1) 31 v.cells.toList).map (fun ls => Lit.string (keyBytes ls)) else none := by
  unfold keyOf
  rw [Tryz.underlying31, Tryz.keyType31, Tryz.tsize]
  simp
theorem lits29 (d : Nat) (p q : Value) : Tryz.prog.keyLits (d + 1) 31 [p, q] = ((Tryz.prog.keyLits d 2 [p]).bind fun l1 => (Tryz.prog.keyLits d 3 [q]).bind fun l2 => some [l1, l2]).map List.flatten := by
  conv => lhs; unfold Program.keyLits
  rw [Tryz.underlying31]
  show (if _ then _ else _) = _
  rw [if_pos (by rw [Tryz.cellsOf31]; exact ⟨rfl, by simp⟩)]
  simp [Tryz.cellsOf2, Tryz.cellsOf3]
  cases Tryz.prog.keyLits d 2 [p] <;> cases Tryz.prog.keyLits d 3 [q] <;> rfl
theorem formed29 (cs : Array Value) : (Value.agg cs).formed Tryz.prog 31 = (cs.size == 2) := by
  unfold Value.formed
  rw [Tryz.underlying31, Tryz.cellsOf31]
theorem key_tag (t : Int × Int) (h : TFit t) : keyOf Tryz.prog 31 (tv t) = some (tl t) := by
  have h1 := (wf_i64 t.1).2 h.1
  have h2 := (wf_i64 t.2).2 h.2
  have hf : (tv t).formed Tryz.prog 31 = true := by
    unfold tv Value.formed
    rw [Tryz.underlying31, Tryz.cellsOf31]
    rfl
  rw [keyOf29, if_pos hf]
  have e : Tryz.prog.keyLits (176 + 1) 31 (tv t).cells.toList = some [.int .i64 t.1, .int .i64 t.2] := by
    have := lits29 176 (.int .i64 t.1) (.int .i64 t.2)
    rw [lits_int 175 2 Tryz.underlying2 t.1 h1, lits_int 175 3 Tryz.underlying3 t.2 h2] at this
    exact this
  rw [e]
  rfl
theorem lits_int_inv {d t : Nat} (ht : Tryz.prog.underlying t = some (.int .i64)) {v : Value} {ls : List Lit} (h : Tryz.prog.keyLits (d + 1) t [v] = some ls) : ∃ a : Int, v = .int .i64 a ∧ (Lit.int .i64 a).wf = true ∧ ls = [.int .i64 a] := by
  unfold Program.keyLits at h
  rw [ht] at h
  cases v <;> simp at h
  obtain ⟨⟨rfl, hw⟩, rfl⟩ := h
  exact ⟨_, rfl, hw, rfl⟩
theorem key_inv {v : Value} {l : Lit} (h : keyOf Tryz.prog 31 v = some l) : ∃ t : Int × Int, v = tv t ∧ TFit t ∧ l = tl t := by
  rw [keyOf29] at h
  by_cases hf : v.formed Tryz.prog 31 = true
  · rw [if_pos hf, Option.map_eq_some_iff] at h
    obtain ⟨ls, hl, rfl⟩ := h
    obtain ⟨cs, rfl⟩ : ∃ cs, v = .agg cs := by
      cases v <;> simp [Value.formed, Tryz.underlying31] at hf
      exact ⟨_, rfl⟩
    have hs : cs.toList.length = 2 := by
      have h2 := (formed29 cs).symm.trans hf
      simpa using h2
    obtain ⟨p, q, e⟩ : ∃ p q, cs.toList = [p, q] := by
      match hc : cs.toList, hs with
      | [p, q], _ => exact ⟨p, q, rfl⟩
    have ec : (Value.agg cs).cells.toList = [p, q] := e
    have hl2 := (lits29 176 p q).symm.trans ((congrArg (Tryz.prog.keyLits (176 + 1) 31) ec).symm.trans hl)
    rw [Option.map_eq_some_iff] at hl2
    obtain ⟨L, h1, rfl⟩ := hl2
    clear hl
    rw [Option.bind_eq_some_iff] at h1
    obtain ⟨l1, h1, h2⟩ := h1
    rw [Option.bind_eq_some_iff] at h2
    obtain ⟨l2, h2, h3⟩ := h2
    obtain ⟨a, rfl, ha, rfl⟩ := lits_int_inv (d := 175) Tryz.underlying2 h1
    obtain ⟨b, rfl, hb, rfl⟩ := lits_int_inv (d := 175) Tryz.underlying3 h2
    have ecs : cs = #[.int .i64 a, .int .i64 b] := by
      apply Array.toList_inj.1
      exact e
    refine ⟨(a, b), by rw [ecs]; rfl, ⟨(wf_i64 a).1 ha, (wf_i64 b).1 hb⟩, ?_⟩
    have z3 := Option.some.inj h3
    subst z3
    rfl
  · rw [if_neg hf] at h
    cases h
theorem tl_inj {s t : Int × Int} (hs : TFit s) (ht : TFit t) (h : tl s = tl t) : s = t := by
  have e := tagLaw.inj (key_tag s hs) (by rw [h]; exact key_tag t ht)
  unfold tv at e
  simp at e
  exact Prod.ext e.1 e.2
end Go.Proofs.YtojepeefphbekabGreat
