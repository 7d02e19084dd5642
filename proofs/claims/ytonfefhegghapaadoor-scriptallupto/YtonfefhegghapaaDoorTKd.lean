import Derived.Deep.MidRow
import Derived.Test.YtonfefhegghapaaDoorTRd
import Derived.Deep.Cut
namespace Go.Proofs.YtonfefhegghapaaDoor
open Go.RowKit 

/-- The lines' first words, and what they have behind. -/
def kw : Nat → List UInt8
  | 0 => []
  | 1 => [112, 117, 116]
  | 2 => [103, 101, 116]
  | 3 => [99, 97, 110, 99, 101, 108]
  | 4 => [116, 105, 99, 107]
  | 5 => [115, 116, 111, 112]
  | 6 => [100, 101, 108, 105, 118, 101, 114]
  | 7 => [100, 114, 111, 112]
  | 8 => [100, 111, 117, 98, 108, 101]
  | 9 => [98, 117, 114, 115, 116]
  | 10 => [99, 117, 116]
  | 11 => [108, 111, 115, 101]
  | 12 => [99, 114, 97, 115, 104]
  | 13 => [115, 116, 97, 114, 116]
  | 14 => [100, 105, 101]
  | 15 => [99, 111, 109, 112, 97, 99, 116]
  | 16 => [114, 111, 117, 110, 100]
  | _ => []
def useN : Nat → Nat
  | 0 => 0
  | 1 => 13
  | 2 => 5
  | 3 => 1
  | 4 => 1
  | 5 => 1
  | 6 => 1
  | 7 => 1
  | 8 => 1
  | 9 => 19
  | 10 => 3
  | 11 => 1
  | 12 => 17
  | 13 => 1
  | 14 => 19
  | 15 => 1
  | 16 => 18
  | _ => 0
def kindL (l : List UInt8) : Nat := ((List.range 17).find? (fun i => decide (kw i = l))).getD 0
theorem find_hit {l : List UInt8} {i : Nat} (hi : i < 17) (h : kw i = l) (hj : ∀ j, j < i → kw j ≠ l) : kindL l = i := by
  unfold kindL
  have e : (List.range 17).find? (fun i => decide (kw i = l)) = some i := by
    rw [List.find?_eq_some_iff_getElem]
    refine ⟨decide_eq_true h, i, by rw [List.length_range]; exact hi, by simp, fun j hji => ?_⟩
    simp
    exact hj j hji
  rw [e]
  rfl
theorem find_none {l : List UInt8} (hj : ∀ j, j < 17 → kw j ≠ l) : kindL l = 0 := by
  unfold kindL
  have e : (List.range 17).find? (fun i => decide (kw i = l)) = none := by
    rw [List.find?_eq_none]
    intro j hm
    simp
    exact hj j (List.mem_range.1 hm)
  rw [e]
  rfl
theorem kindL_lt (l : List UInt8) : kindL l < 17 := by
  unfold kindL
  cases h : (List.range 17).find? (fun i => decide (kw i = l)) with
  | none => show 0 < 17; omega
  | some i => exact List.mem_range.1 (List.mem_of_find?_eq_some h)
def fcells : Array Value := #[.string ⟨#[]⟩, .int .u8 0, .string ⟨#[112, 117, 116]⟩, .int .u8 13, .string ⟨#[103, 101, 116]⟩, .int .u8 5, .string ⟨#[99, 97, 110, 99, 101, 108]⟩, .int .u8 1, .string ⟨#[116, 105, 99, 107]⟩, .int .u8 1, .string ⟨#[115, 116, 111, 112]⟩, .int .u8 1, .string ⟨#[100, 101, 108, 105, 118, 101, 114]⟩, .int .u8 1, .string ⟨#[100, 114, 111, 112]⟩, .int .u8 1, .string ⟨#[100, 111, 117, 98, 108, 101]⟩, .int .u8 1, .string ⟨#[98, 117, 114, 115, 116]⟩, .int .u8 19, .string ⟨#[99, 117, 116]⟩, .int .u8 3, .string ⟨#[108, 111, 115, 101]⟩, .int .u8 1, .string ⟨#[99, 114, 97, 115, 104]⟩, .int .u8 17, .string ⟨#[115, 116, 97, 114, 116]⟩, .int .u8 1, .string ⟨#[100, 105, 101]⟩, .int .u8 19, .string ⟨#[99, 111, 109, 112, 97, 99, 116]⟩, .int .u8 1, .string ⟨#[114, 111, 117, 110, 100]⟩, .int .u8 18]
/-- The package's table, as it lies. -/
def FM (w : World) : Prop := ∀ (i : Nat) (v : Value), fcells[i]? = some v → w.cell? ⟨0, i, none⟩ = some v
theorem FM.kept {w w' : World} (h : FM w) (K : Kept (fun _ => False) w w') : FM w' := fun i v hv => K.cell (h i v hv) (fun z => z)
theorem FM.use {w : World} (h : FM w) {k : Nat} (hk : k < 17) : w.cell? ⟨0, k * 2 + 1, none⟩ = some (.int .u8 (useN k : Int)) := by
  refine h _ _ ?_
  obtain rfl | rfl | rfl | rfl | rfl | rfl | rfl | rfl | rfl | rfl | rfl | rfl | rfl | rfl | rfl | rfl | rfl : k = 0 ∨ k = 1 ∨ k = 2 ∨ k = 3 ∨ k = 4 ∨ k = 5 ∨ k = 6 ∨ k = 7 ∨ k = 8 ∨ k = 9 ∨ k = 10 ∨ k = 11 ∨ k = 12 ∨ k = 13 ∨ k = 14 ∨ k = 15 ∨ k = 16 := by omega
  all_goals rfl
theorem FM.word {w : World} (h : FM w) {k : Nat} (hk : k < 17) : w.cell? ⟨0, k * 2, none⟩ = some (.string (ofL (kw k))) := by
  refine h _ _ ?_
  obtain rfl | rfl | rfl | rfl | rfl | rfl | rfl | rfl | rfl | rfl | rfl | rfl | rfl | rfl | rfl | rfl | rfl : k = 0 ∨ k = 1 ∨ k = 2 ∨ k = 3 ∨ k = 4 ∨ k = 5 ∨ k = 6 ∨ k = 7 ∨ k = 8 ∨ k = 9 ∨ k = 10 ∨ k = 11 ∨ k = 12 ∨ k = 13 ∨ k = 14 ∨ k = 15 ∨ k = 16 := by omega
  all_goals rfl
theorem emp_no {s : ByteArray} (h : ¬ (⟨#[]⟩ : ByteArray) = s) : s.toList.isEmpty = false := by
  rw [Go.ByteArray.toList_eq]
  cases q : s.data.toList with
  | nil =>
    exfalso
    apply h
    rw [← ofL_self s, q]
    rfl
  | cons a r => rfl
theorem emp_yes {s : ByteArray} (h : (⟨#[]⟩ : ByteArray) = s) : s.toList.isEmpty = true := by
  rw [Go.ByteArray.toList_eq, ← h]
  rfl
theorem lst_eq (l : List UInt8) (s : ByteArray) : (l == s.toList) = decide (ofL l = s) := by
  rw [Go.ByteArray.toList_eq]
  by_cases h : ofL l = s
  · rw [decide_eq_true h, ← h, ofL_listE]
    exact beq_self_eq_true l
  · rw [decide_eq_false h]
    apply beq_eq_false_iff_ne.2
    intro e
    apply h
    rw [e, ofL_self]
theorem eq_bytesE (x y : ByteArray) : (x.toList == y.toList) = decide (x = y) := by
  rw [Go.ByteArray.toList_eq, Go.ByteArray.toList_eq]
  by_cases h : x = y
  · subst h; simp
  · rw [decide_eq_false h]
    apply beq_eq_false_iff_ne.2
    intro e
    apply h
    apply ByteArray.ext
    exact Array.toList_inj.1 e
theorem kix0 (w : World) : (Instr.index 59 (.agg #[.string ⟨#[]⟩, .int .u8 0, .string ⟨#[112, 117, 116]⟩, .int .u8 13, .string ⟨#[103, 101, 116]⟩, .int .u8 5, .string ⟨#[99, 97, 110, 99, 101, 108]⟩, .int .u8 1, .string ⟨#[116, 105, 99, 107]⟩, .int .u8 1, .string ⟨#[115, 116, 111, 112]⟩, .int .u8 1, .string ⟨#[100, 101, 108, 105, 118, 101, 114]⟩, .int .u8 1, .string ⟨#[100, 114, 111, 112]⟩, .int .u8 1, .string ⟨#[100, 111, 117, 98, 108, 101]⟩, .int .u8 1, .string ⟨#[98, 117, 114, 115, 116]⟩, .int .u8 19, .string ⟨#[99, 117, 116]⟩, .int .u8 3, .string ⟨#[108, 111, 115, 101]⟩, .int .u8 1, .string ⟨#[99, 114, 97, 115, 104]⟩, .int .u8 17, .string ⟨#[115, 116, 97, 114, 116]⟩, .int .u8 1, .string ⟨#[100, 105, 101]⟩, .int .u8 19, .string ⟨#[99, 111, 109, 112, 97, 99, 116]⟩, .int .u8 1, .string ⟨#[114, 111, 117, 110, 100]⟩, .int .u8 18]) (.int .i64 0)).run Tryd.prog w = .ok (.agg #[.string ⟨#[]⟩, .int .u8 0]) w := by kernel_rfl
theorem kix1 (w : World) : (Instr.index 59 (.agg #[.string ⟨#[]⟩, .int .u8 0, .string ⟨#[112, 117, 116]⟩, .int .u8 13, .string ⟨#[103, 101, 116]⟩, .int .u8 5, .string ⟨#[99, 97, 110, 99, 101, 108]⟩, .int .u8 1, .string ⟨#[116, 105, 99, 107]⟩, .int .u8 1, .string ⟨#[115, 116, 111, 112]⟩, .int .u8 1, .string ⟨#[100, 101, 108, 105, 118, 101, 114]⟩, .int .u8 1, .string ⟨#[100, 114, 111, 112]⟩, .int .u8 1, .string ⟨#[100, 111, 117, 98, 108, 101]⟩, .int .u8 1, .string ⟨#[98, 117, 114, 115, 116]⟩, .int .u8 19, .string ⟨#[99, 117, 116]⟩, .int .u8 3, .string ⟨#[108, 111, 115, 101]⟩, .int .u8 1, .string ⟨#[99, 114, 97, 115, 104]⟩, .int .u8 17, .string ⟨#[115, 116, 97, 114, 116]⟩, .int .u8 1, .string ⟨#[100, 105, 101]⟩, .int .u8 19, .string ⟨#[99, 111, 109, 112, 97, 99, 116]⟩, .int .u8 1, .string ⟨#[114, 111, 117, 110, 100]⟩, .int .u8 18]) (.int .i64 1)).run Tryd.prog w = .ok (.agg #[.string ⟨#[112, 117, 116]⟩, .int .u8 13]) w := by kernel_rfl
theorem kix2 (w : World) : (Instr.index 59 (.agg #[.string ⟨#[]⟩, .int .u8 0, .string ⟨#[112, 117, 116]⟩, .int .u8 13, .string ⟨#[103, 101, 116]⟩, .int .u8 5, .string ⟨#[99, 97, 110, 99, 101, 108]⟩, .int .u8 1, .string ⟨#[116, 105, 99, 107]⟩, .int .u8 1, .string ⟨#[115, 116, 111, 112]⟩, .int .u8 1, .string ⟨#[100, 101, 108, 105, 118, 101, 114]⟩, .int .u8 1, .string ⟨#[100, 114, 111, 112]⟩, .int .u8 1, .string ⟨#[100, 111, 117, 98, 108, 101]⟩, .int .u8 1, .string ⟨#[98, 117, 114, 115, 116]⟩, .int .u8 19, .string ⟨#[99, 117, 116]⟩, .int .u8 3, .string ⟨#[108, 111, 115, 101]⟩, .int .u8 1, .string ⟨#[99, 114, 97, 115, 104]⟩, .int .u8 17, .string ⟨#[115, 116, 97, 114, 116]⟩, .int .u8 1, .string ⟨#[100, 105, 101]⟩, .int .u8 19, .string ⟨#[99, 111, 109, 112, 97, 99, 116]⟩, .int .u8 1, .string ⟨#[114, 111, 117, 110, 100]⟩, .int .u8 18]) (.int .i64 2)).run Tryd.prog w = .ok (.agg #[.string ⟨#[103, 101, 116]⟩, .int .u8 5]) w := by kernel_rfl
theorem kix3 (w : World) : (Instr.index 59 (.agg #[.string ⟨#[]⟩, .int .u8 0, .string ⟨#[112, 117, 116]⟩, .int .u8 13, .string ⟨#[103, 101, 116]⟩, .int .u8 5, .string ⟨#[99, 97, 110, 99, 101, 108]⟩, .int .u8 1, .string ⟨#[116, 105, 99, 107]⟩, .int .u8 1, .string ⟨#[115, 116, 111, 112]⟩, .int .u8 1, .string ⟨#[100, 101, 108, 105, 118, 101, 114]⟩, .int .u8 1, .string ⟨#[100, 114, 111, 112]⟩, .int .u8 1, .string ⟨#[100, 111, 117, 98, 108, 101]⟩, .int .u8 1, .string ⟨#[98, 117, 114, 115, 116]⟩, .int .u8 19, .string ⟨#[99, 117, 116]⟩, .int .u8 3, .string ⟨#[108, 111, 115, 101]⟩, .int .u8 1, .string ⟨#[99, 114, 97, 115, 104]⟩, .int .u8 17, .string ⟨#[115, 116, 97, 114, 116]⟩, .int .u8 1, .string ⟨#[100, 105, 101]⟩, .int .u8 19, .string ⟨#[99, 111, 109, 112, 97, 99, 116]⟩, .int .u8 1, .string ⟨#[114, 111, 117, 110, 100]⟩, .int .u8 18]) (.int .i64 3)).run Tryd.prog w = .ok (.agg #[.string ⟨#[99, 97, 110, 99, 101, 108]⟩, .int .u8 1]) w := by kernel_rfl
theorem kix4 (w : World) : (Instr.index 59 (.agg #[.string ⟨#[]⟩, .int .u8 0, .string ⟨#[112, 117, 116]⟩, .int .u8 13, .string ⟨#[103, 101, 116]⟩, .int .u8 5, .string ⟨#[99, 97, 110, 99, 101, 108]⟩, .int .u8 1, .string ⟨#[116, 105, 99, 107]⟩, .int .u8 1, .string ⟨#[115, 116, 111, 112]⟩, .int .u8 1, .string ⟨#[100, 101, 108, 105, 118, 101, 114]⟩, .int .u8 1, .string ⟨#[100, 114, 111, 112]⟩, .int .u8 1, .string ⟨#[100, 111, 117, 98, 108, 101]⟩, .int .u8 1, .string ⟨#[98, 117, 114, 115, 116]⟩, .int .u8 19, .string ⟨#[99, 117, 116]⟩, .int .u8 3, .string ⟨#[108, 111, 115, 101]⟩, .int .u8 1, .string ⟨#[99, 114, 97, 115, 104]⟩, .int .u8 17, .string ⟨#[115, 116, 97, 114, 116]⟩, .int .u8 1, .string ⟨#[100, 105, 101]⟩, .int .u8 19, .string ⟨#[99, 111, 109, 112, 97, 99, 116]⟩, .int .u8 1, .string ⟨#[114, 111, 117, 110, 100]⟩, .int .u8 18]) (.int .i64 4)).run Tryd.prog w = .ok (.agg #[.string ⟨#[116, 105, 99, 107]⟩, .int .u8 1]) w := by kernel_rfl
theorem kix5 (w : World) : (Instr.index 59 (.agg #[.string ⟨#[]⟩, .int .u8 0, .string ⟨#[112, 117, 116]⟩, .int .u8 13, .string ⟨#[103, 101, 116]⟩, .int .u8 5, .string ⟨#[99, 97, 110, 99, 101, 108]⟩, .int .u8 1, .string ⟨#[116, 105, 99, 107]⟩, .int .u8 1, .string ⟨#[115, 116, 111, 112]⟩, .int .u8 1, .string ⟨#[100, 101, 108, 105, 118, 101, 114]⟩, .int .u8 1, .string ⟨#[100, 114, 111, 112]⟩, .int .u8 1, .string ⟨#[100, 111, 117, 98, 108, 101]⟩, .int .u8 1, .string ⟨#[98, 117, 114, 115, 116]⟩, .int .u8 19, .string ⟨#[99, 117, 116]⟩, .int .u8 3, .string ⟨#[108, 111, 115, 101]⟩, .int .u8 1, .string ⟨#[99, 114, 97, 115, 104]⟩, .int .u8 17, .string ⟨#[115, 116, 97, 114, 116]⟩, .int .u8 1, .string ⟨#[100, 105, 101]⟩, .int .u8 19, .string ⟨#[99, 111, 109, 112, 97, 99, 116]⟩, .int .u8 1, .string ⟨#[114, 111, 117, 110, 100]⟩, .int .u8 18]) (.int .i64 5)).run Tryd.prog w = .ok (.agg #[.string ⟨#[115, 116, 111, 112]⟩, .int .u8 1]) w := by kernel_rfl
theorem kix6 (w : World) : (Instr.index 59 (.agg #[.string ⟨#[]⟩, .int .u8 0, .string ⟨#[112, 117, 116]⟩, .int .u8 13, .string ⟨#[103, 101, 116]⟩, .int .u8 5, .string ⟨#[99, 97, 110, 99, 101, 108]⟩, .int .u8 1, .string ⟨#[116, 105, 99, 107]⟩, .int .u8 1, .string ⟨#[115, 116, 111, 112]⟩, .int .u8 1, .string ⟨#[100, 101, 108, 105, 118, 101, 114]⟩, .int .u8 1, .string ⟨#[100, 114, 111, 112]⟩, .int .u8 1, .string ⟨#[100, 111, 117, 98, 108, 101]⟩, .int .u8 1, .string ⟨#[98, 117, 114, 115, 116]⟩, .int .u8 19, .string ⟨#[99, 117, 116]⟩, .int .u8 3, .string ⟨#[108, 111, 115, 101]⟩, .int .u8 1, .string ⟨#[99, 114, 97, 115, 104]⟩, .int .u8 17, .string ⟨#[115, 116, 97, 114, 116]⟩, .int .u8 1, .string ⟨#[100, 105, 101]⟩, .int .u8 19, .string ⟨#[99, 111, 109, 112, 97, 99, 116]⟩, .int .u8 1, .string ⟨#[114, 111, 117, 110, 100]⟩, .int .u8 18]) (.int .i64 6)).run Tryd.prog w = .ok (.agg #[.string ⟨#[100, 101, 108, 105, 118, 101, 114]⟩, .int .u8 1]) w := by kernel_rfl
theorem kix7 (w : World) : (Instr.index 59 (.agg #[.string ⟨#[]⟩, .int .u8 0, .string ⟨#[112, 117, 116]⟩, .int .u8 13, .string ⟨#[103, 101, 116]⟩, .int .u8 5, .string ⟨#[99, 97, 110, 99, 101, 108]⟩, .int .u8 1, .string ⟨#[116, 105, 99, 107]⟩, .int .u8 1, .string ⟨#[115, 116, 111, 112]⟩, .int .u8 1, .string ⟨#[100, 101, 108, 105, 118, 101, 114]⟩, .int .u8 1, .string ⟨#[100, 114, 111, 112]⟩, .int .u8 1, .string ⟨#[100, 111, 117, 98, 108, 101]⟩, .int .u8 1, .string ⟨#[98, 117, 114, 115, 116]⟩, .int .u8 19, .string ⟨#[99, 117, 116]⟩, .int .u8 3, .string ⟨#[108, 111, 115, 101]⟩, .int .u8 1, .string ⟨#[99, 114, 97, 115, 104]⟩, .int .u8 17, .string ⟨#[115, 116, 97, 114, 116]⟩, .int .u8 1, .string ⟨#[100, 105, 101]⟩, .int .u8 19, .string ⟨#[99, 111, 109, 112, 97, 99, 116]⟩, .int .u8 1, .string ⟨#[114, 111, 117, 110, 100]⟩, .int .u8 18]) (.int .i64 7)).run Tryd.prog w = .ok (.agg #[.string ⟨#[100, 114, 111, 112]⟩, .int .u8 1]) w := by kernel_rfl
theorem kix8 (w : World) : (Instr.index 59 (.agg #[.string ⟨#[]⟩, .int .u8 0, .string ⟨#[112, 117, 116]⟩, .int .u8 13, .string ⟨#[103, 101, 116]⟩, .int .u8 5, .string ⟨#[99, 97, 110, 99, 101, 108]⟩, .int .u8 1, .string ⟨#[116, 105, 99, 107]⟩, .int .u8 1, .string ⟨#[115, 116, 111, 112]⟩, .int .u8 1, .string ⟨#[100, 101, 108, 105, 118, 101, 114]⟩, .int .u8 1, .string ⟨#[100, 114, 111, 112]⟩, .int .u8 1, .string ⟨#[100, 111, 117, 98, 108, 101]⟩, .int .u8 1, .string ⟨#[98, 117, 114, 115, 116]⟩, .int .u8 19, .string ⟨#[99, 117, 116]⟩, .int .u8 3, .string ⟨#[108, 111, 115, 101]⟩, .int .u8 1, .string ⟨#[99, 114, 97, 115, 104]⟩, .int .u8 17, .string ⟨#[115, 116, 97, 114, 116]⟩, .int .u8 1, .string ⟨#[100, 105, 101]⟩, .int .u8 19, .string ⟨#[99, 111, 109, 112, 97, 99, 116]⟩, .int .u8 1, .string ⟨#[114, 111, 117, 110, 100]⟩, .int .u8 18]) (.int .i64 8)).run Tryd.prog w = .ok (.agg #[.string ⟨#[100, 111, 117, 98, 108, 101]⟩, .int .u8 1]) w := by kernel_rfl
theorem kix9 (w : World) : (Instr.index 59 (.agg #[.string ⟨#[]⟩, .int .u8 0, .string ⟨#[112, 117, 116]⟩, .int .u8 13, .string ⟨#[103, 101, 116]⟩, .int .u8 5, .string ⟨#[99, 97, 110, 99, 101, 108]⟩, .int .u8 1, .string ⟨#[116, 105, 99, 107]⟩, .int .u8 1, .string ⟨#[115, 116, 111, 112]⟩, .int .u8 1, .string ⟨#[100, 101, 108, 105, 118, 101, 114]⟩, .int .u8 1, .string ⟨#[100, 114, 111, 112]⟩, .int .u8 1, .string ⟨#[100, 111, 117, 98, 108, 101]⟩, .int .u8 1, .string ⟨#[98, 117, 114, 115, 116]⟩, .int .u8 19, .string ⟨#[99, 117, 116]⟩, .int .u8 3, .string ⟨#[108, 111, 115, 101]⟩, .int .u8 1, .string ⟨#[99, 114, 97, 115, 104]⟩, .int .u8 17, .string ⟨#[115, 116, 97, 114, 116]⟩, .int .u8 1, .string ⟨#[100, 105, 101]⟩, .int .u8 19, .string ⟨#[99, 111, 109, 112, 97, 99, 116]⟩, .int .u8 1, .string ⟨#[114, 111, 117, 110, 100]⟩, .int .u8 18]) (.int .i64 9)).run Tryd.prog w = .ok (.agg #[.string ⟨#[98, 117, 114, 115, 116]⟩, .int .u8 19]) w := by kernel_rfl
theorem kix10 (w : World) : (Instr.index 59 (.agg #[.string ⟨#[]⟩, .int .u8 0, .string ⟨#[112, 117, 116]⟩, .int .u8 13, .string ⟨#[103, 101, 116]⟩, .int .u8 5, .string ⟨#[99, 97, 110, 99, 101, 108]⟩, .int .u8 1, .string ⟨#[116, 105, 99, 107]⟩, .int .u8 1, .string ⟨#[115, 116, 111, 112]⟩, .int .u8 1, .string ⟨#[100, 101, 108, 105, 118, 101, 114]⟩, .int .u8 1, .string ⟨#[100, 114, 111, 112]⟩, .int .u8 1, .string ⟨#[100, 111, 117, 98, 108, 101]⟩, .int .u8 1, .string ⟨#[98, 117, 114, 115, 116]⟩, .int .u8 19, .string ⟨#[99, 117, 116]⟩, .int .u8 3, .string ⟨#[108, 111, 115, 101]⟩, .int .u8 1, .string ⟨#[99, 114, 97, 115, 104]⟩, .int .u8 17, .string ⟨#[115, 116, 97, 114, 116]⟩, .int .u8 1, .string ⟨#[100, 105, 101]⟩, .int .u8 19, .string ⟨#[99, 111, 109, 112, 97, 99, 116]⟩, .int .u8 1, .string ⟨#[114, 111, 117, 110, 100]⟩, .int .u8 18]) (.int .i64 10)).run Tryd.prog w = .ok (.agg #[.string ⟨#[99, 117, 116]⟩, .int .u8 3]) w := by kernel_rfl
theorem kix11 (w : World) : (Instr.index 59 (.agg #[.string ⟨#[]⟩, .int .u8 0, .string ⟨#[112, 117, 116]⟩, .int .u8 13, .string ⟨#[103, 101, 116]⟩, .int .u8 5, .string ⟨#[99, 97, 110, 99, 101, 108]⟩, .int .u8 1, .string ⟨#[116, 105, 99, 107]⟩, .int .u8 1, .string ⟨#[115, 116, 111, 112]⟩, .int .u8 1, .string ⟨#[100, 101, 108, 105, 118, 101, 114]⟩, .int .u8 1, .string ⟨#[100, 114, 111, 112]⟩, .int .u8 1, .string ⟨#[100, 111, 117, 98, 108, 101]⟩, .int .u8 1, .string ⟨#[98, 117, 114, 115, 116]⟩, .int .u8 19, .string ⟨#[99, 117, 116]⟩, .int .u8 3, .string ⟨#[108, 111, 115, 101]⟩, .int .u8 1, .string ⟨#[99, 114, 97, 115, 104]⟩, .int .u8 17, .string ⟨#[115, 116, 97, 114, 116]⟩, .int .u8 1, .string ⟨#[100, 105, 101]⟩, .int .u8 19, .string ⟨#[99, 111, 109, 112, 97, 99, 116]⟩, .int .u8 1, .string ⟨#[114, 111, 117, 110, 100]⟩, .int .u8 18]) (.int .i64 11)).run Tryd.prog w = .ok (.agg #[.string ⟨#[108, 111, 115, 101]⟩, .int .u8 1]) w := by kernel_rfl
theorem kix12 (w : World) : (Instr.index 59 (.agg #[.string ⟨#[]⟩, .int .u8 0, .string ⟨#[112, 117, 116]⟩, .int .u8 13, .string ⟨#[103, 101, 116]⟩, .int .u8 5, .string ⟨#[99, 97, 110, 99, 101, 108]⟩, .int .u8 1, .string ⟨#[116, 105, 99, 107]⟩, .int .u8 1, .string ⟨#[115, 116, 111, 112]⟩, .int .u8 1, .string ⟨#[100, 101, 108, 105, 118, 101, 114]⟩, .int .u8 1, .string ⟨#[100, 114, 111, 112]⟩, .int .u8 1, .string ⟨#[100, 111, 117, 98, 108, 101]⟩, .int .u8 1, .string ⟨#[98, 117, 114, 115, 116]⟩, .int .u8 19, .string ⟨#[99, 117, 116]⟩, .int .u8 3, .string ⟨#[108, 111, 115, 101]⟩, .int .u8 1, .string ⟨#[99, 114, 97, 115, 104]⟩, .int .u8 17, .string ⟨#[115, 116, 97, 114, 116]⟩, .int .u8 1, .string ⟨#[100, 105, 101]⟩, .int .u8 19, .string ⟨#[99, 111, 109, 112, 97, 99, 116]⟩, .int .u8 1, .string ⟨#[114, 111, 117, 110, 100]⟩, .int .u8 18]) (.int .i64 12)).run Tryd.prog w = .ok (.agg #[.string ⟨#[99, 114, 97, 115, 104]⟩, .int .u8 17]) w := by kernel_rfl
theorem kix13 (w : World) : (Instr.index 59 (.agg #[.string ⟨#[]⟩, .int .u8 0, .string ⟨#[112, 117, 116]⟩, .int .u8 13, .string ⟨#[103, 101, 116]⟩, .int .u8 5, .string ⟨#[99, 97, 110, 99, 101, 108]⟩, .int .u8 1, .string ⟨#[116, 105, 99, 107]⟩, .int .u8 1, .string ⟨#[115, 116, 111, 112]⟩, .int .u8 1, .string ⟨#[100, 101, 108, 105, 118, 101, 114]⟩, .int .u8 1, .string ⟨#[100, 114, 111, 112]⟩, .int .u8 1, .string ⟨#[100, 111, 117, 98, 108, 101]⟩, .int .u8 1, .string ⟨#[98, 117, 114, 115, 116]⟩, .int .u8 19, .string ⟨#[99, 117, 116]⟩, .int .u8 3, .string ⟨#[108, 111, 115, 101]⟩, .int .u8 1, .string ⟨#[99, 114, 97, 115, 104]⟩, .int .u8 17, .string ⟨#[115, 116, 97, 114, 116]⟩, .int .u8 1, .string ⟨#[100, 105, 101]⟩, .int .u8 19, .string ⟨#[99, 111, 109, 112, 97, 99, 116]⟩, .int .u8 1, .string ⟨#[114, 111, 117, 110, 100]⟩, .int .u8 18]) (.int .i64 13)).run Tryd.prog w = .ok (.agg #[.string ⟨#[115, 116, 97, 114, 116]⟩, .int .u8 1]) w := by kernel_rfl
theorem kix14 (w : World) : (Instr.index 59 (.agg #[.string ⟨#[]⟩, .int .u8 0, .string ⟨#[112, 117, 116]⟩, .int .u8 13, .string ⟨#[103, 101, 116]⟩, .int .u8 5, .string ⟨#[99, 97, 110, 99, 101, 108]⟩, .int .u8 1, .string ⟨#[116, 105, 99, 107]⟩, .int .u8 1, .string ⟨#[115, 116, 111, 112]⟩, .int .u8 1, .string ⟨#[100, 101, 108, 105, 118, 101, 114]⟩, .int .u8 1, .string ⟨#[100, 114, 111, 112]⟩, .int .u8 1, .string ⟨#[100, 111, 117, 98, 108, 101]⟩, .int .u8 1, .string ⟨#[98, 117, 114, 115, 116]⟩, .int .u8 19, .string ⟨#[99, 117, 116]⟩, .int .u8 3, .string ⟨#[108, 111, 115, 101]⟩, .int .u8 1, .string ⟨#[99, 114, 97, 115, 104]⟩, .int .u8 17, .string ⟨#[115, 116, 97, 114, 116]⟩, .int .u8 1, .string ⟨#[100, 105, 101]⟩, .int .u8 19, .string ⟨#[99, 111, 109, 112, 97, 99, 116]⟩, .int .u8 1, .string ⟨#[114, 111, 117, 110, 100]⟩, .int .u8 18]) (.int .i64 14)).run Tryd.prog w = .ok (.agg #[.string ⟨#[100, 105, 101]⟩, .int .u8 19]) w := by kernel_rfl
theorem kix15 (w : World) : (Instr.index 59 (.agg #[.string ⟨#[]⟩, .int .u8 0, .string ⟨#[112, 117, 116]⟩, .int .u8 13, .string ⟨#[103, 101, 116]⟩, .int .u8 5, .string ⟨#[99, 97, 110, 99, 101, 108]⟩, .int .u8 1, .string ⟨#[116, 105, 99, 107]⟩, .int .u8 1, .string ⟨#[115, 116, 111, 112]⟩, .int .u8 1, .string ⟨#[100, 101, 108, 105, 118, 101, 114]⟩, .int .u8 1, .string ⟨#[100, 114, 111, 112]⟩, .int .u8 1, .string ⟨#[100, 111, 117, 98, 108, 101]⟩, .int .u8 1, .string ⟨#[98, 117, 114, 115, 116]⟩, .int .u8 19, .string ⟨#[99, 117, 116]⟩, .int .u8 3, .string ⟨#[108, 111, 115, 101]⟩, .int .u8 1, .string ⟨#[99, 114, 97, 115, 104]⟩, .int .u8 17, .string ⟨#[115, 116, 97, 114, 116]⟩, .int .u8 1, .string ⟨#[100, 105, 101]⟩, .int .u8 19, .string ⟨#[99, 111, 109, 112, 97, 99, 116]⟩, .int .u8 1, .string ⟨#[114, 111, 117, 110, 100]⟩, .int .u8 18]) (.int .i64 15)).run Tryd.prog w = .ok (.agg #[.string ⟨#[99, 111, 109, 112, 97, 99, 116]⟩, .int .u8 1]) w := by kernel_rfl
theorem kix16 (w : World) : (Instr.index 59 (.agg #[.string ⟨#[]⟩, .int .u8 0, .string ⟨#[112, 117, 116]⟩, .int .u8 13, .string ⟨#[103, 101, 116]⟩, .int .u8 5, .string ⟨#[99, 97, 110, 99, 101, 108]⟩, .int .u8 1, .string ⟨#[116, 105, 99, 107]⟩, .int .u8 1, .string ⟨#[115, 116, 111, 112]⟩, .int .u8 1, .string ⟨#[100, 101, 108, 105, 118, 101, 114]⟩, .int .u8 1, .string ⟨#[100, 114, 111, 112]⟩, .int .u8 1, .string ⟨#[100, 111, 117, 98, 108, 101]⟩, .int .u8 1, .string ⟨#[98, 117, 114, 115, 116]⟩, .int .u8 19, .string ⟨#[99, 117, 116]⟩, .int .u8 3, .string ⟨#[108, 111, 115, 101]⟩, .int .u8 1, .string ⟨#[99, 114, 97, 115, 104]⟩, .int .u8 17, .string ⟨#[115, 116, 97, 114, 116]⟩, .int .u8 1, .string ⟨#[100, 105, 101]⟩, .int .u8 19, .string ⟨#[99, 111, 109, 112, 97, 99, 116]⟩, .int .u8 1, .string ⟨#[114, 111, 117, 110, 100]⟩, .int .u8 18]) (.int .i64 16)).run Tryd.prog w = .ok (.agg #[.string ⟨#[114, 111, 117, 110, 100]⟩, .int .u8 18]) w := by kernel_rfl
theorem kixA {i : Nat} (h : i < 17) (w : World) : (Instr.index 59 (.agg #[.string ⟨#[]⟩, .int .u8 0, .string ⟨#[112, 117, 116]⟩, .int .u8 13, .string ⟨#[103, 101, 116]⟩, .int .u8 5, .string ⟨#[99, 97, 110, 99, 101, 108]⟩, .int .u8 1, .string ⟨#[116, 105, 99, 107]⟩, .int .u8 1, .string ⟨#[115, 116, 111, 112]⟩, .int .u8 1, .string ⟨#[100, 101, 108, 105, 118, 101, 114]⟩, .int .u8 1, .string ⟨#[100, 114, 111, 112]⟩, .int .u8 1, .string ⟨#[100, 111, 117, 98, 108, 101]⟩, .int .u8 1, .string ⟨#[98, 117, 114, 115, 116]⟩, .int .u8 19, .string ⟨#[99, 117, 116]⟩, .int .u8 3, .string ⟨#[108, 111, 115, 101]⟩, .int .u8 1, .string ⟨#[99, 114, 97, 115, 104]⟩, .int .u8 17, .string ⟨#[115, 116, 97, 114, 116]⟩, .int .u8 1, .string ⟨#[100, 105, 101]⟩, .int .u8 19, .string ⟨#[99, 111, 109, 112, 97, 99, 116]⟩, .int .u8 1, .string ⟨#[114, 111, 117, 110, 100]⟩, .int .u8 18]) (.int .i64 (i : Int))).run Tryd.prog w = .ok (.agg #[.string (ofL (kw i)), .int .u8 (useN i : Int)]) w := by
  obtain rfl | rfl | rfl | rfl | rfl | rfl | rfl | rfl | rfl | rfl | rfl | rfl | rfl | rfl | rfl | rfl | rfl : i = 0 ∨ i = 1 ∨ i = 2 ∨ i = 3 ∨ i = 4 ∨ i = 5 ∨ i = 6 ∨ i = 7 ∨ i = 8 ∨ i = 9 ∨ i = 10 ∨ i = 11 ∨ i = 12 ∨ i = 13 ∨ i = 14 ∨ i = 15 ∨ i = 16 := by omega
  · exact kix0 w
  · exact kix1 w
  · exact kix2 w
  · exact kix3 w
  · exact kix4 w
  · exact kix5 w
  · exact kix6 w
  · exact kix7 w
  · exact kix8 w
  · exact kix9 w
  · exact kix10 w
  · exact kix11 w
  · exact kix12 w
  · exact kix13 w
  · exact kix14 w
  · exact kix15 w
  · exact kix16 w
theorem und59 : Tryd.prog.underlying 59 = some (.array 17 58) := by kernel_rfl
theorem inf59 : (Tryd.prog.info? 59).map (·.size) = some fcells.toList.length := by kernel_rfl
set_option maxRecDepth 100000 in
set_option maxHeartbeats 4000000 in
theorem hKind (s : ByteArray) (w : World) (F : FM w) : Calls Tryd.prog 56 #[.string s] w fun o w' => o = .returned (.int .i64 (kindL s.data.toList : Int)) ∧ Kept (fun _ => False) w w' := by
  obtain ⟨R, hR⟩ : ∃ R, kindL s.data.toList = R := ⟨_, rfl⟩
  rw [hR]
  have HR : Hid (kindL s.data.toList = R) := hR
  have FF : Hid (FM w) := F
  have S0 : Hid (Kept (fun _ => False) w w ∧ ∀ j, j < 0 → kw j ≠ s.data.toList) := ⟨Kept.refl _ _, fun j hj => absurd hj (by omega)⟩
  clear hR F
  go_enter Tryd.func56, Tryd.ntmps56
  go_wp2_with
    (first
      | (refine wpList_load_mid rfl 59 (.global 0) rfl 0 0 rfl fcells.toList _ (fun j v hv => by rw [Nat.zero_add]; exact FF.out j v (by rw [← Array.getElem?_toList]; exact hv)) und59 rfl inf59 ?_)
      | fail)
  go_loopw [3, 4, 6] (fun _ _ u6 wr => ∃ i : Nat, u6 = .int .i64 (i : Int) ∧ i ≤ 17 ∧ Hid (Kept (fun _ => False) w wr ∧ ∀ j, j < i → kw j ≠ s.data.toList)) (fun _ _ u6 _ => 17 - (intOf u6).toNat)
  case atStart => exact ⟨0, rfl, by omega, S0⟩
  case round =>
    obtain ⟨i, rfl, hi, S⟩ := hrel
    clear S0
    obtain ⟨wo, hwo⟩ : ∃ wo, wo = wr := ⟨_, rfl⟩
    rw [← hwo] at S ⊢
    clear hwo
    by_cases h17 : i < 17
    · have i17 : (i : Int) < 17 := by omega
      obtain ⟨W, hW⟩ : ∃ W, ofL (kw i) = W := ⟨_, rfl⟩
      obtain ⟨u, hu⟩ : ∃ u, useN i = u := ⟨_, rfl⟩
      have ki : (Instr.index 59 (.agg fcells) (.int .i64 (i : Int))).run Tryd.prog wo = .ok (.agg #[.string W, .int .u8 (u : Int)]) wo := by rw [← hW, ← hu]; exact kixA h17 wo
      have KA : Hid (Kept (fun _ => False) w (wo.alloc (.cells #[.string W, .int .u8 (u : Int)] 58))) := S.out.1.alloc _
      have HW : Hid (ofL (kw i) = W) := hW
      clear hW hu
      by_cases hE : W = s
      · have e : R = i := by rw [← HR.out]; exact find_hit (by omega) (by rw [← hE, ← HW.out]; rfl) S.out.2
        have eb : (W.toList == s.toList) = true := by rw [eq_bytesE]; exact decide_eq_true hE
        have eb2 : decide (W = s) = true := decide_eq_true hE
        clear S HR
        subst e
        subst hE
        go_wp2_with fail
        go_ret
        exact ⟨by first | rfl | simp, KA.out⟩
      · have eb : (W.toList == s.toList) = false := by rw [eq_bytesE]; exact decide_eq_false hE
        have eb2 : decide (W = s) = false := decide_eq_false hE
        have NS : Hid (∀ j, j < i + 1 → kw j ≠ s.data.toList) := fun j hj => by
          by_cases q : j < i
          · exact S.out.2 j q
          · have : j = i := by omega
            subst this
            intro z
            apply hE
            rw [← ofL_self s, ← z]
            exact HW.out.symm
        clear S
        go_wp2_with fail
        go_roundw
        case rel => exact ⟨i + 1, by go_num, by omega, KA.out, NS.out⟩
        case measure => simp [intOf] <;> omega
    · have e17 : i = 17 := by omega
      subst e17
      have e : R = 0 := by rw [← HR.out]; exact find_none S.out.2
      subst e
      have KK : Hid (Kept (fun _ => False) w wo) := S.out.1
      clear S HR
      go_wp2_with fail
      go_ret
      exact ⟨by first | rfl | simp, KK.out⟩
end Go.Proofs.YtonfefhegghapaaDoor
