import Derived.Test.YtojepeefphbekaaBase
import Derived.Maps.RangeWalk
import Derived.Maps.OwnSet
import Derived.DeepKeys4
namespace Go.Proofs.Ytojepeefphbekaa
open Go.RowKit
theorem Try.laid : laidOutB Try.prog = true := by kernel_rfl
theorem Try.tsize : Try.prog.types.size = 152 := by kernel_rfl
theorem Try.keyAt29 : Try.prog.keyTypeAt 152 29 = true := by kernel_rfl
theorem Try.keyType29 : Try.prog.keyType 29 = true := by kernel_rfl
theorem Try.cellsOf29 : Try.prog.cellsOf 29 = 2 := by kernel_rfl
theorem Try.cellsOf2 : Try.prog.cellsOf 2 = 1 := by kernel_rfl
theorem Try.cellsOf3 : Try.prog.cellsOf 3 = 1 := by kernel_rfl
theorem tagLaw : Maps.Keyed Try.prog 29 := Maps.Keyed.of_law (deep_law_laid Try.laid (m := 152) (by decide) (by rw [Try.tsize]; decide) Try.keyAt29 (by rw [Try.underlying29]))
theorem strLaw : Maps.Keyed Try.prog 9 := Maps.string_keyed Try.underlying9
def tv (t : Int × Int) : Value := .agg #[.int .i64 t.1, .int .i64 t.2]
def tl (t : Int × Int) : Lit := .string (keyBytes [.int .i64 t.1, .int .i64 t.2])
def TFit (t : Int × Int) : Prop := (-9223372036854775808 ≤ t.1 ∧ t.1 < 9223372036854775808) ∧ (-9223372036854775808 ≤ t.2 ∧ t.2 < 9223372036854775808)
theorem wf_i64 (a : Int) : (Lit.int .i64 a).wf = true ↔ (-9223372036854775808 ≤ a ∧ a < 9223372036854775808) := by
  have e1 : IntKind.i64.min = -9223372036854775808 := by decide
  have e2 : IntKind.i64.max = 9223372036854775807 := by decide
  show (decide (IntKind.i64.min ≤ a) && decide (a ≤ IntKind.i64.max)) = true ↔ _
  rw [e1, e2]
  simp
  omega
theorem lits_int (d t : Nat) (ht : Try.prog.underlying t = some (.int .i64)) (a : Int) (h : (Lit.int .i64 a).wf = true) : Try.prog.keyLits (d + 1) t [.int .i64 a] = some [.int .i64 a] := by
  unfold Program.keyLits
  rw [ht]
  simp [h]
theorem keyOf29 (v : Value) : keyOf Try.prog 29 v = if v.formed Try.prog 29 = true then (Try.prog.keyLits (152 + 1) 29 v.cells.toList).map (fun ls => Lit.string (keyBytes ls)) else none := by
  unfold keyOf
  rw [Try.underlying29, Try.keyType29, Try.tsize]
  simp
theorem lits29 (d : Nat) (p q : Value) : Try.prog.keyLits (d + 1) 29 [p, q] = ((Try.prog.keyLits d 2 [p]).bind fun l1 => (Try.prog.keyLits d 3 [q]).bind fun l2 => some [l1, l2]).map List.flatten := by
  conv => lhs; unfold Program.keyLits
  rw [Try.underlying29]
  show (if _ then _ else _) = _
  rw [if_pos (by rw [Try.cellsOf29]; exact ⟨rfl, by simp⟩)]
  simp [Try.cellsOf2, Try.cellsOf3]
  cases Try.prog.keyLits d 2 [p] <;> cases Try.prog.keyLits d 3 [q] <;> rfl
theorem formed29 (cs : Array Value) : (Value.agg cs).formed Try.prog 29 = (cs.size == 2) := by
  unfold Value.formed
  rw [Try.underlying29, Try.cellsOf29]
theorem key_tag (t : Int × Int) (h : TFit t) : keyOf Try.prog 29 (tv t) = some (tl t) := by
  have h1 := (wf_i64 t.1).2 h.1
  have h2 := (wf_i64 t.2).2 h.2
  have hf : (tv t).formed Try.prog 29 = true := by
    unfold tv Value.formed
    rw [Try.underlying29, Try.cellsOf29]
    rfl
  rw [keyOf29, if_pos hf]
  have e : Try.prog.keyLits (152 + 1) 29 (tv t).cells.toList = some [.int .i64 t.1, .int .i64 t.2] := by
    have := lits29 152 (.int .i64 t.1) (.int .i64 t.2)
    rw [lits_int 151 2 Try.underlying2 t.1 h1, lits_int 151 3 Try.underlying3 t.2 h2] at this
    exact this
  rw [e]
  rfl
theorem lits_int_inv {d t : Nat} (ht : Try.prog.underlying t = some (.int .i64)) {v : Value} {ls : List Lit} (h : Try.prog.keyLits (d + 1) t [v] = some ls) : ∃ a : Int, v = .int .i64 a ∧ (Lit.int .i64 a).wf = true ∧ ls = [.int .i64 a] := by
  unfold Program.keyLits at h
  rw [ht] at h
  cases v <;> simp at h
  obtain ⟨⟨rfl, hw⟩, rfl⟩ := h
  exact ⟨_, rfl, hw, rfl⟩
theorem key_inv {v : Value} {l : Lit} (h : keyOf Try.prog 29 v = some l) : ∃ t : Int × Int, v = tv t ∧ TFit t ∧ l = tl t := by
  rw [keyOf29] at h
  by_cases hf : v.formed Try.prog 29 = true
  · rw [if_pos hf, Option.map_eq_some_iff] at h
    obtain ⟨ls, hl, rfl⟩ := h
    obtain ⟨cs, rfl⟩ : ∃ cs, v = .agg cs := by
      cases v <;> simp [Value.formed, Try.underlying29] at hf
      exact ⟨_, rfl⟩
    have hs : cs.toList.length = 2 := by
      have h2 := (formed29 cs).symm.trans hf
      simpa using h2
    obtain ⟨p, q, e⟩ : ∃ p q, cs.toList = [p, q] := by
      match hc : cs.toList, hs with
      | [p, q], _ => exact ⟨p, q, rfl⟩
    have ec : (Value.agg cs).cells.toList = [p, q] := e
    have hl2 := (lits29 152 p q).symm.trans ((congrArg (Try.prog.keyLits (152 + 1) 29) ec).symm.trans hl)
    rw [Option.map_eq_some_iff] at hl2
    obtain ⟨L, h1, rfl⟩ := hl2
    clear hl
    rw [Option.bind_eq_some_iff] at h1
    obtain ⟨l1, h1, h2⟩ := h1
    rw [Option.bind_eq_some_iff] at h2
    obtain ⟨l2, h2, h3⟩ := h2
    obtain ⟨a, rfl, ha, rfl⟩ := lits_int_inv (d := 151) Try.underlying2 h1
    obtain ⟨b, rfl, hb, rfl⟩ := lits_int_inv (d := 151) Try.underlying3 h2
    have ecs : cs = #[.int .i64 a, .int .i64 b] := by
      apply Array.toList_inj.1
      exact e
    refine ⟨(a, b), by rw [ecs]; rfl, ⟨(wf_i64 a).1 ha, (wf_i64 b).1 hb⟩, ?_⟩
    have z3 := Option.some.inj h3
    subst z3
    rfl
  · rw [if_neg hf] at h
    cases h
theorem tl_inj {s t : Int × Int} (hs : TFit s) (ht : TFit t) (h : tl s = tl t) : s = t := by
  have e := tagLaw.inj (key_tag s hs) (by rw [h]; exact key_tag t ht)
  unfold tv at e
  simp at e
  exact Prod.ext e.1 e.2
end Go.Proofs.Ytojepeefphbekaa
