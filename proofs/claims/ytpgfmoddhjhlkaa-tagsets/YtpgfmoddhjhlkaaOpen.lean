import Derived.Test.YtpgfmoddhjhlkaaRows
import Derived.ProofKit
import Derived.OpenShut
import Derived.ShutString
import Derived.ChangeOld
import Derived.Below
import Derived.Deep.Slices
import Derived.Deep.Fields
namespace Go.Proofs.Ytpgfmoddhjhlkaa
open Go.ChangeShapes Go.WideShapes Go.ChangeAt Go.RowKit Go.Deep

theorem Try.own : ownKnob Try.prog.godebug = none := by kernel_rfl
theorem Try.laidOut : laidOutB Try.prog = true := by kernel_rfl
theorem Try.cells26 : Try.prog.cellsOf 26 = 9 := by kernel_rfl
theorem Try.cells22 : Try.prog.cellsOf 22 = 1 := by kernel_rfl
theorem Try.cells24 : Try.prog.cellsOf 24 = 2 := by kernel_rfl
theorem Try.cells2 : Try.prog.cellsOf 2 = 1 := by kernel_rfl
theorem Try.cells3 : Try.prog.cellsOf 3 = 1 := by kernel_rfl
theorem Try.cells9 : Try.prog.cellsOf 9 = 1 := by kernel_rfl
theorem fit_i64 {a : Int} (h : (Lit.int .i64 a).wf = true) : -9223372036854775808 ≤ a ∧ a < 9223372036854775808 := by
  have := bounds_i64 h
  omega
/-- A tag's cells, opened. -/
theorem open_cells {H : Type} {enc : TypeId × Value → H} {W : World} {base : Nat} {spare : Nat → Bool} {held : Bool} {n : Nat} {c0 c1 : Value} {x : DataW H × List MemPlace}
    (h : DataW.trod enc Try.prog W base spare held n 24 [c0, c1] = some x) : ∃ a b : Int, c0 = .int .i64 a ∧ c1 = .int .i64 b ∧ (-9223372036854775808 ≤ a ∧ a < 9223372036854775808) ∧ (-9223372036854775808 ≤ b ∧ b < 9223372036854775808) := by
  obtain ⟨xs, m, _, hx, _, hxs, g⟩ := DataW.trod_struct Try.underlying24 h
  match xs, hxs with
  | [y0, y1], _ =>
    have g0 : DataW.trod enc Try.prog W base spare held m 2 [c0] = some y0 := by have := g 0 _ rfl; simpa [Try.cells2] using this
    have g1 : DataW.trod enc Try.prog W base spare held m 3 [c1] = some y1 := by have := g 1 _ rfl; simpa [Try.cells3] using this
    obtain ⟨a, e0, _, wa⟩ := DataW.trod_int Try.underlying2 g0
    obtain ⟨b, e1, _, wb⟩ := DataW.trod_int Try.underlying3 g1
    simp at e0 e1
    exact ⟨a, b, e0, e1, fit_i64 wa, fit_i64 wb⟩
theorem array2 {α : Type} {cs : Array α} (h : cs.size = 2) : ∃ c0 c1, cs = #[c0, c1] := by
  obtain ⟨l⟩ := cs
  match l, h with
  | [c0, c1], _ => exact ⟨c0, c1, rfl⟩
theorem array9 {α : Type} {cs : Array α} (h : cs.size = 9) : ∃ c0 c1 c2 c3 c4 c5 c6 c7 c8, cs = #[c0, c1, c2, c3, c4, c5, c6, c7, c8] := by
  obtain ⟨l⟩ := cs
  match l, h with
  | [c0, c1, c2, c3, c4, c5, c6, c7, c8], _ => exact ⟨c0, c1, c2, c3, c4, c5, c6, c7, c8, rfl⟩
/-- A tag by value, opened. -/
theorem open_tag {H : Type} {enc : TypeId × Value → H} {W : World} {base : Nat} {spare : Nat → Bool} {held : Bool} {r : Reach} {b0 : Nat} {v : Value} {d : DataW H} {p : List MemPlace}
    (hv : Value.okWide Try.prog W r b0 24 v) (h : DataW.Trod enc Try.prog W base spare held 24 v d p) :
    ∃ a b : Int, v = .agg #[.int .i64 a, .int .i64 b] ∧ (-9223372036854775808 ≤ a ∧ a < 9223372036854775808) ∧ (-9223372036854775808 ≤ b ∧ b < 9223372036854775808) := by
  obtain ⟨cs, rfl, hsz⟩ := okWide_struct Try.underlying24 hv
  obtain ⟨c0, c1, rfl⟩ := array2 (hsz.trans Try.cells24)
  obtain ⟨fuel, hf⟩ := h
  obtain ⟨a, b, rfl, rfl, ha, hb⟩ := open_cells (by simpa [Value.cells] using hf)
  exact ⟨a, b, rfl, ha, hb⟩
theorem slice_form {H : Type} {enc : TypeId × Value → H} {P : Program} {w : World} {base : Nat} {spare : Nat → Bool} {held : Bool} {t e : TypeId} {fuel : Nat} {v : Value} {x : DataW H × List MemPlace} (ht : P.underlying t = some (.slice e)) (h : DataW.trod enc P w base spare held fuel t [v] = some x) :
    ∃ a len cap, v = .slice a len cap := by
  rcases DataW.trod_slice ht h with ⟨q, _⟩ | ⟨a, len, cap, _, _, _, _, q, _⟩
  · simp at q; exact ⟨none, 0, 0, q⟩
  · simp at q; exact ⟨some a, len, cap, q⟩
/-- A case by value, opened. -/
theorem open_case {H : Type} {enc : TypeId × Value → H} {W : World} {base : Nat} {spare : Nat → Bool} {held : Bool} {r : Reach} {b0 : Nat} {v : Value} {d : DataW H} {p : List MemPlace}
    (hv : Value.okWide Try.prog W r b0 26 v) (h : DataW.Trod enc Try.prog W base spare held 26 v d p) :
    ∃ (v0 v8 : Value) (a b c e u k o : Int), v = .agg #[v0, .int .i64 a, .int .i64 b, .int .i64 c, .int .i64 e, .int .i64 u, .int .i64 k, .int .i64 o, v8] ∧ (-9223372036854775808 ≤ a ∧ a < 9223372036854775808) ∧ (-9223372036854775808 ≤ u ∧ u < 9223372036854775808) := by
  obtain ⟨cs, rfl, hsz⟩ := okWide_struct Try.underlying26 hv
  obtain ⟨c0, c1, c2, c3, c4, c5, c6, c7, c8, rfl⟩ := array9 (hsz.trans Try.cells26)
  obtain ⟨fuel, hf⟩ := h
  have hf : DataW.trod enc Try.prog W base spare held fuel 26 [c0, c1, c2, c3, c4, c5, c6, c7, c8] = some (d, p) := by simpa [Value.cells] using hf
  obtain ⟨xs, m, _, hx, _, hxs, g⟩ := DataW.trod_struct Try.underlying26 hf
  match xs, hxs with
  | [y0, y1, y2, y3, y4, y5, y6], _ =>
    have g1 : DataW.trod enc Try.prog W base spare held m 24 [c1, c2] = some y1 := by have := g 1 _ rfl; simpa [Try.cells24] using this
    have g2 : DataW.trod enc Try.prog W base spare held m 24 [c3, c4] = some y2 := by have := g 2 _ rfl; simpa [Try.cells24] using this
    have g3 : DataW.trod enc Try.prog W base spare held m 2 [c5] = some y3 := by have := g 3 _ rfl; simpa [Try.cells2] using this
    have g4 : DataW.trod enc Try.prog W base spare held m 3 [c6] = some y4 := by have := g 4 _ rfl; simpa [Try.cells3] using this
    have g5 : DataW.trod enc Try.prog W base spare held m 3 [c7] = some y5 := by have := g 5 _ rfl; simpa [Try.cells3] using this
    obtain ⟨a, b, rfl, rfl, ha, hb⟩ := open_cells g1
    obtain ⟨c, e, rfl, rfl, hc, he⟩ := open_cells g2
    obtain ⟨u, e3, _, wu⟩ := DataW.trod_int Try.underlying2 g3
    obtain ⟨k, e4, _, wk⟩ := DataW.trod_int Try.underlying3 g4
    obtain ⟨o, e5, _, wo⟩ := DataW.trod_int Try.underlying3 g5
    simp at e3 e4 e5
    subst e3 e4 e5
    exact ⟨c0, c8, a, b, c, e, u, k, o, rfl, ha, fit_i64 wu⟩
end Go.Proofs.Ytpgfmoddhjhlkaa
