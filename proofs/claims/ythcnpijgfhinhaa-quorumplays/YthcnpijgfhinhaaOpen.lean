import Derived.Test.YthcnpijgfhinhaaRows
import Derived.Test.YthcnpijgfhinhaaTaken
import Derived.ProofKit
import Derived.OpenShut
import Derived.ShutString
import Derived.ChangeOld
import Derived.Below
import Derived.Deep.Slices
import Derived.Deep.Fields
namespace Go.Proofs.Ythcnpijgfhinhaa
open Go.ChangeShapes Go.WideShapes Go.ChangeAt Go.RowKit Go.Deep

theorem Try.own : ownKnob Try.prog.godebug = none := by kernel_rfl
theorem Try.laidOut : laidOutB Try.prog = true := by kernel_rfl
theorem Try.cells23 : Try.prog.cellsOf 23 = 3 := by kernel_rfl
theorem Try.cells24 : Try.prog.cellsOf 24 = 1 := by kernel_rfl
theorem Try.cells3 : Try.prog.cellsOf 3 = 1 := by kernel_rfl
/-- A number of Go's int. -/
def isInt (a : Int) : Prop := -9223372036854775808 ≤ a ∧ a < 9223372036854775808
theorem fit_i64 {a : Int} (h : (Lit.int .i64 a).wf = true) : isInt a := by
  have := bounds_i64 h
  unfold isInt
  omega
theorem array3 {α : Type} {cs : Array α} (h : cs.size = 3) : ∃ c0 c1 c2, cs = #[c0, c1, c2] := by
  obtain ⟨l⟩ := cs
  match l, h with
  | [c0, c1, c2], _ => exact ⟨c0, c1, c2, rfl⟩
/-- A config's cells, opened. -/
theorem open_three {H : Type} {enc : TypeId × Value → H} {W : World} {base : Nat} {spare : Nat → Bool} {held : Bool} {n : Nat} {c0 c1 c2 : Value} {x : DataW H × List MemPlace}
    (h : DataW.trod enc Try.prog W base spare held n 23 [c0, c1, c2] = some x) : ∃ a b c : Int, c0 = .int .i64 a ∧ c1 = .int .i64 b ∧ c2 = .int .i64 c ∧ isInt a ∧ isInt b ∧ isInt c := by
  obtain ⟨xs, m, _, hx, _, hxs, g⟩ := DataW.trod_struct Try.underlying23 h
  match xs, hxs with
  | [y0, y1, y2], _ =>
    have g0 : DataW.trod enc Try.prog W base spare held m 3 [c0] = some y0 := by have := g 0 _ rfl; simpa [Try.cells3] using this
    have g1 : DataW.trod enc Try.prog W base spare held m 3 [c1] = some y1 := by have := g 1 _ rfl; simpa [Try.cells3] using this
    have g2 : DataW.trod enc Try.prog W base spare held m 3 [c2] = some y2 := by have := g 2 _ rfl; simpa [Try.cells3] using this
    obtain ⟨a, e0, _, wa⟩ := DataW.trod_int Try.underlying3 g0
    obtain ⟨b, e1, _, wb⟩ := DataW.trod_int Try.underlying3 g1
    obtain ⟨c, e2, _, wc⟩ := DataW.trod_int Try.underlying3 g2
    simp at e0 e1 e2
    exact ⟨a, b, c, e0, e1, e2, fit_i64 wa, fit_i64 wb, fit_i64 wc⟩
/-- A config by value, opened. -/
theorem open_cfg {H : Type} {enc : TypeId × Value → H} {W : World} {base : Nat} {spare : Nat → Bool} {held : Bool} {r : Reach} {b0 : Nat} {v : Value} {d : DataW H} {p : List MemPlace}
    (hv : Value.okWide Try.prog W r b0 23 v) (h : DataW.Trod enc Try.prog W base spare held 23 v d p) :
    ∃ a b c : Int, v = .agg #[.int .i64 a, .int .i64 b, .int .i64 c] ∧ isInt a ∧ isInt b ∧ isInt c := by
  obtain ⟨cs, rfl, hsz⟩ := okWide_struct Try.underlying23 hv
  obtain ⟨c0, c1, c2, rfl⟩ := array3 (hsz.trans Try.cells23)
  obtain ⟨fuel, hf⟩ := h
  obtain ⟨a, b, c, rfl, rfl, rfl, ha, hb, hc⟩ := open_three (by simpa [Value.cells] using hf)
  exact ⟨a, b, c, rfl, ha, hb, hc⟩
/-- A list of ints that came in. -/
theorem open_list {H : Type} {enc : TypeId × Value → H} {W : World} {a : Option Addr} {len cap fuel : Nat} {x : DataW H × List MemPlace}
    (h : DataW.trod enc Try.prog W 0 (fun _ => true) true fuel 24 [.slice a len cap] = some x) : ∃ l, IReads W a len cap l ∧ ∀ x ∈ l, isInt x := by
  rcases open_ints Try.underlying24 Try.underlying3 Try.cells3 h with ⟨hcs, _⟩ | ⟨ad, l', c', zs, hcs, _, hl, hm, hz, hx, hcell, hwz⟩
  · simp at hcs
    obtain ⟨rfl, rfl, rfl⟩ := hcs
    exact ⟨[], ⟨rfl, Nat.le_refl _, by unfold maxLen; omega, fun h => absurd h (by omega)⟩, fun _ h => absurd h (by simp)⟩
  · simp at hcs
    obtain ⟨rfl, rfl, rfl⟩ := hcs
    have hz' : zs.length = cap := by simpa using hz
    refine ⟨zs.take len, ⟨by rw [List.length_take]; omega, hl, hm, fun h0 => ?_⟩, fun c hc => fit_i64 (hwz c (List.mem_of_mem_take hc))⟩
    obtain ⟨b, off, spot⟩ := ad
    have c0 := hcell 0 (by omega)
    have hs : spot = none := by simpa [Addr.add] using World.cell?_spot c0
    subst hs
    refine ⟨b, off, rfl, fun i hi => ?_⟩
    have ci := hcell i (by omega)
    rw [Addr.add_none] at ci
    rw [ci]
    have e2 : (zs.take len).getD i 0 = zs.getD i 0 := by
      rw [List.getD_eq_getElem?_getD, List.getElem?_take_of_lt hi, List.getD_eq_getElem?_getD]
    rw [e2]
end Go.Proofs.Ythcnpijgfhinhaa
