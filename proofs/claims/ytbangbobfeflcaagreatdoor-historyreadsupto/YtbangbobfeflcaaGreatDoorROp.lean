import Derived.Test.YtbangbobfeflcaaGreatDoorRLw
import Derived.Test.YtbangbobfeflcaaGreatDoorRows
import Derived.Test.YtbangbobfeflcaaGreatDoorTie
import Derived.Test.YtbangbobfeflcaaGreatDoorCards
import Derived.SizedLaws
import Derived.ChangeSame
import Derived.ChangeVars
import Derived.ChangeMaps5
import Derived.JoinedOf
import Derived.JoinedAt
import Derived.RowKit
import Derived.RowKit3
import Derived.RowKitTokens
import Derived.LaidLaws
import Derived.Lib.LaidTab
import Derived.Stop.LaidErr
import Derived.ProofKit
import Derived.OpenShut
import Derived.ShutString
import Derived.ChangeOld
import Derived.Below
import Derived.Deep.Slices
import Derived.Deep.Fields
import Derived.Deep.DeepHandedRow
import Derived.Deep.DeepWitnessRowRef
import Derived.Shelf.Vars
namespace Go.Proofs.YtbangbobfeflcaaGreatDoor
open Go.RowKit Go.ChangeShapes Go.WideShapes Go.ChangeAt Go.Deep

theorem Tryz.own : ownKnob Tryz.prog.godebug = none := by kernel_rfl
theorem Tryz.laidOut : laidOutB Tryz.prog = true := by kernel_rfl
theorem Tryz.cw9 : Tryz.prog.cellsOf 9 = 1 := by kernel_rfl
theorem Tryz.cells100 : Tryz.prog.cellsOf 100 = 4 := by kernel_rfl
theorem Tryz.cells132 : Tryz.prog.cellsOf 132 = 1 := by kernel_rfl
theorem Tryz.cells159 : Tryz.prog.cellsOf 159 = 20 := by kernel_rfl
/-- An array of texts that reads as a list of texts has just these. -/
theorem cells_of_texts {H : Type} {enc : TypeId × Value → H} {P : Program} {w : World} {base : Nat} {sp : Nat → Bool} {held : Bool} {fuel : Nat} {t e : TypeId} {n : Nat} {cs : List Value} {ts : List (List UInt8)} {p : List MemPlace}
    (ht : P.underlying t = some (.array n e)) (he : P.underlying e = some .string) (hce : P.cellsOf e = 1) (hct : P.cellsOf t = n)
    (h : DataW.trod enc P w base sp held fuel t cs = some (DataW.agg (ts.map fun z => DataW.lit (Lit.string z)), p)) : ∀ (i : Nat) (z : List UInt8), ts[i]? = some z → cs[i]? = some (Value.string ⟨z.toArray⟩) := by
  cases fuel with
  | zero => simp [DataW.trod] at h
  | succ fuel =>
    simp only [DataW.trod, ht, hce, hct, Nat.mul_one] at h
    split at h
    · obtain ⟨xs, hm, hx⟩ := Option.map_eq_some_iff.1 h
      have hxs : xs.map (·.1) = ts.map fun z => (DataW.lit (Lit.string z) : DataW H) := by
        have := congrArg Prod.fst hx
        simpa using this
      have hxl : xs.length = n := by simpa using Lib.mapM_length hm
      intro i z hz
      have hi : i < n := by
        have := congrArg List.length hxs
        simp at this
        have := (List.getElem?_eq_some_iff.1 hz).1
        omega
      obtain ⟨b, hb, hf⟩ := Lib.mapM_at hm i i (by simp [hi])
      obtain ⟨s, hc, rfl, _⟩ := DataW.trod_string he hf
      have h1 : cs[i]? = some (.string s) := by
        have := congrArg (·[0]?) hc
        simpa [List.getElem?_take, List.getElem?_drop] using this
      have h2 : (xs.map (·.1))[i]? = some (DataW.lit (Lit.string s.data.toList) : DataW H) := by simp [hb]
      rw [hxs, List.getElem?_map, hz] at h2
      simp at h2
      rw [h1, h2]
    · cases h
theorem Tryz.gKw : Tryz.prog.globalNamed "sherd/history.kindWords" = some 0 := by kernel_rfl
theorem Tryz.gKwType : (Tryz.prog.globals[0]?).map (·.type) = some 100 := by kernel_rfl
theorem Tryz.gPow : Tryz.prog.globalNamed "internal/strconv.uint64pow10" = some 2 := by kernel_rfl
theorem Tryz.gPowType : (Tryz.prog.globals[2]?).map (·.type) = some 159 := by kernel_rfl
/-- The variables as the rows list them. -/
abbrev laidAll : List (String × DataW Unit) := [("math/bits.deBruijn32tab", Rows.laid_math_bits_deBruijn32tab), ("math/bits.deBruijn64tab", Rows.laid_math_bits_deBruijn64tab), ("internal/strconv.uint64pow10", Rows.laid_internal_strconv_uint64pow10), ("strconv.ErrRange", Rows.laid_strconv_ErrRange), ("strconv.ErrSyntax", Rows.laid_strconv_ErrSyntax), ("sherd/history.kindWords", Rows.laid_sherd_history_kindWords)]
theorem kws_of {W : World} (h : laidMet Tryz.prog [("sherd/history.kindWords", Rows.laid_sherd_history_kindWords)] W) : KWs W := by
  obtain ⟨ps, ⟨g', t', cs, fuel, p, q, hg', ht', hvar, hd, _, _⟩, _⟩ := h
  obtain rfl := Option.some.inj (Tryz.gKw.symm.trans hg')
  obtain rfl := Option.some.inj (Tryz.gKwType.symm.trans ht')
  have k := cells_of_texts (ts := [[], [105, 110, 118, 111, 107, 101], [114, 101, 116, 117, 114, 110], [99, 97, 110, 99, 101, 108]]) Tryz.underlying100 Tryz.underlying9 Tryz.cw9 Tryz.cells100 hd
  have c : ∀ i v, cs.toList[i]? = some v → W.cell? ⟨0, i, none⟩ = some v := fun i v hv => by
    have := World.var?_cell Tryz.gKw hvar i
    rw [this, ← Array.getElem?_toList]
    exact hv
  exact ⟨c 0 _ (k 0 _ rfl), c 1 _ (k 1 _ rfl), c 2 _ (k 2 _ rfl), c 3 _ (k 3 _ rfl)⟩
theorem glob_of {W : World} (hL : laidMetH Tryz.prog laidAll W) (hs : W.ShapedOpen Tryz.prog) : Glob W := by
  have hL : laidMet Tryz.prog laidAll W := hL
  have h2 := hL.tail.tail
  have h5 := h2.tail.tail.tail
  have kw := kws_of h5
  refine ⟨Lib.tabIs_of_head Tryz.gPow Tryz.gPowType Tryz.underlying159 Tryz.underlying132 Tryz.cells132 Tryz.cells159 (rest := _) h2, kw, ?_, ?_⟩
  · have := World.block_lt_of_cell? W _ kw.c0
    intro z
    rw [z] at this
    exact absurd this (Nat.not_lt_zero _)
  · exact cell_of_shapedOpen_int (g := 1) (t := 3) (k := .i64) (zero := #[.int .i64 0]) hs (of_decide_eq_true (by kernel_rfl)) (by kernel_rfl) rfl (by kernel_rfl) (by kernel_rfl) Tryz.underlying3
theorem Tryz.cells177 : Tryz.prog.cellsOf 177 = 1 := by kernel_rfl
theorem Tryz.gSyn : Tryz.prog.globalNamed "strconv.ErrSyntax" = some 3 := by kernel_rfl
theorem Tryz.gRng : Tryz.prog.globalNamed "strconv.ErrRange" = some 4 := by kernel_rfl
theorem Tryz.gSynType : (Tryz.prog.globals[3]?).map (·.type) = some 86 := by kernel_rfl
theorem Tryz.gRngType : (Tryz.prog.globals[4]?).map (·.type) = some 86 := by kernel_rfl
theorem Tryz.star : "*" ++ "errors.errorString" = "*errors.errorString" := by decide
theorem Tryz.rowE (u : TypeId) (h : Tryz.prog.typeName? 3 u = some "*errors.errorString") : u = 175 :=
  typeName_ptr_named (nm := "errors.errorString") (by rw [Tryz.star]; kernel_rfl) (by kernel_rfl) (by decide) u (by rw [Tryz.star]; exact h)
theorem evs_of {W : World} (hL : laidMetH Tryz.prog laidAll W) : EVs W := by
  have hL : laidMet Tryz.prog laidAll W := hL
  have h3 := hL.tail.tail.tail
  have h4 := h3.tail
  refine ⟨?_, ?_⟩
  · obtain ⟨a, s, hv, -, -, -⟩ := laid_sentinel h4 Tryz.gSyn Tryz.gSynType Tryz.underlying86 Tryz.rowE Tryz.underlying175 Tryz.underlying177 rfl rfl Tryz.underlying9 Tryz.cells177 Tryz.cw9
    exact ⟨_, _, hv⟩
  · obtain ⟨a, s, hv, -, -, -⟩ := laid_sentinel h3 Tryz.gRng Tryz.gRngType Tryz.underlying86 Tryz.rowE Tryz.underlying175 Tryz.underlying177 rfl rfl Tryz.underlying9 Tryz.cells177 Tryz.cw9
    exact ⟨_, _, hv⟩
end Go.Proofs.YtbangbobfeflcaaGreatDoor
