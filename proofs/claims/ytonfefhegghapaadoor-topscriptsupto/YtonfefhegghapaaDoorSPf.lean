import Derived.Test.YtonfefhegghapaaDoorSLaw
import Derived.Test.YtonfefhegghapaaDoorRows
import Derived.Test.YtonfefhegghapaaDoorTie
import Derived.Test.YtonfefhegghapaaDoorCards
import Derived.SizedLaws
import Derived.ChangeSame
import Derived.ChangeVars
import Derived.ChangeMaps5
import Derived.JoinedOf
import Derived.JoinedAt
import Derived.RowKit
import Derived.RowKit3
import Derived.RowKitTokens
import Derived.LaidLaws
import Derived.Lib.LaidTab
import Derived.Stop.LaidErr
import Derived.ProofKit
import Derived.OpenShut
import Derived.ShutString
import Derived.ChangeOld
import Derived.Below
import Derived.Deep.Slices
import Derived.Deep.Fields
import Derived.Deep.DeepHandedRow
import Derived.Deep.DeepWitnessRowRef
namespace Go.Proofs.YtonfefhegghapaaDoor
open Go.RowKit Go.ChangeShapes Go.WideShapes Go.ChangeAt Go.Deep

open Go.ChangeMaps (open_string shut_string)
theorem Tryd.own : ownKnob Tryd.prog.godebug = none := by kernel_rfl
theorem Tryd.laidOut : laidOutB Tryd.prog = true := by kernel_rfl
theorem Tryd.cells3 : Tryd.prog.cellsOf 3 = 1 := by kernel_rfl
theorem Tryd.cells9 : Tryd.prog.cellsOf 9 = 1 := by kernel_rfl
theorem Tryd.cells23 : Tryd.prog.cellsOf 23 = 3 := by kernel_rfl
theorem Tryd.cells116 : Tryd.prog.cellsOf 116 = 1 := by kernel_rfl
theorem Tryd.cellsE : Tryd.prog.cellsOf 82 = 1 := by kernel_rfl
theorem Tryd.cells119 : Tryd.prog.cellsOf 119 = 20 := by kernel_rfl
theorem Tryd.gPow : Tryd.prog.globalNamed "internal/strconv.uint64pow10" = some 4 := by kernel_rfl
theorem Tryd.gPowType : (Tryd.prog.globals[4]?).map (·.type) = some 119 := by kernel_rfl
theorem Tryd.gSyn : Tryd.prog.globalNamed "strconv.ErrSyntax" = some 2 := by kernel_rfl
theorem Tryd.gSynType : (Tryd.prog.globals[2]?).map (·.type) = some 86 := by kernel_rfl
theorem Tryd.gRng : Tryd.prog.globalNamed "strconv.ErrRange" = some 3 := by kernel_rfl
theorem Tryd.gRngType : (Tryd.prog.globals[3]?).map (·.type) = some 86 := by kernel_rfl
/-- The variables of the library as the rows list them. -/
abbrev laidAll : List (String × DataW Unit) := [("math/bits.deBruijn32tab", Rows.laid_math_bits_deBruijn32tab), ("math/bits.deBruijn64tab", Rows.laid_math_bits_deBruijn64tab), ("internal/strconv.uint64pow10", Rows.laid_internal_strconv_uint64pow10), ("strconv.ErrRange", Rows.laid_strconv_ErrRange), ("strconv.ErrSyntax", Rows.laid_strconv_ErrSyntax)]
theorem Tryd.star : "*" ++ "errors.errorString" = "*errors.errorString" := by decide
theorem Tryd.rowE (u : TypeId) (h : Tryd.prog.typeName? 3 u = some "*errors.errorString") : u = 114 :=
  typeName_ptr_named (nm := "errors.errorString") (by rw [Tryd.star]; kernel_rfl) (by kernel_rfl) (by decide) u (by rw [Tryd.star]; exact h)
theorem vars_of_laid {W : World} (hL : laidMetH Tryd.prog laidAll W) : Vars W := by
  have hL : laidMet Tryd.prog laidAll W := hL
  have h2 := hL.tail.tail
  have h3 := h2.tail
  have h4 := h3.tail
  refine ⟨Lib.tabIs_of_head Tryd.gPow Tryd.gPowType Tryd.underlying119 Tryd.underlying82 Tryd.cellsE Tryd.cells119 (rest := _) h2, ?_, ?_⟩
  · obtain ⟨a, s, hv, -, -, -⟩ := laid_sentinel h4 Tryd.gSyn Tryd.gSynType Tryd.underlying86 Tryd.rowE Tryd.underlying114 Tryd.underlying116 rfl rfl Tryd.underlying9 Tryd.cells116 Tryd.cells9
    exact ⟨_, _, hv⟩
  · obtain ⟨a, s, hv, -, -, -⟩ := laid_sentinel h3 Tryd.gRng Tryd.gRngType Tryd.underlying86 Tryd.rowE Tryd.underlying114 Tryd.underlying116 rfl rfl Tryd.underlying9 Tryd.cells116 Tryd.cells9
    exact ⟨_, _, hv⟩
theorem array3 {α : Type} {cs : Array α} (h : cs.size = 3) : ∃ c0 c1 c2, cs = #[c0, c1, c2] := by
  obtain ⟨l⟩ := cs
  match l, h with
  | [c0, c1, c2], _ => exact ⟨c0, c1, c2, rfl⟩
/-- A config's cells, opened. -/
theorem open_three {H : Type} {enc : TypeId × Value → H} {W : World} {base : Nat} {spare : Nat → Bool} {held : Bool} {n : Nat} {c0 c1 c2 : Value} {x : DataW H × List MemPlace}
    (h : DataW.trod enc Tryd.prog W base spare held n 23 [c0, c1, c2] = some x) : ∃ a b c : Int, c0 = .int .i64 a ∧ c1 = .int .i64 b ∧ c2 = .int .i64 c := by
  obtain ⟨xs, m, _, hx, _, hxs, g⟩ := DataW.trod_struct Tryd.underlying23 h
  match xs, hxs with
  | [y0, y1, y2], _ =>
    have g0 : DataW.trod enc Tryd.prog W base spare held m 3 [c0] = some y0 := by have := g 0 _ rfl; simpa [Tryd.cells3] using this
    have g1 : DataW.trod enc Tryd.prog W base spare held m 3 [c1] = some y1 := by have := g 1 _ rfl; simpa [Tryd.cells3] using this
    have g2 : DataW.trod enc Tryd.prog W base spare held m 3 [c2] = some y2 := by have := g 2 _ rfl; simpa [Tryd.cells3] using this
    obtain ⟨a, e0, _, _⟩ := DataW.trod_int Tryd.underlying3 g0
    obtain ⟨b, e1, _, _⟩ := DataW.trod_int Tryd.underlying3 g1
    obtain ⟨c, e2, _, _⟩ := DataW.trod_int Tryd.underlying3 g2
    simp at e0 e1 e2
    exact ⟨a, b, c, e0, e1, e2⟩
set_option maxRecDepth 100000 in
theorem open_cfg {H : Type} {enc : TypeId × Value → H} {W : World} {base : Nat} {spare : Nat → Bool} {held : Bool} {r : Reach} {b0 : Nat} {v : Value} {d : DataW H} {p : List MemPlace}
    (hv : Value.okWide Tryd.prog W r b0 23 v) (h : DataW.Trod enc Tryd.prog W base spare held 23 v d p) :
    ∃ a b c : Int, v = .agg #[.int .i64 a, .int .i64 b, .int .i64 c] := by
  obtain ⟨cs, rfl, hsz⟩ := okWide_struct Tryd.underlying23 hv
  obtain ⟨c0, c1, c2, rfl⟩ := array3 (hsz.trans Tryd.cells23)
  obtain ⟨fuel, hf⟩ := h
  obtain ⟨a, b, c, rfl, rfl, rfl⟩ := open_three (by simpa [Value.cells] using hf)
  exact ⟨a, b, c, rfl⟩
abbrev synS : ByteArray := { data := #[105, 110, 118, 97, 108, 105, 100, 32, 115, 121, 110, 116, 97, 120] }
abbrev rngS : ByteArray := { data := #[118, 97, 108, 117, 101, 32, 111, 117, 116, 32, 111, 102, 32, 114, 97, 110, 103, 101] }
/-- The numbers of a table. -/
def nums {H : Type} : DataW H → List Lit
  | .agg ps => ps.filterMap fun p => match p with | .lit l => some l | _ => none
  | _ => []
def tabCells (d : DataW Unit) : Array Value := ((nums d).map Lit.value).toArray
/-- The same block with other cells. -/
def relay (cs : Array Value) : Obj → Obj
  | .cells _ t frozen => .cells cs t frozen
  | o => o
set_option maxRecDepth 100000 in
theorem laid_met (os : Os) : laidMet Tryd.prog laidAll (({ World.holding Tryd.prog os ⟨#[.cells #[.string synS] 116, .cells #[.string rngS] 116], #[], []⟩ with heap := (((((World.holding Tryd.prog os ⟨#[.cells #[.string synS] 116, .cells #[.string rngS] 116], #[], []⟩).heap.modify 4 (relay (tabCells Rows.laid_internal_strconv_uint64pow10))).modify 2 (relay #[.iface 114 (.pointer (some ⟨12, 0, none⟩))])).modify 3 (relay #[.iface 114 (.pointer (some ⟨13, 0, none⟩))])).modify 5 (relay (tabCells Rows.laid_math_bits_deBruijn32tab))).modify 6 (relay (tabCells Rows.laid_math_bits_deBruijn64tab)) } : World).forCall (fun _ _ => 0) ⟨#[], #[.agg #[.int .i64 0, .int .i64 0, .int .i64 0], .int .i64 0, .string ⟨#[]⟩], []⟩).memory :=
  laidMet_of_run' 8 (by kernel_rfl) (by kernel_rfl)
theorem reads_wit (os : Os) {H : Type} (enc : TypeId × Value → H) : ∃ places, DataW.whole enc Tryd.prog (({ World.holding Tryd.prog os ⟨#[.cells #[.string synS] 116, .cells #[.string rngS] 116], #[], []⟩ with heap := (((((World.holding Tryd.prog os ⟨#[.cells #[.string synS] 116, .cells #[.string rngS] 116], #[], []⟩).heap.modify 4 (relay (tabCells Rows.laid_internal_strconv_uint64pow10))).modify 2 (relay #[.iface 114 (.pointer (some ⟨12, 0, none⟩))])).modify 3 (relay #[.iface 114 (.pointer (some ⟨13, 0, none⟩))])).modify 5 (relay (tabCells Rows.laid_math_bits_deBruijn32tab))).modify 6 (relay (tabCells Rows.laid_math_bits_deBruijn64tab)) } : World).forCall (fun _ _ => 0) ⟨#[], #[.agg #[.int .i64 0, .int .i64 0, .int .i64 0], .int .i64 0, .string ⟨#[]⟩], []⟩).memory Tryd.f3.params.toList Rows.scriptConfigsSpec.vars false (#[.agg #[.int .i64 0, .int .i64 0, .int .i64 0], .int .i64 0, .string ⟨#[]⟩] : Array Value).toList 8 = some ([.agg [.lit (.int .i64 0), .lit (.int .i64 0), .lit (.int .i64 0)], .lit (.int .i64 0), .lit (.string [])], [], places) :=
  ⟨[], by kernel_rfl⟩
set_option maxRecDepth 100000 in
theorem scriptConfigs_lifted (os : Os) (started : os.Started) (H : Type) (enc : TypeId × Value → H) (F : Stop.Interp) :
    ReturnsInHanded {} Tryd.checked os 3 .any ((OpenSpec.ofChange Rows.scriptConfigsSpec).preRow enc Tryd.prog Tryd.f3 Rows.scriptConfigsRow.domain false Rows.scriptConfigsRow.laid) (((OpenSpec.ofChange Rows.scriptConfigsSpec).at F).post enc Tryd.prog Tryd.f3 false true false false) := by
  obtain ⟨places, hx⟩ := reads_wit os enc
  refine returnsInHanded_of_row (C := Tryd.checked) (s := OpenSpec.ofChange Rows.scriptConfigsSpec) Tryd.own started (by kernel_rfl) Tryd.func3
    (witness_row_at (enc := enc) (C := Tryd.checked) false ({ World.holding Tryd.prog os ⟨#[.cells #[.string synS] 116, .cells #[.string rngS] 116], #[], []⟩ with heap := (((((World.holding Tryd.prog os ⟨#[.cells #[.string synS] 116, .cells #[.string rngS] 116], #[], []⟩).heap.modify 4 (relay (tabCells Rows.laid_internal_strconv_uint64pow10))).modify 2 (relay #[.iface 114 (.pointer (some ⟨12, 0, none⟩))])).modify 3 (relay #[.iface 114 (.pointer (some ⟨13, 0, none⟩))])).modify 5 (relay (tabCells Rows.laid_math_bits_deBruijn32tab))).modify 6 (relay (tabCells Rows.laid_math_bits_deBruijn64tab)) } : World) #[.agg #[.int .i64 0, .int .i64 0, .int .i64 0], .int .i64 0, .string ⟨#[]⟩] rfl (by kernel_rfl) (by kernel_rfl) (by kernel_rfl)
      (OpenSpec.preRow_of_cond 8 hx (by kernel_rfl) (fun k hk => by cases hk) (by kernel_rfl) (laid_met os))) ?_
  intro W base args ds gs before hval0 hW _ _ hsz0 hL _ _
  have hsz : (DataW.weightsEach Tryd.prog (Tryd.f3.params.toList ++ Rows.scriptConfigsSpec.plain.varTypes Tryd.prog) (ds ++ gs)).all (· ≤ reachBytes) = true := hsz0
  clear hsz0
  have hval : ∀ (j : Nat) t v, Tryd.f3.params[j]? = some t → args[j]? = some v → Value.okWide Tryd.prog W .any base t v := hval0
  have hW' := hW
  obtain ⟨p, q, hA0, hV, rfl, _, _⟩ := hW
  have hA : DataW.TrodAll enc Tryd.prog W 0 (fun _ => true) true Tryd.f3.params.toList args.toList ds p := hA0
  rw [Tryd.params3] at hA hval hsz
  obtain ⟨v1, v2, v3, d1, d2, d3, p1, p2, p3, rfl, rfl, rfl, h1, h2, h3⟩ := trodAll_three hA
  obtain ⟨rfl, rfl⟩ := trodVars_none hV
  have k1 := h1
  have k2 := h2
  have k3 := h3
  have lt1 : ∀ x ∈ p1, x.block < W.heap.size := by obtain ⟨m, hm⟩ := k1; exact DataW.trod_lt m _ _ _ hm
  have lt2 : ∀ x ∈ p2, x.block < W.heap.size := by obtain ⟨m, hm⟩ := k2; exact DataW.trod_lt m _ _ _ hm
  have lt3 : ∀ x ∈ p3, x.block < W.heap.size := by obtain ⟨m, hm⟩ := k3; exact DataW.trod_lt m _ _ _ hm
  obtain ⟨n0, k0, d0, rfl⟩ := open_cfg (hval 0 23 v1 rfl rfl) h1
  obtain ⟨c0, rfl, rfl, rfl, _⟩ := open_int Tryd.underlying3 (hval 1 3 v2 rfl rfl) h2
  obtain ⟨s, rfl, rfl, rfl, hs⟩ := open_string Tryd.underlying9 (hval 2 9 v3 rfl rfl) h3
  clear hA0 hval0
  have hlim : s.size ≤ 140737488355328 := by
    have h1 := sized_string hsz (j := 2) (t := 9) rfl rfl
    have h2 := reachBytes_lt
    have e1 : s.size = s.data.size := rfl
    have e2 : s.data.toList.length = s.data.size := Array.length_toList
    have e3 : (2 : Nat) ^ 47 = 140737488355328 := by decide
    omega
  refine (hLaw n0 k0 d0 c0 s W hlim (vars_of_laid hL)).mono fun e W' ⟨he, K⟩ => ?_
  have bel := below_kept K
  subst he
  exact ⟨_, rfl, _, _, _, [], _, [], hW', trodAll_mk1 (shut_bool Tryd.underlying4 _), (trodAll_cons_mk (Below.trod Tryd.laidOut (by kernel_rfl) (of_decide_eq_true (by kernel_rfl)) k1 bel lt1) (trodAll_cons_mk (Below.trod Tryd.laidOut (by kernel_rfl) (of_decide_eq_true (by kernel_rfl)) k2 bel lt2) (trodAll_cons_mk (Below.trod Tryd.laidOut (by kernel_rfl) (of_decide_eq_true (by kernel_rfl)) k3 bel lt3) trodAll_mk0))), rfl, bel.frame _, fun h => by cases h⟩
theorem scriptConfigs_row : Rows.ScriptConfigsSaid :=
  OpenClaim.holds_of_cond 3 Tryd.f3 rfl rfl rfl rfl rfl rfl rfl ⟨rfl, rfl, rfl, rfl, rfl⟩ rfl rfl rfl rfl rfl (by kernel_rfl) Tryd.func3 (by kernel_rfl)
    (of_decide_eq_true (by kernel_rfl)) (by unfold Func.isWrapper; first | (rw [if_pos (by decide +kernel)]; kernel_rfl) | (rw [if_neg (by decide +kernel)]; exact ⟨rfl, rfl⟩))
    (fun os started H enc _ F => by rw [OpenClaim.pre_eq_preRow]; exact scriptConfigs_lifted os started H enc F)
theorem scriptConfigs_plain (f : FuncId) (fn : Func) (hf : Tryd.pinned.checked.prog.funcNamed "sherd/sherdlaw24.ScriptConfigs" = some f) (hfn : Tryd.pinned.checked.prog.funcs[f]? = some fn) :
    true = Tryd.pinned.checked.prog.looks [] ∧ ∀ (j : Nat) t, fn.params[j]? = some t → Tryd.pinned.checked.prog.wantsStandIn t = false := by
  obtain rfl : f = 3 := Option.some.inj ((show Tryd.prog.funcNamed "sherd/sherdlaw24.ScriptConfigs" = some 3 by kernel_rfl).symm.trans hf) |>.symm
  obtain rfl : fn = Tryd.f3 := (Option.some.inj (Tryd.func3.symm.trans hfn)).symm
  refine ⟨by kernel_rfl, fun j t ht => ?_⟩
  rw [Tryd.params3] at ht
  rcases j with _ | _ | _ | j
  · have h3 : t = 23 := by simpa using ht.symm
    subst h3
    exact (show Tryd.prog.wantsStandIn 23 = false by kernel_rfl)
  · have h3 : t = 3 := by simpa using ht.symm
    subst h3
    exact (show Tryd.prog.wantsStandIn 3 = false by kernel_rfl)
  · have h3 : t = 9 := by simpa using ht.symm
    subst h3
    exact (show Tryd.prog.wantsStandIn 9 = false by kernel_rfl)
  · simp at ht
theorem scriptConfigs_holds : Rows.ScriptConfigsCardSaid :=
  Claim7.holds_tied_plain_at .later [] _ _ _ _ scriptConfigs_row (fun _ h => by cases h) (by kernel_rfl) (fun _ h => by cases h) scriptConfigs_row_tie rfl ⟨rfl, rfl⟩ (by kernel_rfl) rfl scriptConfigs_plain (by kernel_rfl)
#print axioms scriptConfigs_holds
end Go.Proofs.YtonfefhegghapaaDoor
