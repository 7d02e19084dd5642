import Derived.Test.YtonfefhegghapaaDoorSLaw
import Derived.Test.YtonfefhegghapaaDoorRows
import Derived.Test.YtonfefhegghapaaDoorTie
import Derived.Test.YtonfefhegghapaaDoorCards
import Derived.SizedLaws
import Derived.ChangeSame
import Derived.ChangeVars
import Derived.ChangeMaps5
import Derived.JoinedOf
import Derived.JoinedAt
import Derived.RowKit
import Derived.RowKit3
import Derived.RowKitTokens
import Derived.LaidLaws
import Derived.Lib.LaidTab
import Derived.Stop.LaidErr
import Derived.ProofKit
import Derived.OpenShut
import Derived.ShutString
import Derived.ChangeOld
import Derived.Below
import Derived.Deep.Slices
import Derived.Deep.Fields
import Derived.Deep.DeepHandedRow
import Derived.Deep.DeepWitnessRowRef
import Derived.Test.YtonfefhegghapaaDoorTLxJ
namespace Go.Proofs.YtonfefhegghapaaDoor
open Go.RowKit Go.ChangeShapes Go.WideShapes Go.ChangeAt Go.Deep

open Go.ChangeMaps (open_string shut_string)
theorem Tryd.own : ownKnob Tryd.prog.godebug = none := by kernel_rfl
theorem Tryd.laidOut : laidOutB Tryd.prog = true := by kernel_rfl
theorem Tryd.cells3 : Tryd.prog.cellsOf 3 = 1 := by kernel_rfl
theorem Tryd.cells9 : Tryd.prog.cellsOf 9 = 1 := by kernel_rfl
theorem Tryd.cells23 : Tryd.prog.cellsOf 23 = 3 := by kernel_rfl
theorem Tryd.cells116 : Tryd.prog.cellsOf 116 = 1 := by kernel_rfl
theorem Tryd.cellsE : Tryd.prog.cellsOf 82 = 1 := by kernel_rfl
theorem Tryd.cells119 : Tryd.prog.cellsOf 119 = 20 := by kernel_rfl
theorem Tryd.gPow : Tryd.prog.globalNamed "internal/strconv.uint64pow10" = some 4 := by kernel_rfl
theorem Tryd.gPowType : (Tryd.prog.globals[4]?).map (·.type) = some 119 := by kernel_rfl
theorem Tryd.gSyn : Tryd.prog.globalNamed "strconv.ErrSyntax" = some 2 := by kernel_rfl
theorem Tryd.gSynType : (Tryd.prog.globals[2]?).map (·.type) = some 86 := by kernel_rfl
theorem Tryd.gRng : Tryd.prog.globalNamed "strconv.ErrRange" = some 3 := by kernel_rfl
theorem Tryd.gRngType : (Tryd.prog.globals[3]?).map (·.type) = some 86 := by kernel_rfl
/-- The variables of the library as the rows list them. -/
abbrev laidAll : List (String × DataW Unit) := [("math/bits.deBruijn32tab", Rows.laid_math_bits_deBruijn32tab), ("math/bits.deBruijn64tab", Rows.laid_math_bits_deBruijn64tab), ("internal/strconv.uint64pow10", Rows.laid_internal_strconv_uint64pow10), ("strconv.ErrRange", Rows.laid_strconv_ErrRange), ("strconv.ErrSyntax", Rows.laid_strconv_ErrSyntax)]
theorem Tryd.star : "*" ++ "errors.errorString" = "*errors.errorString" := by decide
theorem Tryd.rowE (u : TypeId) (h : Tryd.prog.typeName? 3 u = some "*errors.errorString") : u = 114 :=
  typeName_ptr_named (nm := "errors.errorString") (by rw [Tryd.star]; kernel_rfl) (by kernel_rfl) (by decide) u (by rw [Tryd.star]; exact h)
theorem vars_of_laid {W : World} (hL : laidMetH Tryd.prog laidAll W) : Vars W := by
  have hL : laidMet Tryd.prog laidAll W := hL
  have h2 := hL.tail.tail
  have h3 := h2.tail
  have h4 := h3.tail
  refine ⟨Lib.tabIs_of_head Tryd.gPow Tryd.gPowType Tryd.underlying119 Tryd.underlying82 Tryd.cellsE Tryd.cells119 (rest := _) h2, ?_, ?_⟩
  · obtain ⟨a, s, hv, -, -, -⟩ := laid_sentinel h4 Tryd.gSyn Tryd.gSynType Tryd.underlying86 Tryd.rowE Tryd.underlying114 Tryd.underlying116 rfl rfl Tryd.underlying9 Tryd.cells116 Tryd.cells9
    exact ⟨_, _, hv⟩
  · obtain ⟨a, s, hv, -, -, -⟩ := laid_sentinel h3 Tryd.gRng Tryd.gRngType Tryd.underlying86 Tryd.rowE Tryd.underlying114 Tryd.underlying116 rfl rfl Tryd.underlying9 Tryd.cells116 Tryd.cells9
    exact ⟨_, _, hv⟩
theorem array3 {α : Type} {cs : Array α} (h : cs.size = 3) : ∃ c0 c1 c2, cs = #[c0, c1, c2] := by
  obtain ⟨l⟩ := cs
  match l, h with
  | [c0, c1, c2], _ => exact ⟨c0, c1, c2, rfl⟩
/-- A config's cells, opened. -/
theorem open_three {H : Type} {enc : TypeId × Value → H} {W : World} {base : Nat} {spare : Nat → Bool} {held : Bool} {n : Nat} {c0 c1 c2 : Value} {x : DataW H × List MemPlace}
    (h : DataW.trod enc Tryd.prog W base spare held n 23 [c0, c1, c2] = some x) : ∃ a b c : Int, c0 = .int .i64 a ∧ c1 = .int .i64 b ∧ c2 = .int .i64 c := by
  obtain ⟨xs, m, _, hx, _, hxs, g⟩ := DataW.trod_struct Tryd.underlying23 h
  match xs, hxs with
  | [y0, y1, y2], _ =>
    have g0 : DataW.trod enc Tryd.prog W base spare held m 3 [c0] = some y0 := by have := g 0 _ rfl; simpa [Tryd.cells3] using this
    have g1 : DataW.trod enc Tryd.prog W base spare held m 3 [c1] = some y1 := by have := g 1 _ rfl; simpa [Tryd.cells3] using this
    have g2 : DataW.trod enc Tryd.prog W base spare held m 3 [c2] = some y2 := by have := g 2 _ rfl; simpa [Tryd.cells3] using this
    obtain ⟨a, e0, _, _⟩ := DataW.trod_int Tryd.underlying3 g0
    obtain ⟨b, e1, _, _⟩ := DataW.trod_int Tryd.underlying3 g1
    obtain ⟨c, e2, _, _⟩ := DataW.trod_int Tryd.underlying3 g2
    simp at e0 e1 e2
    exact ⟨a, b, c, e0, e1, e2⟩
set_option maxRecDepth 100000 in
theorem open_cfg {H : Type} {enc : TypeId × Value → H} {W : World} {base : Nat} {spare : Nat → Bool} {held : Bool} {r : Reach} {b0 : Nat} {v : Value} {d : DataW H} {p : List MemPlace}
    (hv : Value.okWide Tryd.prog W r b0 23 v) (h : DataW.Trod enc Tryd.prog W base spare held 23 v d p) :
    ∃ a b c : Int, v = .agg #[.int .i64 a, .int .i64 b, .int .i64 c] := by
  obtain ⟨cs, rfl, hsz⟩ := okWide_struct Tryd.underlying23 hv
  obtain ⟨c0, c1, c2, rfl⟩ := array3 (hsz.trans Tryd.cells23)
  obtain ⟨fuel, hf⟩ := h
  obtain ⟨a, b, c, rfl, rfl, rfl⟩ := open_three (by simpa [Value.cells] using hf)
  exact ⟨a, b, c, rfl⟩
abbrev synS : ByteArray := { data := #[105, 110, 118, 97, 108, 105, 100, 32, 115, 121, 110, 116, 97, 120] }
abbrev rngS : ByteArray := { data := #[118, 97, 108, 117, 101, 32, 111, 117, 116, 32, 111, 102, 32, 114, 97, 110, 103, 101] }
/-- The numbers of a table. -/
def nums {H : Type} : DataW H → List Lit
  | .agg ps => ps.filterMap fun p => match p with | .lit l => some l | _ => none
  | _ => []
def tabCells (d : DataW Unit) : Array Value := ((nums d).map Lit.value).toArray
/-- The same block with other cells. -/
def relay (cs : Array Value) : Obj → Obj
  | .cells _ t frozen => .cells cs t frozen
  | o => o
set_option maxRecDepth 100000 in
theorem laid_met (os : Os) : laidMet Tryd.prog laidAll (({ World.holding Tryd.prog os ⟨#[.cells #[.string synS] 116, .cells #[.string rngS] 116], #[], []⟩ with heap := (((((World.holding Tryd.prog os ⟨#[.cells #[.string synS] 116, .cells #[.string rngS] 116], #[], []⟩).heap.modify 4 (relay (tabCells Rows.laid_internal_strconv_uint64pow10))).modify 2 (relay #[.iface 114 (.pointer (some ⟨12, 0, none⟩))])).modify 3 (relay #[.iface 114 (.pointer (some ⟨13, 0, none⟩))])).modify 5 (relay (tabCells Rows.laid_math_bits_deBruijn32tab))).modify 6 (relay (tabCells Rows.laid_math_bits_deBruijn64tab)) } : World).forCall (fun _ _ => 0) ⟨#[], #[.agg #[.int .i64 0, .int .i64 0, .int .i64 0], .int .i64 0, .string ⟨#[]⟩], []⟩).memory :=
  laidMet_of_run' 8 (by kernel_rfl) (by kernel_rfl)
theorem reads_wit (os : Os) {H : Type} (enc : TypeId × Value → H) : ∃ places, DataW.whole enc Tryd.prog (({ World.holding Tryd.prog os ⟨#[.cells #[.string synS] 116, .cells #[.string rngS] 116], #[], []⟩ with heap := (((((World.holding Tryd.prog os ⟨#[.cells #[.string synS] 116, .cells #[.string rngS] 116], #[], []⟩).heap.modify 4 (relay (tabCells Rows.laid_internal_strconv_uint64pow10))).modify 2 (relay #[.iface 114 (.pointer (some ⟨12, 0, none⟩))])).modify 3 (relay #[.iface 114 (.pointer (some ⟨13, 0, none⟩))])).modify 5 (relay (tabCells Rows.laid_math_bits_deBruijn32tab))).modify 6 (relay (tabCells Rows.laid_math_bits_deBruijn64tab)) } : World).forCall (fun _ _ => 0) ⟨#[], #[.agg #[.int .i64 0, .int .i64 0, .int .i64 0], .int .i64 0, .string ⟨#[]⟩], []⟩).memory Tryd.f3.params.toList Rows.scriptConfigsSpec.vars false (#[.agg #[.int .i64 0, .int .i64 0, .int .i64 0], .int .i64 0, .string ⟨#[]⟩] : Array Value).toList 8 = some ([.agg [.lit (.int .i64 0), .lit (.int .i64 0), .lit (.int .i64 0)], .lit (.int .i64 0), .lit (.string [])], [], places) :=
  ⟨[], by kernel_rfl⟩
set_option maxRecDepth 100000 in
theorem scriptConfigs_lifted (os : Os) (started : os.Started) (H : Type) (enc : TypeId × Value → H) (F : Stop.Interp) :
    ReturnsInHanded {} Tryd.checked os 3 .any ((OpenSpec.ofChange Rows.scriptConfigsSpec).preRow enc Tryd.prog Tryd.f3 Rows.scriptConfigsRow.domain false Rows.scriptConfigsRow.laid) (((OpenSpec.ofChange Rows.scriptConfigsSpec).at F).post enc Tryd.prog Tryd.f3 false true false false) := by
  obtain ⟨places, hx⟩ := reads_wit os enc
  refine returnsInHanded_of_row (C := Tryd.checked) (s := OpenSpec.ofChange Rows.scriptConfigsSpec) Tryd.own started (by kernel_rfl) Tryd.func3
    (witness_row_at (enc := enc) (C := Tryd.checked) false ({ World.holding Tryd.prog os ⟨#[.cells #[.string synS] 116, .cells #[.string rngS] 116], #[], []⟩ with heap := (((((World.holding Tryd.prog os ⟨#[.cells #[.string synS] 116, .cells #[.string rngS] 116], #[], []⟩).heap.modify 4 (relay (tabCells Rows.laid_internal_strconv_uint64pow10))).modify 2 (relay #[.iface 114 (.pointer (some ⟨12, 0, none⟩))])).modify 3 (relay #[.iface 114 (.pointer (some ⟨13, 0, none⟩))])).modify 5 (relay (tabCells Rows.laid_math_bits_deBruijn32tab))).modify 6 (relay (tabCells Rows.laid_math_bits_deBruijn64tab)) } : World) #[.agg #[.int .i64 0, .int .i64 0, .int .i64 0], .int .i64 0, .string ⟨#[]⟩] rfl (by kernel_rfl) (by kernel_rfl) (by kernel_rfl)
      (OpenSpec.preRow_of_cond 8 hx (by kernel_rfl) (fun k hk => by cases hk) (by kernel_rfl) (laid_met os))) ?_
  intro W base args ds gs before hval0 hW _ _ hsz0 hL _ _
  have hsz : (DataW.weightsEach Tryd.prog (Tryd.f3.params.toList ++ Rows.scriptConfigsSpec.plain.varTypes Tryd.prog) (ds ++ gs)).all (· ≤ reachBytes) = true := hsz0
  clear hsz0
  have hval : ∀ (j : Nat) t v, Tryd.f3.params[j]? = some t → args[j]? = some v → Value.okWide Tryd.prog W .any base t v := hval0
  have hW' := hW
  obtain ⟨p, q, hA0, hV, rfl, _, _⟩ := hW
  have hA : DataW.TrodAll enc Tryd.prog W 0 (fun _ => true) true Tryd.f3.params.toList args.toList ds p := hA0
  rw [Tryd.params3] at hA hval hsz
  obtain ⟨v1, v2, v3, d1, d2, d3, p1, p2, p3, rfl, rfl, rfl, h1, h2, h3⟩ := trodAll_three hA
  obtain ⟨rfl, rfl⟩ := trodVars_none hV
  have k1 := h1
  have k2 := h2
  have k3 := h3
  have lt1 : ∀ x ∈ p1, x.block < W.heap.size := by obtain ⟨m, hm⟩ := k1; exact DataW.trod_lt m _ _ _ hm
  have lt2 : ∀ x ∈ p2, x.block < W.heap.size := by obtain ⟨m, hm⟩ := k2; exact DataW.trod_lt m _ _ _ hm
  have lt3 : ∀ x ∈ p3, x.block < W.heap.size := by obtain ⟨m, hm⟩ := k3; exact DataW.trod_lt m _ _ _ hm
  obtain ⟨n0, k0, d0, rfl⟩ := open_cfg (hval 0 23 v1 rfl rfl) h1
  obtain ⟨c0, rfl, rfl, rfl, _⟩ := open_int Tryd.underlying3 (hval 1 3 v2 rfl rfl) h2
  obtain ⟨s, rfl, rfl, rfl, hs⟩ := open_string Tryd.underlying9 (hval 2 9 v3 rfl rfl) h3
  clear hA0 hval0
  have hlim : s.size ≤ 140737488355328 := by
    have h1 := sized_string hsz (j := 2) (t := 9) rfl rfl
    have h2 := reachBytes_lt
    have e1 : s.size = s.data.size := rfl
    have e2 : s.data.toList.length = s.data.size := Array.length_toList
    have e3 : (2 : Nat) ^ 47 = 140737488355328 := by decide
    omega
  refine (hLaw n0 k0 d0 c0 s W hlim (vars_of_laid hL)).mono fun e W' ⟨he, K⟩ => ?_
  have bel := below_kept K
  subst he
  exact ⟨_, rfl, _, _, _, [], _, [], hW', trodAll_mk1 (shut_bool Tryd.underlying4 _), (trodAll_cons_mk (Below.trod Tryd.laidOut (by kernel_rfl) (of_decide_eq_true (by kernel_rfl)) k1 bel lt1) (trodAll_cons_mk (Below.trod Tryd.laidOut (by kernel_rfl) (of_decide_eq_true (by kernel_rfl)) k2 bel lt2) (trodAll_cons_mk (Below.trod Tryd.laidOut (by kernel_rfl) (of_decide_eq_true (by kernel_rfl)) k3 bel lt3) trodAll_mk0))), rfl, bel.frame _, fun h => by cases h⟩
theorem scriptConfigs_row : Rows.ScriptConfigsSaid :=
  OpenClaim.holds_of_cond 3 Tryd.f3 rfl rfl rfl rfl rfl rfl rfl ⟨rfl, rfl, rfl, rfl, rfl⟩ rfl rfl rfl rfl rfl (by kernel_rfl) Tryd.func3 (by kernel_rfl)
    (of_decide_eq_true (by kernel_rfl)) (by unfold Func.isWrapper; first | (rw [if_pos (by decide +kernel)]; kernel_rfl) | (rw [if_neg (by decide +kernel)]; exact ⟨rfl, rfl⟩))
    (fun os started H enc _ F => by rw [OpenClaim.pre_eq_preRow]; exact scriptConfigs_lifted os started H enc F)
theorem scriptConfigs_plain (f : FuncId) (fn : Func) (hf : Tryd.pinned.checked.prog.funcNamed "sherd/sherdlaw24.ScriptConfigs" = some f) (hfn : Tryd.pinned.checked.prog.funcs[f]? = some fn) :
    true = Tryd.pinned.checked.prog.looks [] ∧ ∀ (j : Nat) t, fn.params[j]? = some t → Tryd.pinned.checked.prog.wantsStandIn t = false := by
  obtain rfl : f = 3 := Option.some.inj ((show Tryd.prog.funcNamed "sherd/sherdlaw24.ScriptConfigs" = some 3 by kernel_rfl).symm.trans hf) |>.symm
  obtain rfl : fn = Tryd.f3 := (Option.some.inj (Tryd.func3.symm.trans hfn)).symm
  refine ⟨by kernel_rfl, fun j t ht => ?_⟩
  rw [Tryd.params3] at ht
  rcases j with _ | _ | _ | j
  · have h3 : t = 23 := by simpa using ht.symm
    subst h3
    exact (show Tryd.prog.wantsStandIn 23 = false by kernel_rfl)
  · have h3 : t = 3 := by simpa using ht.symm
    subst h3
    exact (show Tryd.prog.wantsStandIn 3 = false by kernel_rfl)
  · have h3 : t = 9 := by simpa using ht.symm
    subst h3
    exact (show Tryd.prog.wantsStandIn 9 = false by kernel_rfl)
  · simp at ht
theorem scriptConfigs_holds : Rows.ScriptConfigsCardSaid :=
  Claim7.holds_tied_plain_at .later [] _ _ _ _ scriptConfigs_row (fun _ h => by cases h) (by kernel_rfl) (fun _ h => by cases h) scriptConfigs_row_tie rfl ⟨rfl, rfl⟩ (by kernel_rfl) rfl scriptConfigs_plain (by kernel_rfl)
#print axioms scriptConfigs_holds
end Go.Proofs.YtonfefhegghapaaDoor

namespace Go.Proofs.YtonfefhegghapaaDoor
open Go.RowKit Go.ChangeShapes Go.WideShapes Go.ChangeAt Go.Deep

open Go.ChangeMaps (open_string shut_string)
theorem Tryd.underlying43c : Tryd.prog.underlying 43 = some (.slice 9) := by kernel_rfl
theorem Tryd.cells5 : Tryd.prog.cellsOf 5 = 1 := by kernel_rfl
theorem Tryd.cells58 : Tryd.prog.cellsOf 58 = 2 := by kernel_rfl
theorem Tryd.cells59 : Tryd.prog.cellsOf 59 = 34 := by kernel_rfl
theorem Tryd.gForms : Tryd.prog.globalNamed "sherd/script.forms" = some 0 := by kernel_rfl
theorem Tryd.gFormsType : (Tryd.prog.globals[0]?).map (·.type) = some 59 := by kernel_rfl
/-- The variables as the row lists them. -/
abbrev laidAll6 : List (String × DataW Unit) := [("math/bits.deBruijn32tab", Rows.laid_math_bits_deBruijn32tab), ("math/bits.deBruijn64tab", Rows.laid_math_bits_deBruijn64tab), ("internal/strconv.uint64pow10", Rows.laid_internal_strconv_uint64pow10), ("strconv.ErrRange", Rows.laid_strconv_ErrRange), ("strconv.ErrSyntax", Rows.laid_strconv_ErrSyntax), ("sherd/script.forms", Rows.laid_sherd_script_forms)]
theorem vars_of_laid6 {W : World} (hL : laidMetH Tryd.prog laidAll6 W) : Vars W := by
  have hL : laidMet Tryd.prog laidAll6 W := hL
  have h2 := hL.tail.tail
  have h3 := h2.tail
  have h4 := h3.tail
  refine ⟨Lib.tabIs_of_head Tryd.gPow Tryd.gPowType Tryd.underlying119 Tryd.underlying82 Tryd.cellsE Tryd.cells119 (rest := _) h2, ?_, ?_⟩
  · obtain ⟨a, s, hv, -, -, -⟩ := laid_sentinel h4 Tryd.gSyn Tryd.gSynType Tryd.underlying86 Tryd.rowE Tryd.underlying114 Tryd.underlying116 rfl rfl Tryd.underlying9 Tryd.cells116 Tryd.cells9
    exact ⟨_, _, hv⟩
  · obtain ⟨a, s, hv, -, -, -⟩ := laid_sentinel h3 Tryd.gRng Tryd.gRngType Tryd.underlying86 Tryd.rowE Tryd.underlying114 Tryd.underlying116 rfl rfl Tryd.underlying9 Tryd.cells116 Tryd.cells9
    exact ⟨_, _, hv⟩
set_option maxRecDepth 100000 in
/-- One form's cells. -/
theorem open_form {H : Type} {enc : TypeId × Value → H} {W : World} {base : Nat} {spare : Nat → Bool} {held : Bool} {n : Nat} {cs : List Value} {z : List UInt8} {u : Int} {pl : List MemPlace}
    (h : DataW.trod enc Tryd.prog W base spare held n 58 cs = some (.agg [.lit (.string z), .lit (.int .u8 u)], pl)) : cs = [.string ⟨z.toArray⟩, .int .u8 u] := by
  obtain ⟨xs, m, _, hx, hl, hxs, g⟩ := DataW.trod_struct Tryd.underlying58 h
  rw [Tryd.cells58] at hl
  match xs, hxs, cs, hl with
  | [y0, y1], _, [c0, c1], _ =>
    have g0 : DataW.trod enc Tryd.prog W base spare held m 9 [c0] = some y0 := by have := g 0 _ rfl; simpa [Tryd.cells9] using this
    have g1 : DataW.trod enc Tryd.prog W base spare held m 5 [c1] = some y1 := by have := g 1 _ rfl; simpa [Tryd.cells5] using this
    obtain ⟨s, e0, f0, _⟩ := DataW.trod_string Tryd.underlying9 g0
    obtain ⟨a, e1, f1, _⟩ := DataW.trod_int Tryd.underlying5 g1
    simp at e0 e1
    have q := congrArg Prod.fst hx
    rw [f0, f1] at q
    simp at q
    obtain ⟨q1, q2⟩ := q
    rw [e0, e1, ← q2, q1]
theorem bulk_texts {H : Type} : ∀ l : List ByteArray, Rows.uptoBulkAll (l.map fun t => (DataW.lit (Lit.string t.data.toList) : DataW H)) = (tex (bsL l)).length
  | [] => rfl
  | t :: r => by
    have ih := bulk_texts (H := H) r
    have e : bsL (t :: r) = t.data.toList :: bsL r := rfl
    rw [List.map_cons, e, tex_cons, List.length_append, List.length_cons]
    simp only [Rows.uptoBulkAll, Rows.uptoBulk]
    rw [ih]
    omega
theorem open_texts {H : Type} {enc : TypeId × Value → H} {W : World} {a : Option Addr} {len cap fuel : Nat} {x : DataW H × List MemPlace}
    (h : DataW.trod enc Tryd.prog W 0 (fun _ => true) true fuel 43 [.slice a len cap] = some x) : ∃ ts, TRs W a len cap ts ∧ (tex (bsL ts)).length ≤ Rows.uptoBulk x.1 := by
  rcases open_slice Tryd.underlying43c h with ⟨hcs, _⟩ | ⟨ad, l', c', m, n, D, Pl, hcs, _, hl, hm, hmm, hx, hel⟩
  · simp at hcs
    obtain ⟨rfl, rfl, rfl⟩ := hcs
    exact ⟨[], ⟨rfl, Nat.le_refl _, by unfold maxLen; omega, fun q => absurd q (by omega)⟩, Nat.zero_le _⟩
  · simp at hcs
    obtain ⟨rfl, rfl, rfl⟩ := hcs
    have hmm : m = cap := by simpa using hmm
    rw [Tryd.cells9] at hel
    obtain ⟨O, hO⟩ := choose_lt (n := len) (p := fun i (o : ByteArray) => W.cell? (ad.add (i * 1)) = some (.string o) ∧ D i = .lit (.string o.data.toList)) (fun i hi => by
      obtain ⟨cs', h1, h2⟩ := hel i (by omega)
      obtain ⟨_, hlen, hc⟩ := World.cells?_some h1
      match cs', hlen, hc, h2 with
      | [c0], hlen, hc, h2 =>
        obtain ⟨s, e0, e1, _⟩ := DataW.trod_string Tryd.underlying9 h2
        simp at e0
        subst e0
        refine ⟨s, ?_, ?_⟩
        · have := hc 0 (by simp)
          simpa [Addr.add] using this
        · have := congrArg Prod.fst e1
          simpa using this)
    refine ⟨(List.range len).map O, ⟨by simp, hl, hm, fun h0 => ?_⟩, ?_⟩
    · obtain ⟨b, off, spot⟩ := ad
      have h1 := (hO 0 h0).1
      have hs : spot = none := by
        have := World.cell?_spot h1
        simpa [Addr.add] using this
      subst hs
      refine ⟨b, off, rfl, fun i t ht => ?_⟩
      have hi : i < len := by
        have := (List.getElem?_eq_some_iff.1 ht).1
        simpa using this
      have e : O i = t := by
        rw [List.getElem?_map, List.getElem?_range hi] at ht
        simpa using ht
      have := (hO i hi).1
      rw [Addr.add_none, Nat.mul_one, e] at this
      exact this
    · rw [hx]
      have e : (List.range len).map D = ((List.range len).map O).map fun t => (DataW.lit (Lit.string t.data.toList) : DataW H) := by
        rw [List.map_map]
        apply List.map_congr_left
        intro i hi
        exact (hO i (by simpa using hi)).2
      simp only [Rows.uptoBulk]
      rw [e, bulk_texts]
      omega
set_option maxRecDepth 100000 in
/-- An array of forms. -/
theorem cells_of_forms {H : Type} {enc : TypeId × Value → H} {w : World} {base : Nat} {sp : Nat → Bool} {held : Bool} {fuel : Nat} {cs : List Value} {fs : List (List UInt8 × Int)} {p : List MemPlace}
    (h : DataW.trod enc Tryd.prog w base sp held fuel 59 cs = some (DataW.agg (fs.map fun z => DataW.agg [DataW.lit (Lit.string z.1), DataW.lit (Lit.int .u8 z.2)]), p)) : ∀ (i : Nat) (z : List UInt8 × Int), fs[i]? = some z → (cs.drop (i * 2)).take 2 = [Value.string ⟨z.1.toArray⟩, .int .u8 z.2] := by
  cases fuel with
  | zero => simp [DataW.trod] at h
  | succ fuel =>
    simp only [DataW.trod, und59, Tryd.cells58, Tryd.cells59] at h
    split at h
    · obtain ⟨xs, hm, hx⟩ := Option.map_eq_some_iff.1 h
      have hxs : xs.map (·.1) = fs.map fun z => (DataW.agg [DataW.lit (Lit.string z.1), DataW.lit (Lit.int .u8 z.2)] : DataW H) := by
        have := congrArg Prod.fst hx
        simpa using this
      have hxl : xs.length = 17 := by simpa using Lib.mapM_length hm
      intro i z hz
      have hi : i < 17 := by
        have := congrArg List.length hxs
        simp at this
        have := (List.getElem?_eq_some_iff.1 hz).1
        omega
      obtain ⟨b, hb, hf⟩ := Lib.mapM_at hm i i (by simp [hi])
      have h2 : (xs.map (·.1))[i]? = some b.1 := by simp [hb]
      rw [hxs, List.getElem?_map, hz] at h2
      have h3 : b = (DataW.agg [DataW.lit (Lit.string z.1), DataW.lit (Lit.int .u8 z.2)], b.2) := by
        have : b.1 = _ := (Option.some.inj h2).symm
        exact Prod.ext this rfl
      rw [h3] at hf
      exact open_form hf
    · cases h
end Go.Proofs.YtonfefhegghapaaDoor

namespace Go.Proofs.YtonfefhegghapaaDoor
open Go.RowKit Go.ChangeShapes Go.WideShapes Go.ChangeAt Go.Deep

theorem two_of {l : List Value} {j : Nat} {a b : Value} (h : (l.drop (j * 2)).take 2 = [a, b]) : l[j * 2]? = some a ∧ l[j * 2 + 1]? = some b := by
  have h0 := congrArg (·[0]?) h
  have h1 := congrArg (·[1]?) h
  simp [List.getElem?_drop] at h0 h1
  exact ⟨h0, h1⟩
set_option maxRecDepth 100000 in
theorem fm_of {W : World} (h : laidMet Tryd.prog [("sherd/script.forms", Rows.laid_sherd_script_forms)] W) : FM W := by
  obtain ⟨ps, ⟨g', t', cs, fuel, p, q, hg', ht', hvar, hd, _, _⟩, _⟩ := h
  obtain rfl := Option.some.inj (Tryd.gForms.symm.trans hg')
  obtain rfl := Option.some.inj (Tryd.gFormsType.symm.trans ht')
  have k := cells_of_forms (fs := [([], 0), ([112, 117, 116], 13), ([103, 101, 116], 5), ([99, 97, 110, 99, 101, 108], 1), ([116, 105, 99, 107], 1), ([115, 116, 111, 112], 1), ([100, 101, 108, 105, 118, 101, 114], 1), ([100, 114, 111, 112], 1), ([100, 111, 117, 98, 108, 101], 1), ([98, 117, 114, 115, 116], 19), ([99, 117, 116], 3), ([108, 111, 115, 101], 1), ([99, 114, 97, 115, 104], 17), ([115, 116, 97, 114, 116], 1), ([100, 105, 101], 19), ([99, 111, 109, 112, 97, 99, 116], 1), ([114, 111, 117, 110, 100], 18)]) hd
  have c : ∀ i v, cs.toList[i]? = some v → W.cell? ⟨0, i, none⟩ = some v := fun i v hv => by
    have := World.var?_cell Tryd.gForms hvar i
    rw [this, ← Array.getElem?_toList]
    exact hv
  intro i v hv
  have hi : i < 34 := (Array.getElem?_eq_some_iff.1 hv).1
  refine c i v ?_
  obtain rfl | rfl | rfl | rfl | rfl | rfl | rfl | rfl | rfl | rfl | rfl | rfl | rfl | rfl | rfl | rfl | rfl | rfl | rfl | rfl | rfl | rfl | rfl | rfl | rfl | rfl | rfl | rfl | rfl | rfl | rfl | rfl | rfl | rfl : i = 0 ∨ i = 1 ∨ i = 2 ∨ i = 3 ∨ i = 4 ∨ i = 5 ∨ i = 6 ∨ i = 7 ∨ i = 8 ∨ i = 9 ∨ i = 10 ∨ i = 11 ∨ i = 12 ∨ i = 13 ∨ i = 14 ∨ i = 15 ∨ i = 16 ∨ i = 17 ∨ i = 18 ∨ i = 19 ∨ i = 20 ∨ i = 21 ∨ i = 22 ∨ i = 23 ∨ i = 24 ∨ i = 25 ∨ i = 26 ∨ i = 27 ∨ i = 28 ∨ i = 29 ∨ i = 30 ∨ i = 31 ∨ i = 32 ∨ i = 33 := by omega
  · rw [← hv]; exact (two_of (k 0 _ rfl)).1
  · rw [← hv]; exact (two_of (k 0 _ rfl)).2
  · rw [← hv]; exact (two_of (k 1 _ rfl)).1
  · rw [← hv]; exact (two_of (k 1 _ rfl)).2
  · rw [← hv]; exact (two_of (k 2 _ rfl)).1
  · rw [← hv]; exact (two_of (k 2 _ rfl)).2
  · rw [← hv]; exact (two_of (k 3 _ rfl)).1
  · rw [← hv]; exact (two_of (k 3 _ rfl)).2
  · rw [← hv]; exact (two_of (k 4 _ rfl)).1
  · rw [← hv]; exact (two_of (k 4 _ rfl)).2
  · rw [← hv]; exact (two_of (k 5 _ rfl)).1
  · rw [← hv]; exact (two_of (k 5 _ rfl)).2
  · rw [← hv]; exact (two_of (k 6 _ rfl)).1
  · rw [← hv]; exact (two_of (k 6 _ rfl)).2
  · rw [← hv]; exact (two_of (k 7 _ rfl)).1
  · rw [← hv]; exact (two_of (k 7 _ rfl)).2
  · rw [← hv]; exact (two_of (k 8 _ rfl)).1
  · rw [← hv]; exact (two_of (k 8 _ rfl)).2
  · rw [← hv]; exact (two_of (k 9 _ rfl)).1
  · rw [← hv]; exact (two_of (k 9 _ rfl)).2
  · rw [← hv]; exact (two_of (k 10 _ rfl)).1
  · rw [← hv]; exact (two_of (k 10 _ rfl)).2
  · rw [← hv]; exact (two_of (k 11 _ rfl)).1
  · rw [← hv]; exact (two_of (k 11 _ rfl)).2
  · rw [← hv]; exact (two_of (k 12 _ rfl)).1
  · rw [← hv]; exact (two_of (k 12 _ rfl)).2
  · rw [← hv]; exact (two_of (k 13 _ rfl)).1
  · rw [← hv]; exact (two_of (k 13 _ rfl)).2
  · rw [← hv]; exact (two_of (k 14 _ rfl)).1
  · rw [← hv]; exact (two_of (k 14 _ rfl)).2
  · rw [← hv]; exact (two_of (k 15 _ rfl)).1
  · rw [← hv]; exact (two_of (k 15 _ rfl)).2
  · rw [← hv]; exact (two_of (k 16 _ rfl)).1
  · rw [← hv]; exact (two_of (k 16 _ rfl)).2
end Go.Proofs.YtonfefhegghapaaDoor
