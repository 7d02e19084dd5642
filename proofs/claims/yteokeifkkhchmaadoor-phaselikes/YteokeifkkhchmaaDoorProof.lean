import Derived.Test.YteokeifkkhchmaaDoorRows
import Derived.Test.YteokeifkkhchmaaDoorTie
import Derived.Test.YteokeifkkhchmaaDoorCards
import Derived.Test.YteokeifkkhchmaaDoorWalk
import Derived.SizedLaws
import Derived.ChangeSame
import Derived.ChangeVars
import Derived.ChangeMaps5
import Derived.JoinedOf
import Derived.JoinedAt
import Derived.RowKit
import Derived.RowKit3
import Derived.RowKitTokens
import Derived.LaidLaws
import Derived.Lib.LaidTab
import Derived.Stop.LaidErr
import Derived.ProofKit
import Derived.OpenShut
import Derived.ShutString
import Derived.ChangeOld
import Derived.Below
import Derived.Deep.Slices
import Derived.Deep.Fields
namespace Go.Proofs.YteokeifkkhchmaaDoor
open Go.RowKit Go.ChangeShapes Go.WideShapes Go.ChangeAt Go.Deep

theorem Tryd.own : ownKnob Tryd.prog.godebug = none := by kernel_rfl
theorem Tryd.laidOut : laidOutB Tryd.prog = true := by kernel_rfl
theorem Tryd.cells23 : Tryd.prog.cellsOf 23 = 3 := by kernel_rfl
theorem Tryd.cells24 : Tryd.prog.cellsOf 24 = 1 := by kernel_rfl
theorem Tryd.cells3 : Tryd.prog.cellsOf 3 = 1 := by kernel_rfl
theorem fit_i64 {a : Int} (h : (Lit.int .i64 a).wf = true) : KF a := (wf_i64 a).1 h
theorem array3 {α : Type} {cs : Array α} (h : cs.size = 3) : ∃ c0 c1 c2, cs = #[c0, c1, c2] := by
  obtain ⟨l⟩ := cs
  match l, h with
  | [c0, c1, c2], _ => exact ⟨c0, c1, c2, rfl⟩
/-- A config's cells, opened. -/
theorem open_three {H : Type} {enc : TypeId × Value → H} {W : World} {base : Nat} {spare : Nat → Bool} {held : Bool} {n : Nat} {c0 c1 c2 : Value} {x : DataW H × List MemPlace}
    (h : DataW.trod enc Tryd.prog W base spare held n 23 [c0, c1, c2] = some x) : ∃ a b c : Int, c0 = .int .i64 a ∧ c1 = .int .i64 b ∧ c2 = .int .i64 c ∧ KF a ∧ KF b ∧ KF c := by
  obtain ⟨xs, m, _, hx, _, hxs, g⟩ := DataW.trod_struct Tryd.underlying23 h
  match xs, hxs with
  | [y0, y1, y2], _ =>
    have g0 : DataW.trod enc Tryd.prog W base spare held m 3 [c0] = some y0 := by have := g 0 _ rfl; simpa [Tryd.cells3] using this
    have g1 : DataW.trod enc Tryd.prog W base spare held m 3 [c1] = some y1 := by have := g 1 _ rfl; simpa [Tryd.cells3] using this
    have g2 : DataW.trod enc Tryd.prog W base spare held m 3 [c2] = some y2 := by have := g 2 _ rfl; simpa [Tryd.cells3] using this
    obtain ⟨a, e0, _, wa⟩ := DataW.trod_int Tryd.underlying3 g0
    obtain ⟨b, e1, _, wb⟩ := DataW.trod_int Tryd.underlying3 g1
    obtain ⟨c, e2, _, wc⟩ := DataW.trod_int Tryd.underlying3 g2
    simp at e0 e1 e2
    exact ⟨a, b, c, e0, e1, e2, fit_i64 wa, fit_i64 wb, fit_i64 wc⟩
set_option maxRecDepth 100000 in
theorem open_cfg {H : Type} {enc : TypeId × Value → H} {W : World} {base : Nat} {spare : Nat → Bool} {held : Bool} {r : Reach} {b0 : Nat} {v : Value} {d : DataW H} {p : List MemPlace}
    (hv : Value.okWide Tryd.prog W r b0 23 v) (h : DataW.Trod enc Tryd.prog W base spare held 23 v d p) :
    ∃ a b c : Int, v = .agg #[.int .i64 a, .int .i64 b, .int .i64 c] ∧ KF a ∧ KF b ∧ KF c := by
  obtain ⟨cs, rfl, hsz⟩ := okWide_struct Tryd.underlying23 hv
  obtain ⟨c0, c1, c2, rfl⟩ := array3 (hsz.trans Tryd.cells23)
  obtain ⟨fuel, hf⟩ := h
  obtain ⟨a, b, c, rfl, rfl, rfl, ha, hb, hc⟩ := open_three (by simpa [Value.cells] using hf)
  exact ⟨a, b, c, rfl, ha, hb, hc⟩
set_option maxRecDepth 100000 in
theorem open_list {H : Type} {enc : TypeId × Value → H} {W : World} {a : Option Addr} {len cap fuel : Nat} {x : DataW H × List MemPlace}
    (h : DataW.trod enc Tryd.prog W 0 (fun _ => true) true fuel 24 [.slice a len cap] = some x) : ∃ l, IReads W a len cap l ∧ ∀ x ∈ l, KF x := by
  rcases open_ints Tryd.underlying24 Tryd.underlying3 Tryd.cells3 h with ⟨hcs, _⟩ | ⟨ad, l', c', zs, hcs, _, hl, hm, hz, hx, hcell, hwz⟩
  · simp at hcs
    obtain ⟨rfl, rfl, rfl⟩ := hcs
    exact ⟨[], ⟨rfl, Nat.le_refl _, by unfold maxLen; omega, fun h => absurd h (by omega)⟩, fun _ h => absurd h (by simp)⟩
  · simp at hcs
    obtain ⟨rfl, rfl, rfl⟩ := hcs
    have hz' : zs.length = cap := by simpa using hz
    refine ⟨zs.take len, ⟨by rw [List.length_take]; omega, hl, hm, fun h0 => ?_⟩, fun c hc => fit_i64 (hwz c (List.mem_of_mem_take hc))⟩
    obtain ⟨b, off, spot⟩ := ad
    have c0 := hcell 0 (by omega)
    have hs : spot = none := by simpa [Addr.add] using World.cell?_spot c0
    subst hs
    refine ⟨b, off, rfl, fun i hi => ?_⟩
    have ci := hcell i (by omega)
    rw [Addr.add_none] at ci
    rw [ci]
    have e2 : (zs.take len).getD i 0 = zs.getD i 0 := by
      rw [List.getD_eq_getElem?_getD, List.getElem?_take_of_lt hi, List.getD_eq_getElem?_getD]
    rw [e2]
theorem Tryd.gPow : Tryd.prog.globalNamed "internal/strconv.uint64pow10" = some 0 := by kernel_rfl
theorem Tryd.gPowType : (Tryd.prog.globals[0]?).map (·.type) = some 76 := by kernel_rfl
theorem Tryd.cells68 : Tryd.prog.cellsOf 68 = 1 := by kernel_rfl
theorem Tryd.cells76 : Tryd.prog.cellsOf 76 = 20 := by kernel_rfl
/-- The variables of the library as the rows list them. -/
abbrev laidAll : List (String × DataW Unit) := [("math/bits.deBruijn32tab", Rows.laid_math_bits_deBruijn32tab), ("math/bits.deBruijn64tab", Rows.laid_math_bits_deBruijn64tab), ("internal/strconv.uint64pow10", Rows.laid_internal_strconv_uint64pow10)]
theorem vars_of_laid {W : World} (hL : laidMet Tryd.prog laidAll W) : Vars W :=
  Lib.tabIs_of_head Tryd.gPow Tryd.gPowType Tryd.underlying76 Tryd.underlying68 Tryd.cells68 Tryd.cells76 (rest := _) hL.tail.tail
/-- The numbers of a table. -/
def nums {H : Type} : DataW H → List Lit
  | .agg ps => ps.filterMap fun p => match p with | .lit l => some l | _ => none
  | _ => []
def tabCells (d : DataW Unit) : Array Value := ((nums d).map Lit.value).toArray
/-- The same block with other cells. -/
def relay (cs : Array Value) : Obj → Obj
  | .cells _ t frozen => .cells cs t frozen
  | o => o
set_option maxRecDepth 100000 in
theorem phaseLikes_lifted (os : Os) (started : os.Started) (H : Type) (enc : TypeId × Value → H) :
    ReturnsInHanded {} Tryd.checked os 3 .any (fun w args => (Rows.phaseLikesSpec.pre enc Tryd.prog Tryd.f3 Rows.phaseLikesRow.domain false w args ∧ laidMet Tryd.prog laidAll w) ∧ sizedMet enc Tryd.prog Tryd.f3 (OpenSpec.ofChange Rows.phaseLikesSpec) false w args)
      (Rows.phaseLikesSpec.post enc Tryd.prog Tryd.f3 false true false false) := by
  refine returnsInHanded_of_change_and (C := Tryd.checked) (X := fun w _ => laidMet Tryd.prog laidAll w) (fun _ _ _ hh h => h.of_heap hh) Tryd.own started (by kernel_rfl) Tryd.func3
    (ChangeSpec.witness_at (enc := enc) (C := Tryd.checked) (os := os) (X := fun w _ => laidMet Tryd.prog laidAll w) false
      ({ World.holding Tryd.prog os ⟨#[], #[], []⟩ with heap := (((World.holding Tryd.prog os ⟨#[], #[], []⟩).heap.modify 0 (relay (tabCells Rows.laid_internal_strconv_uint64pow10))).modify 1 (relay (tabCells Rows.laid_math_bits_deBruijn32tab))).modify 2 (relay (tabCells Rows.laid_math_bits_deBruijn64tab)) }) #[.agg #[.int .i64 0, .int .i64 0, .int .i64 0], .slice none 0 0, .slice none 0 0] 8 rfl (by kernel_rfl) (by kernel_rfl) (by kernel_rfl) (by kernel_rfl) (by kernel_rfl) (laidMet_of_run' 8 (by kernel_rfl) (by kernel_rfl))) ?_
  intro W base args ds gs before hval0 hW _ _ hL _
  have hval : ∀ (j : Nat) t v, Tryd.f3.params[j]? = some t → args[j]? = some v → Value.okWide Tryd.prog W .any base t v := hval0
  have hW' := hW
  obtain ⟨p, q, hA0, hV, rfl, _, _⟩ := hW
  have hA : DataW.TrodAll enc Tryd.prog W 0 (fun _ => true) true Tryd.f3.params.toList args.toList ds p := hA0
  rw [Tryd.params3] at hA hval
  obtain ⟨v0, v1, v2, d0, d1, d2, p0, p1, p2, rfl, rfl, rfl, h0, h1, h2⟩ := trodAll_three hA
  obtain ⟨rfl, rfl⟩ := trodVars_none hV
  have k0 := h0
  have k1 := h1
  have k2 := h2
  have lt0 : ∀ x ∈ p0, x.block < W.heap.size := by obtain ⟨m, hm⟩ := k0; exact DataW.trod_lt m _ _ _ hm
  have lt1 : ∀ x ∈ p1, x.block < W.heap.size := by obtain ⟨m, hm⟩ := k1; exact DataW.trod_lt m _ _ _ hm
  have lt2 : ∀ x ∈ p2, x.block < W.heap.size := by obtain ⟨m, hm⟩ := k2; exact DataW.trod_lt m _ _ _ hm
  obtain ⟨N, K, D, rfl, _, _, _⟩ := open_cfg (hval 0 23 v0 rfl rfl) h0
  obtain ⟨a1, len1, cap1, rfl⟩ := okWide_slice Tryd.underlying24 (hval 1 24 v1 rfl rfl)
  obtain ⟨a2, len2, cap2, rfl⟩ := okWide_slice Tryd.underlying24 (hval 2 24 v2 rfl rfl)
  obtain ⟨fuel1, hf1⟩ := h1
  obtain ⟨fuel2, hf2⟩ := h2
  obtain ⟨l1, r1, _⟩ := open_list hf1
  obtain ⟨l2, r2, i2⟩ := open_list hf2
  clear hA0 hval0
  refine (phaseLikes N K D a1 a2 len1 cap1 len2 cap2 l1 l2 W r1 r2 i2 (vars_of_laid hL)).mono fun e W' ⟨he, kp⟩ => ?_
  have bel := kp.toB
  subst he
  exact ⟨_, rfl, _, _, _, [], _, [], hW', trodAll_mk1 (shut_bool Tryd.underlying4 _), trodAll_cons_mk (Below.trod Tryd.laidOut (by kernel_rfl) (of_decide_eq_true (by kernel_rfl)) k0 bel lt0) (trodAll_cons_mk (Below.trod Tryd.laidOut (by kernel_rfl) (of_decide_eq_true (by kernel_rfl)) k1 bel lt1) (trodAll_cons_mk (Below.trod Tryd.laidOut (by kernel_rfl) (of_decide_eq_true (by kernel_rfl)) k2 bel lt2) trodAll_mk0)), rfl, bel.frame _, fun h => by cases h⟩
theorem phaseLikes_row : Rows.PhaseLikesSaid :=
  OpenClaim.holds_of_wide 3 Tryd.f3 rfl rfl rfl rfl rfl rfl rfl ⟨rfl, rfl, rfl, rfl, rfl⟩ rfl rfl rfl rfl rfl (by kernel_rfl) Tryd.func3 (by kernel_rfl)
    (of_decide_eq_true (by kernel_rfl)) (by unfold Func.isWrapper; first | (rw [if_pos (by decide +kernel)]; kernel_rfl) | (rw [if_neg (by decide +kernel)]; exact ⟨rfl, rfl⟩))
    (fun os started H enc _ => phaseLikes_lifted os started H enc)
theorem phaseLikes_holds : Rows.PhaseLikesCardSaid :=
  Claim7.holds_tied_plain_at .later [] [.data, .data, .data] true (true, "50b5d340fc77008caf4fc8a60579f7dfa34a0ba606ba7f886c3698ac73bf384e") false
    phaseLikes_row (fun _ h => by cases h) (by kernel_rfl) (fun _ h => by cases h) phaseLikes_row_tie rfl ⟨rfl, rfl⟩ (by kernel_rfl) rfl
    (fun f fn hf hfn => by
      obtain rfl : f = 3 := Option.some.inj ((show Tryd.prog.funcNamed "sherd/sherdlaw17.PhaseLikes" = some 3 by kernel_rfl).symm.trans hf) |>.symm
      obtain rfl : fn = Tryd.f3 := (Option.some.inj (Tryd.func3.symm.trans hfn)).symm
      refine ⟨by kernel_rfl, fun j t ht => ?_⟩
      rw [Tryd.params3] at ht
      rcases j with _ | _ | _ | j
      · have h3 : t = 23 := by simpa using ht.symm
        subst h3
        exact (show Tryd.prog.wantsStandIn 23 = false by kernel_rfl)
      · have h3 : t = 24 := by simpa using ht.symm
        subst h3
        exact (show Tryd.prog.wantsStandIn 24 = false by kernel_rfl)
      · have h3 : t = 24 := by simpa using ht.symm
        subst h3
        exact (show Tryd.prog.wantsStandIn 24 = false by kernel_rfl)
      · simp at ht)
    (by kernel_rfl)
#print axioms phaseLikes_holds
end Go.Proofs.YteokeifkkhchmaaDoor
