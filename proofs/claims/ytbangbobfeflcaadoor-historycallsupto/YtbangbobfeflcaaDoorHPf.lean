import Derived.Test.YtbangbobfeflcaaDoorHOp
namespace Go.Proofs.YtbangbobfeflcaaDoor
open Go.RowKit Go.ChangeShapes Go.WideShapes Go.ChangeAt Go.Deep

abbrev synS : ByteArray := { data := #[105, 110, 118, 97, 108, 105, 100, 32, 115, 121, 110, 116, 97, 120] }
abbrev rngS : ByteArray := { data := #[118, 97, 108, 117, 101, 32, 111, 117, 116, 32, 111, 102, 32, 114, 97, 110, 103, 101] }
/-- The numbers of a table. -/
def nums {H : Type} : DataW H → List Lit
  | .agg ps => ps.filterMap fun p => match p with | .lit l => some l | _ => none
  | _ => []
def tabCells (d : DataW Unit) : Array Value := ((nums d).map Lit.value).toArray
/-- The same block with other cells. -/
def relay (cs : Array Value) : Obj → Obj
  | .cells _ t frozen => .cells cs t frozen
  | o => o
set_option maxRecDepth 100000 in
theorem laid_met (os : Os) : laidMet Tryd.prog laidAll (({ World.holding Tryd.prog os ⟨#[.cells #[.string synS] 144, .cells #[.string rngS] 144], #[], []⟩ with heap := ((((((World.holding Tryd.prog os ⟨#[.cells #[.string synS] 144, .cells #[.string rngS] 144], #[], []⟩).heap.modify 0 (relay (tabCells Rows.laid_sherd_history_kindWords))).modify 2 (relay (tabCells Rows.laid_internal_strconv_uint64pow10))).modify 3 (relay #[.iface 142 (.pointer (some ⟨12, 0, none⟩))])).modify 4 (relay #[.iface 142 (.pointer (some ⟨13, 0, none⟩))])).modify 5 (relay (tabCells Rows.laid_math_bits_deBruijn32tab))).modify 6 (relay (tabCells Rows.laid_math_bits_deBruijn64tab)) } : World).forCall (fun _ _ => 0) ⟨#[], #[.slice none 0 0, .int .i64 0, .bool false], []⟩).memory :=
  laidMet_of_run' 8 (by kernel_rfl) (by kernel_rfl)
theorem reads_wit (os : Os) {H : Type} (enc : TypeId × Value → H) : ∃ places, DataW.whole enc Tryd.prog (({ World.holding Tryd.prog os ⟨#[.cells #[.string synS] 144, .cells #[.string rngS] 144], #[], []⟩ with heap := ((((((World.holding Tryd.prog os ⟨#[.cells #[.string synS] 144, .cells #[.string rngS] 144], #[], []⟩).heap.modify 0 (relay (tabCells Rows.laid_sherd_history_kindWords))).modify 2 (relay (tabCells Rows.laid_internal_strconv_uint64pow10))).modify 3 (relay #[.iface 142 (.pointer (some ⟨12, 0, none⟩))])).modify 4 (relay #[.iface 142 (.pointer (some ⟨13, 0, none⟩))])).modify 5 (relay (tabCells Rows.laid_math_bits_deBruijn32tab))).modify 6 (relay (tabCells Rows.laid_math_bits_deBruijn64tab)) } : World).forCall (fun _ _ => 0) ⟨#[], #[.slice none 0 0, .int .i64 0, .bool false], []⟩).memory Tryd.f4.params.toList Rows.historyCallsSpec.vars false #[Value.slice none 0 0, .int .i64 0, .bool false].toList 8 = some ([.nil, .lit (.int .i64 0), .lit (.bool false)], [], places) :=
  ⟨[], by kernel_rfl⟩
set_option maxRecDepth 100000 in
theorem historyCalls_lifted (os : Os) (started : os.Started) (H : Type) (enc : TypeId × Value → H) (F : Stop.Interp) :
    ReturnsInHanded {} Tryd.checked os 4 .any ((Rows.OpenSpec.upto Rows.historyCallsSpec).preRow enc Tryd.prog Tryd.f4 Rows.historyCallsUptoRow.domain false Rows.historyCallsUptoRow.laid) (((Rows.OpenSpec.upto Rows.historyCallsSpec).at F).post enc Tryd.prog Tryd.f4 false true false false) := by
  obtain ⟨places, hx⟩ := reads_wit os enc
  refine returnsInHanded_of_row (C := Tryd.checked) (s := Rows.OpenSpec.upto Rows.historyCallsSpec) Tryd.own started (by kernel_rfl) Tryd.func4
    (witness_row_at (enc := enc) (C := Tryd.checked) false ({ World.holding Tryd.prog os ⟨#[.cells #[.string synS] 144, .cells #[.string rngS] 144], #[], []⟩ with heap := ((((((World.holding Tryd.prog os ⟨#[.cells #[.string synS] 144, .cells #[.string rngS] 144], #[], []⟩).heap.modify 0 (relay (tabCells Rows.laid_sherd_history_kindWords))).modify 2 (relay (tabCells Rows.laid_internal_strconv_uint64pow10))).modify 3 (relay #[.iface 142 (.pointer (some ⟨12, 0, none⟩))])).modify 4 (relay #[.iface 142 (.pointer (some ⟨13, 0, none⟩))])).modify 5 (relay (tabCells Rows.laid_math_bits_deBruijn32tab))).modify 6 (relay (tabCells Rows.laid_math_bits_deBruijn64tab)) } : World) #[.slice none 0 0, .int .i64 0, .bool false] rfl (by kernel_rfl) (by kernel_rfl) (by kernel_rfl)
      (OpenSpec.preRow_of_cond 8 hx (by kernel_rfl) (fun k hk => by cases hk; kernel_rfl) (by kernel_rfl) (laid_met os))) ?_
  intro W base args ds gs before hval0 hW _ hcond _ hL hsh _
  have hk := hcond _ rfl
  have hval : ∀ (j : Nat) t v, Tryd.f4.params[j]? = some t → args[j]? = some v → Value.okWide Tryd.prog W .any base t v := hval0
  have hW' := hW
  obtain ⟨p, q, hA0, hV, rfl, _, _⟩ := hW
  have hA : DataW.TrodAll enc Tryd.prog W 0 (fun _ => true) true Tryd.f4.params.toList args.toList ds p := hA0
  rw [Tryd.params4] at hA hval
  obtain ⟨v1, v2, v3, d1, d2, d3, p1, p2, p3, rfl, rfl, rfl, h1, h2, h3⟩ := trodAll_three hA
  obtain ⟨rfl, rfl⟩ := trodVars_none hV
  have k1 := h1
  have k2 := h2
  have k3 := h3
  have lt1 : ∀ x ∈ p1, x.block < W.heap.size := by obtain ⟨m, hm⟩ := k1; exact DataW.trod_lt m _ _ _ hm
  have lt2 : ∀ x ∈ p2, x.block < W.heap.size := by obtain ⟨m, hm⟩ := k2; exact DataW.trod_lt m _ _ _ hm
  have lt3 : ∀ x ∈ p3, x.block < W.heap.size := by obtain ⟨m, hm⟩ := k3; exact DataW.trod_lt m _ _ _ hm
  obtain ⟨a1, len1, cap1, rfl⟩ := okWide_slice Tryd.underlying31 (hval 0 31 v1 rfl rfl)
  obtain ⟨at_, rfl, rfl, rfl, _⟩ := open_int Tryd.underlying3 (hval 1 3 v2 rfl rfl) h2
  obtain ⟨tw, rfl, rfl, rfl⟩ := open_bool Tryd.underlying4 (hval 2 4 v3 rfl rfl) h3
  obtain ⟨fuel1, hf1⟩ := h1
  obtain ⟨ms, hms, hb1⟩ := open_moves hf1
  have hb : Rows.uptoBulkAll [d1, _, _] ≤ 1048576 := of_decide_eq_true hk
  simp only [Rows.uptoBulkAll] at hb
  have hd1 : Rows.uptoBulk d1 ≤ 1048576 := by omega
  have hb1 : len1 ≤ Rows.uptoBulk d1 := hb1
  clear hA0 hval0
  refine (hLaw hms (Nat.le_trans hb1 hd1) (glob_of hL hsh) at_ tw).mono fun e W' ⟨he, K⟩ => ?_
  have bel := below_kept K
  subst he
  exact ⟨_, rfl, _, _, _, [], _, [], hW', trodAll_mk1 (shut_bool Tryd.underlying4 _), (trodAll_cons_mk (Below.trod Tryd.laidOut (by kernel_rfl) (of_decide_eq_true (by kernel_rfl)) k1 bel lt1) (trodAll_cons_mk (Below.trod Tryd.laidOut (by kernel_rfl) (of_decide_eq_true (by kernel_rfl)) k2 bel lt2) (trodAll_cons_mk (Below.trod Tryd.laidOut (by kernel_rfl) (of_decide_eq_true (by kernel_rfl)) k3 bel lt3) trodAll_mk0))), rfl, bel.frame _, fun h => by cases h⟩
theorem historyCalls_row : Rows.HistoryCallsUptoSaid :=
  OpenClaim.holds_of_cond 4 Tryd.f4 rfl rfl rfl rfl rfl rfl rfl ⟨rfl, rfl, rfl, rfl, rfl⟩ rfl rfl rfl rfl rfl (by kernel_rfl) Tryd.func4 (by kernel_rfl)
    (of_decide_eq_true (by kernel_rfl)) (by unfold Func.isWrapper; first | (rw [if_pos (by decide +kernel)]; kernel_rfl) | (rw [if_neg (by decide +kernel)]; exact ⟨rfl, rfl⟩))
    (fun os started H enc _ F => by rw [OpenClaim.pre_eq_preRow]; exact historyCalls_lifted os started H enc F)
theorem historyCalls_plain (f : FuncId) (fn : Func) (hf : Tryd.pinned.checked.prog.funcNamed "sherd/sherdlaw19.HistoryCalls" = some f) (hfn : Tryd.pinned.checked.prog.funcs[f]? = some fn) :
    true = Tryd.pinned.checked.prog.looks [] ∧ ∀ (j : Nat) t, fn.params[j]? = some t → Tryd.pinned.checked.prog.wantsStandIn t = false := by
  obtain rfl : f = 4 := Option.some.inj ((show Tryd.prog.funcNamed "sherd/sherdlaw19.HistoryCalls" = some 4 by kernel_rfl).symm.trans hf) |>.symm
  obtain rfl : fn = Tryd.f4 := (Option.some.inj (Tryd.func4.symm.trans hfn)).symm
  refine ⟨by kernel_rfl, fun j t ht => ?_⟩
  rw [Tryd.params4] at ht
  rcases j with _ | _ | _ | j
  · have h3 : t = 31 := by simpa using ht.symm
    subst h3
    exact (show Tryd.prog.wantsStandIn 31 = false by kernel_rfl)
  · have h3 : t = 3 := by simpa using ht.symm
    subst h3
    exact (show Tryd.prog.wantsStandIn 3 = false by kernel_rfl)
  · have h3 : t = 4 := by simpa using ht.symm
    subst h3
    exact (show Tryd.prog.wantsStandIn 4 = false by kernel_rfl)
  · simp at ht
theorem historyCalls_holds : Rows.HistoryCallsUptoCardSaid :=
  Claim7.holds_tied_plain_at .later [] _ _ _ _ historyCalls_row (fun _ h => by cases h) (by kernel_rfl) (fun _ h => by cases h) historyCallsUpto_row_tie rfl ⟨rfl, rfl⟩ (by kernel_rfl) rfl historyCalls_plain (by kernel_rfl)
#print axioms historyCalls_holds
end Go.Proofs.YtbangbobfeflcaaDoor
