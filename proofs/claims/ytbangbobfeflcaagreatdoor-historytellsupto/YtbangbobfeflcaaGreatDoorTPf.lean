import Derived.Test.YtbangbobfeflcaaGreatDoorTOp
namespace Go.Proofs.YtbangbobfeflcaaGreatDoor
open Go.RowKit Go.ChangeShapes Go.WideShapes Go.ChangeAt Go.Deep

open Go.ChangeMaps (open_string shut_string)
abbrev synS : ByteArray := { data := #[105, 110, 118, 97, 108, 105, 100, 32, 115, 121, 110, 116, 97, 120] }
abbrev rngS : ByteArray := { data := #[118, 97, 108, 117, 101, 32, 111, 117, 116, 32, 111, 102, 32, 114, 97, 110, 103, 101] }
/-- The numbers of a table. -/
def nums {H : Type} : DataW H → List Lit
  | .agg ps => ps.filterMap fun p => match p with | .lit l => some l | _ => none
  | _ => []
def tabCells (d : DataW Unit) : Array Value := ((nums d).map Lit.value).toArray
/-- The same block with other cells. -/
def relay (cs : Array Value) : Obj → Obj
  | .cells _ t frozen => .cells cs t frozen
  | o => o
set_option maxRecDepth 100000 in
theorem laid_met (os : Os) : laidMet Tryz.prog laidAll (({ World.holding Tryz.prog os ⟨#[.cells #[.string synS] 177, .cells #[.string rngS] 177], #[], []⟩ with heap := ((((((World.holding Tryz.prog os ⟨#[.cells #[.string synS] 177, .cells #[.string rngS] 177], #[], []⟩).heap.modify 0 (relay (tabCells Rows.laid_sherd_history_kindWords))).modify 2 (relay (tabCells Rows.laid_internal_strconv_uint64pow10))).modify 3 (relay #[.iface 175 (.pointer (some ⟨12, 0, none⟩))])).modify 4 (relay #[.iface 175 (.pointer (some ⟨13, 0, none⟩))])).modify 5 (relay (tabCells Rows.laid_math_bits_deBruijn32tab))).modify 6 (relay (tabCells Rows.laid_math_bits_deBruijn64tab)) } : World).forCall (fun _ _ => 0) ⟨#[], #[.slice none 0 0, .string ⟨#[]⟩], []⟩).memory :=
  laidMet_of_run' 8 (by kernel_rfl) (by kernel_rfl)
theorem reads_wit (os : Os) {H : Type} (enc : TypeId × Value → H) : ∃ places, DataW.whole enc Tryz.prog (({ World.holding Tryz.prog os ⟨#[.cells #[.string synS] 177, .cells #[.string rngS] 177], #[], []⟩ with heap := ((((((World.holding Tryz.prog os ⟨#[.cells #[.string synS] 177, .cells #[.string rngS] 177], #[], []⟩).heap.modify 0 (relay (tabCells Rows.laid_sherd_history_kindWords))).modify 2 (relay (tabCells Rows.laid_internal_strconv_uint64pow10))).modify 3 (relay #[.iface 175 (.pointer (some ⟨12, 0, none⟩))])).modify 4 (relay #[.iface 175 (.pointer (some ⟨13, 0, none⟩))])).modify 5 (relay (tabCells Rows.laid_math_bits_deBruijn32tab))).modify 6 (relay (tabCells Rows.laid_math_bits_deBruijn64tab)) } : World).forCall (fun _ _ => 0) ⟨#[], #[.slice none 0 0, .string ⟨#[]⟩], []⟩).memory Tryz.f3.params.toList Rows.historyTellsSpec.vars false (#[.slice none 0 0, .string ⟨#[]⟩] : Array Value).toList 8 = some ([.nil, .lit (.string [])], [], places) :=
  ⟨[], by kernel_rfl⟩
set_option maxRecDepth 100000 in
theorem historyTells_lifted (os : Os) (started : os.Started) (H : Type) (enc : TypeId × Value → H) (F : Stop.Interp) :
    ReturnsInHanded {} Tryz.checked os 3 .any ((Rows.OpenSpec.upto Rows.historyTellsSpec).preRow enc Tryz.prog Tryz.f3 Rows.historyTellsUptoRow.domain false Rows.historyTellsUptoRow.laid) (((Rows.OpenSpec.upto Rows.historyTellsSpec).at F).post enc Tryz.prog Tryz.f3 false true false false) := by
  obtain ⟨places, hx⟩ := reads_wit os enc
  refine returnsInHanded_of_row (C := Tryz.checked) (s := Rows.OpenSpec.upto Rows.historyTellsSpec) Tryz.own started (by kernel_rfl) Tryz.func3
    (witness_row_at (enc := enc) (C := Tryz.checked) false ({ World.holding Tryz.prog os ⟨#[.cells #[.string synS] 177, .cells #[.string rngS] 177], #[], []⟩ with heap := ((((((World.holding Tryz.prog os ⟨#[.cells #[.string synS] 177, .cells #[.string rngS] 177], #[], []⟩).heap.modify 0 (relay (tabCells Rows.laid_sherd_history_kindWords))).modify 2 (relay (tabCells Rows.laid_internal_strconv_uint64pow10))).modify 3 (relay #[.iface 175 (.pointer (some ⟨12, 0, none⟩))])).modify 4 (relay #[.iface 175 (.pointer (some ⟨13, 0, none⟩))])).modify 5 (relay (tabCells Rows.laid_math_bits_deBruijn32tab))).modify 6 (relay (tabCells Rows.laid_math_bits_deBruijn64tab)) } : World) #[.slice none 0 0, .string ⟨#[]⟩] rfl (by kernel_rfl) (by kernel_rfl) (by kernel_rfl)
      (OpenSpec.preRow_of_cond 8 hx (by kernel_rfl) (fun k hk => by cases hk; kernel_rfl) (by kernel_rfl) (laid_met os))) ?_
  intro W base args ds gs before hval0 hW _ hcond _ hL hsh _
  have hk := hcond _ rfl
  have hval : ∀ (j : Nat) t v, Tryz.f3.params[j]? = some t → args[j]? = some v → Value.okWide Tryz.prog W .any base t v := hval0
  have hW' := hW
  obtain ⟨p, q, hA0, hV, rfl, _, _⟩ := hW
  have hA : DataW.TrodAll enc Tryz.prog W 0 (fun _ => true) true Tryz.f3.params.toList args.toList ds p := hA0
  rw [Tryz.params3] at hA hval
  obtain ⟨v1, v2, d1, d2, p1, p2, rfl, rfl, rfl, h1, h2⟩ := trodAll_two hA
  obtain ⟨rfl, rfl⟩ := trodVars_none hV
  have k1 := h1
  have k2 := h2
  have lt1 : ∀ x ∈ p1, x.block < W.heap.size := by obtain ⟨m, hm⟩ := k1; exact DataW.trod_lt m _ _ _ hm
  have lt2 : ∀ x ∈ p2, x.block < W.heap.size := by obtain ⟨m, hm⟩ := k2; exact DataW.trod_lt m _ _ _ hm
  obtain ⟨a1, len1, cap1, rfl⟩ := okWide_slice Tryz.underlying22 (hval 0 22 v1 rfl rfl)
  obtain ⟨s, rfl, rfl, rfl, hs⟩ := open_string Tryz.underlying9 (hval 1 9 v2 rfl rfl) h2
  obtain ⟨fuel1, hf1⟩ := h1
  have hb : Rows.uptoBulkAll [d1, _] ≤ 1048576 := of_decide_eq_true hk
  simp only [Rows.uptoBulkAll, Rows.uptoBulk] at hb
  obtain ⟨es, er, hb1, hb2, hin, hlen⟩ := open_events hf1
  have hB : Rows.uptoBulk d1 ≤ 1048576 := by omega
  have hb1 : (txtF es).length ≤ 150 * Rows.uptoBulk d1 := hb1
  have hb2 : (txtF (es.map tur)).length ≤ 300 * Rows.uptoBulk d1 := hb2
  have hin : ∀ m ∈ es, InE m (Rows.uptoBulk d1) := hin
  have hlen : len1 ≤ Rows.uptoBulk d1 := hlen
  have hz2 : s.size ≤ 1048576 := by
    have e : s.data.toList.length = s.size := Array.length_toList
    omega
  obtain ⟨tb, kw⟩ := glob_of hL
  clear hA0 hval0
  refine (hLaw3 er (by omega) (fun e he => ⟨(hin e he).cl, (hin e he).op⟩) (fun e he => by have := (hin e he).wt; unfold maxLen; omega) (by unfold strF maxLen; omega) (fun e he => by have := (hin e he).wt; omega) (by omega) (by omega) tb kw).mono fun e W' ⟨he, K⟩ => ?_
  have bel := below_kept K
  subst he
  exact ⟨_, rfl, _, _, _, [], _, [], hW', trodAll_mk1 (shut_bool Tryz.underlying4 _), (trodAll_cons_mk (Below.trod Tryz.laidOut (by kernel_rfl) (of_decide_eq_true (by kernel_rfl)) k1 bel lt1) (trodAll_cons_mk (Below.trod Tryz.laidOut (by kernel_rfl) (of_decide_eq_true (by kernel_rfl)) k2 bel lt2) trodAll_mk0)), rfl, bel.frame _, fun h => by cases h⟩
theorem historyTells_row : Rows.HistoryTellsUptoSaid :=
  OpenClaim.holds_of_cond 3 Tryz.f3 rfl rfl rfl rfl rfl rfl rfl ⟨rfl, rfl, rfl, rfl, rfl⟩ rfl rfl rfl rfl rfl (by kernel_rfl) Tryz.func3 (by kernel_rfl)
    (of_decide_eq_true (by kernel_rfl)) (by unfold Func.isWrapper; first | (rw [if_pos (by decide +kernel)]; kernel_rfl) | (rw [if_neg (by decide +kernel)]; exact ⟨rfl, rfl⟩))
    (fun os started H enc _ F => by rw [OpenClaim.pre_eq_preRow]; exact historyTells_lifted os started H enc F)
theorem historyTells_plain (f : FuncId) (fn : Func) (hf : Tryz.pinned.checked.prog.funcNamed "sherd/sherdlaw19.HistoryTells" = some f) (hfn : Tryz.pinned.checked.prog.funcs[f]? = some fn) :
    true = Tryz.pinned.checked.prog.looks [] ∧ ∀ (j : Nat) t, fn.params[j]? = some t → Tryz.pinned.checked.prog.wantsStandIn t = false := by
  obtain rfl : f = 3 := Option.some.inj ((show Tryz.prog.funcNamed "sherd/sherdlaw19.HistoryTells" = some 3 by kernel_rfl).symm.trans hf) |>.symm
  obtain rfl : fn = Tryz.f3 := (Option.some.inj (Tryz.func3.symm.trans hfn)).symm
  refine ⟨by kernel_rfl, fun j t ht => ?_⟩
  rw [Tryz.params3] at ht
  rcases j with _ | _ | j
  · have h3 : t = 22 := by simpa using ht.symm
    subst h3
    exact (show Tryz.prog.wantsStandIn 22 = false by kernel_rfl)
  · have h3 : t = 9 := by simpa using ht.symm
    subst h3
    exact (show Tryz.prog.wantsStandIn 9 = false by kernel_rfl)
  · simp at ht
theorem historyTells_holds : Rows.HistoryTellsUptoCardSaid :=
  Claim7.holds_tied_plain_at .later [] _ _ _ _ historyTells_row (fun _ h => by cases h) (by kernel_rfl) (fun _ h => by cases h) historyTellsUpto_row_tie rfl ⟨rfl, rfl⟩ (by kernel_rfl) rfl historyTells_plain (by kernel_rfl)
#print axioms historyTells_holds
end Go.Proofs.YtbangbobfeflcaaGreatDoor
