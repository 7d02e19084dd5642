import Derived.Test.YtonfefhegghapaaDoorAOpJ
namespace Go.Proofs.YtonfefhegghapaaDoor
open Go.RowKit Go.ChangeShapes Go.WideShapes Go.ChangeAt Go.Deep

theorem len_lns : ∀ ss : List St, ss.length ≤ (lnsL ss).length
  | [] => Nat.zero_le _
  | s :: r => by
    have q := len_lns r
    show r.length + 1 ≤ ((lineL s ++ [10]) ++ lnsL r).length
    rw [List.length_append, List.length_append, List.length_singleton]
    omega
open Go.ChangeMaps (open_string shut_string)
set_option maxRecDepth 100000 in
theorem laid_met6a (os : Os) : laidMet Tryd.prog laidAll7 (({ World.holding Tryd.prog os ⟨#[.cells #[.string synS] 116, .cells #[.string rngS] 116], #[], []⟩ with heap := (((((((World.holding Tryd.prog os ⟨#[.cells #[.string synS] 116, .cells #[.string rngS] 116], #[], []⟩).heap.modify 4 (relay (tabCells Rows.laid_internal_strconv_uint64pow10))).modify 2 (relay #[.iface 114 (.pointer (some ⟨12, 0, none⟩))])).modify 3 (relay #[.iface 114 (.pointer (some ⟨13, 0, none⟩))])).modify 5 (relay (tabCells Rows.laid_math_bits_deBruijn32tab))).modify 6 (relay (tabCells Rows.laid_math_bits_deBruijn64tab))).modify 0 (relay fcells)).modify 1 (relay (tabCells Rows.laid_sherd_sherdref24_words)) } : World).forCall (fun _ _ => 0) ⟨#[], #[.slice none 0 0, .string ⟨#[]⟩], []⟩).memory :=
  laidMet_of_run' 8 (by kernel_rfl) (by kernel_rfl)
theorem reads_wit6a (os : Os) {H : Type} (enc : TypeId × Value → H) : ∃ places, DataW.whole enc Tryd.prog (({ World.holding Tryd.prog os ⟨#[.cells #[.string synS] 116, .cells #[.string rngS] 116], #[], []⟩ with heap := (((((((World.holding Tryd.prog os ⟨#[.cells #[.string synS] 116, .cells #[.string rngS] 116], #[], []⟩).heap.modify 4 (relay (tabCells Rows.laid_internal_strconv_uint64pow10))).modify 2 (relay #[.iface 114 (.pointer (some ⟨12, 0, none⟩))])).modify 3 (relay #[.iface 114 (.pointer (some ⟨13, 0, none⟩))])).modify 5 (relay (tabCells Rows.laid_math_bits_deBruijn32tab))).modify 6 (relay (tabCells Rows.laid_math_bits_deBruijn64tab))).modify 0 (relay fcells)).modify 1 (relay (tabCells Rows.laid_sherd_sherdref24_words)) } : World).forCall (fun _ _ => 0) ⟨#[], #[.slice none 0 0, .string ⟨#[]⟩], []⟩).memory Tryd.f6.params.toList Rows.scriptAllSpec.vars false (#[.slice none 0 0, .string ⟨#[]⟩] : Array Value).toList 8 = some ([.nil, .lit (.string [])], [], places) :=
  ⟨[], by kernel_rfl⟩
set_option maxRecDepth 100000 in
theorem scriptAll_lifted (os : Os) (started : os.Started) (H : Type) (enc : TypeId × Value → H) (F : Stop.Interp) :
    ReturnsInHanded {} Tryd.checked os 6 .any ((Rows.OpenSpec.upto Rows.scriptAllSpec).preRow enc Tryd.prog Tryd.f6 Rows.scriptAllUptoRow.domain false Rows.scriptAllUptoRow.laid) (((Rows.OpenSpec.upto Rows.scriptAllSpec).at F).post enc Tryd.prog Tryd.f6 false true false false) := by
  obtain ⟨places, hx⟩ := reads_wit6a os enc
  refine returnsInHanded_of_row (C := Tryd.checked) (s := Rows.OpenSpec.upto Rows.scriptAllSpec) Tryd.own started (by kernel_rfl) Tryd.func6
    (witness_row_at (enc := enc) (C := Tryd.checked) false ({ World.holding Tryd.prog os ⟨#[.cells #[.string synS] 116, .cells #[.string rngS] 116], #[], []⟩ with heap := (((((((World.holding Tryd.prog os ⟨#[.cells #[.string synS] 116, .cells #[.string rngS] 116], #[], []⟩).heap.modify 4 (relay (tabCells Rows.laid_internal_strconv_uint64pow10))).modify 2 (relay #[.iface 114 (.pointer (some ⟨12, 0, none⟩))])).modify 3 (relay #[.iface 114 (.pointer (some ⟨13, 0, none⟩))])).modify 5 (relay (tabCells Rows.laid_math_bits_deBruijn32tab))).modify 6 (relay (tabCells Rows.laid_math_bits_deBruijn64tab))).modify 0 (relay fcells)).modify 1 (relay (tabCells Rows.laid_sherd_sherdref24_words)) } : World) #[.slice none 0 0, .string ⟨#[]⟩] rfl (by kernel_rfl) (by kernel_rfl) (by kernel_rfl)
      (OpenSpec.preRow_of_cond 8 hx (by kernel_rfl) (fun k hk => by cases hk; kernel_rfl) (by kernel_rfl) (laid_met6a os))) ?_
  intro W base args ds gs before hval0 hW _ hcond _ hL hsh _
  have hk := hcond _ rfl
  have hval : ∀ (j : Nat) t v, Tryd.f6.params[j]? = some t → args[j]? = some v → Value.okWide Tryd.prog W .any base t v := hval0
  have hW' := hW
  obtain ⟨p, q, hA0, hV, rfl, _, _⟩ := hW
  have hA : DataW.TrodAll enc Tryd.prog W 0 (fun _ => true) true Tryd.f6.params.toList args.toList ds p := hA0
  rw [Tryd.params6] at hA hval
  obtain ⟨v1, v2, d1, d2, p1, p2, rfl, rfl, rfl, h1, h2⟩ := trodAll_two hA
  obtain ⟨rfl, rfl⟩ := trodVars_none hV
  have k1 := h1
  have k2 := h2
  have lt1 : ∀ x ∈ p1, x.block < W.heap.size := by obtain ⟨m, hm⟩ := k1; exact DataW.trod_lt m _ _ _ hm
  have lt2 : ∀ x ∈ p2, x.block < W.heap.size := by obtain ⟨m, hm⟩ := k2; exact DataW.trod_lt m _ _ _ hm
  obtain ⟨a1, len1, cap1, rfl⟩ := okWide_slice Tryd.underlying30c (hval 0 30 v1 rfl rfl)
  obtain ⟨s, rfl, rfl, rfl, hs⟩ := open_string Tryd.underlying9 (hval 1 9 v2 rfl rfl) h2
  obtain ⟨fuel1, hf1⟩ := h1
  have hb : Rows.uptoBulkAll [d1, _] ≤ 1048576 := of_decide_eq_true hk
  simp only [Rows.uptoBulkAll, Rows.uptoBulk] at hb
  have hb0 : Rows.uptoBulk d1 ≤ 1048576 := by omega
  obtain ⟨L, ss, hss, hb1⟩ := open_steps hf1 hb0
  have hz : (lnsL ss).length ≤ 33554430 := by
    have hb1 : (lnsL ss).length ≤ 22 * Rows.uptoBulk d1 := hb1
    omega
  have hz2 : s.size ≤ 33554430 := by
    have e : s.data.toList.length = s.size := Array.length_toList
    omega
  have hk4 : len1 ≤ 33554430 := by
    have q := hss.slen
    have q2 := len_lns ss
    omega
  have hL6 : laidMet Tryd.prog laidAll7 W := hL
  clear hA0 hval0
  refine (hLaw6 hss hk4 hz hz2 (vars_of_laid7 hL6) (fm_of (laidMet_one hL6.tail.tail.tail.tail.tail)) (wm_of hL6.tail.tail.tail.tail.tail.tail)).mono fun e W' ⟨he, K⟩ => ?_
  have bel := below_kept K
  subst he
  exact ⟨_, rfl, _, _, _, [], _, [], hW', trodAll_mk1 (shut_bool Tryd.underlying4 _), (trodAll_cons_mk (Below.trod Tryd.laidOut (by kernel_rfl) (of_decide_eq_true (by kernel_rfl)) k1 bel lt1) (trodAll_cons_mk (Below.trod Tryd.laidOut (by kernel_rfl) (of_decide_eq_true (by kernel_rfl)) k2 bel lt2) trodAll_mk0)), rfl, bel.frame _, fun h => by cases h⟩
theorem scriptAll_row : Rows.ScriptAllUptoSaid :=
  OpenClaim.holds_of_cond 6 Tryd.f6 rfl rfl rfl rfl rfl rfl rfl ⟨rfl, rfl, rfl, rfl, rfl⟩ rfl rfl rfl rfl rfl (by kernel_rfl) Tryd.func6 (by kernel_rfl)
    (of_decide_eq_true (by kernel_rfl)) (by unfold Func.isWrapper; first | (rw [if_pos (by decide +kernel)]; kernel_rfl) | (rw [if_neg (by decide +kernel)]; exact ⟨rfl, rfl⟩))
    (fun os started H enc _ F => by rw [OpenClaim.pre_eq_preRow]; exact scriptAll_lifted os started H enc F)
theorem scriptAll_plain (f : FuncId) (fn : Func) (hf : Tryd.pinned.checked.prog.funcNamed "sherd/sherdlaw24.ScriptAll" = some f) (hfn : Tryd.pinned.checked.prog.funcs[f]? = some fn) :
    true = Tryd.pinned.checked.prog.looks [] ∧ ∀ (j : Nat) t, fn.params[j]? = some t → Tryd.pinned.checked.prog.wantsStandIn t = false := by
  obtain rfl : f = 6 := Option.some.inj ((show Tryd.prog.funcNamed "sherd/sherdlaw24.ScriptAll" = some 6 by kernel_rfl).symm.trans hf) |>.symm
  obtain rfl : fn = Tryd.f6 := (Option.some.inj (Tryd.func6.symm.trans hfn)).symm
  refine ⟨by kernel_rfl, fun j t ht => ?_⟩
  rw [Tryd.params6] at ht
  rcases j with _ | _ | j
  · have h3 : t = 30 := by simpa using ht.symm
    subst h3
    exact (show Tryd.prog.wantsStandIn 30 = false by kernel_rfl)
  · have h3 : t = 9 := by simpa using ht.symm
    subst h3
    exact (show Tryd.prog.wantsStandIn 9 = false by kernel_rfl)
  · simp at ht
theorem scriptAll_holds : Rows.ScriptAllUptoCardSaid :=
  Claim7.holds_tied_plain_at .later [] _ _ _ _ scriptAll_row (fun _ h => by cases h) (by kernel_rfl) (fun _ h => by cases h) scriptAllUpto_row_tie rfl ⟨rfl, rfl⟩ (by kernel_rfl) rfl scriptAll_plain (by kernel_rfl)
#print axioms scriptAll_holds
end Go.Proofs.YtonfefhegghapaaDoor
