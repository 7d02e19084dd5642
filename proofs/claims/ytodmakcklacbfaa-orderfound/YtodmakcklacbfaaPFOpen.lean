import Derived.Test.YtodmakcklacbfaaPOpen
namespace Go.Proofs.Ytodmakcklacbfaa
open Go.RowKit Go.ChangeShapes Go.WideShapes Go.ChangeAt Go.Deep

set_option maxRecDepth 100000 in
theorem found_lifted (walk : ∀ (a : Option Addr) (len cap : Nat) (ms : List Cm) (q : Option Addr) (k kc : Nat) (R : List Int) (w : World), CRd w a len cap ms → len ≤ 1300000000000 → (∀ m ∈ ms, KI m.client) → (∀ m ∈ ms, KI m.ty) → IRd w q k kc R → Calls Try.prog 5 #[.slice a len cap, .slice q k kc] w fun o w' => o = .returned (.bool true) ∧ Kept (fun _ => False) w w') (os : Os) (started : os.Started) (H : Type) (enc : TypeId × Value → H) :
    ReturnsInHanded {} Try.checked os 5 .any (Rows.orderFoundSpec.pre6 enc Try.prog Try.f5 Rows.orderFoundRow.domain false) (Rows.orderFoundSpec.post enc Try.prog Try.f5 false true false false) := by
  refine returnsInHanded_of_change_sized (C := Try.checked) Try.ownr started (by kernel_rfl) Try.func5
    (ChangeSpec.witness6 (enc := enc) (C := Try.checked) false ⟨#[], #[.slice none 0 0, .slice none 0 0], []⟩ 8 (by kernel_rfl) (by kernel_rfl) (by kernel_rfl) (by kernel_rfl)) ?_
  intro W base args ds gs before hval0 hW _ hsz0 _
  have hval : ∀ (j : Nat) t v, Try.f5.params[j]? = some t → args[j]? = some v → Value.okWide Try.prog W .any base t v := hval0
  have hsz : (DataW.weightsEach Try.prog (Try.f5.params.toList ++ Rows.orderFoundSpec.plain.varTypes Try.prog) (ds ++ gs)).all (· ≤ reachBytes) = true := hsz0
  have hW' := hW
  obtain ⟨p, q, hA0, hV, rfl, _, _⟩ := hW
  have hA : DataW.TrodAll enc Try.prog W 0 (fun _ => true) true Try.f5.params.toList args.toList ds p := hA0
  rw [Try.params5] at hA hval hsz
  obtain ⟨v1, v2, d1, d2, p1, p2, rfl, rfl, rfl, h1, h2⟩ := trodAll_two hA
  obtain ⟨rfl, rfl⟩ := trodVars_none hV
  have k1 := h1
  have k2 := h2
  have lt1 : ∀ x ∈ p1, x.block < W.heap.size := by obtain ⟨m, hm⟩ := k1; exact DataW.trod_lt m _ _ _ hm
  have lt2 : ∀ x ∈ p2, x.block < W.heap.size := by obtain ⟨m, hm⟩ := k2; exact DataW.trod_lt m _ _ _ hm
  obtain ⟨a2, len2, cap2, rfl⟩ := okWide_slice Try.underlying27 (hval 0 27 v1 rfl rfl)
  obtain ⟨a3, len3, cap3, rfl⟩ := okWide_slice Try.underlying22 (hval 1 22 v2 rfl rfl)
  obtain ⟨fuel2, hf2⟩ := h1
  obtain ⟨fuel3, hf3⟩ := h2
  obtain ⟨O, hO, z1, z2⟩ := open_callsw hf2 (fun t ht => all_memw hsz (DataW.weights_mem_each (j := 0) (t := 27) (d := d1) rfl rfl t ht))
  obtain ⟨R, hR⟩ := open_nums hf3
  clear hA0 hval0 hsz0 hsz
  simp only [reachBytes] at z2
  refine (walk a2 len2 cap2 O a3 len3 cap3 R W hO (by omega) (fun m hm => (z1 m hm).2.1) (fun m hm => (z1 m hm).2.2) hR).mono fun e W' ⟨he, K⟩ => ?_
  have bel := kept_belowr K
  subst he
  exact ⟨_, rfl, _, _, _, [], _, [], hW', trodAll_mk1 (shut_bool Try.underlying4 _), (trodAll_cons_mk (Below.trod Try.laidOutr (by kernel_rfl) (of_decide_eq_true (by kernel_rfl)) k1 bel lt1) (trodAll_cons_mk (Below.trod Try.laidOutr (by kernel_rfl) (of_decide_eq_true (by kernel_rfl)) k2 bel lt2) trodAll_mk0)), rfl, bel.frame _, fun h => by cases h⟩
theorem found_of (walk : ∀ (a : Option Addr) (len cap : Nat) (ms : List Cm) (q : Option Addr) (k kc : Nat) (R : List Int) (w : World), CRd w a len cap ms → len ≤ 1300000000000 → (∀ m ∈ ms, KI m.client) → (∀ m ∈ ms, KI m.ty) → IRd w q k kc R → Calls Try.prog 5 #[.slice a len cap, .slice q k kc] w fun o w' => o = .returned (.bool true) ∧ Kept (fun _ => False) w w') : Rows.OrderFoundSaid :=
  OpenClaim.holds_of_wide 5 Try.f5 rfl rfl rfl rfl rfl rfl rfl ⟨rfl, rfl, rfl, rfl, rfl⟩ rfl rfl rfl rfl rfl (by kernel_rfl) Try.func5 (by kernel_rfl)
    (of_decide_eq_true (by kernel_rfl)) (by unfold Func.isWrapper; first | (rw [if_pos (by decide +kernel)]; kernel_rfl) | (rw [if_neg (by decide +kernel)]; exact ⟨rfl, rfl⟩))
    (fun os started H enc _ => found_lifted walk os started H enc)
end Go.Proofs.Ytodmakcklacbfaa
