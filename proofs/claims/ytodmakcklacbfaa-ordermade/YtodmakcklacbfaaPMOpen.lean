import Derived.Test.YtodmakcklacbfaaPTOpen
import Derived.Test.YtodmakcklacbfaaPMadeZ
namespace Go.Proofs.Ytodmakcklacbfaa
open Go.RowKit Go.ChangeShapes Go.WideShapes Go.ChangeAt Go.Deep

set_option maxRecDepth 100000 in
theorem made_lifted (walk : ∀ (w : World) (v : Md) (pw : Option Addr) (nw cw : Nat) (pv : Option Addr) (nv cv : Nat) (pr : Option Addr) (nr cr : Nat) (po : Option Addr) (no co : Nat) (a : Int), MdR w v pw nw cw pv nv cv pr nr cr po no co → (∀ y ∈ v.vals, y.2.1 + 1 ≤ 140737488355328) → Calls Try.prog 3 #[.agg #[.slice pw nw cw, .slice pv nv cv, .slice pr nr cr, .slice po no co], .int .i64 a] w fun o w' => o = .returned (.bool true) ∧ Kept (fun _ => False) w w') (os : Os) (started : os.Started) (H : Type) (enc : TypeId × Value → H) :
    ReturnsInHanded {} Try.checked os 3 .any (Rows.orderMadeSpec.pre6 enc Try.prog Try.f3 Rows.orderMadeRow.domain false) (Rows.orderMadeSpec.post enc Try.prog Try.f3 false true false false) := by
  refine returnsInHanded_of_change_sized (C := Try.checked) Try.ownr started (by kernel_rfl) Try.func3
    (ChangeSpec.witness6 (enc := enc) (C := Try.checked) false ⟨#[], #[.agg #[.slice none 0 0, .slice none 0 0, .slice none 0 0, .slice none 0 0], .int .i64 0], []⟩ 8 (by kernel_rfl) (by kernel_rfl) (by kernel_rfl) (by kernel_rfl)) ?_
  intro W base args ds gs before hval0 hW _ hsz0 _
  have hval : ∀ (j : Nat) t v, Try.f3.params[j]? = some t → args[j]? = some v → Value.okWide Try.prog W .any base t v := hval0
  have hsz : (DataW.weightsEach Try.prog (Try.f3.params.toList ++ Rows.orderMadeSpec.plain.varTypes Try.prog) (ds ++ gs)).all (· ≤ reachBytes) = true := hsz0
  have hW' := hW
  obtain ⟨p, q, hA0, hV, rfl, _, _⟩ := hW
  have hA : DataW.TrodAll enc Try.prog W 0 (fun _ => true) true Try.f3.params.toList args.toList ds p := hA0
  rw [Try.params3] at hA hval hsz
  obtain ⟨v1, v2, d1, d2, p1, p2, rfl, rfl, rfl, h1, h2⟩ := trodAll_two hA
  obtain ⟨rfl, rfl⟩ := trodVars_none hV
  have k1 := h1
  have k2 := h2
  have lt1 : ∀ x ∈ p1, x.block < W.heap.size := by obtain ⟨m, hm⟩ := k1; exact DataW.trod_lt m _ _ _ hm
  have lt2 : ∀ x ∈ p2, x.block < W.heap.size := by obtain ⟨m, hm⟩ := k2; exact DataW.trod_lt m _ _ _ hm
  obtain ⟨v, pw, nw, cw, pv, nv, cv, pr, nr, cr, po, no, co, rfl, R, z1⟩ := open_made (hval 0 25 v1 rfl rfl) h1 (fun t ht => all_memw hsz (DataW.weights_mem_each (j := 0) (t := 25) (d := d1) rfl rfl t ht))
  obtain ⟨a, rfl⟩ := okWide_int Try.underlying3 (hval 1 3 v2 rfl rfl)
  clear hA0 hval0 hsz0 hsz
  refine (walk W v pw nw cw pv nv cv pr nr cr po no co a R z1).mono fun e W' ⟨he, K⟩ => ?_
  have bel := kept_belowr K
  subst he
  exact ⟨_, rfl, _, _, _, [], _, [], hW', trodAll_mk1 (shut_bool Try.underlying4 _), (trodAll_cons_mk (Below.trod Try.laidOutr (by kernel_rfl) (of_decide_eq_true (by kernel_rfl)) k1 bel lt1) (trodAll_cons_mk (Below.trod Try.laidOutr (by kernel_rfl) (of_decide_eq_true (by kernel_rfl)) k2 bel lt2) trodAll_mk0)), rfl, bel.frame _, fun h => by cases h⟩
theorem made_of (walk : ∀ (w : World) (v : Md) (pw : Option Addr) (nw cw : Nat) (pv : Option Addr) (nv cv : Nat) (pr : Option Addr) (nr cr : Nat) (po : Option Addr) (no co : Nat) (a : Int), MdR w v pw nw cw pv nv cv pr nr cr po no co → (∀ y ∈ v.vals, y.2.1 + 1 ≤ 140737488355328) → Calls Try.prog 3 #[.agg #[.slice pw nw cw, .slice pv nv cv, .slice pr nr cr, .slice po no co], .int .i64 a] w fun o w' => o = .returned (.bool true) ∧ Kept (fun _ => False) w w') : Rows.OrderMadeSaid :=
  OpenClaim.holds_of_wide 3 Try.f3 rfl rfl rfl rfl rfl rfl rfl ⟨rfl, rfl, rfl, rfl, rfl⟩ rfl rfl rfl rfl rfl (by kernel_rfl) Try.func3 (by kernel_rfl)
    (of_decide_eq_true (by kernel_rfl)) (by unfold Func.isWrapper; first | (rw [if_pos (by decide +kernel)]; kernel_rfl) | (rw [if_neg (by decide +kernel)]; exact ⟨rfl, rfl⟩))
    (fun os started H enc _ => made_lifted walk os started H enc)
theorem orderMade : Rows.OrderMadeSaid := made_of (fun _ _ _ _ _ _ _ _ _ _ _ _ _ _ a R hv => madeW R hv a)
end Go.Proofs.Ytodmakcklacbfaa
