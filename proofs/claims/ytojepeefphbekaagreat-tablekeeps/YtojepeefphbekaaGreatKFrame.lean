import Derived.Test.YtojepeefphbekaaGreatSortLayJ
import Derived.Test.YtojepeefphbekaaGreatKeepsW
namespace Go.Proofs.YtojepeefphbekaaGreat
open Go.RowKit Go.ChangeShapes Go.WideShapes Go.ChangeAt Go.Deep

/-- What is left: the walk. -/
def KeepsWalk : Prop := ∀ (d : Int) (a : Option Addr) (len cap : Nat) (l : List Mv) (w : World), MReads w a len cap l → len ≤ 4398046510976 → Calls Tryz.prog 3 #[.int .i64 d, .slice a len cap] w fun o w' => o = .returned (.bool true) ∧ Kept (fun _ => False) w w'
set_option maxRecDepth 100000 in
theorem tableKeeps_lifted (walk : KeepsWalk) (os : Os) (started : os.Started) (H : Type) (enc : TypeId × Value → H) :
    ReturnsInHanded {} Tryz.checked os 3 .any (Rows.tableKeepsSpec.pre6 enc Tryz.prog Tryz.f3 Rows.tableKeepsRow.domain false) (Rows.tableKeepsSpec.post enc Tryz.prog Tryz.f3 false true false false) := by
  refine returnsInHanded_of_change_sized (C := Tryz.checked) Tryz.own started (by kernel_rfl) Tryz.func3
    (ChangeSpec.witness6 (enc := enc) (C := Tryz.checked) false ⟨#[], #[.int .i64 0, .slice none 0 0], []⟩ 8 (by kernel_rfl) (by kernel_rfl) (by kernel_rfl) (by kernel_rfl)) ?_
  intro W base args ds gs before hval0 hW _ hsz0 _
  have hval : ∀ (j : Nat) t v, Tryz.f3.params[j]? = some t → args[j]? = some v → Value.okWide Tryz.prog W .any base t v := hval0
  have hsz : (DataW.weightsEach Tryz.prog (Tryz.f3.params.toList ++ Rows.tableKeepsSpec.plain.varTypes Tryz.prog) (ds ++ gs)).all (· ≤ reachBytes) = true := hsz0
  have hW' := hW
  obtain ⟨p, q, hA0, hV, rfl, _, _⟩ := hW
  have hA : DataW.TrodAll enc Tryz.prog W 0 (fun _ => true) true Tryz.f3.params.toList args.toList ds p := hA0
  rw [Tryz.params3] at hA hval hsz
  obtain ⟨v1, v2, d1, d2, p1, p2, rfl, rfl, rfl, h1, h2⟩ := trodAll_two hA
  obtain ⟨rfl, rfl⟩ := trodVars_none hV
  have k1 := h1
  have k2 := h2
  have lt1 : ∀ x ∈ p1, x.block < W.heap.size := by obtain ⟨m, hm⟩ := k1; exact DataW.trod_lt m _ _ _ hm
  have lt2 : ∀ x ∈ p2, x.block < W.heap.size := by obtain ⟨m, hm⟩ := k2; exact DataW.trod_lt m _ _ _ hm
  obtain ⟨d, rfl⟩ := okWide_int Tryz.underlying3 (hval 0 3 v1 rfl rfl)
  obtain ⟨a2, len2, cap2, rfl⟩ := okWide_slice Tryz.underlying22 (hval 1 22 v2 rfl rfl)
  obtain ⟨fuel2, hf2⟩ := h2
  obtain ⟨l2, r2, c2⟩ := open_moves hf2
  have z2 : len2 * 32 ≤ 140737488351232 := by
    rcases c2 with c | ⟨els, sp, e, hl⟩
    · rw [c]; decide
    · have e : d2 = .slice els sp := e
      subst e
      have := sized_slice hsz (j := 1) (t := 22) (e := 28) rfl rfl Tryz.underlying22
      rw [Tryz.bytes28] at this
      simp only [reachBytes] at this
      have h2 : len2 * 32 ≤ (els.length + sp.length) * 32 := Nat.mul_le_mul_right 32 hl
      first | exact Nat.le_trans h2 this | exact Nat.le_trans h2 (by rw [Nat.mul_comm]; exact this)
  clear hA0 hval0 hsz0 hsz
  refine (walk d a2 len2 cap2 l2 W r2 (by omega)).mono fun e W' ⟨he, K⟩ => ?_
  have bel := kept_below0 K
  subst he
  exact ⟨_, rfl, _, _, _, [], _, [], hW', trodAll_mk1 (shut_bool Tryz.underlying4 _), trodAll_cons_mk (Below.trod Tryz.laidOut (by kernel_rfl) (of_decide_eq_true (by kernel_rfl)) k1 bel lt1) (trodAll_cons_mk (Below.trod Tryz.laidOut (by kernel_rfl) (of_decide_eq_true (by kernel_rfl)) k2 bel lt2) trodAll_mk0), rfl, bel.frame _, fun h => by cases h⟩
theorem tableKeeps_of (walk : KeepsWalk) : Rows.TableKeepsSaid :=
  OpenClaim.holds_of_wide 3 Tryz.f3 rfl rfl rfl rfl rfl rfl rfl ⟨rfl, rfl, rfl, rfl, rfl⟩ rfl rfl rfl rfl rfl (by kernel_rfl) Tryz.func3 (by kernel_rfl)
    (of_decide_eq_true (by kernel_rfl)) (by unfold Func.isWrapper; first | (rw [if_pos (by decide +kernel)]; kernel_rfl) | (rw [if_neg (by decide +kernel)]; exact ⟨rfl, rfl⟩))
    (fun os started H enc _ => tableKeeps_lifted walk os started H enc)
theorem tableKeeps_holds : Rows.TableKeepsSaid := tableKeeps_of (fun d a len cap l w r h => keepsWalk d a len cap l w r h)
end Go.Proofs.YtojepeefphbekaaGreat
