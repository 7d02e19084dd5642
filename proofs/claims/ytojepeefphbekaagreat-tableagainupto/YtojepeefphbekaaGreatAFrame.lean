import Derived.Test.YtojepeefphbekaaGreatOpenJ
import Derived.Test.YtojepeefphbekaaGreatByOneJ
import Derived.Test.YtojepeefphbekaaGreatAgainW
import Derived.JoinedCond
namespace Go.Proofs.YtojepeefphbekaaGreat
open Go.RowKit Go.ChangeShapes Go.WideShapes Go.ChangeAt Go.Deep

theorem Tryz.cells22m : Tryz.prog.cellsOf 22 = 1 := by kernel_rfl
theorem Tryz.cells63m : Tryz.prog.cellsOf 63 = 2 := by kernel_rfl
/-- How many moves, by what was handed in. -/
theorem moves_few {H : Type} {len : Nat} {d : DataW H} (h : len = 0 ∨ ∃ els sp, d = .slice els sp ∧ len ≤ els.length + sp.length) : len ≤ Rows.uptoBulk d := by
  rcases h with h | ⟨els, sp, rfl, h⟩
  · omega
  · simp only [Rows.uptoBulk]
    have := bulk_length els
    have := bulk_length sp
    omega
theorem array2 {α : Type} {cs : Array α} (h : cs.size = 2) : ∃ c0 c1, cs = #[c0, c1] := by
  obtain ⟨l⟩ := cs
  match l, h with
  | [c0, c1], _ => exact ⟨c0, c1, rfl⟩
set_option maxRecDepth 100000 in
/-- What more is handed in, opened. -/
theorem open_rest {H : Type} {enc : TypeId × Value → H} {W : World} {r : Reach} {b0 : Nat} {v : Value} {d : DataW H} {p : List MemPlace} (hv : Value.okWide Tryz.prog W r b0 63 v)
    (h : DataW.Trod enc Tryz.prog W 0 (fun _ => true) true 63 v d p) : ∃ (a : Option Addr) (len cap : Nat) (cut : Int) (l : List Mv), v = .agg #[.slice a len cap, .int .i64 cut] ∧ MReads W a len cap l ∧ len ≤ Rows.uptoBulk d := by
  obtain ⟨cs, rfl, hsz⟩ := okWide_struct Tryz.underlying63 hv
  obtain ⟨c0, c1, rfl⟩ := array2 (hsz.trans Tryz.cells63m)
  obtain ⟨fuel, hf⟩ := h
  have hf : DataW.trod enc Tryz.prog W 0 (fun _ => true) true fuel 63 [c0, c1] = some (d, p) := by simpa [Value.cells] using hf
  obtain ⟨xs, m, _, hx, _, hxs, g⟩ := DataW.trod_struct Tryz.underlying63 hf
  match xs, hxs with
  | [y0, y1], _ =>
    have g0 : DataW.trod enc Tryz.prog W 0 (fun _ => true) true m 22 [c0] = some y0 := by have := g 0 _ rfl; simpa [Tryz.cells22m] using this
    have g1 : DataW.trod enc Tryz.prog W 0 (fun _ => true) true m 3 [c1] = some y1 := by have := g 1 _ rfl; simpa [Tryz.cells3m] using this
    obtain ⟨cut, e1, _, _⟩ := DataW.trod_int Tryz.underlying3 g1
    simp at e1
    obtain ⟨a, len, cap, e0⟩ : ∃ a len cap, c0 = .slice a len cap := by
      rcases open_slice Tryz.underlying22 g0 with ⟨hcs, _⟩ | ⟨ad, l', c', m, n, D, Pl, hcs, _⟩
      · simp at hcs; exact ⟨_, _, _, hcs⟩
      · simp at hcs; exact ⟨_, _, _, hcs⟩
    subst e0
    obtain ⟨l, rl, fl⟩ := open_moves g0
    refine ⟨a, len, cap, cut, l, by rw [e1], rl, ?_⟩
    have hd : d = .agg [y0.1, y1.1] := by
      have := congrArg Prod.fst hx
      simpa using this
    have := moves_few fl
    rw [hd]
    simp only [Rows.uptoBulk, Rows.uptoBulkAll]
    omega
set_option maxRecDepth 100000 in
theorem tableAgain_lifted (os : Os) (started : os.Started) (H : Type) (enc : TypeId × Value → H) (F : Stop.Interp) :
    ReturnsInHanded {} Tryz.checked os 6 .any ((Rows.OpenSpec.upto Rows.tableAgainSpec).pre6 enc Tryz.prog Tryz.f6 Rows.tableAgainUptoRow.domain false) (((Rows.OpenSpec.upto Rows.tableAgainSpec).at F).post enc Tryz.prog Tryz.f6 false true false false) := by
  refine returnsInHanded_of_cond (C := Tryz.checked) (s := Rows.OpenSpec.upto Rows.tableAgainSpec) (k := Rows.uptoSmall) rfl Tryz.own started (by kernel_rfl) Tryz.func6
    (OpenSpec.witness (enc := enc) (C := Tryz.checked) (s := Rows.OpenSpec.upto Rows.tableAgainSpec) (k := Rows.uptoSmall) rfl false ⟨#[], #[.int .i64 0, .slice none 0 0, .agg #[.slice none 0 0, .int .i64 0]], []⟩ 8 (by kernel_rfl) (by kernel_rfl) (by kernel_rfl)
      (x := ([.lit (.int .i64 0), .nil, .agg [.nil, .lit (.int .i64 0)]], [], [])) (by kernel_rfl) rfl (by kernel_rfl)) ?_
  intro W base args ds gs before hval0 hW _ hk _
  have hval : ∀ (j : Nat) t v, Tryz.f6.params[j]? = some t → args[j]? = some v → Value.okWide Tryz.prog W .any base t v := hval0
  have hW' := hW
  obtain ⟨p, q, hA0, hV, rfl, _, _⟩ := hW
  have hA : DataW.TrodAll enc Tryz.prog W 0 (fun _ => true) true Tryz.f6.params.toList args.toList ds p := hA0
  rw [Tryz.params6] at hA hval
  obtain ⟨v1, v2, v3, d1, d2, d3, p1, p2, p3, rfl, rfl, rfl, h1, h2, h3⟩ := trodAll_three hA
  obtain ⟨rfl, rfl⟩ := trodVars_none hV
  have k1 := h1
  have k2 := h2
  have k3 := h3
  have lt1 : ∀ x ∈ p1, x.block < W.heap.size := by obtain ⟨m, hm⟩ := k1; exact DataW.trod_lt m _ _ _ hm
  have lt2 : ∀ x ∈ p2, x.block < W.heap.size := by obtain ⟨m, hm⟩ := k2; exact DataW.trod_lt m _ _ _ hm
  have lt3 : ∀ x ∈ p3, x.block < W.heap.size := by obtain ⟨m, hm⟩ := k3; exact DataW.trod_lt m _ _ _ hm
  obtain ⟨d, rfl⟩ := okWide_int Tryz.underlying3 (hval 0 3 v1 rfl rfl)
  obtain ⟨a2, len2, cap2, rfl⟩ := okWide_slice Tryz.underlying22 (hval 1 22 v2 rfl rfl)
  obtain ⟨a3, len3, cap3, cut, l3, rfl, r3, c3⟩ := open_rest (hval 2 63 v3 rfl rfl) h3
  obtain ⟨fuel2, hf2⟩ := h2
  obtain ⟨l2, r2, c2⟩ := open_moves hf2
  have hb : Rows.uptoBulkAll [d1, d2, d3] ≤ 1048576 := of_decide_eq_true hk
  simp only [Rows.uptoBulkAll] at hb
  have c2 : len2 ≤ Rows.uptoBulk d2 := moves_few c2
  clear hA0 hval0
  refine (againWalk d a2 len2 cap2 l2 a3 len3 cap3 l3 cut W r2 (by omega) r3 (by omega)).mono fun e W' ⟨he, K⟩ => ?_
  have bel := kept_below0 K
  subst he
  exact ⟨_, rfl, _, _, _, [], _, [], hW', trodAll_mk1 (shut_bool Tryz.underlying4 _), (trodAll_cons_mk (Below.trod Tryz.laidOut (by kernel_rfl) (of_decide_eq_true (by kernel_rfl)) k1 bel lt1) (trodAll_cons_mk (Below.trod Tryz.laidOut (by kernel_rfl) (of_decide_eq_true (by kernel_rfl)) k2 bel lt2) (trodAll_cons_mk (Below.trod Tryz.laidOut (by kernel_rfl) (of_decide_eq_true (by kernel_rfl)) k3 bel lt3) trodAll_mk0))), rfl, bel.frame _, fun h => by cases h⟩
theorem tableAgain_holds : Rows.TableAgainUptoSaid :=
  OpenClaim.holds_of_cond 6 Tryz.f6 rfl rfl rfl rfl rfl rfl rfl ⟨rfl, rfl, rfl, rfl, rfl⟩ rfl rfl rfl rfl rfl (by kernel_rfl) Tryz.func6 (by kernel_rfl)
    (of_decide_eq_true (by kernel_rfl)) (by unfold Func.isWrapper; first | (rw [if_pos (by decide +kernel)]; kernel_rfl) | (rw [if_neg (by decide +kernel)]; exact ⟨rfl, rfl⟩))
    (fun os started H enc _ F => tableAgain_lifted os started H enc F)
end Go.Proofs.YtojepeefphbekaaGreat
