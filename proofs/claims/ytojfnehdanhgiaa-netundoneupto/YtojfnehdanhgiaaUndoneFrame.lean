import Derived.Test.YtojfnehdanhgiaaOpen
import Derived.Test.YtojfnehdanhgiaaUndA
import Derived.JoinedCond
import Derived.Deep.Fields
namespace Go.Proofs.Ytojfnehdanhgiaa
open Go.ChangeShapes Go.WideShapes Go.ChangeAt Go.RowKit Go.Deep

/-- What the walk of NetUndone is to give. -/
def UndoneWalk : Prop := ∀ (q : Option Addr) (n cap : Nat) (D : List Sli) (I bt sz : Int) (p7 p8 : Nat) (w : World), Datas w q n cap D → n + 300 ≤ Big → p7 < 4294967296 → p8 < 4294967296 → (-9223372036854775808 ≤ I ∧ I < 9223372036854775808) → (-9223372036854775808 ≤ bt ∧ bt < 9223372036854775808) → (-9223372036854775808 ≤ sz ∧ sz < 9223372036854775808) →
    Calls Try.prog 3 #[.slice q n cap, .agg #[.int .i64 I, .int .i64 bt, .int .u32 (p7 : Int), .int .u32 (p8 : Int), .int .i64 sz]] w fun x w' => x = .returned (.bool true) ∧ Kept (fun _ => False) w w'
theorem Try.ucells23 : Try.prog.cellsOf 23 = 1 := by kernel_rfl
/-- A strike that came in. -/
theorem open_strike {H : Type} {enc : TypeId × Value → H} {W : World} {n : Nat} {c0 c1 c2 c3 c4 : Value} {x : DataW H × List MemPlace} (h : DataW.trod enc Try.prog W 0 (fun _ => true) true n 25 [c0, c1, c2, c3, c4] = some x) :
    ∃ (I bt sz : Int) (p7 p8 : Nat), c0 = .int .i64 I ∧ c1 = .int .i64 bt ∧ c2 = .int .u32 (p7 : Int) ∧ c3 = .int .u32 (p8 : Int) ∧ c4 = .int .i64 sz ∧ p7 < 4294967296 ∧ p8 < 4294967296 ∧ (-9223372036854775808 ≤ I ∧ I < 9223372036854775808) ∧ (-9223372036854775808 ≤ bt ∧ bt < 9223372036854775808) ∧ (-9223372036854775808 ≤ sz ∧ sz < 9223372036854775808) := by
  obtain ⟨xs, m, _, hx, _, hxs, g⟩ := DataW.trod_struct Try.underlying25 h
  match xs, hxs with
  | [y0, y1, y2, y3, y4], _ =>
    have g0 : DataW.trod enc Try.prog W 0 (fun _ => true) true m 3 [c0] = some y0 := by have := g 0 _ rfl; simpa [Try.cells3] using this
    have g1 : DataW.trod enc Try.prog W 0 (fun _ => true) true m 3 [c1] = some y1 := by have := g 1 _ rfl; simpa [Try.cells3] using this
    have g2 : DataW.trod enc Try.prog W 0 (fun _ => true) true m 23 [c2] = some y2 := by have := g 2 _ rfl; simpa [Try.cells3, Try.ucells23] using this
    have g3 : DataW.trod enc Try.prog W 0 (fun _ => true) true m 23 [c3] = some y3 := by have := g 3 _ rfl; simpa [Try.cells3, Try.ucells23] using this
    have g4 : DataW.trod enc Try.prog W 0 (fun _ => true) true m 3 [c4] = some y4 := by have := g 4 _ rfl; simpa [Try.cells3, Try.ucells23] using this
    obtain ⟨I, e0, _, w0⟩ := DataW.trod_int Try.underlying3 g0
    obtain ⟨bt, e1, _, w1⟩ := DataW.trod_int Try.underlying3 g1
    obtain ⟨p7, e2, _, w2⟩ := DataW.trod_int Try.underlying23 g2
    obtain ⟨p8, e3, _, w3⟩ := DataW.trod_int Try.underlying23 g3
    obtain ⟨sz, e4, _, w4⟩ := DataW.trod_int Try.underlying3 g4
    simp at e0 e1 e2 e3 e4
    subst e0 e1 e2 e3 e4
    have h2 := bounds_u32 w2
    have h3 := bounds_u32 w3
    refine ⟨I, bt, sz, p7.toNat, p8.toNat, rfl, rfl, ?_, ?_, rfl, by omega, by omega, fit_i64 w0, fit_i64 w1, fit_i64 w4⟩
    · rw [Int.toNat_of_nonneg h2.1]
    · rw [Int.toNat_of_nonneg h3.1]
theorem Try.ucells25 : Try.prog.cellsOf 25 = 5 := by kernel_rfl
theorem uarray5 {α : Type} {a : Array α} (h : a.size = 5) : ∃ c0 c1 c2 c3 c4, a = #[c0, c1, c2, c3, c4] := by
  match a, h with
  | ⟨[c0, c1, c2, c3, c4]⟩, _ => exact ⟨c0, c1, c2, c3, c4, rfl⟩
set_option maxRecDepth 100000 in
theorem netUndone_lifted (walk : UndoneWalk) (os : Os) (started : os.Started) (H : Type) (enc : TypeId × Value → H) (F : Stop.Interp) :
    ReturnsInHanded {} Try.checked os 3 .any ((Rows.OpenSpec.upto Rows.netUndoneSpec).pre6 enc Try.prog Try.f3 Rows.netUndoneUptoRow.domain false) (((Rows.OpenSpec.upto Rows.netUndoneSpec).at F).post enc Try.prog Try.f3 false true false false) := by
  refine returnsInHanded_of_cond (C := Try.checked) (s := Rows.OpenSpec.upto Rows.netUndoneSpec) (k := Rows.uptoSmall) rfl Try.own started (by kernel_rfl) Try.func3
    (OpenSpec.witness (enc := enc) (C := Try.checked) (s := Rows.OpenSpec.upto Rows.netUndoneSpec) (k := Rows.uptoSmall) rfl false ⟨#[], #[.slice none 0 0, .agg #[.int .i64 0, .int .i64 0, .int .u32 0, .int .u32 0, .int .i64 0]], []⟩ 8 (by kernel_rfl) (by kernel_rfl) (by kernel_rfl)
      (x := ([.nil, .agg [.lit (.int .i64 0), .lit (.int .i64 0), .lit (.int .u32 0), .lit (.int .u32 0), .lit (.int .i64 0)]], [], [])) (by kernel_rfl) rfl (by kernel_rfl)) ?_
  intro W base args ds gs before hval0 hW _ hk _
  have hval : ∀ (j : Nat) t v, Try.f3.params[j]? = some t → args[j]? = some v → Value.okWide Try.prog W .any base t v := hval0
  have hW' := hW
  obtain ⟨p, q, hA0, hV, rfl, _, _⟩ := hW
  have hA : DataW.TrodAll enc Try.prog W 0 (fun _ => true) true Try.f3.params.toList args.toList ds p := hA0
  rw [Try.params3] at hA hval
  obtain ⟨v1, v2, d1, d2, p1, p2, rfl, rfl, rfl, h1, h2⟩ := trodAll_two hA
  obtain ⟨rfl, rfl⟩ := trodVars_none hV
  have k1 := h1
  have k2 := h2
  have lt1 : ∀ x ∈ p1, x.block < W.heap.size := by obtain ⟨m, hm⟩ := k1; exact DataW.trod_lt m _ _ _ hm
  have lt2 : ∀ x ∈ p2, x.block < W.heap.size := by obtain ⟨m, hm⟩ := k2; exact DataW.trod_lt m _ _ _ hm
  obtain ⟨a1, len1, cap1, rfl⟩ := okWide_slice Try.underlying22 (hval 0 22 v1 rfl rfl)
  obtain ⟨cs, rfl, hsz⟩ := okWide_struct Try.underlying25 (hval 1 25 v2 rfl rfl)
  obtain ⟨c0, c1, c2, c3, c4, rfl⟩ := uarray5 (hsz.trans Try.ucells25)
  obtain ⟨fuel1, hf1⟩ := h1
  obtain ⟨fuel2, hf2⟩ := h2
  obtain ⟨D, hD, hw⟩ := open_datas hf1
  obtain ⟨I, bt, sz, p7, p8, rfl, rfl, rfl, rfl, rfl, h7, h8, hI, hbt, hs⟩ := open_strike hf2
  have hb : Rows.uptoBulkAll [d1, d2] ≤ 1048576 := of_decide_eq_true hk
  simp only [Rows.uptoBulkAll] at hb
  have hw2 : len1 ≤ 1048576 := Nat.le_trans hw (by show Rows.uptoBulk d1 ≤ _; omega)
  clear hA0 hval0
  refine (walk a1 len1 cap1 D I bt sz p7 p8 W hD (by unfold Big; omega) h7 h8 hI hbt hs).mono fun e W' ⟨he, K⟩ => ?_
  have bel := below_kept K
  subst he
  exact ⟨_, rfl, _, _, _, [], _, [], hW', trodAll_mk1 (shut_bool Try.underlying4 _), (trodAll_cons_mk (Below.trod Try.laidOut (by kernel_rfl) (of_decide_eq_true (by kernel_rfl)) k1 bel lt1) (trodAll_cons_mk (Below.trod Try.laidOut (by kernel_rfl) (of_decide_eq_true (by kernel_rfl)) k2 bel lt2) trodAll_mk0)), rfl, bel.frame _, fun h => by cases h⟩

theorem netUndone_of (walk : UndoneWalk) : Rows.NetUndoneUptoSaid :=
  OpenClaim.holds_of_cond 3 Try.f3 rfl rfl rfl rfl rfl rfl rfl ⟨rfl, rfl, rfl, rfl, rfl⟩ rfl rfl rfl rfl rfl (by kernel_rfl) Try.func3 (by kernel_rfl)
    (of_decide_eq_true (by kernel_rfl)) (by unfold Func.isWrapper; first | (rw [if_pos (by decide +kernel)]; kernel_rfl) | (rw [if_neg (by decide +kernel)]; exact ⟨rfl, rfl⟩))
    (fun os started H enc _ F => netUndone_lifted walk os started H enc F)
#print axioms netUndone_of
end Go.Proofs.Ytojfnehdanhgiaa
