import Derived.Test.YteokeifkkhchmaaRows
import Derived.Test.YteokeifkkhchmaaLaw
import Derived.ProofKit
import Derived.OpenShut
import Derived.ShutString
import Derived.ChangeOld
import Derived.Below
import Derived.Deep.Slices
import Derived.Deep.Fields
import Derived.SizedLaws
namespace Go.Proofs.Yteokeifkkhchmaa
open Go.RowKit Go.ChangeShapes Go.WideShapes Go.ChangeAt Go.Deep

theorem Try.own : ownKnob Try.prog.godebug = none := by kernel_rfl
theorem Try.laidOut : laidOutB Try.prog = true := by kernel_rfl
theorem Try.cells23 : Try.prog.cellsOf 23 = 3 := by kernel_rfl
theorem Try.cells3 : Try.prog.cellsOf 3 = 1 := by kernel_rfl
theorem fit_i64 {a : Int} (h : (Lit.int .i64 a).wf = true) : KF a := (wf_i64 a).1 h
theorem array3 {α : Type} {cs : Array α} (h : cs.size = 3) : ∃ c0 c1 c2, cs = #[c0, c1, c2] := by
  obtain ⟨l⟩ := cs
  match l, h with
  | [c0, c1, c2], _ => exact ⟨c0, c1, c2, rfl⟩
/-- A config's cells, opened. -/
theorem open_three {H : Type} {enc : TypeId × Value → H} {W : World} {base : Nat} {spare : Nat → Bool} {held : Bool} {n : Nat} {c0 c1 c2 : Value} {x : DataW H × List MemPlace}
    (h : DataW.trod enc Try.prog W base spare held n 23 [c0, c1, c2] = some x) : ∃ a b c : Int, c0 = .int .i64 a ∧ c1 = .int .i64 b ∧ c2 = .int .i64 c ∧ KF a ∧ KF b ∧ KF c := by
  obtain ⟨xs, m, _, hx, _, hxs, g⟩ := DataW.trod_struct Try.underlying23 h
  match xs, hxs with
  | [y0, y1, y2], _ =>
    have g0 : DataW.trod enc Try.prog W base spare held m 3 [c0] = some y0 := by have := g 0 _ rfl; simpa [Try.cells3] using this
    have g1 : DataW.trod enc Try.prog W base spare held m 3 [c1] = some y1 := by have := g 1 _ rfl; simpa [Try.cells3] using this
    have g2 : DataW.trod enc Try.prog W base spare held m 3 [c2] = some y2 := by have := g 2 _ rfl; simpa [Try.cells3] using this
    obtain ⟨a, e0, _, wa⟩ := DataW.trod_int Try.underlying3 g0
    obtain ⟨b, e1, _, wb⟩ := DataW.trod_int Try.underlying3 g1
    obtain ⟨c, e2, _, wc⟩ := DataW.trod_int Try.underlying3 g2
    simp at e0 e1 e2
    exact ⟨a, b, c, e0, e1, e2, fit_i64 wa, fit_i64 wb, fit_i64 wc⟩
set_option maxRecDepth 100000 in
theorem open_cfg {H : Type} {enc : TypeId × Value → H} {W : World} {base : Nat} {spare : Nat → Bool} {held : Bool} {r : Reach} {b0 : Nat} {v : Value} {d : DataW H} {p : List MemPlace}
    (hv : Value.okWide Try.prog W r b0 23 v) (h : DataW.Trod enc Try.prog W base spare held 23 v d p) :
    ∃ a b c : Int, v = .agg #[.int .i64 a, .int .i64 b, .int .i64 c] ∧ KF a ∧ KF b ∧ KF c := by
  obtain ⟨cs, rfl, hsz⟩ := okWide_struct Try.underlying23 hv
  obtain ⟨c0, c1, c2, rfl⟩ := array3 (hsz.trans Try.cells23)
  obtain ⟨fuel, hf⟩ := h
  obtain ⟨a, b, c, rfl, rfl, rfl, ha, hb, hc⟩ := open_three (by simpa [Value.cells] using hf)
  exact ⟨a, b, c, rfl, ha, hb, hc⟩
theorem Try.cells36 : Try.prog.cellsOf 36 = 5 := by kernel_rfl
theorem Try.bytes36 : Try.prog.bytesOf 36 = 40 := by kernel_rfl
set_option maxRecDepth 100000 in
theorem open_five {H : Type} {enc : TypeId × Value → H} {W : World} {base : Nat} {spare : Nat → Bool} {held : Bool} {n : Nat} {c0 c1 c2 c3 c4 : Value} {x : DataW H × List MemPlace}
    (h : DataW.trod enc Try.prog W base spare held n 36 [c0, c1, c2, c3, c4] = some x) : ∃ k p s v z : Int, c0 = .int .i64 k ∧ c1 = .int .i64 p ∧ c2 = .int .i64 s ∧ c3 = .int .i64 v ∧ c4 = .int .i64 z ∧ KF s := by
  obtain ⟨xs, m, _, hx, _, hxs, g⟩ := DataW.trod_struct Try.underlying36 h
  match xs, hxs with
  | [y0, y1, y2, y3, y4], _ =>
    have g0 : DataW.trod enc Try.prog W base spare held m 3 [c0] = some y0 := by have := g 0 _ rfl; simpa [Try.cells3] using this
    have g1 : DataW.trod enc Try.prog W base spare held m 3 [c1] = some y1 := by have := g 1 _ rfl; simpa [Try.cells3] using this
    have g2 : DataW.trod enc Try.prog W base spare held m 3 [c2] = some y2 := by have := g 2 _ rfl; simpa [Try.cells3] using this
    have g3 : DataW.trod enc Try.prog W base spare held m 3 [c3] = some y3 := by have := g 3 _ rfl; simpa [Try.cells3] using this
    have g4 : DataW.trod enc Try.prog W base spare held m 3 [c4] = some y4 := by have := g 4 _ rfl; simpa [Try.cells3] using this
    obtain ⟨k, e0, _, _⟩ := DataW.trod_int Try.underlying3 g0
    obtain ⟨a, e1, _, _⟩ := DataW.trod_int Try.underlying3 g1
    obtain ⟨b, e2, _, wb⟩ := DataW.trod_int Try.underlying3 g2
    obtain ⟨c, e3, _, _⟩ := DataW.trod_int Try.underlying3 g3
    obtain ⟨z, e4, _, _⟩ := DataW.trod_int Try.underlying3 g4
    simp at e0 e1 e2 e3 e4
    exact ⟨k, a, b, c, z, e0, e1, e2, e3, e4, fit_i64 wb⟩
/-- A script, opened. -/
theorem open_steps {H : Type} {enc : TypeId × Value → H} {W : World} {a : Option Addr} {len cap fuel : Nat} {x : DataW H × List MemPlace}
    (h : DataW.trod enc Try.prog W 0 (fun _ => true) true fuel 24 [.slice a len cap] = some x) : PReads W a len cap ∧ (len = 0 ∨ ∃ els sp, x.1 = .slice els sp ∧ len ≤ els.length + sp.length) := by
  rcases open_slice Try.underlying24 h with ⟨hcs, _⟩ | ⟨ad, l', c', m, n, D, Pl, hcs, _, hl, hm, hmm, hx, hel⟩
  · simp at hcs
    obtain ⟨rfl, rfl, rfl⟩ := hcs
    exact ⟨⟨Nat.le_refl _, by unfold maxLen; omega, fun q => absurd q (by omega)⟩, .inl rfl⟩
  · simp at hcs
    obtain ⟨rfl, rfl, rfl⟩ := hcs
    have hmm : m = cap := by simpa using hmm
    rw [Try.cells36] at hel
    have one : ∀ i, i < len → ∃ k p s v z : Int, KF s ∧ W.cell? ((ad.add (i * 5)).add 0) = some (.int .i64 k) ∧ W.cell? ((ad.add (i * 5)).add 1) = some (.int .i64 p) ∧ W.cell? ((ad.add (i * 5)).add 2) = some (.int .i64 s) ∧ W.cell? ((ad.add (i * 5)).add 3) = some (.int .i64 v) ∧ W.cell? ((ad.add (i * 5)).add 4) = some (.int .i64 z) := fun i hi => by
      obtain ⟨cs', h1, h2⟩ := hel i (by omega)
      obtain ⟨_, hlen, hc⟩ := World.cells?_some h1
      match cs', hlen with
      | [c0, c1, c2, c3, c4], _ =>
        obtain ⟨k, p, s, v, z, rfl, rfl, rfl, rfl, rfl, kf⟩ := open_five h2
        exact ⟨k, p, s, v, z, kf, hc 0 (by omega), hc 1 (by omega), hc 2 (by omega), hc 3 (by omega), hc 4 (by omega)⟩
    refine ⟨⟨hl, hm, fun q => ?_⟩, ?_⟩
    · obtain ⟨b, off, spot⟩ := ad
      have hs : spot = none := by
        obtain ⟨k, _, _, _, _, _, h0, _⟩ := one 0 q
        have := World.cell?_spot h0
        simpa [Addr.add] using this
      subst hs
      refine ⟨b, off, rfl, fun i hi => ?_⟩
      obtain ⟨k, p, s, v, z, kf, h0, h1, h2, h3, h4⟩ := one i hi
      rw [Addr.add_none, Addr.add_none] at h0 h1 h2 h3 h4
      exact ⟨k, p, s, v, z, kf, h0, h1, h2, h3, h4⟩
    · right
      rw [hx]
      refine ⟨_, _, rfl, ?_⟩
      simp
theorem small_script (n : Nat) (h : n * 40 ≤ 140737488351232) : n ≤ 4611686018427387000 := by omega
set_option maxRecDepth 100000 in
theorem phasePlays_lifted (os : Os) (started : os.Started) (H : Type) (enc : TypeId × Value → H) :
    ReturnsInHanded {} Try.checked os 3 .any (Rows.phasePlaysSpec.pre6 enc Try.prog Try.f3 Rows.phasePlaysRow.domain false) (Rows.phasePlaysSpec.post enc Try.prog Try.f3 false true false false) := by
  refine returnsInHanded_of_change_sized (C := Try.checked) Try.own started (by kernel_rfl) Try.func3
    (ChangeSpec.witness6 (enc := enc) (C := Try.checked) false ⟨#[], #[.agg #[.int .i64 0, .int .i64 0, .int .i64 0], .agg #[.int .i64 0, .int .i64 0, .int .i64 0], .slice none 0 0], []⟩ 8 (by kernel_rfl) (by kernel_rfl) (by kernel_rfl) (by kernel_rfl)) ?_
  intro W base args ds gs before hval0 hW _ hsz0 _
  have hval : ∀ (j : Nat) t v, Try.f3.params[j]? = some t → args[j]? = some v → Value.okWide Try.prog W .any base t v := hval0
  have hsz : (DataW.weightsEach Try.prog (Try.f3.params.toList ++ Rows.phasePlaysSpec.plain.varTypes Try.prog) (ds ++ gs)).all (· ≤ reachBytes) = true := hsz0
  have hW' := hW
  obtain ⟨p, q, hA0, hV, rfl, _, _⟩ := hW
  have hA : DataW.TrodAll enc Try.prog W 0 (fun _ => true) true Try.f3.params.toList args.toList ds p := hA0
  rw [Try.params3] at hA hval hsz
  obtain ⟨v0, v1, v2, d0, d1, d2, p0, p1, p2, rfl, rfl, rfl, h0, h1, h2⟩ := trodAll_three hA
  obtain ⟨rfl, rfl⟩ := trodVars_none hV
  have k0 := h0
  have k1 := h1
  have k2 := h2
  have lt0 : ∀ x ∈ p0, x.block < W.heap.size := by obtain ⟨m, hm⟩ := k0; exact DataW.trod_lt m _ _ _ hm
  have lt1 : ∀ x ∈ p1, x.block < W.heap.size := by obtain ⟨m, hm⟩ := k1; exact DataW.trod_lt m _ _ _ hm
  have lt2 : ∀ x ∈ p2, x.block < W.heap.size := by obtain ⟨m, hm⟩ := k2; exact DataW.trod_lt m _ _ _ hm
  obtain ⟨N0, K0, D0, rfl, _, _, _⟩ := open_cfg (hval 0 23 v0 rfl rfl) h0
  obtain ⟨N1, K1, D1, rfl, _, _, _⟩ := open_cfg (hval 1 23 v1 rfl rfl) h1
  obtain ⟨a2, len2, cap2, rfl⟩ := okWide_slice Try.underlying24 (hval 2 24 v2 rfl rfl)
  obtain ⟨fuel2, hf2⟩ := h2
  obtain ⟨r2, c2⟩ := open_steps hf2
  have z2 : len2 * 40 ≤ 140737488351232 := by
    rcases c2 with c | ⟨els, sp, e, hl⟩
    · rw [c]; decide
    · have e : d2 = .slice els sp := e
      subst e
      have := sized_slice hsz (j := 2) (t := 24) (e := 36) rfl rfl Try.underlying24
      rw [Try.bytes36] at this
      simp only [reachBytes] at this
      have h2 : len2 * 40 ≤ (els.length + sp.length) * 40 := Nat.mul_le_mul_right 40 hl
      first | exact Nat.le_trans h2 this | exact Nat.le_trans h2 (by rw [Nat.mul_comm]; exact this)
  clear hA0 hval0 hsz0 hsz
  refine (phasePlays N0 K0 D0 N1 K1 D1 a2 len2 cap2 W r2 (small_script len2 z2)).mono fun e W' ⟨he, kp⟩ => ?_
  have bel := kp.toB
  subst he
  exact ⟨_, rfl, _, _, _, [], _, [], hW', trodAll_mk1 (shut_bool Try.underlying4 _), trodAll_cons_mk (Below.trod Try.laidOut (by kernel_rfl) (of_decide_eq_true (by kernel_rfl)) k0 bel lt0) (trodAll_cons_mk (Below.trod Try.laidOut (by kernel_rfl) (of_decide_eq_true (by kernel_rfl)) k1 bel lt1) (trodAll_cons_mk (Below.trod Try.laidOut (by kernel_rfl) (of_decide_eq_true (by kernel_rfl)) k2 bel lt2) trodAll_mk0)), rfl, bel.frame _, fun h => by cases h⟩

theorem phasePlays_holds : Rows.PhasePlaysSaid :=
  OpenClaim.holds_of_wide 3 Try.f3 rfl rfl rfl rfl rfl rfl rfl ⟨rfl, rfl, rfl, rfl, rfl⟩ rfl rfl rfl rfl rfl (by kernel_rfl) Try.func3 (by kernel_rfl)
    (of_decide_eq_true (by kernel_rfl)) (by unfold Func.isWrapper; first | (rw [if_pos (by decide +kernel)]; kernel_rfl) | (rw [if_neg (by decide +kernel)]; exact ⟨rfl, rfl⟩))
    (fun os started H enc _ => phasePlays_lifted os started H enc)
#print axioms phasePlays_holds
end Go.Proofs.Yteokeifkkhchmaa
