import Derived.Test.YtojepeefphbekaaRows
import Derived.Test.YtojepeefphbekaaMoves
import Derived.ProofKit
import Derived.OpenShut
import Derived.ShutString
import Derived.ChangeOld
import Derived.Below
import Derived.Deep.Slices
import Derived.Deep.Fields
import Derived.SizedLaws
namespace Go.Proofs.Ytojepeefphbekaa
open Go.ChangeShapes Go.WideShapes Go.ChangeAt Go.RowKit Go.Deep

theorem Try.own : ownKnob Try.prog.godebug = none := by kernel_rfl
theorem Try.laidOut : laidOutB Try.prog = true := by kernel_rfl
theorem Try.cells32 : Try.prog.cellsOf 32 = 5 := by kernel_rfl
theorem Try.bytes32 : Try.prog.bytesOf 32 = 32 := by kernel_rfl
theorem Try.cells2m : Try.prog.cellsOf 2 = 1 := by kernel_rfl
theorem Try.cells3m : Try.prog.cellsOf 3 = 1 := by kernel_rfl
theorem Try.cells4m : Try.prog.cellsOf 4 = 1 := by kernel_rfl
/-- A move's cells, opened. -/
theorem open_five {H : Type} {enc : TypeId × Value → H} {W : World} {base : Nat} {spare : Nat → Bool} {held : Bool} {n : Nat} {c0 c1 c2 c3 c4 : Value} {x : DataW H × List MemPlace}
    (h : DataW.trod enc Try.prog W base spare held n 32 [c0, c1, c2, c3, c4] = some x) : ∃ m : Mv, c0 = .int .i64 m.key ∧ c1 = .bool m.fin ∧ c2 = .bool m.both ∧ c3 = .int .i64 m.c ∧ c4 = .int .i64 m.k := by
  obtain ⟨xs, m, _, hx, _, hxs, g⟩ := DataW.trod_struct Try.underlying32 h
  match xs, hxs with
  | [y0, y1, y2, y3, y4], _ =>
    have g0 : DataW.trod enc Try.prog W base spare held m 3 [c0] = some y0 := by have := g 0 _ rfl; simpa [Try.cells3m] using this
    have g1 : DataW.trod enc Try.prog W base spare held m 4 [c1] = some y1 := by have := g 1 _ rfl; simpa [Try.cells4m] using this
    have g2 : DataW.trod enc Try.prog W base spare held m 4 [c2] = some y2 := by have := g 2 _ rfl; simpa [Try.cells4m] using this
    have g3 : DataW.trod enc Try.prog W base spare held m 2 [c3] = some y3 := by have := g 3 _ rfl; simpa [Try.cells2m] using this
    have g4 : DataW.trod enc Try.prog W base spare held m 3 [c4] = some y4 := by have := g 4 _ rfl; simpa [Try.cells3m] using this
    obtain ⟨a0, e0, _, _⟩ := DataW.trod_int Try.underlying3 g0
    obtain ⟨a1, e1, _⟩ := DataW.trod_bool Try.underlying4 g1
    obtain ⟨a2, e2, _⟩ := DataW.trod_bool Try.underlying4 g2
    obtain ⟨a3, e3, _, _⟩ := DataW.trod_int Try.underlying2 g3
    obtain ⟨a4, e4, _, _⟩ := DataW.trod_int Try.underlying3 g4
    simp at e0 e1 e2 e3 e4
    exact ⟨⟨a0, a1, a2, a3, a4⟩, e0, e1, e2, e3, e4⟩
/-- A list of moves, opened. -/
theorem open_moves {H : Type} {enc : TypeId × Value → H} {W : World} {a : Option Addr} {len cap fuel : Nat} {x : DataW H × List MemPlace}
    (h : DataW.trod enc Try.prog W 0 (fun _ => true) true fuel 22 [.slice a len cap] = some x) : ∃ l, MReads W a len cap l ∧ (len = 0 ∨ ∃ els sp, x.1 = .slice els sp ∧ len ≤ els.length + sp.length) := by
  rcases open_slice Try.underlying22 h with ⟨hcs, _⟩ | ⟨ad, l', c', m, n, D, Pl, hcs, _, hl, hm, hmm, hx, hel⟩
  · simp at hcs
    obtain ⟨rfl, rfl, rfl⟩ := hcs
    exact ⟨[], ⟨rfl, Nat.le_refl _, by unfold maxLen; omega, fun q => absurd q (by omega)⟩, .inl rfl⟩
  · simp at hcs
    obtain ⟨rfl, rfl, rfl⟩ := hcs
    have hmm : m = cap := by simpa using hmm
    rw [Try.cells32] at hel
    haveI : Inhabited Mv := ⟨Mv.zero⟩
    obtain ⟨O, hO⟩ := choose_lt (n := len) (p := fun i (t : Mv) => W.cell? ((ad.add (i * 5)).add 0) = some (.int .i64 t.key) ∧ W.cell? ((ad.add (i * 5)).add 1) = some (.bool t.fin) ∧ W.cell? ((ad.add (i * 5)).add 2) = some (.bool t.both) ∧ W.cell? ((ad.add (i * 5)).add 3) = some (.int .i64 t.c) ∧ W.cell? ((ad.add (i * 5)).add 4) = some (.int .i64 t.k)) (fun i hi => by
      obtain ⟨cs', h1, h2⟩ := hel i (by omega)
      obtain ⟨_, hlen, hc⟩ := World.cells?_some h1
      match cs', hlen with
      | [c0, c1, c2, c3, c4], _ =>
        obtain ⟨t, rfl, rfl, rfl, rfl, rfl⟩ := open_five h2
        exact ⟨t, hc 0 (by omega), hc 1 (by omega), hc 2 (by omega), hc 3 (by omega), hc 4 (by omega)⟩)
    refine ⟨(List.range len).map O, ⟨by simp, hl, hm, fun q => ?_⟩, ?_⟩
    · obtain ⟨b, off, spot⟩ := ad
      have hs : spot = none := by
        have := (hO 0 q).1
        have := World.cell?_spot this
        simpa [Addr.add] using this
      subst hs
      refine ⟨b, off, rfl, fun i hi => ?_⟩
      have e : ((List.range len).map O).getD i Mv.zero = O i := by
        rw [List.getD_eq_getElem?_getD]
        simp [hi]
      obtain ⟨h0, h1, h2, h3, h4⟩ := hO i hi
      rw [e]
      rw [Addr.add_none, Addr.add_none] at h0 h1 h2 h3 h4
      exact ⟨h0, h1, h2, h3, h4⟩
    · right
      rw [hx]
      refine ⟨_, _, rfl, ?_⟩
      simp
/-- What is left: the walk. -/
def BoundsWalk : Prop := ∀ (d : Int) (a : Option Addr) (len cap : Nat) (l : List Mv) (w : World), MReads w a len cap l → len ≤ 4398046510976 → Calls Try.prog 3 #[.int .i64 d, .slice a len cap] w fun o w' => o = .returned (.bool true) ∧ Kept (fun _ => False) w w'
theorem kept_below0 {w w' : World} (K : Kept (fun _ => False) w w') : Below w.heap.size w w' := ⟨K.os, K.tape, K.output, K.size, fun k hk => K.block k hk (fun q => q)⟩
set_option maxRecDepth 100000 in
theorem tableBounds_lifted (walk : BoundsWalk) (os : Os) (started : os.Started) (H : Type) (enc : TypeId × Value → H) :
    ReturnsInHanded {} Try.checked os 3 .any (Rows.tableBoundsSpec.pre6 enc Try.prog Try.f3 Rows.tableBoundsRow.domain false) (Rows.tableBoundsSpec.post enc Try.prog Try.f3 false true false false) := by
  refine returnsInHanded_of_change_sized (C := Try.checked) Try.own started (by kernel_rfl) Try.func3
    (ChangeSpec.witness6 (enc := enc) (C := Try.checked) false ⟨#[], #[.int .i64 0, .slice none 0 0], []⟩ 8 (by kernel_rfl) (by kernel_rfl) (by kernel_rfl) (by kernel_rfl)) ?_
  intro W base args ds gs before hval0 hW _ hsz0 _
  have hval : ∀ (j : Nat) t v, Try.f3.params[j]? = some t → args[j]? = some v → Value.okWide Try.prog W .any base t v := hval0
  have hsz : (DataW.weightsEach Try.prog (Try.f3.params.toList ++ Rows.tableBoundsSpec.plain.varTypes Try.prog) (ds ++ gs)).all (· ≤ reachBytes) = true := hsz0
  have hW' := hW
  obtain ⟨p, q, hA0, hV, rfl, _, _⟩ := hW
  have hA : DataW.TrodAll enc Try.prog W 0 (fun _ => true) true Try.f3.params.toList args.toList ds p := hA0
  rw [Try.params3] at hA hval hsz
  obtain ⟨v1, v2, d1, d2, p1, p2, rfl, rfl, rfl, h1, h2⟩ := trodAll_two hA
  obtain ⟨rfl, rfl⟩ := trodVars_none hV
  have k1 := h1
  have k2 := h2
  have lt1 : ∀ x ∈ p1, x.block < W.heap.size := by obtain ⟨m, hm⟩ := k1; exact DataW.trod_lt m _ _ _ hm
  have lt2 : ∀ x ∈ p2, x.block < W.heap.size := by obtain ⟨m, hm⟩ := k2; exact DataW.trod_lt m _ _ _ hm
  obtain ⟨d, rfl⟩ := okWide_int Try.underlying3 (hval 0 3 v1 rfl rfl)
  obtain ⟨a2, len2, cap2, rfl⟩ := okWide_slice Try.underlying22 (hval 1 22 v2 rfl rfl)
  obtain ⟨fuel2, hf2⟩ := h2
  obtain ⟨l2, r2, c2⟩ := open_moves hf2
  have z2 : len2 * 32 ≤ 140737488351232 := by
    rcases c2 with c | ⟨els, sp, e, hl⟩
    · rw [c]; decide
    · have e : d2 = .slice els sp := e
      subst e
      have := sized_slice hsz (j := 1) (t := 22) (e := 32) rfl rfl Try.underlying22
      rw [Try.bytes32] at this
      simp only [reachBytes] at this
      have h2 : len2 * 32 ≤ (els.length + sp.length) * 32 := Nat.mul_le_mul_right 32 hl
      first | exact Nat.le_trans h2 this | exact Nat.le_trans h2 (by rw [Nat.mul_comm]; exact this)
  clear hA0 hval0 hsz0 hsz
  refine (walk d a2 len2 cap2 l2 W r2 (by omega)).mono fun e W' ⟨he, K⟩ => ?_
  have bel := kept_below0 K
  subst he
  exact ⟨_, rfl, _, _, _, [], _, [], hW', trodAll_mk1 (shut_bool Try.underlying4 _), trodAll_cons_mk (Below.trod Try.laidOut (by kernel_rfl) (of_decide_eq_true (by kernel_rfl)) k1 bel lt1) (trodAll_cons_mk (Below.trod Try.laidOut (by kernel_rfl) (of_decide_eq_true (by kernel_rfl)) k2 bel lt2) trodAll_mk0), rfl, bel.frame _, fun h => by cases h⟩
theorem tableBounds_of (walk : BoundsWalk) : Rows.TableBoundsSaid :=
  OpenClaim.holds_of_wide 3 Try.f3 rfl rfl rfl rfl rfl rfl rfl ⟨rfl, rfl, rfl, rfl, rfl⟩ rfl rfl rfl rfl rfl (by kernel_rfl) Try.func3 (by kernel_rfl)
    (of_decide_eq_true (by kernel_rfl)) (by unfold Func.isWrapper; first | (rw [if_pos (by decide +kernel)]; kernel_rfl) | (rw [if_neg (by decide +kernel)]; exact ⟨rfl, rfl⟩))
    (fun os started H enc _ => tableBounds_lifted walk os started H enc)
end Go.Proofs.Ytojepeefphbekaa
