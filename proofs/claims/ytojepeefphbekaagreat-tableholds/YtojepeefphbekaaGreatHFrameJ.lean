import Derived.Test.YtojepeefphbekaaGreatRows
import Derived.Test.YtojepeefphbekaaGreatMovesJ
import Derived.ProofKit
import Derived.OpenShut
import Derived.ShutString
import Derived.ChangeOld
import Derived.Below
import Derived.Deep.Slices
import Derived.Deep.Fields
import Derived.SizedLaws
namespace Go.Proofs.YtojepeefphbekaaGreat
open Go.RowKit Go.ChangeShapes Go.WideShapes Go.ChangeAt Go.Deep


theorem Tryz.own : ownKnob Tryz.prog.godebug = none := by kernel_rfl
theorem Tryz.laidOut : laidOutB Tryz.prog = true := by kernel_rfl
theorem Tryz.cells28 : Tryz.prog.cellsOf 28 = 5 := by kernel_rfl
theorem Tryz.bytes28 : Tryz.prog.bytesOf 28 = 32 := by kernel_rfl
theorem Tryz.cells2m : Tryz.prog.cellsOf 2 = 1 := by kernel_rfl
theorem Tryz.cells3m : Tryz.prog.cellsOf 3 = 1 := by kernel_rfl
theorem Tryz.cells4m : Tryz.prog.cellsOf 4 = 1 := by kernel_rfl
/-- A move's cells, opened. -/
theorem open_five {H : Type} {enc : TypeId × Value → H} {W : World} {base : Nat} {spare : Nat → Bool} {held : Bool} {n : Nat} {c0 c1 c2 c3 c4 : Value} {x : DataW H × List MemPlace}
    (h : DataW.trod enc Tryz.prog W base spare held n 28 [c0, c1, c2, c3, c4] = some x) : ∃ m : Mv, c0 = .int .i64 m.key ∧ c1 = .bool m.fin ∧ c2 = .bool m.both ∧ c3 = .int .i64 m.c ∧ c4 = .int .i64 m.k := by
  obtain ⟨xs, m, _, hx, _, hxs, g⟩ := DataW.trod_struct Tryz.underlying28 h
  match xs, hxs with
  | [y0, y1, y2, y3, y4], _ =>
    have g0 : DataW.trod enc Tryz.prog W base spare held m 3 [c0] = some y0 := by have := g 0 _ rfl; simpa [Tryz.cells3m] using this
    have g1 : DataW.trod enc Tryz.prog W base spare held m 4 [c1] = some y1 := by have := g 1 _ rfl; simpa [Tryz.cells4m] using this
    have g2 : DataW.trod enc Tryz.prog W base spare held m 4 [c2] = some y2 := by have := g 2 _ rfl; simpa [Tryz.cells4m] using this
    have g3 : DataW.trod enc Tryz.prog W base spare held m 2 [c3] = some y3 := by have := g 3 _ rfl; simpa [Tryz.cells2m] using this
    have g4 : DataW.trod enc Tryz.prog W base spare held m 3 [c4] = some y4 := by have := g 4 _ rfl; simpa [Tryz.cells3m] using this
    obtain ⟨a0, e0, _, _⟩ := DataW.trod_int Tryz.underlying3 g0
    obtain ⟨a1, e1, _⟩ := DataW.trod_bool Tryz.underlying4 g1
    obtain ⟨a2, e2, _⟩ := DataW.trod_bool Tryz.underlying4 g2
    obtain ⟨a3, e3, _, _⟩ := DataW.trod_int Tryz.underlying2 g3
    obtain ⟨a4, e4, _, _⟩ := DataW.trod_int Tryz.underlying3 g4
    simp at e0 e1 e2 e3 e4
    exact ⟨⟨a0, a1, a2, a3, a4⟩, e0, e1, e2, e3, e4⟩
/-- A list of moves, opened. -/
theorem open_moves {H : Type} {enc : TypeId × Value → H} {W : World} {a : Option Addr} {len cap fuel : Nat} {x : DataW H × List MemPlace}
    (h : DataW.trod enc Tryz.prog W 0 (fun _ => true) true fuel 22 [.slice a len cap] = some x) : ∃ l, MReads W a len cap l ∧ (len = 0 ∨ ∃ els sp, x.1 = .slice els sp ∧ len ≤ els.length + sp.length) := by
  rcases open_slice Tryz.underlying22 h with ⟨hcs, _⟩ | ⟨ad, l', c', m, n, D, Pl, hcs, _, hl, hm, hmm, hx, hel⟩
  · simp at hcs
    obtain ⟨rfl, rfl, rfl⟩ := hcs
    exact ⟨[], ⟨rfl, Nat.le_refl _, by unfold maxLen; omega, fun q => absurd q (by omega)⟩, .inl rfl⟩
  · simp at hcs
    obtain ⟨rfl, rfl, rfl⟩ := hcs
    have hmm : m = cap := by simpa using hmm
    rw [Tryz.cells28] at hel
    haveI : Inhabited Mv := ⟨Mv.zero⟩
    obtain ⟨O, hO⟩ := choose_lt (n := len) (p := fun i (t : Mv) => W.cell? ((ad.add (i * 5)).add 0) = some (.int .i64 t.key) ∧ W.cell? ((ad.add (i * 5)).add 1) = some (.bool t.fin) ∧ W.cell? ((ad.add (i * 5)).add 2) = some (.bool t.both) ∧ W.cell? ((ad.add (i * 5)).add 3) = some (.int .i64 t.c) ∧ W.cell? ((ad.add (i * 5)).add 4) = some (.int .i64 t.k)) (fun i hi => by
      obtain ⟨cs', h1, h2⟩ := hel i (by omega)
      obtain ⟨_, hlen, hc⟩ := World.cells?_some h1
      match cs', hlen with
      | [c0, c1, c2, c3, c4], _ =>
        obtain ⟨t, rfl, rfl, rfl, rfl, rfl⟩ := open_five h2
        exact ⟨t, hc 0 (by omega), hc 1 (by omega), hc 2 (by omega), hc 3 (by omega), hc 4 (by omega)⟩)
    refine ⟨(List.range len).map O, ⟨by simp, hl, hm, fun q => ?_⟩, ?_⟩
    · obtain ⟨b, off, spot⟩ := ad
      have hs : spot = none := by
        have := (hO 0 q).1
        have := World.cell?_spot this
        simpa [Addr.add] using this
      subst hs
      refine ⟨b, off, rfl, fun i hi => ?_⟩
      have e : ((List.range len).map O).getD i Mv.zero = O i := by
        rw [List.getD_eq_getElem?_getD]
        simp [hi]
      obtain ⟨h0, h1, h2, h3, h4⟩ := hO i hi
      rw [e]
      rw [Addr.add_none, Addr.add_none] at h0 h1 h2 h3 h4
      exact ⟨h0, h1, h2, h3, h4⟩
    · right
      rw [hx]
      refine ⟨_, _, rfl, ?_⟩
      simp
theorem kept_below0 {w w' : World} (K : Kept (fun _ => False) w w') : Below w.heap.size w w' := ⟨K.os, K.tape, K.output, K.size, fun k hk => K.block k hk (fun q => q)⟩
end Go.Proofs.YtojepeefphbekaaGreat

namespace Go.Proofs.YtojepeefphbekaaGreat
open Go.RowKit Go.ChangeShapes Go.WideShapes Go.ChangeAt Go.Deep

/-- What is left: the walk. -/
def HoldsWalk : Prop := ∀ (d : Int) (a : Option Addr) (len cap : Nat) (l : List Mv) (w : World), MReads w a len cap l → len ≤ 4398046510976 → Calls Tryz.prog 4 #[.int .i64 d, .slice a len cap] w fun o w' => o = .returned (.bool true) ∧ Kept (fun _ => False) w w'
set_option maxRecDepth 100000 in
theorem tableHolds_lifted (walk : HoldsWalk) (os : Os) (started : os.Started) (H : Type) (enc : TypeId × Value → H) :
    ReturnsInHanded {} Tryz.checked os 4 .any (Rows.tableHoldsSpec.pre6 enc Tryz.prog Tryz.f4 Rows.tableHoldsRow.domain false) (Rows.tableHoldsSpec.post enc Tryz.prog Tryz.f4 false true false false) := by
  refine returnsInHanded_of_change_sized (C := Tryz.checked) Tryz.own started (by kernel_rfl) Tryz.func4
    (ChangeSpec.witness6 (enc := enc) (C := Tryz.checked) false ⟨#[], #[.int .i64 0, .slice none 0 0], []⟩ 8 (by kernel_rfl) (by kernel_rfl) (by kernel_rfl) (by kernel_rfl)) ?_
  intro W base args ds gs before hval0 hW _ hsz0 _
  have hval : ∀ (j : Nat) t v, Tryz.f4.params[j]? = some t → args[j]? = some v → Value.okWide Tryz.prog W .any base t v := hval0
  have hsz : (DataW.weightsEach Tryz.prog (Tryz.f4.params.toList ++ Rows.tableHoldsSpec.plain.varTypes Tryz.prog) (ds ++ gs)).all (· ≤ reachBytes) = true := hsz0
  have hW' := hW
  obtain ⟨p, q, hA0, hV, rfl, _, _⟩ := hW
  have hA : DataW.TrodAll enc Tryz.prog W 0 (fun _ => true) true Tryz.f4.params.toList args.toList ds p := hA0
  rw [Tryz.params4] at hA hval hsz
  obtain ⟨v1, v2, d1, d2, p1, p2, rfl, rfl, rfl, h1, h2⟩ := trodAll_two hA
  obtain ⟨rfl, rfl⟩ := trodVars_none hV
  have k1 := h1
  have k2 := h2
  have lt1 : ∀ x ∈ p1, x.block < W.heap.size := by obtain ⟨m, hm⟩ := k1; exact DataW.trod_lt m _ _ _ hm
  have lt2 : ∀ x ∈ p2, x.block < W.heap.size := by obtain ⟨m, hm⟩ := k2; exact DataW.trod_lt m _ _ _ hm
  obtain ⟨d, rfl⟩ := okWide_int Tryz.underlying3 (hval 0 3 v1 rfl rfl)
  obtain ⟨a2, len2, cap2, rfl⟩ := okWide_slice Tryz.underlying22 (hval 1 22 v2 rfl rfl)
  obtain ⟨fuel2, hf2⟩ := h2
  obtain ⟨l2, r2, c2⟩ := open_moves hf2
  have z2 : len2 * 32 ≤ 140737488351232 := by
    rcases c2 with c | ⟨els, sp, e, hl⟩
    · rw [c]; decide
    · have e : d2 = .slice els sp := e
      subst e
      have := sized_slice hsz (j := 1) (t := 22) (e := 28) rfl rfl Tryz.underlying22
      rw [Tryz.bytes28] at this
      simp only [reachBytes] at this
      have h2 : len2 * 32 ≤ (els.length + sp.length) * 32 := Nat.mul_le_mul_right 32 hl
      first | exact Nat.le_trans h2 this | exact Nat.le_trans h2 (by rw [Nat.mul_comm]; exact this)
  clear hA0 hval0 hsz0 hsz
  refine (walk d a2 len2 cap2 l2 W r2 (by omega)).mono fun e W' ⟨he, K⟩ => ?_
  have bel := kept_below0 K
  subst he
  exact ⟨_, rfl, _, _, _, [], _, [], hW', trodAll_mk1 (shut_bool Tryz.underlying4 _), trodAll_cons_mk (Below.trod Tryz.laidOut (by kernel_rfl) (of_decide_eq_true (by kernel_rfl)) k1 bel lt1) (trodAll_cons_mk (Below.trod Tryz.laidOut (by kernel_rfl) (of_decide_eq_true (by kernel_rfl)) k2 bel lt2) trodAll_mk0), rfl, bel.frame _, fun h => by cases h⟩
theorem tableHolds_of (walk : HoldsWalk) : Rows.TableHoldsSaid :=
  OpenClaim.holds_of_wide 4 Tryz.f4 rfl rfl rfl rfl rfl rfl rfl ⟨rfl, rfl, rfl, rfl, rfl⟩ rfl rfl rfl rfl rfl (by kernel_rfl) Tryz.func4 (by kernel_rfl)
    (of_decide_eq_true (by kernel_rfl)) (by unfold Func.isWrapper; first | (rw [if_pos (by decide +kernel)]; kernel_rfl) | (rw [if_neg (by decide +kernel)]; exact ⟨rfl, rfl⟩))
    (fun os started H enc _ => tableHolds_lifted walk os started H enc)
end Go.Proofs.YtojepeefphbekaaGreat
