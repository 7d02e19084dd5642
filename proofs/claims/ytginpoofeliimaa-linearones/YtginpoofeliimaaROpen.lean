import Derived.Test.YtginpoofeliimaaRLive
import Derived.Test.YtginpoofeliimaaRows
import Derived.ProofKit
import Derived.OpenShut
import Derived.ShutString
import Derived.ChangeOld
import Derived.Below
import Derived.SizedLaws
import Derived.Deep.Slices
import Derived.Deep.Fields
namespace Go.Proofs.Ytginpoofeliimaa
open Go.RowKit Go.ChangeShapes Go.WideShapes Go.ChangeAt Go.Deep

theorem Try.ownr : ownKnob Try.prog.godebug = none := by kernel_rfl
theorem Try.laidOutr : laidOutB Try.prog = true := by kernel_rfl
theorem Try.cr3 : Try.prog.cellsOf 3 = 1 := by kernel_rfl
theorem Try.cr4 : Try.prog.cellsOf 4 = 1 := by kernel_rfl
theorem Try.cr58 : Try.prog.cellsOf 58 = 6 := by kernel_rfl
set_option maxRecDepth 100000 in
/-- A turn that came in. -/
theorem open_turn {H : Type} {enc : TypeId × Value → H} {W : World} {n : Nat} {c0 c1 c2 c3 c4 c5 : Value} {x : DataW H × List MemPlace} (h : DataW.trod enc Try.prog W 0 (fun _ => true) true n 58 [c0, c1, c2, c3, c4, c5] = some x) : ∃ t : Tn, c0 = .bool t.put ∧ c1 = .int .i64 t.val ∧ c2 = .int .i64 t.early ∧ c3 = .int .i64 t.late ∧ c4 = .bool t.never ∧ c5 = .bool t.absent := by
  obtain ⟨xs, m, _, hx, _, hxs, g⟩ := DataW.trod_struct Try.underlying58 h
  match xs, hxs with
  | [y0, y1, y2, y3, y4, y5], _ =>
    have g0 : DataW.trod enc Try.prog W 0 (fun _ => true) true m 4 [c0] = some y0 := by have := g 0 _ rfl; simpa [Try.cr4] using this
    have g1 : DataW.trod enc Try.prog W 0 (fun _ => true) true m 3 [c1] = some y1 := by have := g 1 _ rfl; simpa [Try.cr3] using this
    have g2 : DataW.trod enc Try.prog W 0 (fun _ => true) true m 3 [c2] = some y2 := by have := g 2 _ rfl; simpa [Try.cr3] using this
    have g3 : DataW.trod enc Try.prog W 0 (fun _ => true) true m 3 [c3] = some y3 := by have := g 3 _ rfl; simpa [Try.cr3] using this
    have g4 : DataW.trod enc Try.prog W 0 (fun _ => true) true m 4 [c4] = some y4 := by have := g 4 _ rfl; simpa [Try.cr4] using this
    have g5 : DataW.trod enc Try.prog W 0 (fun _ => true) true m 4 [c5] = some y5 := by have := g 5 _ rfl; simpa [Try.cr4] using this
    obtain ⟨b0, e0, _⟩ := DataW.trod_bool Try.underlying4 g0
    obtain ⟨z1, e1, _, _⟩ := DataW.trod_int Try.underlying3 g1
    obtain ⟨z2, e2, _, _⟩ := DataW.trod_int Try.underlying3 g2
    obtain ⟨z3, e3, _, _⟩ := DataW.trod_int Try.underlying3 g3
    obtain ⟨b4, e4, _⟩ := DataW.trod_bool Try.underlying4 g4
    obtain ⟨b5, e5, _⟩ := DataW.trod_bool Try.underlying4 g5
    simp at e0 e1 e2 e3 e4 e5
    exact ⟨⟨b0, z1, z2, z3, b4, b5⟩, e0, e1, e2, e3, e4, e5⟩
set_option maxRecDepth 100000 in
/-- A list of turns, opened. -/
theorem open_turns {H : Type} {enc : TypeId × Value → H} {W : World} {a : Option Addr} {len cap fuel : Nat} {x : DataW H × List MemPlace}
    (h : DataW.trod enc Try.prog W 0 (fun _ => true) true fuel 39 [.slice a len cap] = some x) : ∃ ts, TRd W a len cap ts := by
  rcases open_slice Try.underlying39 h with ⟨hcs, _⟩ | ⟨ad, l', c', m, n, D, Pl, hcs, _, hl, hm, hmm, hx, hel⟩
  · simp at hcs
    obtain ⟨rfl, rfl, rfl⟩ := hcs
    exact ⟨[], ⟨rfl, Nat.le_refl _, by unfold maxLen; omega, fun q => absurd q (by omega)⟩⟩
  · simp at hcs
    obtain ⟨rfl, rfl, rfl⟩ := hcs
    have hmm : m = cap := by simpa using hmm
    rw [Try.cr58] at hel
    haveI : Inhabited Tn := ⟨⟨false, 0, 0, 0, false, false⟩⟩
    obtain ⟨O, hO⟩ := choose_lt (n := len) (p := fun i (o : Tn) => ∀ c v, (o.cs)[c]? = some v → W.cell? ((ad.add (i * 6)).add c) = some v) (fun i hi => by
      obtain ⟨cs', h1, h2⟩ := hel i (by omega)
      obtain ⟨_, hlen, hc⟩ := World.cells?_some h1
      match cs', hlen, hc, h2 with
      | [c0, c1, c2, c3, c4, c5], hlen, hc, h2 =>
        obtain ⟨t, e0, e1, e2, e3, e4, e5⟩ := open_turn h2
        refine ⟨t, fun c v hv => ?_⟩
        have hv : ([c0, c1, c2, c3, c4, c5] : List Value)[c]? = some v := by
          rw [e0, e1, e2, e3, e4, e5, ← hv, ← Array.getElem?_toList]
          rfl
        obtain ⟨hlt, _⟩ := List.getElem?_eq_some_iff.1 hv
        exact (hc c (by simpa using hlt)).trans hv)
    refine ⟨(List.range len).map O, ⟨by simp, hl, hm, fun h0 => ?_⟩⟩
    obtain ⟨b, off, spot⟩ := ad
    have h1 := hO 0 h0 0 _ rfl
    have hs : spot = none := by
      have := World.cell?_spot h1
      simpa [Addr.add] using this
    subst hs
    refine ⟨b, off, rfl, fun i hi c v hv => ?_⟩
    have := hO i (by simpa using hi) c v (by simpa using hv)
    rw [Addr.add_none, Addr.add_none] at this
    exact this
theorem kept_belowr {w w' : World} (K : Kept (fun _ => False) w w') : Below w.heap.size w w' := ⟨K.os, K.tape, K.output, K.size, fun k hk => K.block k hk (fun q => q)⟩
/-- What is left: the walk. -/
def RightWalk : Prop := ∀ (a : Option Addr) (len cap : Nat) (ts : List Tn) (w : World), TRd w a len cap ts → Calls Try.prog 4 #[.slice a len cap] w fun o w' => o = .returned (.bool true) ∧ Kept (fun _ => False) w w'
set_option maxRecDepth 100000 in
theorem right_lifted (walk : RightWalk) (os : Os) (started : os.Started) (H : Type) (enc : TypeId × Value → H) :
    ReturnsInHanded {} Try.checked os 4 .any (Rows.linearRightSpec.pre6 enc Try.prog Try.f4 Rows.linearRightRow.domain false) (Rows.linearRightSpec.post enc Try.prog Try.f4 false true false false) := by
  refine returnsInHanded_of_change_sized (C := Try.checked) Try.ownr started (by kernel_rfl) Try.func4
    (ChangeSpec.witness6 (enc := enc) (C := Try.checked) false ⟨#[], #[.slice none 0 0], []⟩ 8 (by kernel_rfl) (by kernel_rfl) (by kernel_rfl) (by kernel_rfl)) ?_
  intro W base args ds gs before hval0 hW _ hsz0 _
  have hval : ∀ (j : Nat) t v, Try.f4.params[j]? = some t → args[j]? = some v → Value.okWide Try.prog W .any base t v := hval0
  have hW' := hW
  obtain ⟨p, q, hA0, hV, rfl, _, _⟩ := hW
  have hA : DataW.TrodAll enc Try.prog W 0 (fun _ => true) true Try.f4.params.toList args.toList ds p := hA0
  rw [Try.params4] at hA hval
  obtain ⟨v1, d1, rfl, rfl, h1⟩ := trodAll_one hA
  obtain ⟨rfl, rfl⟩ := trodVars_none hV
  have k1 := h1
  have lt1 : ∀ x ∈ p, x.block < W.heap.size := by obtain ⟨m, hm⟩ := k1; exact DataW.trod_lt m _ _ _ hm
  obtain ⟨a2, len2, cap2, rfl⟩ := okWide_slice Try.underlying39 (hval 0 39 v1 rfl rfl)
  obtain ⟨fuel2, hf2⟩ := h1
  obtain ⟨O, hO⟩ := open_turns hf2
  clear hA0 hval0 hsz0
  refine (walk a2 len2 cap2 O W hO).mono fun e W' ⟨he, K⟩ => ?_
  have bel := kept_belowr K
  subst he
  exact ⟨_, rfl, _, _, _, [], _, [], hW', trodAll_mk1 (shut_bool Try.underlying4 _), trodAll_cons_mk (Below.trod Try.laidOutr (by kernel_rfl) (of_decide_eq_true (by kernel_rfl)) k1 bel lt1) trodAll_mk0, rfl, bel.frame _, fun h => by cases h⟩
theorem right_of (walk : RightWalk) : Rows.LinearRightSaid :=
  OpenClaim.holds_of_wide 4 Try.f4 rfl rfl rfl rfl rfl rfl rfl ⟨rfl, rfl, rfl, rfl, rfl⟩ rfl rfl rfl rfl rfl (by kernel_rfl) Try.func4 (by kernel_rfl)
    (of_decide_eq_true (by kernel_rfl)) (by unfold Func.isWrapper; first | (rw [if_pos (by decide +kernel)]; kernel_rfl) | (rw [if_neg (by decide +kernel)]; exact ⟨rfl, rfl⟩))
    (fun os started H enc _ => right_lifted walk os started H enc)
end Go.Proofs.Ytginpoofeliimaa
