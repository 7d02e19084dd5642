import Derived.Test.YtodmakcklacbfaaPAwakeJ
import Derived.Test.YtodmakcklacbfaaRows
import Derived.ProofKit
import Derived.OpenShut
import Derived.ShutString
import Derived.ChangeOld
import Derived.Below
import Derived.SizedLaws
import Derived.Deep.Slices
import Derived.Deep.Fields
import Derived.Test.YtodmakcklacbfaaPByTags
import Derived.Test.YtodmakcklacbfaaPByJ
namespace Go.Proofs.Ytodmakcklacbfaa
open Go.RowKit Go.ChangeShapes Go.WideShapes Go.ChangeAt Go.Deep

theorem Try.ownr : ownKnob Try.prog.godebug = none := by kernel_rfl
theorem Try.laidOutr : laidOutB Try.prog = true := by kernel_rfl
theorem kept_belowr {w w' : World} (K : Kept (fun _ => False) w w') : Below w.heap.size w w' := ⟨K.os, K.tape, K.output, K.size, fun k hk => K.block k hk (fun q => q)⟩
theorem Try.cw5 : Try.prog.cellsOf 5 = 1 := by kernel_rfl
theorem Try.cw2 : Try.prog.cellsOf 2 = 1 := by kernel_rfl
theorem Try.cw3 : Try.prog.cellsOf 3 = 1 := by kernel_rfl
theorem Try.cw4 : Try.prog.cellsOf 4 = 1 := by kernel_rfl
theorem Try.cw9 : Try.prog.cellsOf 9 = 1 := by kernel_rfl
theorem Try.cw30 : Try.prog.cellsOf 30 = 1 := by kernel_rfl
theorem Try.cw36 : Try.prog.cellsOf 36 = 1 := by kernel_rfl
theorem Try.cw35 : Try.prog.cellsOf 35 = 2 := by kernel_rfl
theorem Try.cw38 : Try.prog.cellsOf 38 = 11 := by kernel_rfl
theorem Try.bw38 : Try.prog.bytesOf 38 = 112 := by kernel_rfl
theorem Try.bw5 : Try.prog.bytesOf 5 = 1 := by kernel_rfl
/-- A slice of bytes that came in: what it reads as. -/
theorem open_bytesw {H : Type} {enc : TypeId × Value → H} {W : World} {a : Option Addr} {len cap fuel : Nat} {x : DataW H × List MemPlace}
    (h : DataW.trod enc Try.prog W 0 (fun _ => true) true fuel 36 [.slice a len cap] = some x) : ∃ l, Reads W a len cap l := by
  rcases open_ints Try.underlying36 Try.underlying5 Try.cw5 h with ⟨hcs, _⟩ | ⟨ad, l', c', zs, hcs, _, hl, hm, hz, hx, hcell, hwz⟩
  · simp at hcs
    obtain ⟨rfl, rfl, rfl⟩ := hcs
    exact ⟨[], ⟨rfl, Nat.le_refl _, by unfold maxLen; omega, fun _ h => absurd h (by simp), fun h => absurd h (by omega)⟩⟩
  · simp at hcs
    obtain ⟨rfl, rfl, rfl⟩ := hcs
    have hz' : zs.length = cap := by simpa using hz
    refine ⟨(zs.take len).map Int.toNat, ⟨by rw [List.length_map, List.length_take]; omega, hl, hm, fun c hc => ?_, fun h0 => ?_⟩⟩
    · obtain ⟨z, hz1, rfl⟩ := List.mem_map.1 hc
      have := bounds_u8 (hwz z (List.mem_of_mem_take hz1))
      omega
    · obtain ⟨b, off, spot⟩ := ad
      have c0 := hcell 0 (by omega)
      have hs : spot = none := by simpa [Addr.add] using World.cell?_spot c0
      subst hs
      refine ⟨b, off, rfl, fun i hi => ?_⟩
      have ci := hcell i (by omega)
      rw [Addr.add_none] at ci
      rw [ci]
      have e1 : zs.getD i 0 = zs[i]'(by omega) := by rw [List.getD_eq_getElem?_getD, List.getElem?_eq_getElem (by omega)]; rfl
      have e2 : ((zs.take len).map Int.toNat).getD i 0 = (zs[i]'(by omega)).toNat := by
        rw [List.getD_eq_getElem?_getD, List.getElem?_map, List.getElem?_take_of_lt hi, List.getElem?_eq_getElem (by omega)]; rfl
      have bd := bounds_u8 (hwz (zs[i]'(by omega)) (List.getElem_mem _))
      rw [e1, e2, Int.toNat_of_nonneg bd.1]
/-- A slice of bytes that came in, and how wide its datum is. -/
theorem open_widew {H : Type} {enc : TypeId × Value → H} {W : World} {a : Option Addr} {len cap fuel : Nat} {x : DataW H × List MemPlace}
    (h : DataW.trod enc Try.prog W 0 (fun _ => true) true fuel 36 [.slice a len cap] = some x) : (cap = 0) ∨ ∃ els sp, x.1 = .slice els sp ∧ els.length + sp.length = cap := by
  rcases open_ints Try.underlying36 Try.underlying5 Try.cw5 h with ⟨hcs, _⟩ | ⟨ad, l', c', zs, hcs, _, hl, hm, hz, hx, hcell, hwz⟩
  · simp at hcs
    exact .inl hcs.2.2
  · simp at hcs
    obtain ⟨rfl, rfl, rfl⟩ := hcs
    have hz' : zs.length = cap := by simpa using hz
    exact .inr ⟨_, _, by rw [hx], by simp [lits]; omega⟩
theorem slice_formw {H : Type} {enc : TypeId × Value → H} {P : Program} {w : World} {base : Nat} {spare : Nat → Bool} {held : Bool} {t e : TypeId} {fuel : Nat} {v : Value} {x : DataW H × List MemPlace} (ht : P.underlying t = some (.slice e)) (h : DataW.trod enc P w base spare held fuel t [v] = some x) :
    ∃ a len cap, v = .slice a len cap := by
  rcases DataW.trod_slice ht h with ⟨q, _⟩ | ⟨a, len, cap, _, _, _, _, q, _⟩
  · simp at q; exact ⟨none, 0, 0, q⟩
  · simp at q; exact ⟨some a, len, cap, q⟩
theorem open_tagw {H : Type} {enc : TypeId × Value → H} {W : World} {n : Nat} {c0 c1 : Value} {x : DataW H × List MemPlace} (h : DataW.trod enc Try.prog W 0 (fun _ => true) true n 35 [c0, c1] = some x) : ∃ a b : Int, c0 = .int .i64 a ∧ c1 = .int .i64 b ∧ KI b := by
  obtain ⟨xs, m, _, hx, _, hxs, g⟩ := DataW.trod_struct Try.underlying35 h
  match xs, hxs with
  | [y0, y1], _ =>
    have g0 : DataW.trod enc Try.prog W 0 (fun _ => true) true m 2 [c0] = some y0 := by have := g 0 _ rfl; simpa [Try.cw2] using this
    have g1 : DataW.trod enc Try.prog W 0 (fun _ => true) true m 3 [c1] = some y1 := by have := g 1 _ rfl; simpa [Try.cw3] using this
    obtain ⟨a, e0, _, wa⟩ := DataW.trod_int Try.underlying2 g0
    obtain ⟨b, e1, _, wb⟩ := DataW.trod_int Try.underlying3 g1
    simp at e0 e1
    exact ⟨a, b, e0, e1, (wf_i64 b).1 wb⟩
theorem all_memw {l : List Nat} (h : l.all (· ≤ reachBytes) = true) {x : Nat} (hx : x ∈ l) : x ≤ reachBytes := by
  have := List.all_eq_true.1 h x hx
  simpa using this
set_option maxRecDepth 100000 in
/-- A call that came in. -/
theorem open_callw {H : Type} {enc : TypeId × Value → H} {W : World} {n : Nat} {c0 c1 c2 c3 c4 c5 c6 c7 c8 c9 c10 : Value} {x : DataW H × List MemPlace} (h : DataW.trod enc Try.prog W 0 (fun _ => true) true n 38 [c0, c1, c2, c3, c4, c5, c6, c7, c8, c9, c10] = some x) :
    ∃ m : Cm, #[c0, c1, c2, c3, c4, c5, c6, c7, c8, c9, c10] = m.cs ∧ Reads W m.va m.vn m.vc m.val ∧ (KI m.client ∧ KI m.ty) ∧ ((∀ t ∈ x.1.weights Try.prog 38, t ≤ reachBytes) → m.vn ≤ reachBytes) := by
  obtain ⟨xs, m, _, hx, _, hxs, g⟩ := DataW.trod_struct Try.underlying38 h
  match xs, hxs with
  | [y0, y1, y2, y3, y4, y5, y6, y7, y8, y9], _ =>
    have g0 : DataW.trod enc Try.prog W 0 (fun _ => true) true m 3 [c0] = some y0 := by have := g 0 _ rfl; simpa [Try.cw3] using this
    have g1 : DataW.trod enc Try.prog W 0 (fun _ => true) true m 2 [c1] = some y1 := by have := g 1 _ rfl; simpa [Try.cw2] using this
    have g2 : DataW.trod enc Try.prog W 0 (fun _ => true) true m 4 [c2] = some y2 := by have := g 2 _ rfl; simpa [Try.cw4] using this
    have g3 : DataW.trod enc Try.prog W 0 (fun _ => true) true m 9 [c3] = some y3 := by have := g 3 _ rfl; simpa [Try.cw9] using this
    have g4 : DataW.trod enc Try.prog W 0 (fun _ => true) true m 36 [c4] = some y4 := by have := g 4 _ rfl; simpa [Try.cw36] using this
    have g5 : DataW.trod enc Try.prog W 0 (fun _ => true) true m 30 [c5] = some y5 := by have := g 5 _ rfl; simpa [Try.cw30] using this
    have g6 : DataW.trod enc Try.prog W 0 (fun _ => true) true m 3 [c6] = some y6 := by have := g 6 _ rfl; simpa [Try.cw3] using this
    have g7 : DataW.trod enc Try.prog W 0 (fun _ => true) true m 3 [c7] = some y7 := by have := g 7 _ rfl; simpa [Try.cw3] using this
    have g8 : DataW.trod enc Try.prog W 0 (fun _ => true) true m 4 [c8] = some y8 := by have := g 8 _ rfl; simpa [Try.cw4] using this
    have g9 : DataW.trod enc Try.prog W 0 (fun _ => true) true m 35 [c9, c10] = some y9 := by have := g 9 _ rfl; simpa [Try.cw35] using this
    obtain ⟨z0, e0, _, w0⟩ := DataW.trod_int Try.underlying3 g0
    obtain ⟨z1, e1, _, _⟩ := DataW.trod_int Try.underlying2 g1
    obtain ⟨b2, e2, _⟩ := DataW.trod_bool Try.underlying4 g2
    obtain ⟨s, e3, _, hs⟩ := DataW.trod_string Try.underlying9 g3
    obtain ⟨a, dl, dc, rfl⟩ := slice_formw Try.underlying36 g4
    obtain ⟨z5, e5, _, _⟩ := DataW.trod_int Try.underlying30 g5
    obtain ⟨z6, e6, _, _⟩ := DataW.trod_int Try.underlying3 g6
    obtain ⟨z7, e7, _, _⟩ := DataW.trod_int Try.underlying3 g7
    obtain ⟨b8, e8, _⟩ := DataW.trod_bool Try.underlying4 g8
    obtain ⟨tx, ty, rfl, rfl, w9⟩ := open_tagw g9
    simp at e0 e1 e2 e3 e5 e6 e7 e8
    subst e0 e1 e2 e3 e5 e6 e7 e8
    obtain ⟨l, rd⟩ := open_bytesw g4
    refine ⟨⟨z0, z1, b2, s, a, dl, dc, z5, z6, z7, b8, tx, ty, l⟩, rfl, rd, ⟨(wf_i64 z0).1 w0, w9⟩, fun hw => ?_⟩
    have hr := rd.room
    show dl ≤ reachBytes
    rcases open_widew g4 with z | ⟨els, sp, e, hl⟩
    · have : dl = 0 := by omega
      rw [this]; exact Nat.zero_le _
    · have hm : (els.length + sp.length) * Try.prog.bytesOf 5 ∈ y4.1.weights Try.prog 36 := by rw [e]; simp [DataW.weights, Try.underlying36]
      have hm2 : (els.length + sp.length) * Try.prog.bytesOf 5 ∈ x.1.weights Try.prog 38 := by
        rw [hx]
        simp only [DataW.weights, Try.underlying38]
        exact DataW.weights_mem_each (j := 4) (t := 36) (d := y4.1) rfl rfl _ hm
      have := hw _ hm2
      rw [Try.bw5] at this
      omega
theorem weights_allw {H : Type} {P : Program} {e : TypeId} : ∀ {l : List (DataW H)} {d : DataW H}, d ∈ l → ∀ t ∈ d.weights P e, t ∈ DataW.weightsAll P e l
  | a :: r, d, h, t, ht => by
    simp only [DataW.weightsAll]
    rcases List.mem_cons.1 h with z | z
    · rw [← z]; exact List.mem_append_left _ ht
    · exact List.mem_append_right _ (weights_allw z t ht)
set_option maxRecDepth 100000 in
/-- A list of calls, opened. -/
theorem open_callsw {H : Type} {enc : TypeId × Value → H} {W : World} {a : Option Addr} {len cap fuel : Nat} {x : DataW H × List MemPlace}
    (h : DataW.trod enc Try.prog W 0 (fun _ => true) true fuel 27 [.slice a len cap] = some x) (hw : ∀ t ∈ x.1.weights Try.prog 27, t ≤ reachBytes) : ∃ ms, CRd W a len cap ms ∧ (∀ m ∈ ms, m.vn + 1 ≤ 140737488355328 ∧ KI m.client ∧ KI m.ty) ∧ len * 112 ≤ reachBytes := by
  rcases open_slice Try.underlying27 h with ⟨hcs, _⟩ | ⟨ad, l', c', m, n, D, Pl, hcs, _, hl, hm, hmm, hx, hel⟩
  · simp at hcs
    obtain ⟨rfl, rfl, rfl⟩ := hcs
    exact ⟨[], ⟨rfl, Nat.le_refl _, by unfold maxLen; omega, fun q => absurd q (by omega), fun _ h => absurd h (by simp)⟩, fun _ h => absurd h (by simp), Nat.zero_le _⟩
  · simp at hcs
    obtain ⟨rfl, rfl, rfl⟩ := hcs
    have hmm : m = cap := by simpa using hmm
    rw [Try.cw38] at hel
    haveI : Inhabited Cm := ⟨awA 0⟩
    have hw1 : ∀ i, i < len → ∀ t ∈ (D i).weights Try.prog 38, t ≤ reachBytes := fun i hi t ht => hw t (by
      rw [hx]
      simp only [DataW.weights, Try.underlying27]
      have : t ∈ DataW.weightsAll Try.prog 38 ((List.range len).map D) := weights_allw (List.mem_map.2 ⟨i, List.mem_range.2 hi, rfl⟩) t ht
      simp [this])
    obtain ⟨O, hO⟩ := choose_lt (n := len) (p := fun i (o : Cm) => (∀ c v, (o.cs)[c]? = some v → W.cell? ((ad.add (i * 11)).add c) = some v) ∧ Reads W o.va o.vn o.vc o.val ∧ o.vn + 1 ≤ 140737488355328 ∧ KI o.client ∧ KI o.ty) (fun i hi => by
      obtain ⟨cs', h1, h2⟩ := hel i (by omega)
      obtain ⟨_, hlen, hc⟩ := World.cells?_some h1
      match cs', hlen, hc, h2 with
      | [c0, c1, c2, c3, c4, c5, c6, c7, c8, c9, c10], hlen, hc, h2 =>
        obtain ⟨o, eo, rd, kk, hdl⟩ := open_callw h2
        have hd := hdl (hw1 i hi)
        simp only [reachBytes] at hd
        refine ⟨o, fun c v hv => ?_, rd, by omega, kk⟩
        rw [← eo] at hv
        have hv : ([c0, c1, c2, c3, c4, c5, c6, c7, c8, c9, c10] : List Value)[c]? = some v := by
          rw [← hv, ← Array.getElem?_toList]
        obtain ⟨hlt, _⟩ := List.getElem?_eq_some_iff.1 hv
        exact (hc c (by simpa using hlt)).trans hv)
    refine ⟨(List.range len).map O, ⟨by simp, hl, hm, fun h0 => ?_, fun s hs => ?_⟩, fun s hs => ?_, ?_⟩
    · obtain ⟨b, off, spot⟩ := ad
      have h1 := (hO 0 h0).1 0 _ rfl
      have hs : spot = none := by
        have := World.cell?_spot h1
        simpa [Addr.add] using this
      subst hs
      refine ⟨b, off, rfl, fun i hi c v hv => ?_⟩
      have := (hO i (by simpa using hi)).1 c v (by simpa using hv)
      rw [Addr.add_none, Addr.add_none] at this
      exact this
    · obtain ⟨i, hi, rfl⟩ := List.mem_map.1 hs
      exact (hO i (by simpa using hi)).2.1
    · obtain ⟨i, hi, rfl⟩ := List.mem_map.1 hs
      exact (hO i (by simpa using hi)).2.2
    · have : (len + (m - len)) * 112 ≤ reachBytes := hw _ (by
        rw [hx]
        simp [DataW.weights, Try.underlying27, Try.bw38])
      omega
/-- A list of numbers that came in. -/
theorem open_nums {H : Type} {enc : TypeId × Value → H} {W : World} {a : Option Addr} {len cap fuel : Nat} {x : DataW H × List MemPlace}
    (h : DataW.trod enc Try.prog W 0 (fun _ => true) true fuel 22 [.slice a len cap] = some x) : ∃ R, IRd W a len cap R := by
  rcases open_ints Try.underlying22 Try.underlying3 Try.cw3 h with ⟨hcs, _⟩ | ⟨ad, l', c', zs, hcs, _, hl, hm, hz, hx, hcell, hwz⟩
  · simp at hcs
    obtain ⟨rfl, rfl, rfl⟩ := hcs
    exact ⟨[], ⟨rfl, Nat.le_refl _, by unfold maxLen; omega, fun h => absurd h (by omega)⟩⟩
  · simp at hcs
    obtain ⟨rfl, rfl, rfl⟩ := hcs
    have hz' : zs.length = cap := by simpa using hz
    refine ⟨zs.take len, ⟨by rw [List.length_take]; omega, hl, hm, fun h0 => ?_⟩⟩
    obtain ⟨b, off, spot⟩ := ad
    have c0 := hcell 0 (by omega)
    have hs : spot = none := by simpa [Addr.add] using World.cell?_spot c0
    subst hs
    refine ⟨b, off, rfl, fun i y hy => ?_⟩
    have hi : i < len := by
      have := (List.getElem?_eq_some_iff.1 hy).1
      rw [List.length_take] at this
      omega
    have ci := hcell i (by omega)
    rw [Addr.add_none] at ci
    rw [ci]
    rw [List.getElem?_take_of_lt hi, List.getElem?_eq_getElem (by omega)] at hy
    have hy := Option.some.inj hy
    rw [List.getD_eq_getElem?_getD, List.getElem?_eq_getElem (by omega), ← hy]
    rfl
end Go.Proofs.Ytodmakcklacbfaa

namespace Go.Proofs.Ytodmakcklacbfaa
open Go.RowKit Go.ChangeShapes Go.WideShapes Go.ChangeAt Go.Deep

set_option maxRecDepth 100000 in
theorem open_callsv {H : Type} {enc : TypeId × Value → H} {W : World} {a : Option Addr} {len cap fuel : Nat} {x : DataW H × List MemPlace}
    (h : DataW.trod enc Try.prog W 0 (fun _ => true) true fuel 27 [.slice a len cap] = some x) (hw : ∀ t ∈ x.1.weights Try.prog 27, t ≤ reachBytes) : ∃ ms, CRd W a len cap ms ∧ (∀ m ∈ ms, m.vn + 8 ≤ 140737488355328 ∧ KI m.client ∧ KI m.ty) ∧ len * 112 ≤ reachBytes := by
  rcases open_slice Try.underlying27 h with ⟨hcs, _⟩ | ⟨ad, l', c', m, n, D, Pl, hcs, _, hl, hm, hmm, hx, hel⟩
  · simp at hcs
    obtain ⟨rfl, rfl, rfl⟩ := hcs
    exact ⟨[], ⟨rfl, Nat.le_refl _, by unfold maxLen; omega, fun q => absurd q (by omega), fun _ h => absurd h (by simp)⟩, fun _ h => absurd h (by simp), Nat.zero_le _⟩
  · simp at hcs
    obtain ⟨rfl, rfl, rfl⟩ := hcs
    have hmm : m = cap := by simpa using hmm
    rw [Try.cw38] at hel
    haveI : Inhabited Cm := ⟨awA 0⟩
    have hw1 : ∀ i, i < len → ∀ t ∈ (D i).weights Try.prog 38, t ≤ reachBytes := fun i hi t ht => hw t (by
      rw [hx]
      simp only [DataW.weights, Try.underlying27]
      have : t ∈ DataW.weightsAll Try.prog 38 ((List.range len).map D) := weights_allw (List.mem_map.2 ⟨i, List.mem_range.2 hi, rfl⟩) t ht
      simp [this])
    obtain ⟨O, hO⟩ := choose_lt (n := len) (p := fun i (o : Cm) => (∀ c v, (o.cs)[c]? = some v → W.cell? ((ad.add (i * 11)).add c) = some v) ∧ Reads W o.va o.vn o.vc o.val ∧ o.vn + 8 ≤ 140737488355328 ∧ KI o.client ∧ KI o.ty) (fun i hi => by
      obtain ⟨cs', h1, h2⟩ := hel i (by omega)
      obtain ⟨_, hlen, hc⟩ := World.cells?_some h1
      match cs', hlen, hc, h2 with
      | [c0, c1, c2, c3, c4, c5, c6, c7, c8, c9, c10], hlen, hc, h2 =>
        obtain ⟨o, eo, rd, kk, hdl⟩ := open_callw h2
        have hd := hdl (hw1 i hi)
        simp only [reachBytes] at hd
        refine ⟨o, fun c v hv => ?_, rd, by omega, kk⟩
        rw [← eo] at hv
        have hv : ([c0, c1, c2, c3, c4, c5, c6, c7, c8, c9, c10] : List Value)[c]? = some v := by
          rw [← hv, ← Array.getElem?_toList]
        obtain ⟨hlt, _⟩ := List.getElem?_eq_some_iff.1 hv
        exact (hc c (by simpa using hlt)).trans hv)
    refine ⟨(List.range len).map O, ⟨by simp, hl, hm, fun h0 => ?_, fun s hs => ?_⟩, fun s hs => ?_, ?_⟩
    · obtain ⟨b, off, spot⟩ := ad
      have h1 := (hO 0 h0).1 0 _ rfl
      have hs : spot = none := by
        have := World.cell?_spot h1
        simpa [Addr.add] using this
      subst hs
      refine ⟨b, off, rfl, fun i hi c v hv => ?_⟩
      have := (hO i (by simpa using hi)).1 c v (by simpa using hv)
      rw [Addr.add_none, Addr.add_none] at this
      exact this
    · obtain ⟨i, hi, rfl⟩ := List.mem_map.1 hs
      exact (hO i (by simpa using hi)).2.1
    · obtain ⟨i, hi, rfl⟩ := List.mem_map.1 hs
      exact (hO i (by simpa using hi)).2.2
    · have : (len + (m - len)) * 112 ≤ reachBytes := hw _ (by
        rw [hx]
        simp [DataW.weights, Try.underlying27, Try.bw38])
      omega
theorem Try.bw3v : Try.prog.bytesOf 3 = 8 := by kernel_rfl
/-- A list of numbers that came in, and how long it is. -/
theorem open_numsv {H : Type} {enc : TypeId × Value → H} {W : World} {a : Option Addr} {len cap fuel : Nat} {x : DataW H × List MemPlace}
    (h : DataW.trod enc Try.prog W 0 (fun _ => true) true fuel 22 [.slice a len cap] = some x) (hw : ∀ t ∈ x.1.weights Try.prog 22, t ≤ reachBytes) : len * 8 ≤ reachBytes := by
  rcases open_slice Try.underlying22 h with ⟨hcs, _⟩ | ⟨ad, l', c', m, n, D, Pl, hcs, _, hl, hm, hmm, hx, hel⟩
  · simp at hcs
    obtain ⟨rfl, rfl, rfl⟩ := hcs
    exact Nat.zero_le _
  · simp at hcs
    obtain ⟨rfl, rfl, rfl⟩ := hcs
    have hmm : m = cap := by simpa using hmm
    have : (len + (m - len)) * 8 ≤ reachBytes := hw _ (by
      rw [hx]
      simp [DataW.weights, Try.underlying22, Try.bw3v])
    omega
set_option maxRecDepth 100000 in
theorem all_lifted (walk : ∀ (a : Option Addr) (len cap : Nat) (ms : List Cm) (q : Option Addr) (k kc : Nat) (R : List Int) (w : World), CRd w a len cap ms → len ≤ 1300000000000 → (∀ m ∈ ms, KI m.client) → (∀ m ∈ ms, KI m.ty) → (∀ m ∈ ms, m.vn + 8 ≤ 140737488355328) → IRd w q k kc R → k ≤ 17592186044416 → Calls Try.prog 6 #[.slice a len cap, .slice q k kc] w fun o w' => o = .returned (.bool true) ∧ Kept (fun _ => False) w w') (os : Os) (started : os.Started) (H : Type) (enc : TypeId × Value → H) :
    ReturnsInHanded {} Try.checked os 6 .any (Rows.orderAllSpec.pre6 enc Try.prog Try.f6 Rows.orderAllRow.domain false) (Rows.orderAllSpec.post enc Try.prog Try.f6 false true false false) := by
  refine returnsInHanded_of_change_sized (C := Try.checked) Try.ownr started (by kernel_rfl) Try.func6
    (ChangeSpec.witness6 (enc := enc) (C := Try.checked) false ⟨#[], #[.slice none 0 0, .slice none 0 0], []⟩ 8 (by kernel_rfl) (by kernel_rfl) (by kernel_rfl) (by kernel_rfl)) ?_
  intro W base args ds gs before hval0 hW _ hsz0 _
  have hval : ∀ (j : Nat) t v, Try.f6.params[j]? = some t → args[j]? = some v → Value.okWide Try.prog W .any base t v := hval0
  have hsz : (DataW.weightsEach Try.prog (Try.f6.params.toList ++ Rows.orderAllSpec.plain.varTypes Try.prog) (ds ++ gs)).all (· ≤ reachBytes) = true := hsz0
  have hW' := hW
  obtain ⟨p, q, hA0, hV, rfl, _, _⟩ := hW
  have hA : DataW.TrodAll enc Try.prog W 0 (fun _ => true) true Try.f6.params.toList args.toList ds p := hA0
  rw [Try.params6] at hA hval hsz
  obtain ⟨v1, v2, d1, d2, p1, p2, rfl, rfl, rfl, h1, h2⟩ := trodAll_two hA
  obtain ⟨rfl, rfl⟩ := trodVars_none hV
  have k1 := h1
  have k2 := h2
  have lt1 : ∀ x ∈ p1, x.block < W.heap.size := by obtain ⟨m, hm⟩ := k1; exact DataW.trod_lt m _ _ _ hm
  have lt2 : ∀ x ∈ p2, x.block < W.heap.size := by obtain ⟨m, hm⟩ := k2; exact DataW.trod_lt m _ _ _ hm
  obtain ⟨a2, len2, cap2, rfl⟩ := okWide_slice Try.underlying27 (hval 0 27 v1 rfl rfl)
  obtain ⟨a3, len3, cap3, rfl⟩ := okWide_slice Try.underlying22 (hval 1 22 v2 rfl rfl)
  obtain ⟨fuel2, hf2⟩ := h1
  obtain ⟨fuel3, hf3⟩ := h2
  obtain ⟨O, hO, z1, z2⟩ := open_callsv hf2 (fun t ht => all_memw hsz (DataW.weights_mem_each (j := 0) (t := 27) (d := d1) rfl rfl t ht))
  obtain ⟨R, hR⟩ := open_nums hf3
  have z3 := open_numsv hf3 (fun t ht => all_memw hsz (DataW.weights_mem_each (j := 1) (t := 22) (d := d2) rfl rfl t ht))
  clear hA0 hval0 hsz0 hsz
  simp only [reachBytes] at z2 z3
  refine (walk a2 len2 cap2 O a3 len3 cap3 R W hO (by omega) (fun m hm => (z1 m hm).2.1) (fun m hm => (z1 m hm).2.2) (fun m hm => (z1 m hm).1) hR (by omega)).mono fun e W' ⟨he, K⟩ => ?_
  have bel := kept_belowr K
  subst he
  exact ⟨_, rfl, _, _, _, [], _, [], hW', trodAll_mk1 (shut_bool Try.underlying4 _), (trodAll_cons_mk (Below.trod Try.laidOutr (by kernel_rfl) (of_decide_eq_true (by kernel_rfl)) k1 bel lt1) (trodAll_cons_mk (Below.trod Try.laidOutr (by kernel_rfl) (of_decide_eq_true (by kernel_rfl)) k2 bel lt2) trodAll_mk0)), rfl, bel.frame _, fun h => by cases h⟩
theorem all_of (walk : ∀ (a : Option Addr) (len cap : Nat) (ms : List Cm) (q : Option Addr) (k kc : Nat) (R : List Int) (w : World), CRd w a len cap ms → len ≤ 1300000000000 → (∀ m ∈ ms, KI m.client) → (∀ m ∈ ms, KI m.ty) → (∀ m ∈ ms, m.vn + 8 ≤ 140737488355328) → IRd w q k kc R → k ≤ 17592186044416 → Calls Try.prog 6 #[.slice a len cap, .slice q k kc] w fun o w' => o = .returned (.bool true) ∧ Kept (fun _ => False) w w') : Rows.OrderAllSaid :=
  OpenClaim.holds_of_wide 6 Try.f6 rfl rfl rfl rfl rfl rfl rfl ⟨rfl, rfl, rfl, rfl, rfl⟩ rfl rfl rfl rfl rfl (by kernel_rfl) Try.func6 (by kernel_rfl)
    (of_decide_eq_true (by kernel_rfl)) (by unfold Func.isWrapper; first | (rw [if_pos (by decide +kernel)]; kernel_rfl) | (rw [if_neg (by decide +kernel)]; exact ⟨rfl, rfl⟩))
    (fun os started H enc _ => all_lifted walk os started H enc)
end Go.Proofs.Ytodmakcklacbfaa

namespace Go.Proofs.Ytodmakcklacbfaa
open Go.RowKit Go.Shelf Go.Lib Go.Sort

/-- The Put's tag is below another one. -/
def tlt (a b : Cm) : Prop := a.tx < b.tx ∨ (a.tx = b.tx ∧ a.ty < b.ty)
/-- What stands behind the last Put fits it. -/
def SCond (ms : List Cm) (i : Nat) (l : Int) : Prop := ∀ m, ms[i]? = some m →
  (m.put = true → 0 ≤ l → ∀ q, ms[l.toNat]? = some q → q.opn = false → m.opn = false → tlt q m) ∧
  (m.put = false → m.st = 76 → l < 0) ∧
  (m.put = false → ¬ m.st = 76 → 0 ≤ l ∧ ∀ q, ms[l.toNat]? = some q → (q.opn = false → q.tx = m.tx ∧ q.ty = m.ty) ∧ (q.opn = true → (q.tx = 0 ∧ q.ty = 0) ∨ (q.tx = m.tx ∧ q.ty = m.ty)))
def nextL (ms : List Cm) (i : Nat) (l : Int) : Int := match ms[i]? with | some m => if m.put = true then (i : Int) else l | none => l
def lastL (ms : List Cm) : List Nat → Int → Int
  | [], l => l
  | i :: o, l => lastL ms o (nextL ms i l)
def SOk (ms : List Cm) : List Nat → Int → Prop
  | [], _ => True
  | i :: o, l => SCond ms i l ∧ SOk ms o (nextL ms i l)
theorem lastL_app (ms : List Cm) : ∀ (A B : List Nat) (l : Int), lastL ms (A ++ B) l = lastL ms B (lastL ms A l)
  | [], _, _ => rfl
  | a :: A, B, l => by
    rw [List.cons_append]
    exact lastL_app ms A B _
theorem sok_app (ms : List Cm) : ∀ (A B : List Nat) (l : Int), SOk ms A l → SOk ms B (lastL ms A l) → SOk ms (A ++ B) l
  | [], _, _, _, h => h
  | a :: A, B, l, h, h2 => by
    rw [List.cons_append]
    exact ⟨h.1, sok_app ms A B _ h.2 h2⟩
theorem sok_at (ms : List Cm) : ∀ {R : List Nat} {l : Int}, SOk ms R l → ∀ m r, R[m]? = some r → SCond ms r (lastL ms (R.take m) l)
  | [], _, _, m, r, hr => by simp at hr
  | a :: R, l, h, 0, r, hr => by
    have e : a = r := by simpa using hr
    subst e
    exact h.1
  | a :: R, l, h, m + 1, r, hr => by
    have := sok_at ms h.2 m r (by simpa using hr)
    rw [List.take_succ_cons]
    exact this
/-- Gets in a row leave the last Put as it is. -/
theorem gets_row (ms : List Cm) {l : Int} : ∀ {G : List Nat}, (∀ x ∈ G, ∃ m, ms[x]? = some m ∧ m.put = false ∧ SCond ms x l) → SOk ms G l ∧ lastL ms G l = l
  | [], _ => ⟨trivial, rfl⟩
  | x :: G, h => by
    obtain ⟨m, hm, hp, hc⟩ := h x (by simp)
    have e : nextL ms x l = l := by
      unfold nextL
      rw [hm]
      show (if m.put = true then (x : Int) else l) = l
      rw [hp]
      rfl
    obtain ⟨h1, h2⟩ := gets_row ms (l := l) (G := G) (fun y hy => h y (List.mem_cons_of_mem _ hy))
    refine ⟨⟨hc, by rw [e]; exact h1⟩, ?_⟩
    show lastL ms G (nextL ms x l) = l
    rw [e]
    exact h2
/-- On the way of the order by tags. -/
structure BI (ms : List Cm) (acc left : List Nat) (M : Int → Option Int) : Prop where
  nd : acc.Nodup
  pt : ∀ i ∈ acc, ∃ m, ms[i]? = some m ∧ m.cl.part = true
  ndl : left.Nodup
  tel : ∀ x ∈ left, ∃ m, ms[x]? = some m ∧ m.tells = true
  srt : left.Pairwise (fun x y => ¬ TagLt ms y x)
  ap : ∀ i ∈ acc, i ∉ left
  sil : ∀ key p, M key = some p → 0 ≤ p ∧ ∃ m, ms[p.toNat]? = some m ∧ m.put = true ∧ m.opn = true ∧ m.tx = 0 ∧ m.ty = 0 ∧ m.client = key
  sap : ∀ key p, M key = some p → p.toNat ∉ acc
  seq : SOk ms acc (-1)
  lst : lastL ms acc (-1) = -1 ∨ (0 ≤ lastL ms acc (-1) ∧ ∀ q, ms[(lastL ms acc (-1)).toNat]? = some q → q.opn = false → ∀ x ∈ left, ∀ m, ms[x]? = some m → tlt q m)
  must : ∀ i m, ms[i]? = some m → m.cl.must = true → i ∈ acc ∨ i ∈ left
theorem not_taglt {ms : List Cm} {x y : Nat} {a b : Cm} (ha : ms[x]? = some a) (hb : ms[y]? = some b) (h : ¬ TagLt ms y x) : a.tx < b.tx ∨ (a.tx = b.tx ∧ a.ty ≤ b.ty) := by
  by_cases z : a.tx < b.tx ∨ (a.tx = b.tx ∧ a.ty ≤ b.ty)
  · exact z
  · refine absurd (fun a' b' ha' hb' => ?_) h
    rw [hb] at ha'
    rw [ha] at hb'
    rw [← Option.some.inj ha', ← Option.some.inj hb']
    omega
end Go.Proofs.Ytodmakcklacbfaa
