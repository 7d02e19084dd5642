import Derived.Test.YtbangbobfeflcaaGreatDoorKLw
import Derived.Test.YtbangbobfeflcaaGreatDoorRows
import Derived.Test.YtbangbobfeflcaaGreatDoorTie
import Derived.Test.YtbangbobfeflcaaGreatDoorCards
import Derived.SizedLaws
import Derived.ChangeSame
import Derived.ChangeVars
import Derived.ChangeMaps5
import Derived.JoinedOf
import Derived.JoinedAt
import Derived.RowKit
import Derived.RowKit3
import Derived.RowKitTokens
import Derived.LaidLaws
import Derived.Lib.LaidTab
import Derived.Stop.LaidErr
import Derived.ProofKit
import Derived.OpenShut
import Derived.ShutString
import Derived.ChangeOld
import Derived.Below
import Derived.Deep.Slices
import Derived.Deep.Fields
import Derived.Deep.DeepHandedRow
import Derived.Deep.DeepWitnessRowRef
import Derived.Shelf.Vars
namespace Go.Proofs.YtbangbobfeflcaaGreatDoor
open Go.RowKit Go.ChangeShapes Go.WideShapes Go.ChangeAt Go.Deep

theorem Tryz.own : ownKnob Tryz.prog.godebug = none := by kernel_rfl
theorem Tryz.laidOut : laidOutB Tryz.prog = true := by kernel_rfl
theorem Tryz.cw2 : Tryz.prog.cellsOf 2 = 1 := by kernel_rfl
theorem Tryz.cw3 : Tryz.prog.cellsOf 3 = 1 := by kernel_rfl
theorem Tryz.cw4 : Tryz.prog.cellsOf 4 = 1 := by kernel_rfl
theorem Tryz.cw5 : Tryz.prog.cellsOf 5 = 1 := by kernel_rfl
theorem Tryz.cw9 : Tryz.prog.cellsOf 9 = 1 := by kernel_rfl
theorem Tryz.cw34 : Tryz.prog.cellsOf 34 = 1 := by kernel_rfl
theorem Tryz.cw35 : Tryz.prog.cellsOf 35 = 1 := by kernel_rfl
theorem Tryz.cw37 : Tryz.prog.cellsOf 37 = 2 := by kernel_rfl
theorem Tryz.cw39 : Tryz.prog.cellsOf 39 = 9 := by kernel_rfl
theorem Tryz.cells100 : Tryz.prog.cellsOf 100 = 4 := by kernel_rfl
theorem Tryz.cells132 : Tryz.prog.cellsOf 132 = 1 := by kernel_rfl
theorem Tryz.cells159 : Tryz.prog.cellsOf 159 = 20 := by kernel_rfl
theorem Tryz.bw39 : Tryz.prog.bytesOf 39 = 96 := by kernel_rfl
theorem Tryz.bw5 : Tryz.prog.bytesOf 5 = 1 := by kernel_rfl
theorem all_memw {l : List Nat} (h : l.all (· ≤ reachBytes) = true) {x : Nat} (hx : x ∈ l) : x ≤ reachBytes := by
  have := List.all_eq_true.1 h x hx
  simpa using this
/-- A slice of bytes that came in: what it reads as. -/
theorem open_bytesw {H : Type} {enc : TypeId × Value → H} {W : World} {a : Option Addr} {len cap fuel : Nat} {x : DataW H × List MemPlace}
    (h : DataW.trod enc Tryz.prog W 0 (fun _ => true) true fuel 34 [.slice a len cap] = some x) : ∃ l, Reads W a len cap l := by
  rcases open_ints Tryz.underlying34 Tryz.underlying5 Tryz.cw5 h with ⟨hcs, _⟩ | ⟨ad, l', c', zs, hcs, _, hl, hm, hz, hx, hcell, hwz⟩
  · simp at hcs
    obtain ⟨rfl, rfl, rfl⟩ := hcs
    exact ⟨[], ⟨rfl, Nat.le_refl _, by unfold maxLen; omega, fun _ h => absurd h (by simp), fun h => absurd h (by omega)⟩⟩
  · simp at hcs
    obtain ⟨rfl, rfl, rfl⟩ := hcs
    have hz' : zs.length = cap := by simpa using hz
    refine ⟨(zs.take len).map Int.toNat, ⟨by rw [List.length_map, List.length_take]; omega, hl, hm, fun c hc => ?_, fun h0 => ?_⟩⟩
    · obtain ⟨z, hz1, rfl⟩ := List.mem_map.1 hc
      have := bounds_u8 (hwz z (List.mem_of_mem_take hz1))
      omega
    · obtain ⟨b, off, spot⟩ := ad
      have c0 := hcell 0 (by omega)
      have hs : spot = none := by simpa [Addr.add] using World.cell?_spot c0
      subst hs
      refine ⟨b, off, rfl, fun i hi => ?_⟩
      have ci := hcell i (by omega)
      rw [Addr.add_none] at ci
      rw [ci]
      have e1 : zs.getD i 0 = zs[i]'(by omega) := by rw [List.getD_eq_getElem?_getD, List.getElem?_eq_getElem (by omega)]; rfl
      have e2 : ((zs.take len).map Int.toNat).getD i 0 = (zs[i]'(by omega)).toNat := by
        rw [List.getD_eq_getElem?_getD, List.getElem?_map, List.getElem?_take_of_lt hi, List.getElem?_eq_getElem (by omega)]; rfl
      have bd := bounds_u8 (hwz (zs[i]'(by omega)) (List.getElem_mem _))
      rw [e1, e2, Int.toNat_of_nonneg bd.1]
/-- A slice of bytes that came in, and how wide its datum is. -/
theorem open_widew {H : Type} {enc : TypeId × Value → H} {W : World} {a : Option Addr} {len cap fuel : Nat} {x : DataW H × List MemPlace}
    (h : DataW.trod enc Tryz.prog W 0 (fun _ => true) true fuel 34 [.slice a len cap] = some x) : (cap = 0) ∨ ∃ els sp, x.1 = .slice els sp ∧ els.length + sp.length = cap := by
  rcases open_ints Tryz.underlying34 Tryz.underlying5 Tryz.cw5 h with ⟨hcs, _⟩ | ⟨ad, l', c', zs, hcs, _, hl, hm, hz, hx, hcell, hwz⟩
  · simp at hcs
    exact .inl hcs.2.2
  · simp at hcs
    obtain ⟨rfl, rfl, rfl⟩ := hcs
    have hz' : zs.length = cap := by simpa using hz
    exact .inr ⟨_, _, by rw [hx], by simp [lits]; omega⟩
theorem slice_formw {H : Type} {enc : TypeId × Value → H} {P : Program} {w : World} {base : Nat} {spare : Nat → Bool} {held : Bool} {t e : TypeId} {fuel : Nat} {v : Value} {x : DataW H × List MemPlace} (ht : P.underlying t = some (.slice e)) (h : DataW.trod enc P w base spare held fuel t [v] = some x) :
    ∃ a len cap, v = .slice a len cap := by
  rcases DataW.trod_slice ht h with ⟨q, _⟩ | ⟨a, len, cap, _, _, _, _, q, _⟩
  · simp at q; exact ⟨none, 0, 0, q⟩
  · simp at q; exact ⟨some a, len, cap, q⟩
theorem open_tagw {H : Type} {enc : TypeId × Value → H} {W : World} {n : Nat} {c0 c1 : Value} {x : DataW H × List MemPlace} (h : DataW.trod enc Tryz.prog W 0 (fun _ => true) true n 37 [c0, c1] = some x) : ∃ a b : Int, c0 = .int .i64 a ∧ c1 = .int .i64 b ∧ KI b := by
  obtain ⟨xs, m, _, hx, _, hxs, g⟩ := DataW.trod_struct Tryz.underlying37 h
  match xs, hxs with
  | [y0, y1], _ =>
    have g0 : DataW.trod enc Tryz.prog W 0 (fun _ => true) true m 2 [c0] = some y0 := by have := g 0 _ rfl; simpa [Tryz.cw2] using this
    have g1 : DataW.trod enc Tryz.prog W 0 (fun _ => true) true m 3 [c1] = some y1 := by have := g 1 _ rfl; simpa [Tryz.cw3] using this
    obtain ⟨a, e0, _, wa⟩ := DataW.trod_int Tryz.underlying2 g0
    obtain ⟨b, e1, _, wb⟩ := DataW.trod_int Tryz.underlying3 g1
    simp at e0 e1
    exact ⟨a, b, e0, e1, (wf_i64 b).1 wb⟩
set_option maxRecDepth 100000 in
/-- An event that came in. -/
theorem open_eventw {H : Type} {enc : TypeId × Value → H} {W : World} {n : Nat} {c0 c1 c2 c3 c4 c5 c6 c7 c8 : Value} {x : DataW H × List MemPlace} (h : DataW.trod enc Tryz.prog W 0 (fun _ => true) true n 39 [c0, c1, c2, c3, c4, c5, c6, c7, c8] = some x) :
    ∃ m : Ev, #[c0, c1, c2, c3, c4, c5, c6, c7, c8] = m.cs ∧ Reads W m.va m.vn m.vc m.val ∧ strF m.key ∧ ((∀ t ∈ x.1.weights Tryz.prog 39, t ≤ reachBytes) → m.vn ≤ reachBytes) := by
  obtain ⟨xs, m, _, hx, _, hxs, g⟩ := DataW.trod_struct Tryz.underlying39 h
  match xs, hxs with
  | [y0, y1, y2, y3, y4, y5, y6, y7], _ =>
    have g0 : DataW.trod enc Tryz.prog W 0 (fun _ => true) true m 3 [c0] = some y0 := by have := g 0 _ rfl; simpa [Tryz.cw3] using this
    have g1 : DataW.trod enc Tryz.prog W 0 (fun _ => true) true m 3 [c1] = some y1 := by have := g 1 _ rfl; simpa [Tryz.cw3] using this
    have g2 : DataW.trod enc Tryz.prog W 0 (fun _ => true) true m 2 [c2] = some y2 := by have := g 2 _ rfl; simpa [Tryz.cw2] using this
    have g3 : DataW.trod enc Tryz.prog W 0 (fun _ => true) true m 4 [c3] = some y3 := by have := g 3 _ rfl; simpa [Tryz.cw4] using this
    have g4 : DataW.trod enc Tryz.prog W 0 (fun _ => true) true m 9 [c4] = some y4 := by have := g 4 _ rfl; simpa [Tryz.cw9] using this
    have g5 : DataW.trod enc Tryz.prog W 0 (fun _ => true) true m 34 [c5] = some y5 := by have := g 5 _ rfl; simpa [Tryz.cw34] using this
    have g6 : DataW.trod enc Tryz.prog W 0 (fun _ => true) true m 35 [c6] = some y6 := by have := g 6 _ rfl; simpa [Tryz.cw35] using this
    have g7 : DataW.trod enc Tryz.prog W 0 (fun _ => true) true m 37 [c7, c8] = some y7 := by have := g 7 _ rfl; simpa [Tryz.cw37] using this
    obtain ⟨z0, e0, _, _⟩ := DataW.trod_int Tryz.underlying3 g0
    obtain ⟨z1, e1, _, _⟩ := DataW.trod_int Tryz.underlying3 g1
    obtain ⟨z2, e2, _, _⟩ := DataW.trod_int Tryz.underlying2 g2
    obtain ⟨b3, e3, _⟩ := DataW.trod_bool Tryz.underlying4 g3
    obtain ⟨s, e4, _, hs⟩ := DataW.trod_string Tryz.underlying9 g4
    obtain ⟨a, dl, dc, rfl⟩ := slice_formw Tryz.underlying34 g5
    obtain ⟨z6, e6, _, _⟩ := DataW.trod_int Tryz.underlying35 g6
    obtain ⟨tx, ty, rfl, rfl, _⟩ := open_tagw g7
    simp at e0 e1 e2 e3 e4 e6
    subst e0 e1 e2 e3 e4 e6
    obtain ⟨l, rd⟩ := open_bytesw g5
    refine ⟨⟨z0, z1, z2, b3, s, a, dl, dc, z6, tx, ty, l⟩, rfl, rd, hs, fun hw => ?_⟩
    have hr := rd.room
    show dl ≤ reachBytes
    rcases open_widew g5 with z | ⟨els, sp, e, hl⟩
    · have : dl = 0 := by omega
      rw [this]; exact Nat.zero_le _
    · have hm : (els.length + sp.length) * Tryz.prog.bytesOf 5 ∈ y5.1.weights Tryz.prog 34 := by rw [e]; simp [DataW.weights, Tryz.underlying34]
      have hm2 : (els.length + sp.length) * Tryz.prog.bytesOf 5 ∈ x.1.weights Tryz.prog 39 := by
        rw [hx]
        simp only [DataW.weights, Tryz.underlying39]
        exact DataW.weights_mem_each (j := 5) (t := 34) (d := y5.1) rfl rfl _ hm
      have := hw _ hm2
      rw [Tryz.bw5] at this
      omega
theorem weights_allw {H : Type} {P : Program} {e : TypeId} : ∀ {l : List (DataW H)} {d : DataW H}, d ∈ l → ∀ t ∈ d.weights P e, t ∈ DataW.weightsAll P e l
  | a :: r, d, h, t, ht => by
    simp only [DataW.weightsAll]
    rcases List.mem_cons.1 h with z | z
    · rw [← z]; exact List.mem_append_left _ ht
    · exact List.mem_append_right _ (weights_allw z t ht)
set_option maxRecDepth 100000 in
/-- A list of events, opened. -/
theorem open_eventsw {H : Type} {enc : TypeId × Value → H} {W : World} {a : Option Addr} {len cap fuel : Nat} {x : DataW H × List MemPlace}
    (h : DataW.trod enc Tryz.prog W 0 (fun _ => true) true fuel 22 [.slice a len cap] = some x) (hw : ∀ t ∈ x.1.weights Tryz.prog 22, t ≤ reachBytes) : ∃ ms, ERd W a len cap ms ∧ (∀ m ∈ ms, m.vn + 1 ≤ 140737488355328 ∧ strF m.key) ∧ len * 96 ≤ reachBytes := by
  rcases open_slice Tryz.underlying22 h with ⟨hcs, _⟩ | ⟨ad, l', c', m, n, D, Pl, hcs, _, hl, hm, hmm, hx, hel⟩
  · simp at hcs
    obtain ⟨rfl, rfl, rfl⟩ := hcs
    exact ⟨[], ⟨rfl, Nat.le_refl _, by unfold maxLen; omega, fun q => absurd q (by omega), fun _ h => absurd h (by simp)⟩, fun _ h => absurd h (by simp), Nat.zero_le _⟩
  · simp at hcs
    obtain ⟨rfl, rfl, rfl⟩ := hcs
    have hmm : m = cap := by simpa using hmm
    rw [Tryz.cw39] at hel
    haveI : Inhabited Ev := ⟨⟨0, 0, 0, false, ⟨#[]⟩, none, 0, 0, 0, 0, 0, []⟩⟩
    have hw1 : ∀ i, i < len → ∀ t ∈ (D i).weights Tryz.prog 39, t ≤ reachBytes := fun i hi t ht => hw t (by
      rw [hx]
      simp only [DataW.weights, Tryz.underlying22]
      have : t ∈ DataW.weightsAll Tryz.prog 39 ((List.range len).map D) := weights_allw (List.mem_map.2 ⟨i, List.mem_range.2 hi, rfl⟩) t ht
      simp [this])
    obtain ⟨O, hO⟩ := choose_lt (n := len) (p := fun i (o : Ev) => (∀ c v, (o.cs)[c]? = some v → W.cell? ((ad.add (i * 9)).add c) = some v) ∧ Reads W o.va o.vn o.vc o.val ∧ o.vn + 1 ≤ 140737488355328 ∧ strF o.key) (fun i hi => by
      obtain ⟨cs', h1, h2⟩ := hel i (by omega)
      obtain ⟨_, hlen, hc⟩ := World.cells?_some h1
      match cs', hlen, hc, h2 with
      | [c0, c1, c2, c3, c4, c5, c6, c7, c8], hlen, hc, h2 =>
        obtain ⟨o, eo, rd, kk, hdl⟩ := open_eventw h2
        have hd := hdl (hw1 i hi)
        simp only [reachBytes] at hd
        refine ⟨o, fun c v hv => ?_, rd, by omega, kk⟩
        rw [← eo] at hv
        have hv : ([c0, c1, c2, c3, c4, c5, c6, c7, c8] : List Value)[c]? = some v := by
          rw [← hv, ← Array.getElem?_toList]
        obtain ⟨hlt, _⟩ := List.getElem?_eq_some_iff.1 hv
        exact (hc c (by simpa using hlt)).trans hv)
    refine ⟨(List.range len).map O, ⟨by simp, hl, hm, fun h0 => ?_, fun s hs => ?_⟩, fun s hs => ?_, ?_⟩
    · obtain ⟨b, off, spot⟩ := ad
      have h1 := (hO 0 h0).1 0 _ rfl
      have hs : spot = none := by
        have := World.cell?_spot h1
        simpa [Addr.add] using this
      subst hs
      refine ⟨b, off, rfl, fun i hi c v hv => ?_⟩
      have := (hO i (by simpa using hi)).1 c v (by simpa using hv)
      rw [Addr.add_none, Addr.add_none] at this
      exact this
    · obtain ⟨i, hi, rfl⟩ := List.mem_map.1 hs
      exact (hO i (by simpa using hi)).2.1
    · obtain ⟨i, hi, rfl⟩ := List.mem_map.1 hs
      exact (hO i (by simpa using hi)).2.2
    · have : (len + (m - len)) * 96 ≤ reachBytes := hw _ (by
        rw [hx]
        simp [DataW.weights, Tryz.underlying22, Tryz.bw39])
      omega
/-- An array of texts that reads as a list of texts has just these. -/
theorem cells_of_texts {H : Type} {enc : TypeId × Value → H} {P : Program} {w : World} {base : Nat} {sp : Nat → Bool} {held : Bool} {fuel : Nat} {t e : TypeId} {n : Nat} {cs : List Value} {ts : List (List UInt8)} {p : List MemPlace}
    (ht : P.underlying t = some (.array n e)) (he : P.underlying e = some .string) (hce : P.cellsOf e = 1) (hct : P.cellsOf t = n)
    (h : DataW.trod enc P w base sp held fuel t cs = some (DataW.agg (ts.map fun z => DataW.lit (Lit.string z)), p)) : ∀ (i : Nat) (z : List UInt8), ts[i]? = some z → cs[i]? = some (Value.string ⟨z.toArray⟩) := by
  cases fuel with
  | zero => simp [DataW.trod] at h
  | succ fuel =>
    simp only [DataW.trod, ht, hce, hct, Nat.mul_one] at h
    split at h
    · obtain ⟨xs, hm, hx⟩ := Option.map_eq_some_iff.1 h
      have hxs : xs.map (·.1) = ts.map fun z => (DataW.lit (Lit.string z) : DataW H) := by
        have := congrArg Prod.fst hx
        simpa using this
      have hxl : xs.length = n := by simpa using Lib.mapM_length hm
      intro i z hz
      have hi : i < n := by
        have := congrArg List.length hxs
        simp at this
        have := (List.getElem?_eq_some_iff.1 hz).1
        omega
      obtain ⟨b, hb, hf⟩ := Lib.mapM_at hm i i (by simp [hi])
      obtain ⟨s, hc, rfl, _⟩ := DataW.trod_string he hf
      have h1 : cs[i]? = some (.string s) := by
        have := congrArg (·[0]?) hc
        simpa [List.getElem?_take, List.getElem?_drop] using this
      have h2 : (xs.map (·.1))[i]? = some (DataW.lit (Lit.string s.data.toList) : DataW H) := by simp [hb]
      rw [hxs, List.getElem?_map, hz] at h2
      simp at h2
      rw [h1, h2]
    · cases h
theorem Tryz.gKw : Tryz.prog.globalNamed "sherd/history.kindWords" = some 0 := by kernel_rfl
theorem Tryz.gKwType : (Tryz.prog.globals[0]?).map (·.type) = some 100 := by kernel_rfl
theorem Tryz.gPow : Tryz.prog.globalNamed "internal/strconv.uint64pow10" = some 2 := by kernel_rfl
theorem Tryz.gPowType : (Tryz.prog.globals[2]?).map (·.type) = some 159 := by kernel_rfl
/-- The variables as the rows list them. -/
abbrev laidAll : List (String × DataW Unit) := [("math/bits.deBruijn32tab", Rows.laid_math_bits_deBruijn32tab), ("math/bits.deBruijn64tab", Rows.laid_math_bits_deBruijn64tab), ("internal/strconv.uint64pow10", Rows.laid_internal_strconv_uint64pow10), ("strconv.ErrRange", Rows.laid_strconv_ErrRange), ("strconv.ErrSyntax", Rows.laid_strconv_ErrSyntax), ("sherd/history.kindWords", Rows.laid_sherd_history_kindWords)]
theorem kws_of {W : World} (h : laidMet Tryz.prog [("sherd/history.kindWords", Rows.laid_sherd_history_kindWords)] W) : KWs W := by
  obtain ⟨ps, ⟨g', t', cs, fuel, p, q, hg', ht', hvar, hd, _, _⟩, _⟩ := h
  obtain rfl := Option.some.inj (Tryz.gKw.symm.trans hg')
  obtain rfl := Option.some.inj (Tryz.gKwType.symm.trans ht')
  have k := cells_of_texts (ts := [[], [105, 110, 118, 111, 107, 101], [114, 101, 116, 117, 114, 110], [99, 97, 110, 99, 101, 108]]) Tryz.underlying100 Tryz.underlying9 Tryz.cw9 Tryz.cells100 hd
  have c : ∀ i v, cs.toList[i]? = some v → W.cell? ⟨0, i, none⟩ = some v := fun i v hv => by
    have := World.var?_cell Tryz.gKw hvar i
    rw [this, ← Array.getElem?_toList]
    exact hv
  exact ⟨c 0 _ (k 0 _ rfl), c 1 _ (k 1 _ rfl), c 2 _ (k 2 _ rfl), c 3 _ (k 3 _ rfl)⟩
theorem glob_of {W : World} (hL : laidMetH Tryz.prog laidAll W) (hs : W.ShapedOpen Tryz.prog) : Glob W := by
  have hL : laidMet Tryz.prog laidAll W := hL
  have h2 := hL.tail.tail
  have h5 := h2.tail.tail.tail
  have kw := kws_of h5
  refine ⟨Lib.tabIs_of_head Tryz.gPow Tryz.gPowType Tryz.underlying159 Tryz.underlying132 Tryz.cells132 Tryz.cells159 (rest := _) h2, kw, ?_, ?_⟩
  · have := World.block_lt_of_cell? W _ kw.c0
    intro z
    rw [z] at this
    exact absurd this (Nat.not_lt_zero _)
  · exact cell_of_shapedOpen_int (g := 1) (t := 3) (k := .i64) (zero := #[.int .i64 0]) hs (of_decide_eq_true (by kernel_rfl)) (by kernel_rfl) rfl (by kernel_rfl) (by kernel_rfl) Tryz.underlying3
end Go.Proofs.YtbangbobfeflcaaGreatDoor
