import Derived.Test.YtonfefhegghapaaDoorTLx
import Derived.Test.YtonfefhegghapaaDoorSPf
namespace Go.Proofs.YtonfefhegghapaaDoor
open Go.RowKit Go.ChangeShapes Go.WideShapes Go.ChangeAt Go.Deep

open Go.ChangeMaps (open_string shut_string)
theorem Tryd.underlying43c : Tryd.prog.underlying 43 = some (.slice 9) := by kernel_rfl
theorem Tryd.cells5 : Tryd.prog.cellsOf 5 = 1 := by kernel_rfl
theorem Tryd.cells58 : Tryd.prog.cellsOf 58 = 2 := by kernel_rfl
theorem Tryd.cells59 : Tryd.prog.cellsOf 59 = 34 := by kernel_rfl
theorem Tryd.gForms : Tryd.prog.globalNamed "sherd/script.forms" = some 0 := by kernel_rfl
theorem Tryd.gFormsType : (Tryd.prog.globals[0]?).map (·.type) = some 59 := by kernel_rfl
/-- The variables as the row lists them. -/
abbrev laidAll6 : List (String × DataW Unit) := [("math/bits.deBruijn32tab", Rows.laid_math_bits_deBruijn32tab), ("math/bits.deBruijn64tab", Rows.laid_math_bits_deBruijn64tab), ("internal/strconv.uint64pow10", Rows.laid_internal_strconv_uint64pow10), ("strconv.ErrRange", Rows.laid_strconv_ErrRange), ("strconv.ErrSyntax", Rows.laid_strconv_ErrSyntax), ("sherd/script.forms", Rows.laid_sherd_script_forms)]
theorem vars_of_laid6 {W : World} (hL : laidMetH Tryd.prog laidAll6 W) : Vars W := by
  have hL : laidMet Tryd.prog laidAll6 W := hL
  have h2 := hL.tail.tail
  have h3 := h2.tail
  have h4 := h3.tail
  refine ⟨Lib.tabIs_of_head Tryd.gPow Tryd.gPowType Tryd.underlying119 Tryd.underlying82 Tryd.cellsE Tryd.cells119 (rest := _) h2, ?_, ?_⟩
  · obtain ⟨a, s, hv, -, -, -⟩ := laid_sentinel h4 Tryd.gSyn Tryd.gSynType Tryd.underlying86 Tryd.rowE Tryd.underlying114 Tryd.underlying116 rfl rfl Tryd.underlying9 Tryd.cells116 Tryd.cells9
    exact ⟨_, _, hv⟩
  · obtain ⟨a, s, hv, -, -, -⟩ := laid_sentinel h3 Tryd.gRng Tryd.gRngType Tryd.underlying86 Tryd.rowE Tryd.underlying114 Tryd.underlying116 rfl rfl Tryd.underlying9 Tryd.cells116 Tryd.cells9
    exact ⟨_, _, hv⟩
set_option maxRecDepth 100000 in
/-- One form's cells. -/
theorem open_form {H : Type} {enc : TypeId × Value → H} {W : World} {base : Nat} {spare : Nat → Bool} {held : Bool} {n : Nat} {cs : List Value} {z : List UInt8} {u : Int} {pl : List MemPlace}
    (h : DataW.trod enc Tryd.prog W base spare held n 58 cs = some (.agg [.lit (.string z), .lit (.int .u8 u)], pl)) : cs = [.string ⟨z.toArray⟩, .int .u8 u] := by
  obtain ⟨xs, m, _, hx, hl, hxs, g⟩ := DataW.trod_struct Tryd.underlying58 h
  rw [Tryd.cells58] at hl
  match xs, hxs, cs, hl with
  | [y0, y1], _, [c0, c1], _ =>
    have g0 : DataW.trod enc Tryd.prog W base spare held m 9 [c0] = some y0 := by have := g 0 _ rfl; simpa [Tryd.cells9] using this
    have g1 : DataW.trod enc Tryd.prog W base spare held m 5 [c1] = some y1 := by have := g 1 _ rfl; simpa [Tryd.cells5] using this
    obtain ⟨s, e0, f0, _⟩ := DataW.trod_string Tryd.underlying9 g0
    obtain ⟨a, e1, f1, _⟩ := DataW.trod_int Tryd.underlying5 g1
    simp at e0 e1
    have q := congrArg Prod.fst hx
    rw [f0, f1] at q
    simp at q
    obtain ⟨q1, q2⟩ := q
    rw [e0, e1, ← q2, q1]
theorem bulk_texts {H : Type} : ∀ l : List ByteArray, Rows.uptoBulkAll (l.map fun t => (DataW.lit (Lit.string t.data.toList) : DataW H)) = (tex (bsL l)).length
  | [] => rfl
  | t :: r => by
    have ih := bulk_texts (H := H) r
    have e : bsL (t :: r) = t.data.toList :: bsL r := rfl
    rw [List.map_cons, e, tex_cons, List.length_append, List.length_cons]
    simp only [Rows.uptoBulkAll, Rows.uptoBulk]
    rw [ih]
    omega
theorem open_texts {H : Type} {enc : TypeId × Value → H} {W : World} {a : Option Addr} {len cap fuel : Nat} {x : DataW H × List MemPlace}
    (h : DataW.trod enc Tryd.prog W 0 (fun _ => true) true fuel 43 [.slice a len cap] = some x) : ∃ ts, TRs W a len cap ts ∧ (tex (bsL ts)).length ≤ Rows.uptoBulk x.1 := by
  rcases open_slice Tryd.underlying43c h with ⟨hcs, _⟩ | ⟨ad, l', c', m, n, D, Pl, hcs, _, hl, hm, hmm, hx, hel⟩
  · simp at hcs
    obtain ⟨rfl, rfl, rfl⟩ := hcs
    exact ⟨[], ⟨rfl, Nat.le_refl _, by unfold maxLen; omega, fun q => absurd q (by omega)⟩, Nat.zero_le _⟩
  · simp at hcs
    obtain ⟨rfl, rfl, rfl⟩ := hcs
    have hmm : m = cap := by simpa using hmm
    rw [Tryd.cells9] at hel
    obtain ⟨O, hO⟩ := choose_lt (n := len) (p := fun i (o : ByteArray) => W.cell? (ad.add (i * 1)) = some (.string o) ∧ D i = .lit (.string o.data.toList)) (fun i hi => by
      obtain ⟨cs', h1, h2⟩ := hel i (by omega)
      obtain ⟨_, hlen, hc⟩ := World.cells?_some h1
      match cs', hlen, hc, h2 with
      | [c0], hlen, hc, h2 =>
        obtain ⟨s, e0, e1, _⟩ := DataW.trod_string Tryd.underlying9 h2
        simp at e0
        subst e0
        refine ⟨s, ?_, ?_⟩
        · have := hc 0 (by simp)
          simpa [Addr.add] using this
        · have := congrArg Prod.fst e1
          simpa using this)
    refine ⟨(List.range len).map O, ⟨by simp, hl, hm, fun h0 => ?_⟩, ?_⟩
    · obtain ⟨b, off, spot⟩ := ad
      have h1 := (hO 0 h0).1
      have hs : spot = none := by
        have := World.cell?_spot h1
        simpa [Addr.add] using this
      subst hs
      refine ⟨b, off, rfl, fun i t ht => ?_⟩
      have hi : i < len := by
        have := (List.getElem?_eq_some_iff.1 ht).1
        simpa using this
      have e : O i = t := by
        rw [List.getElem?_map, List.getElem?_range hi] at ht
        simpa using ht
      have := (hO i hi).1
      rw [Addr.add_none, Nat.mul_one, e] at this
      exact this
    · rw [hx]
      have e : (List.range len).map D = ((List.range len).map O).map fun t => (DataW.lit (Lit.string t.data.toList) : DataW H) := by
        rw [List.map_map]
        apply List.map_congr_left
        intro i hi
        exact (hO i (by simpa using hi)).2
      simp only [Rows.uptoBulk]
      rw [e, bulk_texts]
      omega
set_option maxRecDepth 100000 in
/-- An array of forms. -/
theorem cells_of_forms {H : Type} {enc : TypeId × Value → H} {w : World} {base : Nat} {sp : Nat → Bool} {held : Bool} {fuel : Nat} {cs : List Value} {fs : List (List UInt8 × Int)} {p : List MemPlace}
    (h : DataW.trod enc Tryd.prog w base sp held fuel 59 cs = some (DataW.agg (fs.map fun z => DataW.agg [DataW.lit (Lit.string z.1), DataW.lit (Lit.int .u8 z.2)]), p)) : ∀ (i : Nat) (z : List UInt8 × Int), fs[i]? = some z → (cs.drop (i * 2)).take 2 = [Value.string ⟨z.1.toArray⟩, .int .u8 z.2] := by
  cases fuel with
  | zero => simp [DataW.trod] at h
  | succ fuel =>
    simp only [DataW.trod, und59, Tryd.cells58, Tryd.cells59] at h
    split at h
    · obtain ⟨xs, hm, hx⟩ := Option.map_eq_some_iff.1 h
      have hxs : xs.map (·.1) = fs.map fun z => (DataW.agg [DataW.lit (Lit.string z.1), DataW.lit (Lit.int .u8 z.2)] : DataW H) := by
        have := congrArg Prod.fst hx
        simpa using this
      have hxl : xs.length = 17 := by simpa using Lib.mapM_length hm
      intro i z hz
      have hi : i < 17 := by
        have := congrArg List.length hxs
        simp at this
        have := (List.getElem?_eq_some_iff.1 hz).1
        omega
      obtain ⟨b, hb, hf⟩ := Lib.mapM_at hm i i (by simp [hi])
      have h2 : (xs.map (·.1))[i]? = some b.1 := by simp [hb]
      rw [hxs, List.getElem?_map, hz] at h2
      have h3 : b = (DataW.agg [DataW.lit (Lit.string z.1), DataW.lit (Lit.int .u8 z.2)], b.2) := by
        have : b.1 = _ := (Option.some.inj h2).symm
        exact Prod.ext this rfl
      rw [h3] at hf
      exact open_form hf
    · cases h
end Go.Proofs.YtonfefhegghapaaDoor

namespace Go.Proofs.YtonfefhegghapaaDoor
open Go.RowKit Go.ChangeShapes Go.WideShapes Go.ChangeAt Go.Deep

theorem two_of {l : List Value} {j : Nat} {a b : Value} (h : (l.drop (j * 2)).take 2 = [a, b]) : l[j * 2]? = some a ∧ l[j * 2 + 1]? = some b := by
  have h0 := congrArg (·[0]?) h
  have h1 := congrArg (·[1]?) h
  simp [List.getElem?_drop] at h0 h1
  exact ⟨h0, h1⟩
set_option maxRecDepth 100000 in
theorem fm_of {W : World} (h : laidMet Tryd.prog [("sherd/script.forms", Rows.laid_sherd_script_forms)] W) : FM W := by
  obtain ⟨ps, ⟨g', t', cs, fuel, p, q, hg', ht', hvar, hd, _, _⟩, _⟩ := h
  obtain rfl := Option.some.inj (Tryd.gForms.symm.trans hg')
  obtain rfl := Option.some.inj (Tryd.gFormsType.symm.trans ht')
  have k := cells_of_forms (fs := [([], 0), ([112, 117, 116], 13), ([103, 101, 116], 5), ([99, 97, 110, 99, 101, 108], 1), ([116, 105, 99, 107], 1), ([115, 116, 111, 112], 1), ([100, 101, 108, 105, 118, 101, 114], 1), ([100, 114, 111, 112], 1), ([100, 111, 117, 98, 108, 101], 1), ([98, 117, 114, 115, 116], 19), ([99, 117, 116], 3), ([108, 111, 115, 101], 1), ([99, 114, 97, 115, 104], 17), ([115, 116, 97, 114, 116], 1), ([100, 105, 101], 19), ([99, 111, 109, 112, 97, 99, 116], 1), ([114, 111, 117, 110, 100], 18)]) hd
  have c : ∀ i v, cs.toList[i]? = some v → W.cell? ⟨0, i, none⟩ = some v := fun i v hv => by
    have := World.var?_cell Tryd.gForms hvar i
    rw [this, ← Array.getElem?_toList]
    exact hv
  intro i v hv
  have hi : i < 34 := (Array.getElem?_eq_some_iff.1 hv).1
  refine c i v ?_
  obtain rfl | rfl | rfl | rfl | rfl | rfl | rfl | rfl | rfl | rfl | rfl | rfl | rfl | rfl | rfl | rfl | rfl | rfl | rfl | rfl | rfl | rfl | rfl | rfl | rfl | rfl | rfl | rfl | rfl | rfl | rfl | rfl | rfl | rfl : i = 0 ∨ i = 1 ∨ i = 2 ∨ i = 3 ∨ i = 4 ∨ i = 5 ∨ i = 6 ∨ i = 7 ∨ i = 8 ∨ i = 9 ∨ i = 10 ∨ i = 11 ∨ i = 12 ∨ i = 13 ∨ i = 14 ∨ i = 15 ∨ i = 16 ∨ i = 17 ∨ i = 18 ∨ i = 19 ∨ i = 20 ∨ i = 21 ∨ i = 22 ∨ i = 23 ∨ i = 24 ∨ i = 25 ∨ i = 26 ∨ i = 27 ∨ i = 28 ∨ i = 29 ∨ i = 30 ∨ i = 31 ∨ i = 32 ∨ i = 33 := by omega
  · rw [← hv]; exact (two_of (k 0 _ rfl)).1
  · rw [← hv]; exact (two_of (k 0 _ rfl)).2
  · rw [← hv]; exact (two_of (k 1 _ rfl)).1
  · rw [← hv]; exact (two_of (k 1 _ rfl)).2
  · rw [← hv]; exact (two_of (k 2 _ rfl)).1
  · rw [← hv]; exact (two_of (k 2 _ rfl)).2
  · rw [← hv]; exact (two_of (k 3 _ rfl)).1
  · rw [← hv]; exact (two_of (k 3 _ rfl)).2
  · rw [← hv]; exact (two_of (k 4 _ rfl)).1
  · rw [← hv]; exact (two_of (k 4 _ rfl)).2
  · rw [← hv]; exact (two_of (k 5 _ rfl)).1
  · rw [← hv]; exact (two_of (k 5 _ rfl)).2
  · rw [← hv]; exact (two_of (k 6 _ rfl)).1
  · rw [← hv]; exact (two_of (k 6 _ rfl)).2
  · rw [← hv]; exact (two_of (k 7 _ rfl)).1
  · rw [← hv]; exact (two_of (k 7 _ rfl)).2
  · rw [← hv]; exact (two_of (k 8 _ rfl)).1
  · rw [← hv]; exact (two_of (k 8 _ rfl)).2
  · rw [← hv]; exact (two_of (k 9 _ rfl)).1
  · rw [← hv]; exact (two_of (k 9 _ rfl)).2
  · rw [← hv]; exact (two_of (k 10 _ rfl)).1
  · rw [← hv]; exact (two_of (k 10 _ rfl)).2
  · rw [← hv]; exact (two_of (k 11 _ rfl)).1
  · rw [← hv]; exact (two_of (k 11 _ rfl)).2
  · rw [← hv]; exact (two_of (k 12 _ rfl)).1
  · rw [← hv]; exact (two_of (k 12 _ rfl)).2
  · rw [← hv]; exact (two_of (k 13 _ rfl)).1
  · rw [← hv]; exact (two_of (k 13 _ rfl)).2
  · rw [← hv]; exact (two_of (k 14 _ rfl)).1
  · rw [← hv]; exact (two_of (k 14 _ rfl)).2
  · rw [← hv]; exact (two_of (k 15 _ rfl)).1
  · rw [← hv]; exact (two_of (k 15 _ rfl)).2
  · rw [← hv]; exact (two_of (k 16 _ rfl)).1
  · rw [← hv]; exact (two_of (k 16 _ rfl)).2
end Go.Proofs.YtonfefhegghapaaDoor
