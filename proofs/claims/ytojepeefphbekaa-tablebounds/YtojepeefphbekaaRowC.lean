import Derived.Test.YtojepeefphbekaaRowB
import Derived.Test.YtojepeefphbekaaNewSet
namespace Go.Proofs.Ytojepeefphbekaa
open Go.RowKit

/-- What is held of a key: the block of its map, the block of its set, the set's list, the finalized tags, what is held of each tag. -/
structure RK where
  mb : Nat
  sb : Nat
  q : Option Addr
  len : Nat
  cap : Nat
  S : List (Int × Int)
  M : Int × Int → Option Hd
def RK.Uses (r : RK) (k : Nat) : Prop := k = r.mb ∨ k = r.sb ∨ blockOf r.q = some k
structure IsRow (w : World) (n : Nat) (r : RK) : Prop where
  tm : TM 29 tl TFit Hd.val RH w r.mb n r.M
  st : IsSet 96 w r.sb r.q r.len r.cap r.S
  up : Rising r.S
theorem Row.kept' {S : Nat → Prop} {w w' : World} {a : Option Addr} {len cap : Nat} {l : List (Int × Int)} (h : Row w a len cap l) (K : Kept S w w') (hn : ∀ k, blockOf a = some k → ¬ S k) : Row w' a len cap l := by
  refine ⟨h.length, h.room, h.small, h.fit, ?_⟩
  rcases h.pos with q | ⟨g, off, cur, rfl, h1, h2, h3⟩
  · exact .inl q
  · exact .inr ⟨g, off, cur, rfl, K.get h1 (hn g rfl), h2, h3⟩
theorem IsSet.off {S : Nat → Prop} {ty : Nat} {w w' : World} {C : Nat} {q : Option Addr} {len cap : Nat} {R : List (Int × Int)} (h : IsSet ty w C q len cap R) (K : Kept S w w') (h1 : ¬ S C) (h2 : ∀ k, blockOf q = some k → ¬ S k) : IsSet ty w' C q len cap R :=
  ⟨K.get h.blk h1, h.row.kept' K h2, h.ne⟩
theorem IsRow.off {S : Nat → Prop} {w w' : World} {n : Nat} {r : RK} (h : IsRow w n r) (K : Kept S w w') (hn : ∀ k, r.Uses k → ¬ S k) : IsRow w' n r :=
  ⟨h.tm.kept K (hn _ (.inl rfl)), h.st.off K (hn _ (.inr (.inl rfl))) (fun k hk => hn k (.inr (.inr hk))), h.up⟩
theorem IsRow.k0 {w w' : World} {n : Nat} {r : RK} (h : IsRow w n r) (K : Kept (fun _ => False) w w') : IsRow w' n r := h.off K (fun _ _ z => z)
theorem IsRow.lt {w : World} {n : Nat} {r : RK} (h : IsRow w n r) {k : Nat} (hk : r.Uses k) : k < w.heap.size := by
  rcases hk with rfl | rfl | e
  · exact h.tm.lt
  · exact h.st.sv.lt
  · exact h.st.rowlt k e
theorem Try.info54 : (Try.prog.info? 54).map (·.size) = some 2 := by kernel_rfl
theorem results_row {fn : Func} {p : Tmp} (h : fn.results = #[.cell p 54]) (tmps : Array Value) (w : World) (b : Nat) (m P : Value) (hp : tmps.getD p undef = .pointer (some ⟨b, 0, none⟩)) (hb : w.heap[b]? = some (.cells #[m, P] 54 (0, 0))) : (results fn tmps).run Try.prog w = .ok (.agg #[m, P]) w :=
  results_cell_row h tmps w b 54 _ (0, 0) _ hp hb Try.underlying54 rfl Try.info54
theorem nomem (t : Int × Int) {p : Prop} (h : t ∈ ([] : List (Int × Int))) : p := by cases h
theorem newRow (w : World) : Calls Try.prog 15 #[] w fun o w' => ∃ r : RK, o = .returned (.agg #[.map (some r.mb), .pointer (some ⟨r.sb, 0, none⟩)]) ∧ IsRow w' 0 r ∧ r.S = [] ∧ r.M = (fun _ => none) ∧ (∀ k, r.Uses k → w.heap.size ≤ k) ∧ Kept (fun _ => False) w w' := by
  obtain ⟨W, hW⟩ : ∃ W, W = w.alloc (.cells #[.map none, .pointer none] 54) := ⟨_, rfl⟩
  have H : Hid (Kept (fun _ => False) w W ∧ W.heap[w.heap.size]? = some (.cells #[.map none, .pointer none] 54 (0, 0)) ∧ TReads W none 0 0 []) := by
    rw [hW]
    exact ⟨k0_alloc _ _, heap_alloc_new _ _, ⟨rfl, Nat.le_refl _, by unfold maxLen; omega, fun t ht => nomem t ht, fun h => absurd h (by omega)⟩⟩
  have EW : Hid (W = w.alloc (.cells #[.map none, .pointer none] 54)) := hW
  clear hW
  go_enter Try.func15, Try.ntmps15
  go_upto_region 1 with fail
  rw [← EW.out]
  go_wp2_with fail
  refine (sNewSet none 0 0 [] W H.out.2.2 (fun _ => rfl) (by omega)).mono ?_
  rintro o w2 (⟨_, B, q, mm, cc, S, rfl, hs, up, hS, hB, hq, B2⟩ | ⟨⟨t, ht, _⟩, _⟩)
  · have H2 : Hid (Kept (fun _ => False) w w2 ∧ w2.heap[w.heap.size]? = some (.cells #[.map none, .pointer none] 54 (0, 0)) ∧ IsSet 96 w2 B q mm cc S ∧ Rising S ∧ S = [] ∧ W.heap.size ≤ B ∧ From W.heap.size q) := by
      refine ⟨H.out.1.and0 (k0_of B2), (k0_of B2).get H.out.2.1 (fun z => z), hs, up, ?_, hB, hq⟩
      cases S with
      | nil => rfl
      | cons t r => exact absurd ((hS t).1 (by simp)) (by simp)
    have c0 := cell_blk H2.out.2.1 0 (v := .map none) rfl
    have c1 := cell_blk H2.out.2.1 1 (v := .pointer none) rfl
    have s0 := soft_blk H2.out.2.1 0
    have s1 := soft_blk H2.out.2.1 1
    have l0 := block_lt H2.out.2.1
    have mk := run_makeMap (P := Try.prog) 51 w2
    clear hs up hS hB hq B2
    go_wp2_with fail
    refine bodyPost_ret (results_row rfl _ _ _ (.map (some w2.heap.size)) (.pointer (some ⟨B, 0, none⟩)) rfl ((Below.heap_alloc _ _ _ (by simp [World.setCell]; exact l0)).trans (heap_set (heap_set H2.out.2.1 0 _) 1 _))) rfl ?_
    have K2 : Kept (fun k => k = w.heap.size) w2 ((w2.setCell ⟨w.heap.size, 0, none⟩ (.map (some w2.heap.size))).setCell ⟨w.heap.size, 1, none⟩ (.pointer (some ⟨B, 0, none⟩))) := ((Kept.refl (fun k => k = w.heap.size) w2).setCell (p := ⟨w.heap.size, 0, none⟩) (fun _ => rfl) _).setCell (p := ⟨w.heap.size, 1, none⟩) (fun _ => rfl) _
    have sz : ((w2.setCell ⟨w.heap.size, 0, none⟩ (.map (some w2.heap.size))).setCell ⟨w.heap.size, 1, none⟩ (.pointer (some ⟨B, 0, none⟩))).heap.size = w2.heap.size := by simp [World.setCell]
    have eW : W.heap.size = w.heap.size + 1 := by rw [EW.out]; simp
    obtain ⟨k1, k2, k3, k4, k5, k6, k7⟩ := H2.out
    refine ⟨⟨w2.heap.size, B, q, mm, cc, S, fun _ => none⟩, rfl, ⟨?_, ?_, k4⟩, k5, rfl, fun k hk => ?_, ?_⟩
    · have := TM.made (κ := Int × Int) (ε := Hd) (K := 29) (kl := tl) (KF := TFit) (ev := Hd.val) (RD := RH) ((w2.setCell ⟨w.heap.size, 0, none⟩ (.map (some w2.heap.size))).setCell ⟨w.heap.size, 1, none⟩ (.pointer (some ⟨B, 0, none⟩)))
      rw [sz] at this
      exact this
    · refine (k3.off K2 (by omega) (fun k hk z => ?_)).off (k0_alloc _ _) (fun z => z) (fun _ _ z => z)
      have := k7 k hk
      omega
    · rcases hk with z | z | z
      · have z : k = w2.heap.size := z
        have := k1.size
        omega
      · have z : k = B := z
        omega
      · have := k7 k z
        omega
    · exact ((k1.setCell (p := ⟨w.heap.size, 0, none⟩) (fun z => by have z : w.heap.size < w.heap.size := z; omega) _).setCell (p := ⟨w.heap.size, 1, none⟩) (fun z => by have z : w.heap.size < w.heap.size := z; omega) _).alloc _
  · cases ht
end Go.Proofs.Ytojepeefphbekaa
