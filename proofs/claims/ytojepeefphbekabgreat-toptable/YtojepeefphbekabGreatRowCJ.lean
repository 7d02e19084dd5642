import Derived.Test.YtojepeefphbekabGreatCompact
import Derived.Test.YtojepeefphbekabGreatKeysJ
import Derived.Shelf.SlSortCmp.NoneTotal
import Derived.Test.YtojepeefphbekabGreatRowB
namespace Go.Proofs.YtojepeefphbekabGreat
open Go.RowKit

theorem sort_nil (w : World) : Calls Tryz.prog 57 #[.slice none 0 0, .func (.func 39) #[] #[]] w fun o w' => o = .returned (.tuple #[]) ∧ w' = w := by
  have h := AnyF.slices_SortFunc_none Tryz.sortTag none 0 (.func (.func 39) #[] #[]) w
  change Calls Tryz.prog 57 _ _ _ at h
  exact h
/-- What NewSet answers. -/
def NewS (w : World) (l : List (Int × Int)) (o : Ending) (w' : World) : Prop :=
  ((∀ t ∈ l, isProper t.1 t.2 = true) ∧ ∃ B q m c S, o = .returned (.tuple #[.pointer (some ⟨B, 0, none⟩), .int .i64 0]) ∧ IsSet 105 w' B q m c S ∧ Rising S ∧ (∀ t, t ∈ S ↔ t ∈ l) ∧ w.heap.size ≤ B ∧ From w.heap.size q ∧ Below w.heap.size w w') ∨
  ((∃ t ∈ l, isProper t.1 t.2 = false) ∧ o = .returned (.tuple #[.pointer none, .int .i64 41]) ∧ Below w.heap.size w w')
theorem Kept.from {N g : Nat} {a b c : World} (B : Below N a b) (h : Kept (fun k => k = g) b c) (hN : N ≤ b.heap.size) (hg : N ≤ g) : Below N a c :=
  ⟨h.os.trans B.os, h.tape.trans B.tape, h.output.trans B.output, Nat.le_trans B.size h.size, fun k hk => (h.block k (by omega) (by omega)).trans (B.block k hk)⟩
/-- A new set around a list. -/
theorem IsSet.new {w : World} {q : Option Addr} {m c : Nat} {S : List (Int × Int)} (r : Row w q m c S) : IsSet 105 (w.alloc (.cells #[.slice q m c] 105)) w.heap.size q m c S :=
  ⟨heap_alloc_new w _, r.by ((Below.refl _ _).alloc (Nat.le_refl _) _), by decide⟩
set_option maxRecDepth 100000 in
set_option maxHeartbeats 2000000 in
theorem sNewSet (a : Option Addr) (len cap : Nat) (l : List (Int × Int)) (w : World) (r : TReads w a len cap l) (hn : a = none → cap = 0) (hb : (len + 1) * 16 ≤ 211106232532992) :
    Calls Tryz.prog 42 #[.slice a len cap] w (NewS w l) := by
  have hl := r.length
  have hr := r.room
  have hs := r.small
  unfold maxLen at hs
  have RH : Hid (TReads w a len cap l) := r
  have NH : Hid (a = none → cap = 0) := hn
  clear r hn
  go_enter Tryz.func42, Tryz.ntmps42
  go_wp2_with fail
  go_loopw [9] (fun x wr => ∃ (i : Nat), x = .int .i64 (i : Int) ∧ i ≤ len ∧ Hid ((∀ t ∈ l.take i, isProper t.1 t.2 = true) ∧ Below w.heap.size w wr)) (fun x _ => len - (intOf x).toNat)
  case atStart => exact ⟨0, rfl, Nat.zero_le _, fun t ht => absurd ht (by simp), Below.refl _ _⟩
  case round =>
    obtain ⟨i, rfl, hi, S⟩ := hrel
    by_cases hlt : i < len
    · obtain ⟨b, off, rfl, hc⟩ := (RH.out.by S.out.2).cells (by omega)
      obtain ⟨e0, e1⟩ := hc i hlt
      have MT : ∀ t ∈ l.take (i + 1), t ∈ l.take i ∨ t = l.getD i (0, 0) := fun t ht => by
        rw [List.take_succ_eq_append_getElem (by omega)] at ht
        rcases List.mem_append.1 ht with h | h
        · exact .inl h
        · rw [List.mem_singleton] at h
          exact .inr (by rw [getD_at l i (by omega), h])
      have GM : l.getD i (0, 0) ∈ l := by rw [getD_at l i (by omega)]; exact List.getElem_mem _
      obtain ⟨⟨x, y⟩, hxy⟩ : ∃ t, l.getD i (0, 0) = t := ⟨_, rfl⟩
      rw [hxy] at e0 e1 MT GM
      have HN : Hid ((∀ t ∈ l.take (i + 1), t ∈ l.take i ∨ t = (x, y)) ∧ (x, y) ∈ l) := ⟨MT, GM⟩
      have i1 : (i : Int) < (len : Int) := by omega
      have lb : b < wr.heap.size := World.block_lt_of_cell? wr _ e0
      clear hc hxy MT GM
      go_wp2_with fail
      refine (proper x y _).mono ?_
      rintro o w2 ⟨rfl, B2⟩
      have BW : Below w.heap.size w (wr.alloc (Obj.cells #[.int .i64 x, .int .i64 y] 31)) := S.out.2.alloc S.out.2.size _
      have B3 : Hid (Below w.heap.size w w2) := BW.trans (B2.mono BW.size)
      clear B2 BW e0 e1 lb
      cases hp : isProper x y
      · go_wp2_with fail
        go_ret2
        exact Or.inr ⟨⟨(x, y), HN.out.2, hp⟩, rfl, B3.out⟩
      · have S2 : Hid ((∀ t ∈ l.take (i + 1), isProper t.1 t.2 = true) ∧ Below w.heap.size w w2) := ⟨fun t ht => by
          rcases HN.out.1 t ht with q1 | q1
          · exact S.out.1 t q1
          · subst q1; exact hp, B3.out⟩
        go_wp2_with fail
        go_roundw
        case rel => exact ⟨i + 1, by go_num, by omega, S2.out⟩
        case measure => simp [intOf]; omega
    · obtain rfl : i = len := by omega
      have PR : Hid (∀ t ∈ l, isProper t.1 t.2 = true) := by
        have := S.out.1
        rwa [List.take_of_length_le (by omega)] at this
      have i1 : ¬ (i : Int) < (i : Int) := by omega
      go_wp2_with fail
      refine (clone a i cap l _ (RH.out.by S.out.2) NH.out (by omega)).mono ?_
      rintro o w1 ⟨p, c, rfl, R1, F1, B1⟩
      have B2 : Below w.heap.size w w1 := S.out.2.trans (B1.mono S.out.2.size)
      have F2 : From w.heap.size p := fun k hk => Nat.le_trans S.out.2.size (F1 k hk)
      have S1 : Hid (Row w1 p i c l ∧ From w.heap.size p ∧ Below w.heap.size w w1) := ⟨R1, F2, B2⟩
      clear B1 F1 B2 F2 S
      rcases R1.pos with ⟨rfl, hc0⟩ | ⟨g, off, cur, rfl, _⟩
      · obtain rfl : i = 0 := by have := R1.room; omega
        subst hc0
        clear R1
        have hl0 : l = [] := List.eq_nil_of_length_eq_zero hl
        go_wp2_with fail
        refine (sort_nil _).mono ?_
        rintro o w2 ⟨rfl, rfl⟩
        go_wp2_with fail
        refine (compact_nil _).mono ?_
        rintro o w3 ⟨rfl, rfl⟩
        go_wp2_with fail
        go_ret2
        refine Or.inl ⟨PR.out, _, none, 0, 0, [], rfl, IsSet.new (hl0 ▸ S1.out.1), List.Pairwise.nil, fun t => by rw [hl0], S1.out.2.2.size, fun k hk => by simp [blockOf] at hk, S1.out.2.2.alloc S1.out.2.2.size _⟩
      · clear R1
        go_wp2_with fail
        refine (sort_some g off i c l _ S1.out.1 (by omega)).mono ?_
        rintro o w2 ⟨rfl, S', hp, hsd, R2, K2⟩
        have S2 : Hid (S'.Perm l ∧ Sorted S' ∧ Row w2 (some ⟨g, off, none⟩) i c S' ∧ Below w.heap.size w w2 ∧ w.heap.size ≤ g) := ⟨hp, hsd, R2, Kept.from S1.out.2.2 K2 S1.out.2.2.size (S1.out.2.1 g rfl), S1.out.2.1 g rfl⟩
        clear hp hsd R2 K2 S1
        go_wp2_with fail
        refine (compact g off i c S' _ S2.out.2.2.1 (by omega)).mono ?_
        rintro o w3 ⟨rfl, R3, K3⟩
        have S3 : Hid (Row w3 (some ⟨g, off, none⟩) (comp S' i).length c (comp S' i) ∧ Below w.heap.size w w3) := ⟨R3, Kept.from S2.out.2.2.2.1 K3 S2.out.2.2.2.1.size S2.out.2.2.2.2⟩
        clear R3 K3
        go_wp2_with fail
        go_ret2
        have lS : S'.length = i := S2.out.2.2.1.length
        refine Or.inl ⟨PR.out, w3.heap.size, some ⟨g, off, none⟩, _, c, comp S' i, rfl, IsSet.new S3.out.1, comp_rising S' S2.out.2.1 i (by omega), fun t => ?_, S3.out.2.size, fun k hk => ?_, S3.out.2.alloc S3.out.2.size _⟩
        · rw [comp_mem S' t i (by omega), List.take_of_length_le (by omega)]
          exact S2.out.1.mem_iff
        · simp [blockOf] at hk
          have := S2.out.2.2.2.2
          omega
end Go.Proofs.YtojepeefphbekabGreat

namespace Go.Proofs.YtojepeefphbekabGreat
open Go.RowKit

/-- What is held of a key: the block of its map, the block of its set, the set's list, the finalized tags, what is held of each tag. -/
structure RK where
  mb : Nat
  sb : Nat
  q : Option Addr
  len : Nat
  cap : Nat
  S : List (Int × Int)
  M : Int × Int → Option Hd
def RK.Uses (r : RK) (k : Nat) : Prop := k = r.mb ∨ k = r.sb ∨ blockOf r.q = some k
structure IsRow (w : World) (n : Nat) (r : RK) : Prop where
  tm : TM 31 tl TFit Hd.val RH w r.mb n r.M
  st : IsSet 105 w r.sb r.q r.len r.cap r.S
  up : Rising r.S
theorem Row.kept' {S : Nat → Prop} {w w' : World} {a : Option Addr} {len cap : Nat} {l : List (Int × Int)} (h : Row w a len cap l) (K : Kept S w w') (hn : ∀ k, blockOf a = some k → ¬ S k) : Row w' a len cap l := by
  refine ⟨h.length, h.room, h.small, h.fit, ?_⟩
  rcases h.pos with q | ⟨g, off, cur, rfl, h1, h2, h3⟩
  · exact .inl q
  · exact .inr ⟨g, off, cur, rfl, K.get h1 (hn g rfl), h2, h3⟩
theorem IsSet.off {S : Nat → Prop} {ty : Nat} {w w' : World} {C : Nat} {q : Option Addr} {len cap : Nat} {R : List (Int × Int)} (h : IsSet ty w C q len cap R) (K : Kept S w w') (h1 : ¬ S C) (h2 : ∀ k, blockOf q = some k → ¬ S k) : IsSet ty w' C q len cap R :=
  ⟨K.get h.blk h1, h.row.kept' K h2, h.ne⟩
theorem IsRow.off {S : Nat → Prop} {w w' : World} {n : Nat} {r : RK} (h : IsRow w n r) (K : Kept S w w') (hn : ∀ k, r.Uses k → ¬ S k) : IsRow w' n r :=
  ⟨h.tm.kept K (hn _ (.inl rfl)), h.st.off K (hn _ (.inr (.inl rfl))) (fun k hk => hn k (.inr (.inr hk))), h.up⟩
theorem IsRow.k0 {w w' : World} {n : Nat} {r : RK} (h : IsRow w n r) (K : Kept (fun _ => False) w w') : IsRow w' n r := h.off K (fun _ _ z => z)
theorem IsRow.lt {w : World} {n : Nat} {r : RK} (h : IsRow w n r) {k : Nat} (hk : r.Uses k) : k < w.heap.size := by
  rcases hk with rfl | rfl | e
  · exact h.tm.lt
  · exact h.st.sv.lt
  · exact h.st.rowlt k e
theorem Tryz.info60 : (Tryz.prog.info? 60).map (·.size) = some 2 := by kernel_rfl
theorem results_row {fn : Func} {p : Tmp} (h : fn.results = #[.cell p 60]) (tmps : Array Value) (w : World) (b : Nat) (m P : Value) (hp : tmps.getD p undef = .pointer (some ⟨b, 0, none⟩)) (hb : w.heap[b]? = some (.cells #[m, P] 60 (0, 0))) : (results fn tmps).run Tryz.prog w = .ok (.agg #[m, P]) w :=
  results_cell_row h tmps w b 60 _ (0, 0) _ hp hb Tryz.underlying60 rfl Tryz.info60
theorem nomem (t : Int × Int) {p : Prop} (h : t ∈ ([] : List (Int × Int))) : p := by cases h
theorem newRow (w : World) : Calls Tryz.prog 22 #[] w fun o w' => ∃ r : RK, o = .returned (.agg #[.map (some r.mb), .pointer (some ⟨r.sb, 0, none⟩)]) ∧ IsRow w' 0 r ∧ r.S = [] ∧ r.M = (fun _ => none) ∧ (∀ k, r.Uses k → w.heap.size ≤ k) ∧ Kept (fun _ => False) w w' := by
  obtain ⟨W, hW⟩ : ∃ W, W = w.alloc (.cells #[.map none, .pointer none] 60) := ⟨_, rfl⟩
  have H : Hid (Kept (fun _ => False) w W ∧ W.heap[w.heap.size]? = some (.cells #[.map none, .pointer none] 60 (0, 0)) ∧ TReads W none 0 0 []) := by
    rw [hW]
    exact ⟨k0_alloc _ _, heap_alloc_new _ _, ⟨rfl, Nat.le_refl _, by unfold maxLen; omega, fun t ht => nomem t ht, fun h => absurd h (by omega)⟩⟩
  have EW : Hid (W = w.alloc (.cells #[.map none, .pointer none] 60)) := hW
  clear hW
  go_enter Tryz.func22, Tryz.ntmps22
  go_upto_region 1 with fail
  rw [← EW.out]
  go_wp2_with fail
  refine (sNewSet none 0 0 [] W H.out.2.2 (fun _ => rfl) (by omega)).mono ?_
  rintro o w2 (⟨_, B, q, mm, cc, S, rfl, hs, up, hS, hB, hq, B2⟩ | ⟨⟨t, ht, _⟩, _⟩)
  · have H2 : Hid (Kept (fun _ => False) w w2 ∧ w2.heap[w.heap.size]? = some (.cells #[.map none, .pointer none] 60 (0, 0)) ∧ IsSet 105 w2 B q mm cc S ∧ Rising S ∧ S = [] ∧ W.heap.size ≤ B ∧ From W.heap.size q) := by
      refine ⟨H.out.1.and0 (k0_of B2), (k0_of B2).get H.out.2.1 (fun z => z), hs, up, ?_, hB, hq⟩
      cases S with
      | nil => rfl
      | cons t r => exact absurd ((hS t).1 (by simp)) (by simp)
    have c0 := cell_blk H2.out.2.1 0 (v := .map none) rfl
    have c1 := cell_blk H2.out.2.1 1 (v := .pointer none) rfl
    have s0 := soft_blk H2.out.2.1 0
    have s1 := soft_blk H2.out.2.1 1
    have l0 := block_lt H2.out.2.1
    have mk := run_makeMap (P := Tryz.prog) 57 w2
    clear hs up hS hB hq B2
    go_wp2_with fail
    refine bodyPost_ret (results_row rfl _ _ _ (.map (some w2.heap.size)) (.pointer (some ⟨B, 0, none⟩)) rfl ((Below.heap_alloc _ _ _ (by simp [World.setCell]; exact l0)).trans (heap_set (heap_set H2.out.2.1 0 _) 1 _))) rfl ?_
    have K2 : Kept (fun k => k = w.heap.size) w2 ((w2.setCell ⟨w.heap.size, 0, none⟩ (.map (some w2.heap.size))).setCell ⟨w.heap.size, 1, none⟩ (.pointer (some ⟨B, 0, none⟩))) := ((Kept.refl (fun k => k = w.heap.size) w2).setCell (p := ⟨w.heap.size, 0, none⟩) (fun _ => rfl) _).setCell (p := ⟨w.heap.size, 1, none⟩) (fun _ => rfl) _
    have sz : ((w2.setCell ⟨w.heap.size, 0, none⟩ (.map (some w2.heap.size))).setCell ⟨w.heap.size, 1, none⟩ (.pointer (some ⟨B, 0, none⟩))).heap.size = w2.heap.size := by simp [World.setCell]
    have eW : W.heap.size = w.heap.size + 1 := by rw [EW.out]; simp
    obtain ⟨k1, k2, k3, k4, k5, k6, k7⟩ := H2.out
    refine ⟨⟨w2.heap.size, B, q, mm, cc, S, fun _ => none⟩, rfl, ⟨?_, ?_, k4⟩, k5, rfl, fun k hk => ?_, ?_⟩
    · have := TM.made (κ := Int × Int) (ε := Hd) (K := 31) (kl := tl) (KF := TFit) (ev := Hd.val) (RD := RH) ((w2.setCell ⟨w.heap.size, 0, none⟩ (.map (some w2.heap.size))).setCell ⟨w.heap.size, 1, none⟩ (.pointer (some ⟨B, 0, none⟩)))
      rw [sz] at this
      exact this
    · refine (k3.off K2 (by omega) (fun k hk z => ?_)).off (k0_alloc _ _) (fun z => z) (fun _ _ z => z)
      have := k7 k hk
      omega
    · rcases hk with z | z | z
      · have z : k = w2.heap.size := z
        have := k1.size
        omega
      · have z : k = B := z
        omega
      · have := k7 k z
        omega
    · exact ((k1.setCell (p := ⟨w.heap.size, 0, none⟩) (fun z => by have z : w.heap.size < w.heap.size := z; omega) _).setCell (p := ⟨w.heap.size, 1, none⟩) (fun z => by have z : w.heap.size < w.heap.size := z; omega) _).alloc _
  · cases ht
end Go.Proofs.YtojepeefphbekabGreat
