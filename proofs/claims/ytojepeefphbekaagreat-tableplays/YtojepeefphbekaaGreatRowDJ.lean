import Derived.Test.YtojepeefphbekaaGreatCompact
import Derived.Test.YtojepeefphbekaaGreatKeysJ
import Derived.Shelf.SlSortCmp.NoneTotal
import Derived.Test.YtojepeefphbekaaGreatRowB
namespace Go.Proofs.YtojepeefphbekaaGreat
open Go.RowKit

theorem sort_nil (w : World) : Calls Tryz.prog 86 #[.slice none 0 0, .func (.func 65) #[] #[]] w fun o w' => o = .returned (.tuple #[]) ∧ w' = w := by
  have h := AnyF.slices_SortFunc_none Tryz.sortTag none 0 (.func (.func 65) #[] #[]) w
  change Calls Tryz.prog 86 _ _ _ at h
  exact h
/-- What NewSet answers. -/
def NewS (w : World) (l : List (Int × Int)) (o : Ending) (w' : World) : Prop :=
  ((∀ t ∈ l, isProper t.1 t.2 = true) ∧ ∃ B q m c S, o = .returned (.tuple #[.pointer (some ⟨B, 0, none⟩), .int .i64 0]) ∧ IsSet 142 w' B q m c S ∧ Rising S ∧ (∀ t, t ∈ S ↔ t ∈ l) ∧ w.heap.size ≤ B ∧ From w.heap.size q ∧ Below w.heap.size w w') ∨
  ((∃ t ∈ l, isProper t.1 t.2 = false) ∧ o = .returned (.tuple #[.pointer none, .int .i64 41]) ∧ Below w.heap.size w w')
theorem Kept.from {N g : Nat} {a b c : World} (B : Below N a b) (h : Kept (fun k => k = g) b c) (hN : N ≤ b.heap.size) (hg : N ≤ g) : Below N a c :=
  ⟨h.os.trans B.os, h.tape.trans B.tape, h.output.trans B.output, Nat.le_trans B.size h.size, fun k hk => (h.block k (by omega) (by omega)).trans (B.block k hk)⟩
/-- A new set around a list. -/
theorem IsSet.new {w : World} {q : Option Addr} {m c : Nat} {S : List (Int × Int)} (r : Row w q m c S) : IsSet 142 (w.alloc (.cells #[.slice q m c] 142)) w.heap.size q m c S :=
  ⟨heap_alloc_new w _, r.by ((Below.refl _ _).alloc (Nat.le_refl _) _), by decide⟩
set_option maxRecDepth 100000 in
set_option maxHeartbeats 2000000 in
theorem sNewSet (a : Option Addr) (len cap : Nat) (l : List (Int × Int)) (w : World) (r : TReads w a len cap l) (hn : a = none → cap = 0) (hb : (len + 1) * 16 ≤ 211106232532992) :
    Calls Tryz.prog 58 #[.slice a len cap] w (NewS w l) := by
  have hl := r.length
  have hr := r.room
  have hs := r.small
  unfold maxLen at hs
  have RH : Hid (TReads w a len cap l) := r
  have NH : Hid (a = none → cap = 0) := hn
  clear r hn
  go_enter Tryz.func58, Tryz.ntmps58
  go_wp2_with fail
  go_loopw [9] (fun x wr => ∃ (i : Nat), x = .int .i64 (i : Int) ∧ i ≤ len ∧ Hid ((∀ t ∈ l.take i, isProper t.1 t.2 = true) ∧ Below w.heap.size w wr)) (fun x _ => len - (intOf x).toNat)
  case atStart => exact ⟨0, rfl, Nat.zero_le _, fun t ht => absurd ht (by simp), Below.refl _ _⟩
  case round =>
    obtain ⟨i, rfl, hi, S⟩ := hrel
    by_cases hlt : i < len
    · obtain ⟨b, off, rfl, hc⟩ := (RH.out.by S.out.2).cells (by omega)
      obtain ⟨e0, e1⟩ := hc i hlt
      have MT : ∀ t ∈ l.take (i + 1), t ∈ l.take i ∨ t = l.getD i (0, 0) := fun t ht => by
        rw [List.take_succ_eq_append_getElem (by omega)] at ht
        rcases List.mem_append.1 ht with h | h
        · exact .inl h
        · rw [List.mem_singleton] at h
          exact .inr (by rw [getD_at l i (by omega), h])
      have GM : l.getD i (0, 0) ∈ l := by rw [getD_at l i (by omega)]; exact List.getElem_mem _
      obtain ⟨⟨x, y⟩, hxy⟩ : ∃ t, l.getD i (0, 0) = t := ⟨_, rfl⟩
      rw [hxy] at e0 e1 MT GM
      have HN : Hid ((∀ t ∈ l.take (i + 1), t ∈ l.take i ∨ t = (x, y)) ∧ (x, y) ∈ l) := ⟨MT, GM⟩
      have i1 : (i : Int) < (len : Int) := by omega
      have lb : b < wr.heap.size := World.block_lt_of_cell? wr _ e0
      clear hc hxy MT GM
      go_wp2_with fail
      refine (proper x y _).mono ?_
      rintro o w2 ⟨rfl, B2⟩
      have BW : Below w.heap.size w (wr.alloc (Obj.cells #[.int .i64 x, .int .i64 y] 37)) := S.out.2.alloc S.out.2.size _
      have B3 : Hid (Below w.heap.size w w2) := BW.trans (B2.mono BW.size)
      clear B2 BW e0 e1 lb
      cases hp : isProper x y
      · go_wp2_with fail
        go_ret2
        exact Or.inr ⟨⟨(x, y), HN.out.2, hp⟩, rfl, B3.out⟩
      · have S2 : Hid ((∀ t ∈ l.take (i + 1), isProper t.1 t.2 = true) ∧ Below w.heap.size w w2) := ⟨fun t ht => by
          rcases HN.out.1 t ht with q1 | q1
          · exact S.out.1 t q1
          · subst q1; exact hp, B3.out⟩
        go_wp2_with fail
        go_roundw
        case rel => exact ⟨i + 1, by go_num, by omega, S2.out⟩
        case measure => simp [intOf]; omega
    · obtain rfl : i = len := by omega
      have PR : Hid (∀ t ∈ l, isProper t.1 t.2 = true) := by
        have := S.out.1
        rwa [List.take_of_length_le (by omega)] at this
      have i1 : ¬ (i : Int) < (i : Int) := by omega
      go_wp2_with fail
      refine (clone a i cap l _ (RH.out.by S.out.2) NH.out (by omega)).mono ?_
      rintro o w1 ⟨p, c, rfl, R1, F1, B1⟩
      have B2 : Below w.heap.size w w1 := S.out.2.trans (B1.mono S.out.2.size)
      have F2 : From w.heap.size p := fun k hk => Nat.le_trans S.out.2.size (F1 k hk)
      have S1 : Hid (Row w1 p i c l ∧ From w.heap.size p ∧ Below w.heap.size w w1) := ⟨R1, F2, B2⟩
      clear B1 F1 B2 F2 S
      rcases R1.pos with ⟨rfl, hc0⟩ | ⟨g, off, cur, rfl, _⟩
      · obtain rfl : i = 0 := by have := R1.room; omega
        subst hc0
        clear R1
        have hl0 : l = [] := List.eq_nil_of_length_eq_zero hl
        go_wp2_with fail
        refine (sort_nil _).mono ?_
        rintro o w2 ⟨rfl, rfl⟩
        go_wp2_with fail
        refine (compact_nil _).mono ?_
        rintro o w3 ⟨rfl, rfl⟩
        go_wp2_with fail
        go_ret2
        refine Or.inl ⟨PR.out, _, none, 0, 0, [], rfl, IsSet.new (hl0 ▸ S1.out.1), List.Pairwise.nil, fun t => by rw [hl0], S1.out.2.2.size, fun k hk => by simp [blockOf] at hk, S1.out.2.2.alloc S1.out.2.2.size _⟩
      · clear R1
        go_wp2_with fail
        refine (sort_some g off i c l _ S1.out.1 (by omega)).mono ?_
        rintro o w2 ⟨rfl, S', hp, hsd, R2, K2⟩
        have S2 : Hid (S'.Perm l ∧ Sorted S' ∧ Row w2 (some ⟨g, off, none⟩) i c S' ∧ Below w.heap.size w w2 ∧ w.heap.size ≤ g) := ⟨hp, hsd, R2, Kept.from S1.out.2.2 K2 S1.out.2.2.size (S1.out.2.1 g rfl), S1.out.2.1 g rfl⟩
        clear hp hsd R2 K2 S1
        go_wp2_with fail
        refine (compact g off i c S' _ S2.out.2.2.1 (by omega)).mono ?_
        rintro o w3 ⟨rfl, R3, K3⟩
        have S3 : Hid (Row w3 (some ⟨g, off, none⟩) (comp S' i).length c (comp S' i) ∧ Below w.heap.size w w3) := ⟨R3, Kept.from S2.out.2.2.2.1 K3 S2.out.2.2.2.1.size S2.out.2.2.2.2⟩
        clear R3 K3
        go_wp2_with fail
        go_ret2
        have lS : S'.length = i := S2.out.2.2.1.length
        refine Or.inl ⟨PR.out, w3.heap.size, some ⟨g, off, none⟩, _, c, comp S' i, rfl, IsSet.new S3.out.1, comp_rising S' S2.out.2.1 i (by omega), fun t => ?_, S3.out.2.size, fun k hk => ?_, S3.out.2.alloc S3.out.2.size _⟩
        · rw [comp_mem S' t i (by omega), List.take_of_length_le (by omega)]
          exact S2.out.1.mem_iff
        · simp [blockOf] at hk
          have := S2.out.2.2.2.2
          omega
end Go.Proofs.YtojepeefphbekaaGreat

namespace Go.Proofs.YtojepeefphbekaaGreat
open Go.RowKit

/-- What is held of a key: the block of its map, the block of its set, the set's list, the finalized tags, what is held of each tag. -/
structure RK where
  mb : Nat
  sb : Nat
  q : Option Addr
  len : Nat
  cap : Nat
  S : List (Int × Int)
  M : Int × Int → Option Hd
def RK.Uses (r : RK) (k : Nat) : Prop := k = r.mb ∨ k = r.sb ∨ blockOf r.q = some k
structure IsRow (w : World) (n : Nat) (r : RK) : Prop where
  tm : TM 37 tl TFit Hd.val RH w r.mb n r.M
  st : IsSet 142 w r.sb r.q r.len r.cap r.S
  up : Rising r.S
theorem Row.kept' {S : Nat → Prop} {w w' : World} {a : Option Addr} {len cap : Nat} {l : List (Int × Int)} (h : Row w a len cap l) (K : Kept S w w') (hn : ∀ k, blockOf a = some k → ¬ S k) : Row w' a len cap l := by
  refine ⟨h.length, h.room, h.small, h.fit, ?_⟩
  rcases h.pos with q | ⟨g, off, cur, rfl, h1, h2, h3⟩
  · exact .inl q
  · exact .inr ⟨g, off, cur, rfl, K.get h1 (hn g rfl), h2, h3⟩
theorem IsSet.off {S : Nat → Prop} {ty : Nat} {w w' : World} {C : Nat} {q : Option Addr} {len cap : Nat} {R : List (Int × Int)} (h : IsSet ty w C q len cap R) (K : Kept S w w') (h1 : ¬ S C) (h2 : ∀ k, blockOf q = some k → ¬ S k) : IsSet ty w' C q len cap R :=
  ⟨K.get h.blk h1, h.row.kept' K h2, h.ne⟩
theorem IsRow.off {S : Nat → Prop} {w w' : World} {n : Nat} {r : RK} (h : IsRow w n r) (K : Kept S w w') (hn : ∀ k, r.Uses k → ¬ S k) : IsRow w' n r :=
  ⟨h.tm.kept K (hn _ (.inl rfl)), h.st.off K (hn _ (.inr (.inl rfl))) (fun k hk => hn k (.inr (.inr hk))), h.up⟩
theorem IsRow.k0 {w w' : World} {n : Nat} {r : RK} (h : IsRow w n r) (K : Kept (fun _ => False) w w') : IsRow w' n r := h.off K (fun _ _ z => z)
theorem IsRow.lt {w : World} {n : Nat} {r : RK} (h : IsRow w n r) {k : Nat} (hk : r.Uses k) : k < w.heap.size := by
  rcases hk with rfl | rfl | e
  · exact h.tm.lt
  · exact h.st.sv.lt
  · exact h.st.rowlt k e
theorem Tryz.info89 : (Tryz.prog.info? 89).map (·.size) = some 2 := by kernel_rfl
theorem results_row {fn : Func} {p : Tmp} (h : fn.results = #[.cell p 89]) (tmps : Array Value) (w : World) (b : Nat) (m P : Value) (hp : tmps.getD p undef = .pointer (some ⟨b, 0, none⟩)) (hb : w.heap[b]? = some (.cells #[m, P] 89 (0, 0))) : (results fn tmps).run Tryz.prog w = .ok (.agg #[m, P]) w :=
  results_cell_row h tmps w b 89 _ (0, 0) _ hp hb Tryz.underlying89 rfl Tryz.info89
theorem nomem (t : Int × Int) {p : Prop} (h : t ∈ ([] : List (Int × Int))) : p := by cases h
theorem newRow (w : World) : Calls Tryz.prog 44 #[] w fun o w' => ∃ r : RK, o = .returned (.agg #[.map (some r.mb), .pointer (some ⟨r.sb, 0, none⟩)]) ∧ IsRow w' 0 r ∧ r.S = [] ∧ r.M = (fun _ => none) ∧ (∀ k, r.Uses k → w.heap.size ≤ k) ∧ Kept (fun _ => False) w w' := by
  obtain ⟨W, hW⟩ : ∃ W, W = w.alloc (.cells #[.map none, .pointer none] 89) := ⟨_, rfl⟩
  have H : Hid (Kept (fun _ => False) w W ∧ W.heap[w.heap.size]? = some (.cells #[.map none, .pointer none] 89 (0, 0)) ∧ TReads W none 0 0 []) := by
    rw [hW]
    exact ⟨k0_alloc _ _, heap_alloc_new _ _, ⟨rfl, Nat.le_refl _, by unfold maxLen; omega, fun t ht => nomem t ht, fun h => absurd h (by omega)⟩⟩
  have EW : Hid (W = w.alloc (.cells #[.map none, .pointer none] 89)) := hW
  clear hW
  go_enter Tryz.func44, Tryz.ntmps44
  go_upto_region 1 with fail
  rw [← EW.out]
  go_wp2_with fail
  refine (sNewSet none 0 0 [] W H.out.2.2 (fun _ => rfl) (by omega)).mono ?_
  rintro o w2 (⟨_, B, q, mm, cc, S, rfl, hs, up, hS, hB, hq, B2⟩ | ⟨⟨t, ht, _⟩, _⟩)
  · have H2 : Hid (Kept (fun _ => False) w w2 ∧ w2.heap[w.heap.size]? = some (.cells #[.map none, .pointer none] 89 (0, 0)) ∧ IsSet 142 w2 B q mm cc S ∧ Rising S ∧ S = [] ∧ W.heap.size ≤ B ∧ From W.heap.size q) := by
      refine ⟨H.out.1.and0 (k0_of B2), (k0_of B2).get H.out.2.1 (fun z => z), hs, up, ?_, hB, hq⟩
      cases S with
      | nil => rfl
      | cons t r => exact absurd ((hS t).1 (by simp)) (by simp)
    have c0 := cell_blk H2.out.2.1 0 (v := .map none) rfl
    have c1 := cell_blk H2.out.2.1 1 (v := .pointer none) rfl
    have s0 := soft_blk H2.out.2.1 0
    have s1 := soft_blk H2.out.2.1 1
    have l0 := block_lt H2.out.2.1
    have mk := run_makeMap (P := Tryz.prog) 86 w2
    clear hs up hS hB hq B2
    go_wp2_with fail
    refine bodyPost_ret (results_row rfl _ _ _ (.map (some w2.heap.size)) (.pointer (some ⟨B, 0, none⟩)) rfl ((Below.heap_alloc _ _ _ (by simp [World.setCell]; exact l0)).trans (heap_set (heap_set H2.out.2.1 0 _) 1 _))) rfl ?_
    have K2 : Kept (fun k => k = w.heap.size) w2 ((w2.setCell ⟨w.heap.size, 0, none⟩ (.map (some w2.heap.size))).setCell ⟨w.heap.size, 1, none⟩ (.pointer (some ⟨B, 0, none⟩))) := ((Kept.refl (fun k => k = w.heap.size) w2).setCell (p := ⟨w.heap.size, 0, none⟩) (fun _ => rfl) _).setCell (p := ⟨w.heap.size, 1, none⟩) (fun _ => rfl) _
    have sz : ((w2.setCell ⟨w.heap.size, 0, none⟩ (.map (some w2.heap.size))).setCell ⟨w.heap.size, 1, none⟩ (.pointer (some ⟨B, 0, none⟩))).heap.size = w2.heap.size := by simp [World.setCell]
    have eW : W.heap.size = w.heap.size + 1 := by rw [EW.out]; simp
    obtain ⟨k1, k2, k3, k4, k5, k6, k7⟩ := H2.out
    refine ⟨⟨w2.heap.size, B, q, mm, cc, S, fun _ => none⟩, rfl, ⟨?_, ?_, k4⟩, k5, rfl, fun k hk => ?_, ?_⟩
    · have := TM.made (κ := Int × Int) (ε := Hd) (K := 37) (kl := tl) (KF := TFit) (ev := Hd.val) (RD := RH) ((w2.setCell ⟨w.heap.size, 0, none⟩ (.map (some w2.heap.size))).setCell ⟨w.heap.size, 1, none⟩ (.pointer (some ⟨B, 0, none⟩)))
      rw [sz] at this
      exact this
    · refine (k3.off K2 (by omega) (fun k hk z => ?_)).off (k0_alloc _ _) (fun z => z) (fun _ _ z => z)
      have := k7 k hk
      omega
    · rcases hk with z | z | z
      · have z : k = w2.heap.size := z
        have := k1.size
        omega
      · have z : k = B := z
        omega
      · have := k7 k z
        omega
    · exact ((k1.setCell (p := ⟨w.heap.size, 0, none⟩) (fun z => by have z : w.heap.size < w.heap.size := z; omega) _).setCell (p := ⟨w.heap.size, 1, none⟩) (fun z => by have z : w.heap.size < w.heap.size := z; omega) _).alloc _
  · cases ht
end Go.Proofs.YtojepeefphbekaaGreat

namespace Go.Proofs.YtojepeefphbekaaGreat
open Go.RowKit

/-- What is left when all below f is thrown away. -/
def throwM (M : Int × Int → Option Hd) (f : Int × Int) : Int × Int → Option Hd := fun t => if tc t f < 0 then none else M t
structure RMoved (w w' : World) (r r' : RK) : Prop where
  mb : r'.mb = r.mb
  sb : r'.sb = r.sb
  kept : Kept r.Uses w w'
  near : ∀ k, r'.Uses k → r.Uses k ∨ w.heap.size ≤ k
/-- The boxes of 'throwAway', the map and the set beside them. -/
structure TA (w W : World) (mb sb : Nat) (q : Option Addr) (len cap : Nat) (S : List (Int × Int)) (x y : Int) : Prop where
  row : W.heap[w.heap.size]? = some (.cells #[.map (some mb), .pointer (some ⟨sb, 0, none⟩)] 89 (0, 0))
  tag : W.heap[w.heap.size + 1]? = some (.cells #[.int .i64 x, .int .i64 y] 37 (0, 0))
  st : IsSet 142 W sb q len cap S
theorem TA.off {U : Nat → Prop} {w W W' : World} {mb sb : Nat} {q : Option Addr} {len cap : Nat} {S : List (Int × Int)} {x y : Int} (h : TA w W mb sb q len cap S x y) (K : Kept U W W') (h0 : ¬ U w.heap.size) (h1 : ¬ U (w.heap.size + 1)) (h2 : ¬ U sb) (h3 : ∀ k, blockOf q = some k → ¬ U k) : TA w W' mb sb q len cap S x y :=
  ⟨K.get h.row h0, K.get h.tag h1, h.st.off K h2 h3⟩
/-- The round's state. -/
def LI (w4 : World) (mb rr n : Nat) (M : Int × Int → Option Hd) (f : Int × Int) (wr : World) (cnt : Nat) : Prop :=
  ∃ (Mc : Int × Int → Option Hd) (L : Int × Int → Prop), RG 37 tl TFit Hd.val RH wr mb rr n Mc L cnt ∧ (∀ t, L t → Mc t = M t) ∧ (∀ t, ¬ L t → Mc t = throwM M f t) ∧ Kept (fun k => k = mb ∨ k = rr) w4 wr
theorem throw_self (M : Int × Int → Option Hd) (f t : Int × Int) (h : M t = none) : throwM M f t = M t := by
  unfold throwM
  split
  · exact h.symm
  · rfl
set_option maxRecDepth 100000 in
set_option maxHeartbeats 2000000 in
theorem throwAway (n : Nat) (r : RK) (x y : Int) (w : World) (h : IsRow w n r) (hlen : r.len * 16 ≤ 211106232532992) : Calls Tryz.prog 70 #[.agg #[.map (some r.mb), .pointer (some ⟨r.sb, 0, none⟩)], .agg #[.int .i64 x, .int .i64 y]] w fun o w' => o = .returned (.tuple #[]) ∧ ∃ r', IsRow w' n r' ∧ RMoved w w' r r' ∧ ((isZero x y = true ∧ r'.S = r.S ∧ r'.M = r.M) ∨ (isZero x y = false ∧ r'.S = r.S.drop (ahead r.S (x, y)) ∧ r'.len ≤ r.len ∧ r'.M = throwM r.M (x, y))) := by
  obtain ⟨mb, sb, q, len, cap, S, M⟩ := r
  have h : IsRow w n ⟨mb, sb, q, len, cap, S, M⟩ := h
  have LT : Hid (mb < w.heap.size ∧ sb < w.heap.size ∧ (∀ k, blockOf q = some k → k < w.heap.size) ∧ len * 16 ≤ 211106232532992) := ⟨h.lt (.inl rfl), h.lt (.inr (.inl rfl)), fun k hk => h.lt (.inr (.inr hk)), hlen⟩
  have NE : Hid (mb ≠ sb ∧ blockOf q ≠ some mb ∧ blockOf q ≠ some sb) := by
    obtain ⟨D, ⟨es, clock, hb, _⟩, _⟩ := h.tm
    have hb : w.heap[mb]? = some (.map es clock) := hb
    refine ⟨fun e => ?_, fun e => ?_, h.st.apart⟩
    · have := h.st.blk
      rw [← e] at this
      have this : w.heap[mb]? = _ := this
      rw [hb] at this
      cases this
    · rcases h.st.row.pos with ⟨e1, _⟩ | ⟨g, off, cur, e1, h1, _⟩
      · have e1 : q = none := e1
        rw [e1] at e
        cases e
      · have e1 : q = some ⟨g, off, none⟩ := e1
        rw [e1] at e
        have e : g = mb := Option.some.inj e
        rw [e, hb] at h1
        cases h1
  obtain ⟨W, hW⟩ : ∃ W, W = (w.alloc (.cells #[.map (some mb), .pointer (some ⟨sb, 0, none⟩)] 89)).alloc (.cells #[.int .i64 x, .int .i64 y] 37) := ⟨_, rfl⟩
  have KZ : Kept (fun _ => False) w W := by rw [hW]; exact ((Kept.refl _ w).alloc _).alloc _
  have H : Hid (TA w W mb sb q len cap S x y ∧ TM 37 tl TFit Hd.val RH W mb n M ∧ Kept (fun _ => False) w W ∧ Rising S) := by
    refine ⟨⟨?_, ?_, h.st.off KZ (fun z => z) (fun _ _ z => z)⟩, h.tm.kept KZ (fun z => z), KZ, h.up⟩
    · rw [hW]; exact two0 _ _ _
    · rw [hW]; exact two1 _ _ _
  have EW : Hid (W = (w.alloc (.cells #[.map (some mb), .pointer (some ⟨sb, 0, none⟩)] 89)).alloc (.cells #[.int .i64 x, .int .i64 y] 37)) := hW
  clear h hlen hW KZ
  dsimp only
  go_enter Tryz.func70, Tryz.ntmps70
  go_upto_region 1 with fail
  rw [← EW.out]
  have t0 := cell_blk H.out.1.tag 0 (v := .int .i64 x) rfl
  have t1 := cell_blk H.out.1.tag 1 (v := .int .i64 y) rfl
  go_wp2_with fail
  refine (zero x y W).mono ?_
  rintro o w2 ⟨rfl, B2⟩
  have H2 : Hid (TA w w2 mb sb q len cap S x y ∧ TM 37 tl TFit Hd.val RH w2 mb n M ∧ Kept (fun _ => False) w w2 ∧ Rising S) := ⟨H.out.1.off (k0_of B2) (fun z => z) (fun z => z) (fun z => z) (fun _ _ z => z), H.out.2.1.kept (k0_of B2) (fun z => z), H.out.2.2.1.and0 (k0_of B2), H.out.2.2.2⟩
  clear B2 t0 t1
  obtain ⟨zb, hzb⟩ : ∃ zb, isZero x y = zb := ⟨_, rfl⟩
  have HZ : Hid (isZero x y = zb) := hzb
  rw [hzb]
  clear hzb
  cases zb
  · have c0 := cell_blk H2.out.1.row 0 (v := .map (some mb)) rfl
    have c1 := cell_blk H2.out.1.row 1 (v := .pointer (some ⟨sb, 0, none⟩)) rfl
    have t0 := cell_blk H2.out.1.tag 0 (v := .int .i64 x) rfl
    have t1 := cell_blk H2.out.1.tag 1 (v := .int .i64 y) rfl
    go_wp2_with fail
    refine (sCut sb q len cap S x y w2 H2.out.1.st H2.out.2.2.2 LT.out.2.2.2).mono ?_
    rintro o w3 ⟨q', cap', rfl, st3, mv⟩
    have NU : Hid (∀ k, (k = sb ∨ blockOf q = some k) → k < w.heap.size ∧ k ≠ mb) := by
      rintro k (e | e)
      · exact ⟨by rw [e]; exact LT.out.2.1, fun z => NE.out.1 (z.symm.trans e)⟩
      · exact ⟨LT.out.2.2.1 k e, fun z => NE.out.2.1 (by rw [← z]; exact e)⟩
    obtain ⟨rr, hrr⟩ : ∃ rr, rr = w3.heap.size := ⟨_, rfl⟩
    have H3 : Hid (TA w w3 mb sb q' (len - ahead S (x, y)) cap' (S.drop (ahead S (x, y))) x y ∧ TM 37 tl TFit Hd.val RH w3 mb n M ∧ Kept (fun k => k = sb ∨ blockOf q = some k) w w3 ∧ (∀ k, blockOf q' = some k → blockOf q = some k ∨ w2.heap.size ≤ k) ∧ w2.heap.size ≤ w3.heap.size ∧ rr = w3.heap.size) := by
      have hn0 : ∀ k, w.heap.size ≤ k → ¬ (k = sb ∨ blockOf q = some k) := fun k hk z => by have := (NU.out k z).1; omega
      refine ⟨⟨mv.kept.get H2.out.1.row (hn0 _ (Nat.le_refl _)), mv.kept.get H2.out.1.tag (hn0 _ (by omega)), st3⟩, H2.out.2.1.kept mv.kept (fun z => (NU.out _ z).2 rfl), (H2.out.2.2.1.mono (fun _ _ z => z.elim)).trans mv.kept (fun _ _ z => z), mv.near, mv.kept.size, hrr⟩
    have c0 := cell_blk H3.out.1.row 0 (v := .map (some mb)) rfl
    clear st3 mv c1 t0 t1
    go_wp2_with
      (first
        | (at_range; refine wpList_rng tagsK _ rfl _ rfl mb n M rfl H3.out.2.1 ?_; intro w4 hrg0 hk0 hs0)
        | fail)
    rw [← hrr]
    have I0 : Hid (∃ cnt, LI w4 mb rr n M (x, y) w4 cnt) := by
      obtain ⟨cnt, g⟩ := hrg0.out
      rw [← hrr] at g
      refine ⟨cnt, M, _, g, fun _ _ => rfl, fun t ht => ?_, Kept.refl _ _⟩
      have e : M t = none := Classical.byContradiction (fun z => ht z)
      exact (throw_self M (x, y) t e).symm
    have H4 : Hid (TA w w4 mb sb q' (len - ahead S (x, y)) cap' (S.drop (ahead S (x, y))) x y ∧ Kept (fun k => k = sb ∨ blockOf q = some k) w w4 ∧ w.heap.size + 2 ≤ rr ∧ (∀ k, blockOf q' = some k → k ≠ mb ∧ k ≠ rr)) := by
      have b1 := block_lt H3.out.1.tag
      refine ⟨H3.out.1.off hk0.out (fun z => z) (fun z => z) (fun z => z) (fun _ _ z => z), H3.out.2.2.1.and0 hk0.out, by omega, fun k hk => ⟨fun z => ?_, fun z => ?_⟩⟩
      · rcases H3.out.2.2.2.1 k hk with e | e
        · exact (NU.out k (.inr e)).2 z
        · have := LT.out.1
          have := H2.out.2.2.1.size
          omega
      · have := H3.out.1.st.rowlt k hk
        omega
    clear hrg0 hk0 hs0 c0 hrr
    go_frame
    go_loopw [4] (fun _ wr => ∃ cnt, Hid (LI w4 mb rr n M (x, y) wr cnt)) (fun _ wr => wr.rangeLeft mb rr)
    case atStart => exact I0.out
    case round =>
      obtain ⟨cnt, I⟩ := hrel
      obtain ⟨wq, rfl⟩ : ∃ wq : World, wq = wr := ⟨_, rfl⟩
      obtain ⟨Mc, L, rg, l1, l2, Kq⟩ := I.out
      have J : Hid (RG 37 tl TFit Hd.val RH wq mb rr n Mc L cnt ∧ (∀ t, L t → Mc t = M t) ∧ (∀ t, ¬ L t → Mc t = throwM M (x, y) t) ∧ Kept (fun k => k = mb ∨ k = rr) w4 wq) := ⟨rg, l1, l2, Kq⟩
      clear rg l1 l2 Kq
      go_wp2_with
        (first
          | (at_next; refine wpList_nxt tagsK _ rfl _ rfl mb rr n Mc L cnt rfl J.out.1 ?_ ?_)
          | fail)
      · intro hd
        go_wp2_with fail
        go_end0
        have M0 : Mc = throwM M (x, y) := by
          funext t
          refine Classical.byCases (fun ht : L t => ?_) (fun ht => J.out.2.2.1 t ht)
          have e1 := J.out.2.1 t ht
          cases e : M t with
          | none => rw [e1, throw_self M (x, y) t e]
          | some d =>
            obtain ⟨D, hM, sM⟩ := H3.out.2.1
            exact absurd ht (hd.out t.1 t.2 (sM.2 t d e))
        have b1 := H4.out.1.st.sv.lt
        have TQ := H4.out.1.off J.out.2.2.2 (by have := LT.out.1; have := H4.out.2.2.1; omega) (by have := LT.out.1; have := H4.out.2.2.1; omega) (fun z => by rcases z with z | z; exact NE.out.1 z.symm; (have := LT.out.2.1; have := H4.out.2.2.1; omega)) (fun k hk z => by rcases z with z | z; exact (H4.out.2.2.2 k hk).1 z; exact (H4.out.2.2.2 k hk).2 z)
        refine ⟨rfl, ⟨mb, sb, q', len - ahead S (x, y), cap', S.drop (ahead S (x, y)), Mc⟩, ⟨J.out.1.tm, TQ.st, drop_rising _ H2.out.2.2.2 _⟩, ⟨rfl, rfl, ?_, ?_⟩, .inr ⟨HZ.out, rfl, Nat.sub_le _ _, M0⟩⟩
        · refine (H4.out.2.1.mono (fun _ _ z => .inr z)).trans J.out.2.2.2 (fun j hj z => ?_)
          rcases z with z | z
          · exact .inl z
          · have := H4.out.2.2.1
            omega
        · rintro k (z | z | z)
          · exact .inl (.inl z)
          · exact .inl (.inr (.inl z))
          · rcases H3.out.2.2.2.1 k z with e | e
            · exact .inl (.inr (.inr e))
            · exact .inr (Nat.le_trans H2.out.2.2.1.size e)
      · intro ta tb hd w5 cnt5 hk hrg hlt hK hen
        obtain ⟨df, dh, da, dn, dc⟩ := hd
        replace hen : (Instr.entry (.pointer (some ⟨rr, 0, none⟩))).run Tryz.prog w5 = .ok (.tuple #[.agg #[.int .i64 ta, .int .i64 tb], .agg #[.bool df, .bool dh, .slice da dn dc]]) w5 := hen
        dsimp only [tv, Hd.val]
        obtain ⟨W6, hW6⟩ : ∃ W6, W6 = w5.alloc (.cells #[.int .i64 ta, .int .i64 tb] 37) := ⟨_, rfl⟩
        obtain ⟨b6, hb6⟩ : ∃ b6, b6 = w5.heap.size := ⟨_, rfl⟩
        have J5 : Hid (Kept (fun k => k = mb ∨ k = rr) w4 w5) := J.out.2.2.2.trans hK.out (fun _ _ z => .inr z)
        have J6 : Hid (RG 37 tl TFit Hd.val RH W6 mb rr n Mc (fun j => L j ∧ j ≠ (ta, tb)) cnt5 ∧ Kept (fun k => k = mb ∨ k = rr) w4 W6 ∧ W6.heap[b6]? = some (.cells #[.int .i64 ta, .int .i64 tb] 37 (0, 0)) ∧ W6.heap[w.heap.size]? = some (.cells #[.map (some mb), .pointer (some ⟨sb, 0, none⟩)] 89 (0, 0)) ∧ W6.heap[w.heap.size + 1]? = some (.cells #[.int .i64 x, .int .i64 y] 37 (0, 0))) := by
          have K6 : Kept (fun k => k = mb ∨ k = rr) w4 W6 := by rw [hW6]; exact J5.out.alloc _
          refine ⟨by rw [hW6]; exact hrg.out.kept (k0_alloc _ _) (fun z => z) (fun z => z), K6, by rw [hW6, hb6]; exact heap_alloc_new _ _, K6.get H4.out.1.row ?_, K6.get H4.out.1.tag ?_⟩
          · have := LT.out.1
            have := H4.out.2.2.1
            omega
          · have := LT.out.1
            have := H4.out.2.2.1
            omega
        have EW6 : Hid (W6 = w5.alloc (.cells #[.int .i64 ta, .int .i64 tb] 37) ∧ b6 = w5.heap.size) := ⟨hW6, hb6⟩
        clear hW6 hb6
        go_upto_region 6 with fail
        rw [← EW6.out.1, ← EW6.out.2]
        have u0 := cell_blk J6.out.2.2.1 0 (v := .int .i64 ta) rfl
        have u1 := cell_blk J6.out.2.2.1 1 (v := .int .i64 tb) rfl
        have t0 := cell_blk J6.out.2.2.2.2 0 (v := .int .i64 x) rfl
        have t1 := cell_blk J6.out.2.2.2.2 1 (v := .int .i64 y) rfl
        go_wp2_with fail
        refine (compare ta tb x y W6).mono ?_
        rintro o w7 ⟨rfl, B7⟩
        have J7 : Hid (RG 37 tl TFit Hd.val RH w7 mb rr n Mc (fun j => L j ∧ j ≠ (ta, tb)) cnt5 ∧ Kept (fun k => k = mb ∨ k = rr) w4 w7 ∧ w7.heap[b6]? = some (.cells #[.int .i64 ta, .int .i64 tb] 37 (0, 0)) ∧ w7.heap[w.heap.size]? = some (.cells #[.map (some mb), .pointer (some ⟨sb, 0, none⟩)] 89 (0, 0))) := ⟨J6.out.1.kept (k0_of B7) (fun z => z) (fun z => z), J6.out.2.1.and0 (k0_of B7), (k0_of B7).get J6.out.2.2.1 (fun z => z), (k0_of B7).get J6.out.2.2.2.1 (fun z => z)⟩
        clear B7 u0 u1 t0 t1 hen
        by_cases hc : tcmp ta tb x y < 0
        · have u0 := cell_blk J7.out.2.2.1 0 (v := .int .i64 ta) rfl
          have u1 := cell_blk J7.out.2.2.1 1 (v := .int .i64 tb) rfl
          have c0 := cell_blk J7.out.2.2.2 0 (v := .map (some mb)) rfl
          go_wp2_with
            (first
              | (at_delete; refine wpList_del tagsK _ rfl _ _ rfl mb rr n Mc (fun j => L j ∧ j ≠ (ta, tb)) cnt5 rfl J7.out.1 (ta, tb) hk.out.1 rfl ?_; intro w8 cnt8 hrg8 hle8 hK8; go_frame)
              | fail)
          go_roundw
          case rel =>
            refine ⟨cnt8, cut Mc (ta, tb), _, hrg8.out, fun j hj => ?_, fun j hj => ?_, J7.out.2.1.trans hK8.out (fun _ _ z => .inl z)⟩
            · unfold cut
              rw [if_neg hj.2]
              exact J.out.2.1 j hj.1.1
            · unfold cut
              by_cases e : j = (ta, tb)
              · rw [if_pos e, e]
                unfold throwM
                rw [if_pos (show tc (ta, tb) (x, y) < 0 from hc)]
              · rw [if_neg e]
                exact J.out.2.2.1 j (fun z => hj ⟨⟨z, e⟩, e⟩)
          case measure =>
            rw [hrg8.out.left_eq, J.out.1.left_eq]
            have h1 := hlt.out
            have h2 := hle8.out
            omega
        · have hc2 : ¬ (tcmp ta tb x y < 0) := hc
          go_wp2_with fail
          go_roundw
          case rel =>
            refine ⟨cnt5, Mc, _, J7.out.1, fun j hj => J.out.2.1 j hj.1, fun j hj => ?_, J7.out.2.1⟩
            by_cases e : j = (ta, tb)
            · rw [e, J.out.2.1 _ hk.out.2.1]
              unfold throwM
              rw [if_neg (show ¬ tc (ta, tb) (x, y) < 0 from fun z => by have z : tcmp ta tb x y < 0 := z; omega)]
            · exact J.out.2.2.1 j (fun z => hj ⟨z, e⟩)
          case measure =>
            rw [J7.out.1.left_eq, J.out.1.left_eq]
            exact hlt.out
  · go_wp2_with fail
    refine bodyPost_ret (results_none rfl _ _ _) rfl ?_
    exact ⟨rfl, ⟨mb, sb, q, len, cap, S, M⟩, ⟨H2.out.2.1, H2.out.1.st, H2.out.2.2.2⟩, ⟨rfl, rfl, H2.out.2.2.1.mono (fun _ _ z => z.elim), fun k hk => .inl hk⟩, .inl ⟨HZ.out, rfl, rfl⟩⟩
end Go.Proofs.YtojepeefphbekaaGreat
