import Derived.Test.YtojepeefphbekaaGreatUpdsJ
import Derived.Test.YtojepeefphbekaaGreatUniqJ
import Derived.Test.YtojepeefphbekaaGreatFragJ
import Derived.BigQuiet
namespace Go.Proofs.YtojepeefphbekaaGreat
open Go.RowKit 

/-- A row of the document's table, as it lies in memory. -/
def encR (x : Ut) : List Value := [.string x.1, .int .i64 x.2.1.1, .int .i64 x.2.1.2, .bool x.2.2.1, .bool x.2.2.2.1, .slice x.2.2.2.2.1 x.2.2.2.2.2.1 x.2.2.2.2.2.2]
def rcells (l : List Ut) : List Value := l.flatMap encR
theorem rcells_cons (e : Ut) (l : List Ut) : rcells (e :: l) = encR e ++ rcells l := by simp [rcells]
theorem rcells_append (l m : List Ut) : rcells (l ++ m) = rcells l ++ rcells m := by simp [rcells]
theorem rcells_get (l : List Ut) : ∀ i (h : i < l.length) j, j < 6 → (rcells l)[i * 6 + j]? = (encR l[i])[j]? := by
  induction l with
  | nil => intro i h; simp at h
  | cons t r ih =>
    intro i h j hj
    rw [rcells_cons]
    have e2 : (encR t).length = 6 := rfl
    cases i with
    | zero => rw [List.getElem?_append_left (by rw [e2]; omega)]; simp
    | succ i =>
      rw [List.getElem?_append_right (by rw [e2]; omega), e2, show (i + 1) * 6 + j - 6 = i * 6 + j by omega, ih i (by simpa using h) j hj]
      rfl
theorem Tryz.info109c : (Tryz.prog.info? 109).map (fun i => (i.zero, i.size, i.bytes)) = some (some (.agg #[.string (ByteArray.mk #[]), .int .i64 0, .int .i64 0, .bool false, .bool false, .slice none 0 0]), 6, 64) := by kernel_rfl
theorem src_row {w : World} {b : Nat} {e : Ut} (h : w.heap[b]? = some (.cells (encR e).toArray 109 (0, 0))) : Src Tryz.prog 6 105 (.slice (some ⟨b, 0, none⟩) 1 1) 1 (encR e) w :=
  Src.ofSlice w Tryz.underlying105 ⟨b, 0, none⟩ 1 1 (encR e) rfl (fun j u hj => by
    rw [Addr.add_none, Nat.zero_add, cell_of_row w b j _ 109 (0, 0) h]
    simpa using hj) (fun v hv => by simp [encR] at hv; rcases hv with rfl | rfl | rfl | rfl | rfl | rfl <;> rfl)
theorem own_rw {b0 : Nat} {w : World} {p : Option Addr} {n c : Nat} {L : List Ut} (ow : w.ownsRow b0 109 6 (.slice p n c) n (rcells L)) (hl : L.length = n) {i : Nat} (hi : i < n) : ∃ b k x y f g a m q, p = some ⟨b, 0, none⟩ ∧ L[i]? = some (k, (x, y), f, g, a, m, q) ∧ w.cell? ⟨b, i * 6, none⟩ = some (.string k) ∧ w.cell? ⟨b, i * 6 + 1, none⟩ = some (.int .i64 x) ∧ w.cell? ⟨b, i * 6 + 2, none⟩ = some (.int .i64 y) ∧ w.cell? ⟨b, i * 6 + 3, none⟩ = some (.bool f) ∧ w.cell? ⟨b, i * 6 + 4, none⟩ = some (.bool g) ∧ w.cell? ⟨b, i * 6 + 5, none⟩ = some (.slice a m q) := by
  rcases ow.2 with ⟨_, hn⟩ | ⟨b, cap, cur, z, _⟩
  · omega
  · have z : Value.slice p n c = .slice (some ⟨b, 0, none⟩) n cap := z
    injection z with z1 _ z3
    subst z1
    subst z3
    have hc := ow.cells (g := b) rfl
    have h1 : i < L.length := by omega
    obtain ⟨⟨k, ⟨x, y⟩, f, g, a, m, q⟩, hL⟩ : ∃ e, L[i] = e := ⟨_, rfl⟩
    have cell : ∀ j v, j < 6 → (encR (k, (x, y), f, g, a, m, q))[j]? = some v → w.cell? ⟨b, i * 6 + j, none⟩ = some v := fun j v hj hv => by
      have := hc (i * 6 + j) v (by rw [rcells_get _ i h1 j hj, hL]; exact hv)
      rw [Addr.add_none, Nat.zero_add] at this
      exact this
    exact ⟨b, k, x, y, f, g, a, m, q, rfl, by rw [List.getElem?_eq_getElem h1, hL], cell 0 _ (by omega) rfl, cell 1 _ (by omega) rfl, cell 2 _ (by omega) rfl, cell 3 _ (by omega) rfl, cell 4 _ (by omega) rfl, cell 5 _ (by omega) rfl⟩
/-- The document's table: its block, its rows, what they read as. -/
structure RTab (b0 : Nat) (w : World) (tb : Nat) (delta : Int) (p : Option Addr) (n c : Nat) (L : List Ut) (vs : List Uv) : Prop where
  blk : w.heap[tb]? = some (.cells #[.int .i64 delta, .slice p n c] 107 (0, 0))
  len : L.length = n
  row : w.ownsRow b0 109 6 (.slice p n c) n (rcells L)
  rd : Along (UvRd w) L vs
theorem RTab.k0 {b0 : Nat} {w w' : World} {tb : Nat} {delta : Int} {p : Option Addr} {n c : Nat} {L : List Ut} {vs : List Uv} (h : RTab b0 w tb delta p n c L vs) (K : Kept (fun _ => False) w w') : RTab b0 w' tb delta p n c L vs :=
  ⟨K.get h.blk (fun z => z), h.len, K.owns h.row (fun _ _ z => z), h.rd.imp (fun _ _ q => ⟨q.key, q.ent.off K (fun _ _ _ _ z => z)⟩)⟩
theorem RTab.vlen {b0 : Nat} {w : World} {tb : Nat} {delta : Int} {p : Option Addr} {n c : Nat} {L : List Ut} {vs : List Uv} (h : RTab b0 w tb delta p n c L vs) : vs.length = n := by rw [← h.rd.1, h.len]
/-- below. -/
theorem rBelow (x y x' y' : Int) (w : World) : Calls Tryz.prog 77 #[.agg #[.int .i64 x, .int .i64 y], .agg #[.int .i64 x', .int .i64 y']] w fun o w' => o = .returned (.bool (decide (tc (x, y) (x', y') < 0))) ∧ Kept (fun _ => False) w w' := by
  have K : Kept (fun _ => False) w ((w.alloc (.cells #[.int .i64 x, .int .i64 y] 37)).alloc (.cells #[.int .i64 x', .int .i64 y'] 37)) := ((Kept.refl _ w).alloc _).alloc _
  have e : (tc (x, y) (x', y') < 0) ↔ (x < x' ∨ x = x' ∧ y < y') := tc_lt (x, y) (x', y')
  go_enter Tryz.func77, Tryz.ntmps77
  by_cases h1 : x < x'
  · have : decide (tc (x, y) (x', y') < 0) = true := by rw [decide_eq_true_iff, e]; exact .inl h1
    rw [this]
    go_wp2_with fail
    go_ret
    exact ⟨rfl, K⟩
  · by_cases h2 : x = x'
    · subst h2
      by_cases h3 : y < y'
      · have : decide (tc (x, y) (x, y') < 0) = true := by rw [decide_eq_true_iff, e]; exact .inr ⟨rfl, h3⟩
        rw [this]
        go_wp2_with fail
        go_ret
        exact ⟨rfl, K⟩
      · have : decide (tc (x, y) (x, y') < 0) = false := by rw [decide_eq_false_iff_not, e]; omega
        rw [this]
        go_wp2_with fail
        go_ret
        exact ⟨rfl, K⟩
    · have : decide (tc (x, y) (x', y') < 0) = false := by rw [decide_eq_false_iff_not, e]; omega
      rw [this]
      go_wp2_with fail
      go_ret
      exact ⟨rfl, K⟩
/-- New of the document's table. -/
theorem rNew_bad (d : Int) (w : World) (h : d < 0 ∨ 4611686018427387903 < d) : Calls Tryz.prog 29 #[.int .i64 d] w fun o w' => o = .returned (.tuple #[.pointer none, .int .i64 1]) ∧ w' = w := by
  go_enter Tryz.func29, Tryz.ntmps29
  by_cases h0 : d < 0
  · go_wp2_with fail
    go_ret2
    exact ⟨rfl, rfl⟩
  · have h1 : 4611686018427387903 < d := by omega
    go_wp2_with fail
    go_ret2
    exact ⟨rfl, rfl⟩
theorem rNew_good (d : Int) (w : World) (h0 : 0 ≤ d) (h1 : d ≤ 4611686018427387903) : Calls Tryz.prog 29 #[.int .i64 d] w fun o w' => ∃ tb, o = .returned (.tuple #[.pointer (some ⟨tb, 0, none⟩), .int .i64 0]) ∧ RTab w.heap.size w' tb d none 0 0 [] [] ∧ Kept (fun _ => False) w w' ∧ w.heap.size ≤ tb := by
  go_enter Tryz.func29, Tryz.ntmps29
  go_wp2_with fail
  go_ret2
  exact ⟨w.heap.size, rfl, ⟨heap_alloc_new _ _, rfl, ⟨rfl, .inl ⟨rfl, rfl⟩⟩, Along.nil _⟩, k0_alloc _ _, Nat.le_refl _⟩
end Go.Proofs.YtojepeefphbekaaGreat

namespace Go.Proofs.YtojepeefphbekaaGreat
open Go.RowKit 

def isAt (k : ByteArray) (g : Int × Int) (v : Uv) : Bool := decide (v.1 = k) && decide (v.2.1 = g)
/-- Where a key's tag lies. -/
def plc : List Uv → ByteArray → Int × Int → Nat → Int
  | [], _, _, _ => -1
  | v :: vs, k, g, i => if isAt k g v = true then (i : Int) else plc vs k g (i + 1)
theorem plc_skip (vs : List Uv) (k : ByteArray) (g : Int × Int) : ∀ (i : Nat), i ≤ vs.length → (∀ j (h : j < vs.length), j < i → isAt k g vs[j] = false) → ∀ s, plc vs k g s = plc (vs.drop i) k g (s + i) := by
  induction vs with
  | nil => intro i hi _ s; have : i = 0 := by simpa using hi
           subst this; rfl
  | cons v vs ih =>
    intro i hi hn s
    cases i with
    | zero => rfl
    | succ i =>
      have h0 := hn 0 (by simp) (by omega)
      have h0 : isAt k g v = false := h0
      show (if isAt k g v = true then (s : Int) else plc vs k g (s + 1)) = _
      rw [if_neg (by rw [h0]; decide), ih i (by simpa using hi) (fun j hj hji => hn (j + 1) (by simpa using hj) (by omega)) (s + 1)]
      rw [List.drop_succ_cons]
      congr 1
      omega
theorem plc_at {vs : List Uv} {k : ByteArray} {g : Int × Int} {i : Nat} (hi : i < vs.length) (hn : ∀ j (h : j < vs.length), j < i → isAt k g vs[j] = false) (h : isAt k g vs[i] = true) : plc vs k g 0 = (i : Int) := by
  rw [plc_skip vs k g i (by omega) hn 0, List.drop_eq_getElem_cons hi]
  show (if isAt k g vs[i] = true then ((0 + i : Nat) : Int) else _) = _
  rw [if_pos h, Nat.zero_add]
theorem plc_no {vs : List Uv} {k : ByteArray} {g : Int × Int} (hn : ∀ j (h : j < vs.length), isAt k g vs[j] = false) : plc vs k g 0 = -1 := by
  rw [plc_skip vs k g vs.length (Nat.le_refl _) (fun j hj _ => hn j hj) 0, List.drop_length]
  rfl
theorem along_at {w : World} {L : List Ut} {vs : List Uv} (h : Along (UvRd w) L vs) {i : Nat} {u : Ut} (hu : L[i]? = some u) : ∃ hi : i < vs.length, UvRd w u vs[i] := by
  obtain ⟨h1, h2⟩ := List.getElem?_eq_some_iff.1 hu
  have h3 : i < vs.length := by rw [← h.1]; exact h1
  refine ⟨h3, ?_⟩
  have := h.2 i h1 h3
  rw [h2] at this
  exact this
set_option maxRecDepth 100000 in
set_option maxHeartbeats 4000000 in
/-- place. -/
theorem rPlace (b0 tb : Nat) (delta : Int) (p : Option Addr) (n c : Nat) (L : List Ut) (vs : List Uv) (key : ByteArray) (x y : Int) (w : World) (h : RTab b0 w tb delta p n c L vs) : Calls Tryz.prog 75 #[.pointer (some ⟨tb, 0, none⟩), .string key, .agg #[.int .i64 x, .int .i64 y]] w fun o w' => o = .returned (.int .i64 (plc vs key (x, y) 0)) ∧ Kept (fun _ => False) w w' := by
  obtain ⟨W, hW⟩ : ∃ W, W = w.alloc (.cells #[.int .i64 x, .int .i64 y] 37) := ⟨_, rfl⟩
  have KZ : Kept (fun _ => False) w W := by rw [hW]; exact k0_alloc _ _
  have H : Hid (RTab b0 w tb delta p n c L vs ∧ W.heap[w.heap.size]? = some (.cells #[.int .i64 x, .int .i64 y] 37 (0, 0)) ∧ Kept (fun _ => False) w W) := ⟨h, by rw [hW]; exact heap_alloc_new _ _, KZ⟩
  have rm := own_room h.row
  unfold maxLen at rm
  obtain ⟨rm1, rm2⟩ := rm
  have c1 := cell_blk (KZ.get h.blk (fun z => z)) 1 (v := .slice p n c) rfl
  have EW : Hid (W = w.alloc (.cells #[.int .i64 x, .int .i64 y] 37)) := hW
  have S0 : Hid (Kept (fun _ => False) W W ∧ ∀ j (h : j < vs.length), j < 0 → isAt key (x, y) vs[j] = false) := ⟨Kept.refl _ _, fun j hj z => absurd z (Nat.not_lt_zero _)⟩
  clear h KZ hW
  go_enter Tryz.func75, Tryz.ntmps75
  go_upto_region 1 with fail
  rw [← EW.out]
  go_wp2_with fail
  go_loopw [6, 7, 8, 14] (fun _ _ _ z wr => ∃ (i : Nat), z = .int .i64 (i : Int) ∧ i ≤ n ∧ Hid (Kept (fun _ => False) W wr ∧ ∀ j (h : j < vs.length), j < i → isAt key (x, y) vs[j] = false)) (fun _ _ _ z _ => n - (intOf z).toNat)
  case atStart => exact ⟨0, rfl, Nat.zero_le _, S0⟩
  case round =>
    obtain ⟨i, rfl, hi, S⟩ := hrel
    obtain ⟨wq, hwq⟩ : ∃ wq, wq = wr := ⟨_, rfl⟩
    rw [← hwq] at S ⊢
    clear hwq S0 c1
    by_cases hlt : i < n
    · have i1 : (i : Int) < (n : Int) := by omega
      have R := H.out.1.k0 (H.out.2.2.and0 S.out.1)
      obtain ⟨b, k, u, v, f, g, a, m, q, rfl, hv, e0, e1, e2, e3, e4, e5⟩ := own_rw R.row R.len hlt
      obtain ⟨hi2, uv⟩ := along_at R.rd hv
      have IA : Hid (∃ hi2 : i < vs.length, isAt key (x, y) vs[i] = (decide (k = key) && (decide (u = x) && decide (v = y)))) := by
        refine ⟨hi2, ?_⟩
        unfold isAt
        rw [← uv.key, ← uv.ent.tag]
        show (decide (k = key) && decide ((u, v) = (x, y))) = _
        congr 1
        rw [Bool.eq_iff_iff]
        simp
      obtain ⟨W1, hW1⟩ : ∃ W1, W1 = wq.alloc (.cells #[.string k, .int .i64 u, .int .i64 v, .bool f, .bool g, .slice a m q] 109) := ⟨_, rfl⟩
      obtain ⟨X1, hX1⟩ : ∃ X1, X1 = wq.heap.size := ⟨_, rfl⟩
      have J : Hid (W1.heap[X1]? = some (.cells #[.string k, .int .i64 u, .int .i64 v, .bool f, .bool g, .slice a m q] 109 (0, 0)) ∧ Kept (fun _ => False) W W1 ∧ W1.heap[w.heap.size]? = some (.cells #[.int .i64 x, .int .i64 y] 37 (0, 0))) := by
        have K1 : Kept (fun _ => False) W W1 := by rw [hW1]; exact S.out.1.alloc _
        exact ⟨by rw [hW1, hX1]; exact heap_alloc_new _ _, K1, K1.get H.out.2.1 (fun z => z)⟩
      have EW1 : Hid (W1 = wq.alloc (.cells #[.string k, .int .i64 u, .int .i64 v, .bool f, .bool g, .slice a m q] 109) ∧ X1 = wq.heap.size) := ⟨hW1, hX1⟩
      clear hW1 hX1 R hv hi2 uv
      go_upto_region 4 with fail
      rw [← EW1.out.1, ← EW1.out.2]
      clear e0 e1 e2 e3 e4 e5
      have g0 := cell_blk J.out.1 0 (v := .string k) rfl
      have g1 := cell_blk J.out.1 1 (v := .int .i64 u) rfl
      have g2 := cell_blk J.out.1 2 (v := .int .i64 v) rfl
      have t0 := cell_blk J.out.2.2 0 (v := .int .i64 x) rfl
      have t1 := cell_blk J.out.2.2 1 (v := .int .i64 y) rfl
      by_cases hk : k = key
      · subst hk
        by_cases hu : u = x
        · subst hu
          by_cases hv : v = y
          · subst hv
            have E : Hid (plc vs k (u, v) 0 = (i : Int)) := by
              obtain ⟨h2, e⟩ := IA.out
              exact plc_at h2 S.out.2 (by rw [e]; simp)
            go_wp2_with fail
            go_ret
            exact ⟨by rw [E.out]; rfl, H.out.2.2.and0 J.out.2.1⟩
          · have S2 : Hid (Kept (fun _ => False) W W1 ∧ ∀ j (h : j < vs.length), j < i + 1 → isAt k (u, y) vs[j] = false) := by
              refine ⟨J.out.2.1, fun j hj hji => ?_⟩
              by_cases e : j = i
              · subst e
                obtain ⟨_, e⟩ := IA.out
                rw [e]
                simp [hv]
              · exact S.out.2 j hj (by omega)
            go_wp2_with fail
            go_roundw
            case rel => exact ⟨i + 1, by go_num, by omega, S2⟩
            case measure => simp [intOf] <;> omega
        · have S2 : Hid (Kept (fun _ => False) W W1 ∧ ∀ j (h : j < vs.length), j < i + 1 → isAt k (x, y) vs[j] = false) := by
            refine ⟨J.out.2.1, fun j hj hji => ?_⟩
            by_cases e : j = i
            · subst e
              obtain ⟨_, e⟩ := IA.out
              rw [e]
              simp [hu]
            · exact S.out.2 j hj (by omega)
          go_wp2_with fail
          go_roundw
          case rel => exact ⟨i + 1, by go_num, by omega, S2⟩
          case measure => simp [intOf] <;> omega
      · have hk' := ba_ne hk
        have S2 : Hid (Kept (fun _ => False) W W1 ∧ ∀ j (h : j < vs.length), j < i + 1 → isAt key (x, y) vs[j] = false) := by
          refine ⟨J.out.2.1, fun j hj hji => ?_⟩
          by_cases e : j = i
          · subst e
            obtain ⟨_, e⟩ := IA.out
            rw [e]
            simp [hk]
          · exact S.out.2 j hj (by omega)
        go_wp2_with fail
        go_roundw
        case rel => exact ⟨i + 1, by go_num, by omega, S2⟩
        case measure => simp [intOf] <;> omega
    · have i1 : ¬ (i : Int) < (n : Int) := by omega
      have E : Hid (plc vs key (x, y) 0 = -1) := plc_no (fun j hj => S.out.2 j hj (by have := H.out.1.vlen; omega))
      go_wp2_with fail
      go_ret
      exact ⟨by rw [E.out]; rfl, H.out.2.2.and0 S.out.1⟩
end Go.Proofs.YtojepeefphbekaaGreat
