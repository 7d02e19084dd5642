import Derived.Test.YtojepeefphbekabGreatPRef0J
import Derived.Test.YtojepeefphbekabGreatInv
import Derived.Deep.CutRange
namespace Go.Proofs.YtojepeefphbekabGreat
open Go.RowKit 

def isAt (k : ByteArray) (g : Int × Int) (v : Uv) : Bool := decide (v.1 = k) && decide (v.2.1 = g)
/-- Where a key's tag lies. -/
def plc : List Uv → ByteArray → Int × Int → Nat → Int
  | [], _, _, _ => -1
  | v :: vs, k, g, i => if isAt k g v = true then (i : Int) else plc vs k g (i + 1)
theorem plc_skip (vs : List Uv) (k : ByteArray) (g : Int × Int) : ∀ (i : Nat), i ≤ vs.length → (∀ j (h : j < vs.length), j < i → isAt k g vs[j] = false) → ∀ s, plc vs k g s = plc (vs.drop i) k g (s + i) := by
  induction vs with
  | nil => intro i hi _ s; have : i = 0 := by simpa using hi
           subst this; rfl
  | cons v vs ih =>
    intro i hi hn s
    cases i with
    | zero => rfl
    | succ i =>
      have h0 := hn 0 (by simp) (by omega)
      have h0 : isAt k g v = false := h0
      show (if isAt k g v = true then (s : Int) else plc vs k g (s + 1)) = _
      rw [if_neg (by rw [h0]; decide), ih i (by simpa using hi) (fun j hj hji => hn (j + 1) (by simpa using hj) (by omega)) (s + 1)]
      rw [List.drop_succ_cons]
      congr 1
      omega
theorem plc_at {vs : List Uv} {k : ByteArray} {g : Int × Int} {i : Nat} (hi : i < vs.length) (hn : ∀ j (h : j < vs.length), j < i → isAt k g vs[j] = false) (h : isAt k g vs[i] = true) : plc vs k g 0 = (i : Int) := by
  rw [plc_skip vs k g i (by omega) hn 0, List.drop_eq_getElem_cons hi]
  show (if isAt k g vs[i] = true then ((0 + i : Nat) : Int) else _) = _
  rw [if_pos h, Nat.zero_add]
theorem plc_no {vs : List Uv} {k : ByteArray} {g : Int × Int} (hn : ∀ j (h : j < vs.length), isAt k g vs[j] = false) : plc vs k g 0 = -1 := by
  rw [plc_skip vs k g vs.length (Nat.le_refl _) (fun j hj _ => hn j hj) 0, List.drop_length]
  rfl
theorem along_at {w : World} {L : List Ut} {vs : List Uv} (h : Along (UvRd w) L vs) {i : Nat} {u : Ut} (hu : L[i]? = some u) : ∃ hi : i < vs.length, UvRd w u vs[i] := by
  obtain ⟨h1, h2⟩ := List.getElem?_eq_some_iff.1 hu
  have h3 : i < vs.length := by rw [← h.1]; exact h1
  refine ⟨h3, ?_⟩
  have := h.2 i h1 h3
  rw [h2] at this
  exact this
set_option maxRecDepth 100000 in
set_option maxHeartbeats 4000000 in
/-- place. -/
theorem rPlace (b0 tb : Nat) (delta : Int) (p : Option Addr) (n c : Nat) (L : List Ut) (vs : List Uv) (key : ByteArray) (x y : Int) (w : World) (h : RTab b0 w tb delta p n c L vs) : Calls Tryz.prog 28 #[.pointer (some ⟨tb, 0, none⟩), .string key, .agg #[.int .i64 x, .int .i64 y]] w fun o w' => o = .returned (.int .i64 (plc vs key (x, y) 0)) ∧ Kept (fun _ => False) w w' := by
  obtain ⟨W, hW⟩ : ∃ W, W = w.alloc (.cells #[.int .i64 x, .int .i64 y] 31) := ⟨_, rfl⟩
  have KZ : Kept (fun _ => False) w W := by rw [hW]; exact k0_alloc _ _
  have H : Hid (RTab b0 w tb delta p n c L vs ∧ W.heap[w.heap.size]? = some (.cells #[.int .i64 x, .int .i64 y] 31 (0, 0)) ∧ Kept (fun _ => False) w W) := ⟨h, by rw [hW]; exact heap_alloc_new _ _, KZ⟩
  have rm := own_room h.row
  unfold maxLen at rm
  obtain ⟨rm1, rm2⟩ := rm
  have c1 := cell_blk (KZ.get h.blk (fun z => z)) 1 (v := .slice p n c) rfl
  have EW : Hid (W = w.alloc (.cells #[.int .i64 x, .int .i64 y] 31)) := hW
  have S0 : Hid (Kept (fun _ => False) W W ∧ ∀ j (h : j < vs.length), j < 0 → isAt key (x, y) vs[j] = false) := ⟨Kept.refl _ _, fun j hj z => absurd z (Nat.not_lt_zero _)⟩
  clear h KZ hW
  go_enter Tryz.func28, Tryz.ntmps28
  go_upto_region 1 with fail
  rw [← EW.out]
  go_wp2_with fail
  go_loopw [6, 7, 8, 14] (fun _ _ _ z wr => ∃ (i : Nat), z = .int .i64 (i : Int) ∧ i ≤ n ∧ Hid (Kept (fun _ => False) W wr ∧ ∀ j (h : j < vs.length), j < i → isAt key (x, y) vs[j] = false)) (fun _ _ _ z _ => n - (intOf z).toNat)
  case atStart => exact ⟨0, rfl, Nat.zero_le _, S0⟩
  case round =>
    obtain ⟨i, rfl, hi, S⟩ := hrel
    obtain ⟨wq, hwq⟩ : ∃ wq, wq = wr := ⟨_, rfl⟩
    rw [← hwq] at S ⊢
    clear hwq S0 c1
    by_cases hlt : i < n
    · have i1 : (i : Int) < (n : Int) := by omega
      have R := H.out.1.k0 (H.out.2.2.and0 S.out.1)
      obtain ⟨b, k, u, v, f, g, a, m, q, rfl, hv, e0, e1, e2, e3, e4, e5⟩ := own_rw R.row R.len hlt
      obtain ⟨hi2, uv⟩ := along_at R.rd hv
      have IA : Hid (∃ hi2 : i < vs.length, isAt key (x, y) vs[i] = (decide (k = key) && (decide (u = x) && decide (v = y)))) := by
        refine ⟨hi2, ?_⟩
        unfold isAt
        rw [← uv.key, ← uv.ent.tag]
        show (decide (k = key) && decide ((u, v) = (x, y))) = _
        congr 1
        rw [Bool.eq_iff_iff]
        simp
      obtain ⟨W1, hW1⟩ : ∃ W1, W1 = wq.alloc (.cells #[.string k, .int .i64 u, .int .i64 v, .bool f, .bool g, .slice a m q] 70) := ⟨_, rfl⟩
      obtain ⟨X1, hX1⟩ : ∃ X1, X1 = wq.heap.size := ⟨_, rfl⟩
      have J : Hid (W1.heap[X1]? = some (.cells #[.string k, .int .i64 u, .int .i64 v, .bool f, .bool g, .slice a m q] 70 (0, 0)) ∧ Kept (fun _ => False) W W1 ∧ W1.heap[w.heap.size]? = some (.cells #[.int .i64 x, .int .i64 y] 31 (0, 0))) := by
        have K1 : Kept (fun _ => False) W W1 := by rw [hW1]; exact S.out.1.alloc _
        exact ⟨by rw [hW1, hX1]; exact heap_alloc_new _ _, K1, K1.get H.out.2.1 (fun z => z)⟩
      have EW1 : Hid (W1 = wq.alloc (.cells #[.string k, .int .i64 u, .int .i64 v, .bool f, .bool g, .slice a m q] 70) ∧ X1 = wq.heap.size) := ⟨hW1, hX1⟩
      clear hW1 hX1 R hv hi2 uv
      go_upto_region 4 with fail
      rw [← EW1.out.1, ← EW1.out.2]
      clear e0 e1 e2 e3 e4 e5
      have g0 := cell_blk J.out.1 0 (v := .string k) rfl
      have g1 := cell_blk J.out.1 1 (v := .int .i64 u) rfl
      have g2 := cell_blk J.out.1 2 (v := .int .i64 v) rfl
      have t0 := cell_blk J.out.2.2 0 (v := .int .i64 x) rfl
      have t1 := cell_blk J.out.2.2 1 (v := .int .i64 y) rfl
      by_cases hk : k = key
      · subst hk
        by_cases hu : u = x
        · subst hu
          by_cases hv : v = y
          · subst hv
            have E : Hid (plc vs k (u, v) 0 = (i : Int)) := by
              obtain ⟨h2, e⟩ := IA.out
              exact plc_at h2 S.out.2 (by rw [e]; simp)
            go_wp2_with fail
            go_ret
            exact ⟨by rw [E.out]; rfl, H.out.2.2.and0 J.out.2.1⟩
          · have S2 : Hid (Kept (fun _ => False) W W1 ∧ ∀ j (h : j < vs.length), j < i + 1 → isAt k (u, y) vs[j] = false) := by
              refine ⟨J.out.2.1, fun j hj hji => ?_⟩
              by_cases e : j = i
              · subst e
                obtain ⟨_, e⟩ := IA.out
                rw [e]
                simp [hv]
              · exact S.out.2 j hj (by omega)
            go_wp2_with fail
            go_roundw
            case rel => exact ⟨i + 1, by go_num, by omega, S2⟩
            case measure => simp [intOf] <;> omega
        · have S2 : Hid (Kept (fun _ => False) W W1 ∧ ∀ j (h : j < vs.length), j < i + 1 → isAt k (x, y) vs[j] = false) := by
            refine ⟨J.out.2.1, fun j hj hji => ?_⟩
            by_cases e : j = i
            · subst e
              obtain ⟨_, e⟩ := IA.out
              rw [e]
              simp [hu]
            · exact S.out.2 j hj (by omega)
          go_wp2_with fail
          go_roundw
          case rel => exact ⟨i + 1, by go_num, by omega, S2⟩
          case measure => simp [intOf] <;> omega
      · have hk' := ba_ne hk
        have S2 : Hid (Kept (fun _ => False) W W1 ∧ ∀ j (h : j < vs.length), j < i + 1 → isAt key (x, y) vs[j] = false) := by
          refine ⟨J.out.2.1, fun j hj hji => ?_⟩
          by_cases e : j = i
          · subst e
            obtain ⟨_, e⟩ := IA.out
            rw [e]
            simp [hk]
          · exact S.out.2 j hj (by omega)
        go_wp2_with fail
        go_roundw
        case rel => exact ⟨i + 1, by go_num, by omega, S2⟩
        case measure => simp [intOf] <;> omega
    · have i1 : ¬ (i : Int) < (n : Int) := by omega
      have E : Hid (plc vs key (x, y) 0 = -1) := plc_no (fun j hj => S.out.2 j hj (by have := H.out.1.vlen; omega))
      go_wp2_with fail
      go_ret
      exact ⟨by rw [E.out]; rfl, H.out.2.2.and0 S.out.1⟩
end Go.Proofs.YtojepeefphbekabGreat

namespace Go.Proofs.YtojepeefphbekabGreat
open Go.RowKit 

theorem Tryz.info31c : (Tryz.prog.info? 31).map (fun i => (i.zero, i.size, i.bytes)) = some (some (.agg #[.int .i64 0, .int .i64 0]), 2, 16) := by kernel_rfl
theorem src_tag {w : World} {b : Nat} {x y : Int} (h : w.heap[b]? = some (.cells #[.int .i64 x, .int .i64 y] 31 (0, 0))) : Src Tryz.prog 2 79 (.slice (some ⟨b, 0, none⟩) 1 1) 1 (tcells [(x, y)]) w :=
  Src.ofSlice w Tryz.underlying79 ⟨b, 0, none⟩ 1 1 (tcells [(x, y)]) rfl (fun j u hj => by
    rw [Addr.add_none, Nat.zero_add, cell_of_row w b j _ 31 (0, 0) h]
    simpa [tcells] using hj) (fun v hv => by simp [tcells] at hv; rcases hv with rfl | rfl <;> rfl)
theorem tcells_set : ∀ (L : List (Int × Int)) (j : Nat) (_ : j < L.length) (t : Int × Int), tcells (L.set j t) = ((tcells L).set (j * 2) (.int .i64 t.1)).set (j * 2 + 1) (.int .i64 t.2)
  | [], j, h, t => by simp at h
  | a :: L, 0, _, t => by simp [tcells]
  | a :: L, j + 1, h, t => by
    have ih := tcells_set L j (by simpa using h) t
    have e : ∀ (b : Int × Int) (M : List (Int × Int)), tcells (b :: M) = [.int .i64 b.1, .int .i64 b.2] ++ tcells M := fun b M => by simp [tcells]
    rw [List.set_cons_succ, e, ih, e, show (j + 1) * 2 = j * 2 + 2 by omega, show j * 2 + 2 + 1 = (j * 2 + 1) + 2 by omega]
    rfl
theorem own_tg {b0 : Nat} {w : World} {p : Option Addr} {n c : Nat} {F : List (Int × Int)} (ow : w.ownsRow b0 31 2 (.slice p n c) n (tcells F)) (hl : F.length = n) {i : Nat} (hi : i < n) : ∃ b, p = some ⟨b, 0, none⟩ ∧ w.cell? ⟨b, i * 2, none⟩ = some (.int .i64 (F.getD i (0, 0)).1) ∧ w.cell? ⟨b, i * 2 + 1, none⟩ = some (.int .i64 (F.getD i (0, 0)).2) := by
  rcases ow.2 with ⟨_, hn⟩ | ⟨b, cap, cur, z, _⟩
  · omega
  · have z : Value.slice p n c = .slice (some ⟨b, 0, none⟩) n cap := z
    injection z with z1 _ z3
    subst z1
    subst z3
    have hc := ow.cells (g := b) rfl
    obtain ⟨q1, q2⟩ := tcells_get F i (by omega)
    have h1 := hc (i * 2) _ q1
    have h2 := hc (i * 2 + 1) _ q2
    rw [Addr.add_none, Nat.zero_add] at h1 h2
    exact ⟨b, rfl, h1, h2⟩
/-- Falling tags. -/
def Falls (F : List (Int × Int)) : Prop := F.Pairwise fun a b => ¬ tc a b < 0
/-- One more tag on its way to its place. -/
structure FW (A B : List (Int × Int)) (x : Int × Int) : Prop where
  fall : Falls (A ++ B)
  low : ∀ b ∈ B, tc b x < 0
theorem FW.done {A B : List (Int × Int)} {x : Int × Int} (h : FW A B x) (e : ∀ a ∈ A, ¬ tc a x < 0) : Falls (A ++ x :: B) := by
  unfold Falls at *
  have f := h.fall
  rw [Falls, List.pairwise_append] at f
  rw [List.pairwise_append, List.pairwise_cons]
  refine ⟨f.1, ⟨fun b hb => tc_asym _ _ (h.low b hb), f.2.1⟩, fun a ha b hb => ?_⟩
  rcases List.mem_cons.1 hb with rfl | hb
  · exact e a ha
  · exact f.2.2 a ha b hb
theorem FW.stop {A B : List (Int × Int)} {x a : Int × Int} (h : FW (A ++ [a]) B x) (e : ¬ tc a x < 0) : Falls (A ++ [a] ++ x :: B) := by
  refine h.done (fun b hb => ?_)
  rcases List.mem_append.1 hb with z | z
  · have f := h.fall
    unfold Falls at f
    rw [List.pairwise_append] at f
    have f2 := f.1
    rw [List.pairwise_append] at f2
    have := f2.2.2 b z a (by simp)
    intro q
    rw [tc_lt] at *
    omega
  · rw [List.mem_singleton.1 z]
    exact e
theorem FW.next {A B : List (Int × Int)} {x a : Int × Int} (h : FW (A ++ [a]) B x) (e : tc a x < 0) : FW A (a :: B) x := by
  refine ⟨by have := h.fall; rw [List.append_assoc] at this; exact this, fun b hb => ?_⟩
  rcases List.mem_cons.1 hb with rfl | hb
  · exact e
  · exact h.low b hb
/-- The finalized tags of a key, in the rows' order. -/
def fins0 (key : ByteArray) (vs : List Uv) : List (Int × Int) := (vs.filter fun v => decide (v.1 = key) && v.2.2.1).map fun v => v.2.1
theorem fins0_snoc (key : ByteArray) (vs : List Uv) (v : Uv) : fins0 key (vs ++ [v]) = fins0 key vs ++ (if (decide (v.1 = key) && v.2.2.1) = true then [v.2.1] else []) := by
  unfold fins0
  rw [List.filter_append, List.map_append]
  congr 1
  cases h : (decide (v.1 = key) && v.2.2.1) <;> simp [h]
/-- The round's state. -/
structure Fzs (w wr : World) (p : Option Addr) (n c : Nat) (F : List (Int × Int)) (key : ByteArray) (vs : List Uv) : Prop where
  len : F.length = n
  row : wr.ownsRow w.heap.size 31 2 (.slice p n c) n (tcells F)
  fall : Falls F
  mem : F.Perm (fins0 key vs)
  kept : Kept (fun _ => False) w wr
theorem Fzs.few {w wr : World} {p : Option Addr} {n c : Nat} {F : List (Int × Int)} {key : ByteArray} {vs : List Uv} (h : Fzs w wr p n c F key vs) : n ≤ vs.length := by
  rw [← h.len, h.mem.length_eq]
  unfold fins0
  rw [List.length_map]
  exact List.length_filter_le _ _
end Go.Proofs.YtojepeefphbekabGreat
