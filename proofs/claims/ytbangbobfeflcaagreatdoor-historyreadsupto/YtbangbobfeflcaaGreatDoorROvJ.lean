import Derived.Test.YtbangbobfeflcaaGreatDoorRAq
namespace Go.Proofs.YtbangbobfeflcaaGreatDoor
open Go.RowKit 

theorem owns_setN {w : World} {base : Nat} {e : TypeId} {g n c s : Nat} {xs : List Value} (h : w.ownsRow base e s (.slice (some ⟨g, 0, none⟩) n c) n xs) (i : Nat) (u : Value) : (w.setCell ⟨g, i, none⟩ u).ownsRow base e s (.slice (some ⟨g, 0, none⟩) n c) n (xs.set i u) := by
  rcases h.2 with ⟨z, _⟩ | ⟨g', cap, cur, z, h1, h2, h3, h4, h5, h6⟩
  · cases z
  · have z : Value.slice (some ⟨g, 0, none⟩) n c = .slice (some ⟨g', 0, none⟩) n cap := z
    injection z with z1 _ z3
    have z1 : g = g' := by simpa using z1
    subst z1
    subst z3
    refine ⟨by rw [List.length_set]; exact h.1, .inr ⟨g, c, cur.setIfInBounds i u, rfl, h1, set_heap h2 i u, h3, h4, by simpa using h5, ?_⟩⟩
    rw [Array.toList_setIfInBounds, List.take_set, h6]
/-- Client written over in the first events. -/
def clS : Nat → Value → List Value → List Value
  | 0, _, X => X
  | m + 1, v, X => (clS m v X).set (m * 9 + 1) v
theorem clS_len : ∀ (m : Nat) (v : Value) (X : List Value), (clS m v X).length = X.length
  | 0, _, _ => rfl
  | m + 1, v, X => by
    show ((clS m v X).set (m * 9 + 1) v).length = _
    rw [List.length_set]
    exact clS_len m v X
theorem clS_get : ∀ (m : Nat) (v : Value) (X : List Value) (i : Nat), i < m → m * 9 ≤ X.length → (clS m v X)[i * 9 + 1]? = some v
  | 0, _, _, _, h, _ => absurd h (Nat.not_lt_zero _)
  | m + 1, v, X, i, h, hl => by
    show ((clS m v X).set (m * 9 + 1) v)[i * 9 + 1]? = some v
    by_cases e : i = m
    · subst e
      rw [List.getElem?_set_self (by rw [clS_len]; omega)]
    · rw [List.getElem?_set_ne (by omega)]
      exact clS_get m v X i (by omega) (by omega)
/-- Two lists of events, their Clients written over. -/
structure O2 (b0 : Nat) (w W : World) (G : Nat) (p0 p1 : Option Addr) (n c0 c1 : Nat) (X0 X1 : List Value) : Prop where
  r0 : W.ownsRow b0 39 9 (.slice p0 n c0) n X0
  r1 : W.ownsRow b0 39 9 (.slice p1 n c1) n X1
  gg : W.heap[G]? = some (.cells #[.slice p0 n c0, .slice p1 n c1] 22 (0, 0))
  ne : ∀ b, blockOf p0 = some b → ¬ blockOf p1 = some b
  kept : Kept (fun b => blockOf p0 = some b ∨ blockOf p1 = some b) w W
theorem O2.form0 {b0 : Nat} {w W : World} {G : Nat} {p0 p1 : Option Addr} {n c0 c1 : Nat} {X0 X1 : List Value} (h : O2 b0 w W G p0 p1 n c0 c1 X0 X1) (hn : 0 < n) : ∃ g0 g1, p0 = some ⟨g0, 0, none⟩ ∧ p1 = some ⟨g1, 0, none⟩ := by
  rcases h.r0.2 with ⟨_, z⟩ | ⟨g, cap, cur, z, _⟩
  · omega
  · rcases h.r1.2 with ⟨_, y⟩ | ⟨g', cap', cur', y, _⟩
    · omega
    · injection z with z1 _ _
      injection y with y1 _ _
      exact ⟨g, g', z1, y1⟩
theorem O2.ng0 {b0 : Nat} {w W : World} {G : Nat} {p0 p1 : Option Addr} {n c0 c1 : Nat} {X0 X1 : List Value} (h : O2 b0 w W G p0 p1 n c0 c1 X0 X1) : ¬ blockOf p0 = some G := fun z => by
  obtain ⟨c, e⟩ := own_type h.r0 G z
  rw [h.gg] at e
  simp at e
theorem O2.ng1 {b0 : Nat} {w W : World} {G : Nat} {p0 p1 : Option Addr} {n c0 c1 : Nat} {X0 X1 : List Value} (h : O2 b0 w W G p0 p1 n c0 c1 X0 X1) : ¬ blockOf p1 = some G := fun z => by
  obtain ⟨c, e⟩ := own_type h.r1 G z
  rw [h.gg] at e
  simp at e
theorem O2.set0 {b0 : Nat} {w W : World} {G g0 : Nat} {p1 : Option Addr} {n c0 c1 : Nat} {X0 X1 : List Value} (h : O2 b0 w W G (some ⟨g0, 0, none⟩) p1 n c0 c1 X0 X1) (i : Nat) (u : Value) : O2 b0 w (W.setCell ⟨g0, i, none⟩ u) G (some ⟨g0, 0, none⟩) p1 n c0 c1 (X0.set i u) X1 := by
  have K := (Kept.refl (fun j => j = g0) W).setCell (p := ⟨g0, i, none⟩) (fun _ => rfl) u
  refine ⟨owns_setN h.r0 i u, K.owns h.r1 (fun k hk z => ?_), K.get h.gg (fun z => ?_), h.ne, h.kept.trans K (fun j _ z => ?_)⟩
  · have z : k = g0 := z
    subst z
    rw [blockOf_own] at hk
    exact h.ne k rfl hk
  · have z : G = g0 := z
    exact h.ng0 (by rw [z]; rfl)
  · have z : j = g0 := z
    exact .inl (by rw [z]; rfl)
theorem O2.set1 {b0 : Nat} {w W : World} {G g1 : Nat} {p0 : Option Addr} {n c0 c1 : Nat} {X0 X1 : List Value} (h : O2 b0 w W G p0 (some ⟨g1, 0, none⟩) n c0 c1 X0 X1) (i : Nat) (u : Value) : O2 b0 w (W.setCell ⟨g1, i, none⟩ u) G p0 (some ⟨g1, 0, none⟩) n c0 c1 X0 (X1.set i u) := by
  have K := (Kept.refl (fun j => j = g1) W).setCell (p := ⟨g1, i, none⟩) (fun _ => rfl) u
  refine ⟨K.owns h.r0 (fun k hk z => ?_), owns_setN h.r1 i u, K.get h.gg (fun z => ?_), h.ne, h.kept.trans K (fun j _ z => ?_)⟩
  · have z : k = g1 := z
    subst z
    rw [blockOf_own] at hk
    exact h.ne k hk rfl
  · have z : G = g1 := z
    exact h.ng1 (by rw [z]; rfl)
  · have z : j = g1 := z
    exact .inr (by rw [z]; rfl)
theorem row_cell {W : World} {b0 g n c j : Nat} {X : List Value} {v : Value} (h : W.ownsRow b0 39 9 (.slice (some ⟨g, 0, none⟩) n c) n X) (hv : X[j]? = some v) : W.cell? ⟨g, j, none⟩ = some v ∧ W.frozen? ⟨g, j, none⟩ = false := by
  have q := h.cells (g := g) rfl j v hv
  rw [Addr.add_none, Nat.zero_add] at q
  obtain ⟨c1, e1⟩ := own_type h g rfl
  exact ⟨q, soft_blk e1 j⟩
/-- What can be read behind the appends. -/
structure O3 (w W : World) (G : Nat) (p0 p1 : Option Addr) (n c0 c1 : Nat) : Prop where
  gg : W.heap[G]? = some (.cells #[.slice p0 n c0, .slice p1 n c1] 22 (0, 0))
  d0 : ∀ i, i < n → ∃ g, p0 = some ⟨g, 0, none⟩ ∧ W.cell? ⟨g, i * 9 + 1, none⟩ = some (.int .i64 (-100))
  d1 : ∀ i, i < n → ∃ g, p1 = some ⟨g, 0, none⟩ ∧ W.cell? ⟨g, i * 9 + 1, none⟩ = some (.int .i64 (-101))
  kept : Kept (fun b => blockOf p0 = some b ∨ blockOf p1 = some b) w W
/-- What a row still reads as when something was put behind it. -/
theorem still {W W' : World} {b0 n c c9 : Nat} {p p9 : Option Addr} {X E : List Value} {v : Value} {j : Nat} (h : W.ownsRow b0 39 9 (.slice p n c) n X) (hv : X[j]? = some v) (ho : W'.ownsRow b0 39 9 (.slice p9 (n + 1) c9) (n + 1) (X ++ E)) (hn : (Value.slice p9 (n + 1) c9).ownBlock = (Value.slice p n c).ownBlock ∨ ((Value.slice p9 (n + 1) c9).ownBlock = some W.heap.size ∧ W.grownBy W' none)) : ∃ g, p = some ⟨g, 0, none⟩ ∧ W'.cell? ⟨g, j, none⟩ = some v := by
  have hj := (List.getElem?_eq_some_iff.1 hv).1
  rcases h.2 with ⟨_, z⟩ | ⟨g, cap, cur, z, _⟩
  · have := h.1
    omega
  · have z : Value.slice p n c = .slice (some ⟨g, 0, none⟩) n cap := z
    injection z with z1 _ _
    subst z1
    refine ⟨g, rfl, ?_⟩
    have old := (row_cell h hv).1
    rcases hn with q | ⟨_, gn⟩
    · rw [blockOf_own, blockOf_own] at q
      obtain ⟨g9, e9⟩ : ∃ g9, p9 = some ⟨g9, 0, none⟩ := by
        rcases ho.2 with ⟨_, z⟩ | ⟨g', cap, cur, z, _⟩
        · omega
        · injection z with z1 _ _
          exact ⟨g', z1⟩
      rw [e9] at q ho
      obtain rfl : g9 = g := by
        have q : some g9 = some g := q
        exact Option.some.inj q
      exact (row_cell ho (by rw [List.getElem?_append_left hj]; exact hv)).1
    · exact ((Kept.refl (fun _ => False) W).grown gn (fun j _ z => by simp at z)).cell old (fun z => z)
end Go.Proofs.YtbangbobfeflcaaGreatDoor

namespace Go.Proofs.YtbangbobfeflcaaGreatDoor
open Go.RowKit 

/-- Between the two appends. -/
structure OM (b0 : Nat) (w W : World) (G : Nat) (p0 p1 : Option Addr) (n c0 c1 : Nat) (Y1 : List Value) : Prop where
  r1 : W.ownsRow b0 39 9 (.slice p1 n c1) n Y1
  gg : W.heap[G]? = some (.cells #[.slice p0 n c0, .slice p1 n c1] 22 (0, 0))
  d0 : ∀ i, i < n → ∃ g, p0 = some ⟨g, 0, none⟩ ∧ W.cell? ⟨g, i * 9 + 1, none⟩ = some (.int .i64 (-100))
  ne : ∀ b, blockOf p0 = some b → ¬ blockOf p1 = some b
  kept : Kept (fun b => blockOf p0 = some b ∨ blockOf p1 = some b) w W
def stO (b0 : Nat) (w W : World) (G : Nat) (p0 p1 : Option Addr) (n c0 c1 : Nat) (X0 X1 : List Value) (k : Nat) : Prop := O2 b0 w W G p0 p1 n c0 c1 (if 1 ≤ k then clS n (.int .i64 (-100)) X0 else X0) (if 2 ≤ k then clS n (.int .i64 (-101)) X1 else X1)
def stB (b0 : Nat) (w W : World) (G : Nat) (p0 p1 : Option Addr) (n c0 c1 : Nat) (Y0 Y1 : List Value) (k : Nat) : Prop := if k = 0 then O2 b0 w W G p0 p1 n c0 c1 Y0 Y1 else if k = 1 then OM b0 w W G p0 p1 n c0 c1 Y1 else O3 w W G p0 p1 n c0 c1
set_option maxRecDepth 100000 in
set_option maxHeartbeats 4000000 in
theorem hOuter {w : World} {b0 G : Nat} {p0 p1 : Option Addr} {n c0 c1 : Nat} {X0 X1 : List Value} (h0 : O2 b0 w w G p0 p1 n c0 c1 X0 X1) (nb : n ≤ 1000000000) (hb : b0 ≤ w.heap.size) : Calls Tryz.prog 11 #[.slice none 0 0, .slice (some ⟨G, 0, none⟩) 2 2] w fun o w' => o = .returned (.bool true) ∧ Kept (fun b => blockOf p0 = some b ∨ blockOf p1 = some b) w w' := by
  have S0 : Hid (O2 b0 w w G p0 p1 n c0 c1 X0 X1) := h0
  have HX : Hid (X0.length = n * 9 ∧ X1.length = n * 9) := ⟨h0.r0.1, h0.r1.1⟩
  have HB : Hid (b0 ≤ w.heap.size) := hb
  clear h0 hb
  go_enter Tryz.func11, Tryz.ntmps11
  go_wp2_with fail
  go_loopw [5, 6] (fun u5 _ wr => u5 = .int .i64 0 ∧ wr = w) (fun _ _ _ => 0)
  case atStart => exact ⟨rfl, by first | rfl | trivial⟩
  case round =>
    obtain ⟨rfl, hwr⟩ := hrel
    have hwr := hwr.symm
    subst hwr
    go_upto_region 10 with fail
    go_loopw [7, 8] (fun u7 _ wr' => ∃ k : Nat, u7 = .int .i64 (k : Int) ∧ k ≤ 2 ∧ Hid (stO b0 w wr' G p0 p1 n c0 c1 X0 X1 k)) (fun u7 _ _ => 2 - (intOf u7).toNat)
    case atStart => exact ⟨0, rfl, by omega, S0⟩
    case round =>
      clear S0
      obtain ⟨k, rfl, hk, S⟩ := hrel
      obtain ⟨wo, hwo⟩ : ∃ wo, wo = wr := ⟨_, rfl⟩
      rw [← hwo] at S ⊢
      clear hwo
      obtain rfl | rfl | rfl : k = 0 ∨ k = 1 ∨ k = 2 := by omega
      · have S : Hid (O2 b0 w wo G p0 p1 n c0 c1 (clS 0 (.int .i64 (-100)) X0) X1) := S
        go_upto_region 13 with fail
        go_loopw [8] (fun u8 wr => ∃ i : Nat, u8 = .int .i64 (i : Int) ∧ i ≤ n ∧ Hid (O2 b0 w wr G p0 p1 n c0 c1 (clS i (.int .i64 (-100)) X0) X1)) (fun u8 _ => n - (intOf u8).toNat)
        case atStart => exact ⟨0, rfl, Nat.zero_le _, S⟩
        case round =>
          clear S
          obtain ⟨i, rfl, hi, S⟩ := hrel
          obtain ⟨wq, hwq⟩ : ∃ wq, wq = wr := ⟨_, rfl⟩
          rw [← hwq] at S ⊢
          clear hwq
          have e0 := cell_blk S.out.gg 0 (v := .slice p0 n c0) rfl
          have e1 := cell_blk S.out.gg 1 (v := .slice p1 n c1) rfl
          by_cases hit : i < n
          · have lti : (i : Int) < (n : Int) := by omega
            obtain ⟨g0, g1, ep0, ep1⟩ := S.out.form0 (by omega)
            subst ep0
            subst ep1
            obtain ⟨v, hv⟩ : ∃ v, (clS i (.int .i64 (-100)) X0)[i * 9 + 1]? = some v := ⟨_, List.getElem?_eq_getElem (by rw [clS_len]; have := HX.out; omega)⟩
            obtain ⟨cv, cf⟩ := row_cell S.out.r0 hv
            have N9 : Hid (O2 b0 w (wq.setCell ⟨g0, i * 9 + 1, none⟩ (.int .i64 (-100))) G (some ⟨g0, 0, none⟩) (some ⟨g1, 0, none⟩) n c0 c1 (clS (i + 1) (.int .i64 (-100)) X0) X1) := S.out.set0 (i * 9 + 1) (.int .i64 (-100))
            clear hv S
            go_wp2_with fail
            go_roundw
            case rel => exact ⟨i + 1, by go_num, by omega, N9⟩
            case measure => simp [intOf] <;> omega
          · have lti : ¬ (i : Int) < (n : Int) := by omega
            obtain rfl : i = n := by omega
            go_wp2_with fail
            go_roundw
            case rel => exact ⟨1, by first | rfl | go_num, by omega, S⟩
            case measure => simp [intOf]
      · have S : Hid (O2 b0 w wo G p0 p1 n c0 c1 (clS n (.int .i64 (-100)) X0) (clS 0 (.int .i64 (-101)) X1)) := S
        go_upto_region 13 with fail
        go_loopw [8] (fun u8 wr => ∃ i : Nat, u8 = .int .i64 (i : Int) ∧ i ≤ n ∧ Hid (O2 b0 w wr G p0 p1 n c0 c1 (clS n (.int .i64 (-100)) X0) (clS i (.int .i64 (-101)) X1))) (fun u8 _ => n - (intOf u8).toNat)
        case atStart => exact ⟨0, rfl, Nat.zero_le _, S⟩
        case round =>
          clear S
          obtain ⟨i, rfl, hi, S⟩ := hrel
          obtain ⟨wq, hwq⟩ : ∃ wq, wq = wr := ⟨_, rfl⟩
          rw [← hwq] at S ⊢
          clear hwq
          have e0 := cell_blk S.out.gg 0 (v := .slice p0 n c0) rfl
          have e1 := cell_blk S.out.gg 1 (v := .slice p1 n c1) rfl
          by_cases hit : i < n
          · have lti : (i : Int) < (n : Int) := by omega
            obtain ⟨g0, g1, ep0, ep1⟩ := S.out.form0 (by omega)
            subst ep0
            subst ep1
            obtain ⟨v, hv⟩ : ∃ v, (clS i (.int .i64 (-101)) X1)[i * 9 + 1]? = some v := ⟨_, List.getElem?_eq_getElem (by rw [clS_len]; have := HX.out; omega)⟩
            obtain ⟨cv, cf⟩ := row_cell S.out.r1 hv
            have N9 : Hid (O2 b0 w (wq.setCell ⟨g1, i * 9 + 1, none⟩ (.int .i64 (-101))) G (some ⟨g0, 0, none⟩) (some ⟨g1, 0, none⟩) n c0 c1 (clS n (.int .i64 (-100)) X0) (clS (i + 1) (.int .i64 (-101)) X1)) := S.out.set1 (i * 9 + 1) (.int .i64 (-101))
            clear hv S
            go_wp2_with fail
            go_roundw
            case rel => exact ⟨i + 1, by go_num, by omega, N9⟩
            case measure => simp [intOf] <;> omega
          · have lti : ¬ (i : Int) < (n : Int) := by omega
            obtain rfl : i = n := by omega
            go_wp2_with fail
            go_roundw
            case rel => exact ⟨2, by first | rfl | go_num, by omega, S⟩
            case measure => simp [intOf]
      · have T0 : Hid (stB b0 w wo G p0 p1 n c0 c1 (clS n (.int .i64 (-100)) X0) (clS n (.int .i64 (-101)) X1) 0) := S
        clear S
        rw [show ((2 : Nat) : Int) = (2 : Int) from rfl]
        go_upto_region 17 with fail
        go_loopw [9] (fun u9 wr' => ∃ k : Nat, u9 = .int .i64 (k : Int) ∧ k ≤ 2 ∧ Hid (stB b0 w wr' G p0 p1 n c0 c1 (clS n (.int .i64 (-100)) X0) (clS n (.int .i64 (-101)) X1) k)) (fun u9 _ => 2 - (intOf u9).toNat)
        case atStart => exact ⟨0, rfl, by omega, T0⟩
        case round =>
          clear T0
          obtain ⟨k, rfl, hk, S⟩ := hrel
          obtain ⟨wq, hwq⟩ : ∃ wq, wq = wr := ⟨_, rfl⟩
          rw [← hwq] at S ⊢
          clear hwq
          obtain rfl | rfl | rfl : k = 0 ∨ k = 1 ∨ k = 2 := by omega
          · have S : Hid (O2 b0 w wq G p0 p1 n c0 c1 (clS n (.int .i64 (-100)) X0) (clS n (.int .i64 (-101)) X1)) := S
            have e0 := cell_blk S.out.gg 0 (v := .slice p0 n c0) rfl
            obtain ⟨X, hX⟩ : ∃ X, wq.alloc (.cells #[.int .i64 0, .int .i64 (-100), .int .i64 0, .bool false, .string ⟨#[]⟩, .slice none 0 0, .int .i64 0, .int .i64 0, .int .i64 0] 39) = X := ⟨_, rfl⟩
            have KX : Hid (Kept (fun _ => False) wq X) := by rw [← hX]; exact (Kept.refl _ _).alloc _
            have SR : Hid (Src Tryz.prog 9 22 (.slice (some ⟨wq.heap.size, 0, none⟩) 1 1) 1 (ecs [⟨0, -100, 0, false, ⟨#[]⟩, none, 0, 0, 0, 0, 0, []⟩]) X) := by rw [← hX]; exact src_ev (e := ⟨0, -100, 0, false, ⟨#[]⟩, none, 0, 0, 0, 0, 0, []⟩) (alloc_new _ _)
            have OW : Hid (X.ownsRow b0 39 9 (.slice p0 n c0) n (clS n (.int .i64 (-100)) X0)) := KX.out.owns S.out.r0 (fun _ _ z => z)
            have BB : Hid (b0 ≤ X.heap.size) := Nat.le_trans HB.out (Nat.le_trans S.out.kept.size KX.out.size)
            have EX : Hid (wq.alloc (.cells #[.int .i64 0, .int .i64 (-100), .int .i64 0, .bool false, .string ⟨#[]⟩, .slice none 0 0, .int .i64 0, .int .i64 0, .int .i64 0] 39) = X) := hX
            clear hX
            go_upto_region 19 with fail
            go_upto_region 18 with
              (first
                | (at_builtin; rw [EX.out]; refine wpList_append_all _ rfl (.tmp 80) (.tmp 84) 22 39 22 _ 9 96 rfl Tryz.underlying22 Tryz.info39c rfl b0 (.slice p0 n c0) n (clS n (.int .i64 (-100)) X0) rfl OW.out _ 1 (ecs [⟨0, -100, 0, false, ⟨#[]⟩, none, 0, 0, 0, 0, 0, []⟩]) rfl SR.out (by unfold maxLen; omega) (by omega) BB.out ?_; intro p9 c9 w9 ho hg hn9)
                | fail)
            have N9 : Hid (stB b0 w w9 G p0 p1 n c0 c1 (clS n (.int .i64 (-100)) X0) (clS n (.int .i64 (-101)) X1) 1) := by
              have KG := kgr hg.out
              refine (show OM b0 w w9 G p0 p1 n c0 c1 (clS n (.int .i64 (-101)) X1) from ⟨KG.owns (KX.out.owns S.out.r1 (fun _ _ z => z)) (fun j z => ?_), KG.get (KX.out.get S.out.gg (fun z => z)) S.out.ng0, fun i hi => ?_, S.out.ne, ?_⟩)
              · rw [blockOf_own] at z
                exact fun e => S.out.ne j e z
              · exact still OW.out (clS_get n _ X0 i hi (by have := HX.out.1; omega)) ho.out hn9.out
              · exact (S.out.kept.trans KX.out (fun _ _ z => z.elim)).trans KG (fun j _ z => .inl z)
            clear ho hg hn9 S KX SR OW BB EX e0
            go_wp2_with fail
            go_roundw
            case rel => exact ⟨1, by first | rfl | go_num, by omega, N9⟩
            case measure => simp [intOf]
          · have S : Hid (OM b0 w wq G p0 p1 n c0 c1 (clS n (.int .i64 (-101)) X1)) := S
            have e1 := cell_blk S.out.gg 1 (v := .slice p1 n c1) rfl
            obtain ⟨X, hX⟩ : ∃ X, wq.alloc (.cells #[.int .i64 0, .int .i64 (-101), .int .i64 0, .bool false, .string ⟨#[]⟩, .slice none 0 0, .int .i64 0, .int .i64 0, .int .i64 0] 39) = X := ⟨_, rfl⟩
            have KX : Hid (Kept (fun _ => False) wq X) := by rw [← hX]; exact (Kept.refl _ _).alloc _
            have SR : Hid (Src Tryz.prog 9 22 (.slice (some ⟨wq.heap.size, 0, none⟩) 1 1) 1 (ecs [⟨0, -101, 0, false, ⟨#[]⟩, none, 0, 0, 0, 0, 0, []⟩]) X) := by rw [← hX]; exact src_ev (e := ⟨0, -101, 0, false, ⟨#[]⟩, none, 0, 0, 0, 0, 0, []⟩) (alloc_new _ _)
            have OW : Hid (X.ownsRow b0 39 9 (.slice p1 n c1) n (clS n (.int .i64 (-101)) X1)) := KX.out.owns S.out.r1 (fun _ _ z => z)
            have BB : Hid (b0 ≤ X.heap.size) := Nat.le_trans HB.out (Nat.le_trans S.out.kept.size KX.out.size)
            have EX : Hid (wq.alloc (.cells #[.int .i64 0, .int .i64 (-101), .int .i64 0, .bool false, .string ⟨#[]⟩, .slice none 0 0, .int .i64 0, .int .i64 0, .int .i64 0] 39) = X) := hX
            clear hX
            go_upto_region 19 with fail
            go_upto_region 18 with
              (first
                | (at_builtin; rw [EX.out]; refine wpList_append_all _ rfl (.tmp 80) (.tmp 84) 22 39 22 _ 9 96 rfl Tryz.underlying22 Tryz.info39c rfl b0 (.slice p1 n c1) n (clS n (.int .i64 (-101)) X1) rfl OW.out _ 1 (ecs [⟨0, -101, 0, false, ⟨#[]⟩, none, 0, 0, 0, 0, 0, []⟩]) rfl SR.out (by unfold maxLen; omega) (by omega) BB.out ?_; intro p9 c9 w9 ho hg hn9)
                | fail)
            have N9 : Hid (stB b0 w w9 G p0 p1 n c0 c1 (clS n (.int .i64 (-100)) X0) (clS n (.int .i64 (-101)) X1) 2) := by
              have KG := kgr hg.out
              refine (show O3 w w9 G p0 p1 n c0 c1 from ⟨KG.get (KX.out.get S.out.gg (fun z => z)) (fun z => ?_), fun i hi => ?_, fun i hi => ?_, ?_⟩)
              · obtain ⟨c, e⟩ := own_type S.out.r1 G z
                rw [S.out.gg] at e
                simp at e
              · obtain ⟨g, e1, e2⟩ := S.out.d0 i hi
                exact ⟨g, e1, KG.cell (KX.out.cell e2 (fun z => z)) (fun z => S.out.ne g (by rw [e1]; rfl) z)⟩
              · exact still OW.out (clS_get n _ X1 i hi (by have := HX.out.2; omega)) ho.out hn9.out
              · exact (S.out.kept.trans KX.out (fun _ _ z => z.elim)).trans KG (fun j _ z => .inr z)
            clear ho hg hn9 S KX SR OW BB EX e1
            go_wp2_with fail
            go_roundw
            case rel => exact ⟨2, by first | rfl | go_num, by omega, N9⟩
            case measure => simp [intOf]
          · have S : Hid (O3 w wq G p0 p1 n c0 c1) := S
            go_upto_region 21 with fail
            go_loopw [10, 11] (fun u10 _ wr' => u10 = .int .i64 0 ∧ wr' = wq) (fun _ _ _ => 0)
            case atStart => exact ⟨rfl, by first | rfl | trivial⟩
            case round =>
              obtain ⟨rfl, hwr⟩ := hrel
              have hwr := hwr.symm
              subst hwr
              go_upto_region 29 with fail
              go_loopw [12, 13] (fun u12 _ wr' => ∃ k : Nat, u12 = .int .i64 (k : Int) ∧ k ≤ 2 ∧ wr' = wq) (fun u12 _ _ => 2 - (intOf u12).toNat)
              case atStart => exact ⟨0, rfl, by omega, by first | rfl | trivial⟩
              case round =>
                obtain ⟨k, rfl, hk, hwr⟩ := hrel
                have hwr := hwr.symm
                subst hwr
                have e0 := cell_blk S.out.gg 0 (v := .slice p0 n c0) rfl
                have e1 := cell_blk S.out.gg 1 (v := .slice p1 n c1) rfl
                obtain rfl | rfl | rfl : k = 0 ∨ k = 1 ∨ k = 2 := by omega
                · go_upto_region 32 with fail
                  go_loopw [13] (fun u13 wr' => ∃ i : Nat, u13 = .int .i64 (i : Int) ∧ i ≤ n ∧ wr' = wq) (fun u13 _ => n - (intOf u13).toNat)
                  case atStart => exact ⟨0, rfl, Nat.zero_le _, by first | rfl | trivial⟩
                  case round =>
                    obtain ⟨i, rfl, hi, hwr⟩ := hrel
                    have hwr := hwr.symm
                    subst hwr
                    by_cases hit : i < n
                    · have lti : (i : Int) < (n : Int) := by omega
                      obtain ⟨g, eg, cg⟩ := S.out.d0 i hit
                      subst eg
                      go_wp2_with fail
                      go_roundw
                      case rel => exact ⟨i + 1, by go_num, by omega, by trivial⟩
                      case measure => simp [intOf] <;> omega
                    · have lti : ¬ (i : Int) < (n : Int) := by omega
                      go_wp2_with fail
                      go_roundw
                      case rel => exact ⟨1, by first | rfl | go_num, by omega, by trivial⟩
                      case measure => simp [intOf]
                · go_upto_region 32 with fail
                  go_loopw [13] (fun u13 wr' => ∃ i : Nat, u13 = .int .i64 (i : Int) ∧ i ≤ n ∧ wr' = wq) (fun u13 _ => n - (intOf u13).toNat)
                  case atStart => exact ⟨0, rfl, Nat.zero_le _, by first | rfl | trivial⟩
                  case round =>
                    obtain ⟨i, rfl, hi, hwr⟩ := hrel
                    have hwr := hwr.symm
                    subst hwr
                    by_cases hit : i < n
                    · have lti : (i : Int) < (n : Int) := by omega
                      obtain ⟨g, eg, cg⟩ := S.out.d1 i hit
                      subst eg
                      go_wp2_with fail
                      go_roundw
                      case rel => exact ⟨i + 1, by go_num, by omega, by trivial⟩
                      case measure => simp [intOf] <;> omega
                    · have lti : ¬ (i : Int) < (n : Int) := by omega
                      go_wp2_with fail
                      go_roundw
                      case rel => exact ⟨2, by first | rfl | go_num, by omega, by trivial⟩
                      case measure => simp [intOf]
                · have KF : Hid (Kept (fun b => blockOf p0 = some b ∨ blockOf p1 = some b) w wq) := S.out.kept
                  clear S e0 e1
                  go_wp2_with fail
                  go_ret
                  exact ⟨by first | rfl | simp, KF.out⟩
end Go.Proofs.YtbangbobfeflcaaGreatDoor
