import Derived.Test.YtojepeefphbekaaGreatUpdsJ
import Derived.Test.YtojepeefphbekaaGreatPMayJ
import Derived.Test.YtojepeefphbekaaGreatUniqJ
import Derived.Test.YtojepeefphbekaaGreatPFragRJ
import Derived.Test.YtojepeefphbekaaGreatPGet
import Derived.Test.YtojepeefphbekaaGreatPDoesJ
namespace Go.Proofs.YtojepeefphbekaaGreat
open Go.RowKit 

theorem UpRd.at {b0 : Nat} {w : World} {p : Option Addr} {n c : Nat} {us : List Uv} (h : UpRd b0 w p n c us) {i : Nat} (hi : i < n) : ∃ b k x y f g l a m cc, p = some ⟨b, 0, none⟩ ∧ us[i]? = some (k, entV x y f g l) ∧ w.cell? ⟨b, i * 7, none⟩ = some (.int .i64 3) ∧ w.cell? ⟨b, i * 7 + 1, none⟩ = some (.string k) ∧ w.cell? ⟨b, i * 7 + 2, none⟩ = some (.int .i64 x) ∧ w.cell? ⟨b, i * 7 + 3, none⟩ = some (.int .i64 y) ∧ w.cell? ⟨b, i * 7 + 4, none⟩ = some (.bool f) ∧ w.cell? ⟨b, i * 7 + 5, none⟩ = some (.bool g) ∧ w.cell? ⟨b, i * 7 + 6, none⟩ = some (.slice a m cc) ∧ Reads w a m cc l := by
  obtain ⟨L, ow, al⟩ := h.row
  have hl : L.length = n := by rw [al.1]; exact h.len
  rcases ow.2 with ⟨_, hn⟩ | ⟨b, cap, cur, z, _⟩
  · omega
  · have z : Value.slice p n c = .slice (some ⟨b, 0, none⟩) n cap := z
    injection z with z1 _ z3
    subst z1
    subst z3
    have hc := ow.cells (g := b) rfl
    have h1 : i < L.length := by omega
    have h2 : i < us.length := by rw [h.len]; exact hi
    obtain ⟨⟨k, ⟨x, y⟩, f, g, a, m, cc⟩, hL⟩ : ∃ e, L[i] = e := ⟨_, rfl⟩
    have q := al.2 i h1 h2
    rw [hL] at q
    have cell : ∀ j v, j < 7 → (encU (k, (x, y), f, g, a, m, cc))[j]? = some v → w.cell? ⟨b, i * 7 + j, none⟩ = some v := fun j v hj hv => by
      have := hc (i * 7 + j) v (by rw [ucells_get L i h1 j hj, hL]; exact hv)
      rw [Addr.add_none, Nat.zero_add] at this
      exact this
    refine ⟨b, k, x, y, f, g, us[i].2.2.2.2, a, m, cc, rfl, ?_, cell 0 _ (by omega) rfl, cell 1 _ (by omega) rfl, cell 2 _ (by omega) rfl, cell 3 _ (by omega) rfl, cell 4 _ (by omega) rfl, cell 5 _ (by omega) rfl, cell 6 _ (by omega) rfl, q.ent.data⟩
    rw [List.getElem?_eq_getElem h2]
    congr 1
    exact Prod.ext q.key.symm (Prod.ext q.ent.tag.symm (Prod.ext q.ent.fin.symm (Prod.ext q.ent.has.symm rfl)))
theorem UpRd.small {b0 : Nat} {w : World} {p : Option Addr} {n c : Nat} {us : List Uv} (h : UpRd b0 w p n c us) : n ≤ c ∧ c ≤ maxLen := by
  obtain ⟨L, ow, al⟩ := h.row
  exact own_room ow
set_option maxRecDepth 100000 in
set_option maxHeartbeats 4000000 in
/-- Two lists of updates that are alike. -/
theorem sameUpdatesE (b1 b2 : Nat) (p1 p2 : Option Addr) (m1 c1 c2 : Nat) (us : List Uv) (w : World) (h1 : UpRd b1 w p1 m1 c1 us) (h2 : UpRd b2 w p2 m1 c2 us) :
    Calls Tryz.prog 25 #[.slice p1 m1 c1, .slice p2 m1 c2] w fun o w' => o = .returned (.bool true) ∧ Kept (fun _ => False) w w' := by
  have H : Hid (UpRd b1 w p1 m1 c1 us ∧ UpRd b2 w p2 m1 c2 us) := ⟨h1, h2⟩
  have hl := Nat.le_trans h1.small.1 h1.small.2
  unfold maxLen at hl
  clear h1 h2
  go_enter Tryz.func25, Tryz.ntmps25
  go_wp2_with fail
  go_loopw [5, 13] (fun _ x wr => ∃ (i : Nat), x = .int .i64 (i : Int) ∧ i ≤ m1 ∧ Hid (Kept (fun _ => False) w wr)) (fun _ x _ => m1 - (intOf x).toNat)
  case atStart => exact ⟨0, rfl, Nat.zero_le _, Kept.refl _ _⟩
  case round =>
    obtain ⟨i, rfl, hi, S⟩ := hrel
    by_cases hlt : i < m1
    · have i1 : (i : Int) < (m1 : Int) := by omega
      obtain ⟨g1, k, x, y, f, g, l1, a1, n1, q1, rfl, v1, d0, d1, d2, d3, d4, d5, d6, r1⟩ := (H.out.1.k0 S.out).at hlt
      obtain ⟨g2, k', x', y', f', g', l2, a2, n2, q2, rfl, v2, f0, f1, f2, f3, f4, f5, f6, r2⟩ := (H.out.2.k0 S.out).at hlt
      rw [v1] at v2
      have ev : (k, entV x y f g l1) = (k', entV x' y' f' g' l2) := Option.some.inj v2
      have ek : k = k' := congrArg (fun u : Uv => u.1) ev
      have ex : x = x' := congrArg (fun u : Uv => u.2.1.1) ev
      have ey : y = y' := congrArg (fun u : Uv => u.2.1.2) ev
      have ef : f = f' := congrArg (fun u : Uv => u.2.2.1) ev
      have eg : g = g' := congrArg (fun u : Uv => u.2.2.2.1) ev
      have el : l1 = l2 := congrArg (fun u : Uv => u.2.2.2.2) ev
      clear ev v1 v2
      subst ek ex ey ef eg el
      have RR : Hid (Reads wr a1 n1 q1 l1 ∧ Reads wr a2 n2 q2 l1) := ⟨r1, r2⟩
      have CF : Hid (∀ V, Kept (fun _ => False) wr V → V.cell? ⟨g1, i * 7, none⟩ = some (.int .i64 3) ∧ V.cell? ⟨g1, i * 7 + 1, none⟩ = some (.string k) ∧ V.cell? ⟨g1, i * 7 + 2, none⟩ = some (.int .i64 x) ∧ V.cell? ⟨g1, i * 7 + 3, none⟩ = some (.int .i64 y) ∧ V.cell? ⟨g1, i * 7 + 4, none⟩ = some (.bool f) ∧ V.cell? ⟨g1, i * 7 + 5, none⟩ = some (.bool g) ∧ V.cell? ⟨g1, i * 7 + 6, none⟩ = some (.slice a1 n1 q1) ∧ V.cell? ⟨g2, i * 7, none⟩ = some (.int .i64 3) ∧ V.cell? ⟨g2, i * 7 + 1, none⟩ = some (.string k) ∧ V.cell? ⟨g2, i * 7 + 2, none⟩ = some (.int .i64 x) ∧ V.cell? ⟨g2, i * 7 + 3, none⟩ = some (.int .i64 y) ∧ V.cell? ⟨g2, i * 7 + 4, none⟩ = some (.bool f) ∧ V.cell? ⟨g2, i * 7 + 5, none⟩ = some (.bool g) ∧ V.cell? ⟨g2, i * 7 + 6, none⟩ = some (.slice a2 n2 q2)) := fun V K => ⟨K.cell d0 (fun z => z), K.cell d1 (fun z => z), K.cell d2 (fun z => z), K.cell d3 (fun z => z), K.cell d4 (fun z => z), K.cell d5 (fun z => z), K.cell d6 (fun z => z), K.cell f0 (fun z => z), K.cell f1 (fun z => z), K.cell f2 (fun z => z), K.cell f3 (fun z => z), K.cell f4 (fun z => z), K.cell f5 (fun z => z), K.cell f6 (fun z => z)⟩
      clear r1 r2
      go_upto_region 6 with fail
      go_region_held3 (fun V => V.cell? ⟨g1, i * 7, none⟩ = some (.int .i64 3) ∧ V.cell? ⟨g1, i * 7 + 1, none⟩ = some (.string k) ∧ V.cell? ⟨g1, i * 7 + 2, none⟩ = some (.int .i64 x) ∧ V.cell? ⟨g1, i * 7 + 3, none⟩ = some (.int .i64 y) ∧ V.cell? ⟨g1, i * 7 + 4, none⟩ = some (.bool f) ∧ V.cell? ⟨g1, i * 7 + 5, none⟩ = some (.bool g) ∧ V.cell? ⟨g1, i * 7 + 6, none⟩ = some (.slice a1 n1 q1) ∧ V.cell? ⟨g2, i * 7, none⟩ = some (.int .i64 3) ∧ V.cell? ⟨g2, i * 7 + 1, none⟩ = some (.string k) ∧ V.cell? ⟨g2, i * 7 + 2, none⟩ = some (.int .i64 x) ∧ V.cell? ⟨g2, i * 7 + 3, none⟩ = some (.int .i64 y) ∧ V.cell? ⟨g2, i * 7 + 4, none⟩ = some (.bool f) ∧ V.cell? ⟨g2, i * 7 + 5, none⟩ = some (.bool g) ∧ V.cell? ⟨g2, i * 7 + 6, none⟩ = some (.slice a2 n2 q2)) (first | go_keep)
        (first
          | (go_at_call 41; refine (sameEntry x y f g l1 a1 n1 q1 a2 n2 q2 wr.drew (fun V KV => RR.out.1.txt V ((Kept.refl _ _).drew.and0 KV)) (fun V KV => RR.out.2.txt V ((Kept.refl _ _).drew.and0 KV))).mono ?_; rintro o w2 ⟨rfl, K2⟩
             have K3 : Hid (Kept (fun _ => False) wr w2) := ((Kept.refl _ _).drew).and0 K2
             obtain ⟨d0, d1, d2, d3, d4, d5, d6, f0, f1, f2, f3, f4, f5, f6⟩ := CF.out w2 K3.out
             clear K2)
          | fail)
      go_wp2_with fail
      go_roundw
      case rel => exact ⟨i + 1, by go_num, by omega, S.out.and0 K3.out⟩
      case measure => simp [intOf] <;> omega
    · have i1 : ¬ (i : Int) < (m1 : Int) := by omega
      go_wp2_with fail
      go_ret
      exact ⟨rfl, S.out⟩
end Go.Proofs.YtojepeefphbekaaGreat

namespace Go.Proofs.YtojepeefphbekaaGreat
open Go.RowKit 

set_option maxRecDepth 100000 in
set_option maxHeartbeats 8000000 in
/-- tells. -/
theorem lTells (P Q : Value) (ks : List ByteArray) (avs : List Av) (us : List Uv) (w : World)
    (K1 : Hid (∀ V, Kept (fun _ => False) w V → Calls Tryz.prog 13 #[P] V fun o w' => ∃ p n c, o = .returned (.slice p n c) ∧ Hid (ks.length = n ∧ w'.ownsRow 0 9 1 (.slice p n c) n (strs ks) ∧ Kept (fun _ => False) V w')))
    (K2 : Hid (∀ V, Kept (fun _ => False) w V → Calls Tryz.prog 53 #[Q] V fun o w' => ∃ p n c, o = .returned (.slice p n c) ∧ Hid (ks.length = n ∧ w'.ownsRow 0 9 1 (.slice p n c) n (strs ks) ∧ Kept (fun _ => False) V w')))
    (A1 : Hid (∀ V, Kept (fun _ => False) w V → Calls Tryz.prog 11 #[P] V fun o w' => ∃ p n c, o = .returned (.slice p n c) ∧ Hid (AllRd w' p n c avs ∧ Kept (fun _ => False) V w')))
    (A2 : Hid (∀ V, Kept (fun _ => False) w V → Calls Tryz.prog 54 #[Q] V fun o w' => ∃ p n c, o = .returned (.slice p n c) ∧ Hid (AllRd w' p n c avs ∧ Kept (fun _ => False) V w')))
    (U1 : Hid (∀ V, Kept (fun _ => False) w V → Calls Tryz.prog 12 #[P] V fun o w' => ∃ p n c, o = .returned (.slice p n c) ∧ Hid (UpRd 0 w' p n c us ∧ Kept (fun _ => False) V w')))
    (U2 : Hid (∀ V, Kept (fun _ => False) w V → Calls Tryz.prog 55 #[Q] V fun o w' => ∃ p n c, o = .returned (.slice p n c) ∧ Hid (UpRd 0 w' p n c us ∧ Kept (fun _ => False) V w'))) :
    Calls Tryz.prog 32 #[P, Q] w fun o w' => o = .returned (.bool true) ∧ Kept (fun _ => False) w w' := by
  go_enter Tryz.func32, Tryz.ntmps32
  go_wp2_with fail
  refine (K1.out w (Kept.refl _ _)).mono ?_
  rintro o w1 ⟨p1, n1, c1, rfl, Q1⟩
  go_wp2_with fail
  refine (K2.out w1 Q1.out.2.2).mono ?_
  rintro o w2 ⟨p2, n2, c2, rfl, Q2⟩
  have en : n2 = n1 := by rw [← Q2.out.1, Q1.out.1]
  subst en
  have P2 : Hid (Kept (fun _ => False) w w2) := Q1.out.2.2.and0 Q2.out.2.2
  go_wp2_with fail
  refine (sameKeysE 0 0 p1 p2 n2 c1 c2 ks w2 (Q2.out.2.2.owns Q1.out.2.1 (fun _ _ z => z)) Q2.out.2.1 Q2.out.1).mono ?_
  rintro o w3 ⟨rfl, K3⟩
  have P3 : Hid (Kept (fun _ => False) w w3) := P2.out.and0 K3
  clear K3
  go_wp2_with fail
  refine (A1.out w3 P3.out).mono ?_
  rintro o w4 ⟨p4, n4, c4, rfl, Q4⟩
  have P4 : Hid (Kept (fun _ => False) w w4) := P3.out.and0 Q4.out.2
  go_wp2_with fail
  refine (A2.out w4 P4.out).mono ?_
  rintro o w5 ⟨p5, n5, c5, rfl, Q5⟩
  have P5 : Hid (Kept (fun _ => False) w w5) := P4.out.and0 Q5.out.2
  go_wp2_with fail
  refine (sameAllG p4 p5 n4 n5 c4 c5 avs avs w5 (Q4.out.1.k0 Q5.out.2) Q5.out.1).mono ?_
  rintro o w6 ⟨⟨b6, rfl, e6⟩, K6⟩
  have eb : b6 = true := e6.2 rfl
  subst eb
  have P6 : Hid (Kept (fun _ => False) w w6) := P5.out.and0 K6
  clear K6 e6
  go_wp2_with fail
  refine (U1.out w6 P6.out).mono ?_
  rintro o w7 ⟨p7, n7, c7, rfl, Q7⟩
  have P7 : Hid (Kept (fun _ => False) w w7) := P6.out.and0 Q7.out.2
  go_wp2_with fail
  refine (U2.out w7 P7.out).mono ?_
  rintro o w8 ⟨p8, n8, c8, rfl, Q8⟩
  have en : n8 = n7 := by rw [← Q8.out.1.len, Q7.out.1.len]
  subst en
  have P8 : Hid (Kept (fun _ => False) w w8) := P7.out.and0 Q8.out.2
  go_wp2_with fail
  refine (sameUpdatesE 0 0 p7 p8 n8 c7 c8 us w8 (Q7.out.1.k0 Q8.out.2) Q8.out.1).mono ?_
  rintro o w9 ⟨rfl, K9⟩
  go_wp2_with fail
  go_ret
  exact ⟨rfl, P8.out.and0 K9⟩
end Go.Proofs.YtojepeefphbekaaGreat

namespace Go.Proofs.YtojepeefphbekaaGreat
open Go.RowKit 

set_option maxRecDepth 100000 in
set_option maxHeartbeats 8000000 in
/-- plays: Apply and Would. -/
theorem lPlaysDo (P Q : Value) (ok ot uk : Int) (ukey : ByteArray) (ux uy : Int) (uf uh : Bool) (ua : Option Addr) (un uc : Nat) (key : ByteArray) (gx gy oN : Int) (w : World) (hk : ok = 0 ∨ ok = 1) (R : World → World → Prop) (D : Hid (∀ V, Kept (fun _ => False) w V → Calls Tryz.prog 47 #[P, Q, .agg #[.int .i64 ok, .int .i64 ot, .int .i64 uk, .string ukey, .int .i64 ux, .int .i64 uy, .bool uf, .bool uh, .slice ua un uc, .string key, .int .i64 gx, .int .i64 gy, .int .i64 oN]] V fun o w' => o = .returned (.bool true) ∧ R w w')) :
    Calls Tryz.prog 31 #[P, Q, .agg #[.int .i64 ok, .int .i64 ot, .int .i64 uk, .string ukey, .int .i64 ux, .int .i64 uy, .bool uf, .bool uh, .slice ua un uc, .string key, .int .i64 gx, .int .i64 gy, .int .i64 oN]] w fun o w' => o = .returned (.bool true) ∧ R w w' := by
  obtain ⟨W, hW⟩ : ∃ W, W = w.alloc (.cells #[.int .i64 ok, .int .i64 ot, .int .i64 uk, .string ukey, .int .i64 ux, .int .i64 uy, .bool uf, .bool uh, .slice ua un uc, .string key, .int .i64 gx, .int .i64 gy, .int .i64 oN] 78) := ⟨_, rfl⟩
  have KZ : Kept (fun _ => False) w W := by rw [hW]; exact k0_alloc _ _
  have H : Hid (W.heap[w.heap.size]? = some (.cells #[.int .i64 ok, .int .i64 ot, .int .i64 uk, .string ukey, .int .i64 ux, .int .i64 uy, .bool uf, .bool uh, .slice ua un uc, .string key, .int .i64 gx, .int .i64 gy, .int .i64 oN] 78 (0, 0)) ∧ Kept (fun _ => False) w W) := ⟨by rw [hW]; exact heap_alloc_new _ _, KZ⟩
  have EW : Hid (W = w.alloc (.cells #[.int .i64 ok, .int .i64 ot, .int .i64 uk, .string ukey, .int .i64 ux, .int .i64 uy, .bool uf, .bool uh, .slice ua un uc, .string key, .int .i64 gx, .int .i64 gy, .int .i64 oN] 78)) := hW
  clear hW KZ
  go_enter Tryz.func31, Tryz.ntmps31
  go_upto_region 1 with fail
  rw [← EW.out]
  have o0 := cell_blk H.out.1 0 (v := .int .i64 ok) rfl
  have o1 := cell_blk H.out.1 1 (v := .int .i64 ot) rfl
  have o2 := cell_blk H.out.1 2 (v := .int .i64 uk) rfl
  have o3 := cell_blk H.out.1 3 (v := .string ukey) rfl
  have o4 := cell_blk H.out.1 4 (v := .int .i64 ux) rfl
  have o5 := cell_blk H.out.1 5 (v := .int .i64 uy) rfl
  have o6 := cell_blk H.out.1 6 (v := .bool uf) rfl
  have o7 := cell_blk H.out.1 7 (v := .bool uh) rfl
  have o8 := cell_blk H.out.1 8 (v := .slice ua un uc) rfl
  have o9 := cell_blk H.out.1 9 (v := .string key) rfl
  have o10 := cell_blk H.out.1 10 (v := .int .i64 gx) rfl
  have o11 := cell_blk H.out.1 11 (v := .int .i64 gy) rfl
  have o12 := cell_blk H.out.1 12 (v := .int .i64 oN) rfl
  rcases hk with rfl | rfl
  all_goals go_wp2_with fail
  all_goals refine (D.out W H.out.2).mono ?_
  all_goals rintro o w2 ⟨rfl, K2⟩
  all_goals go_wp2_with fail
  all_goals go_ret
  all_goals exact ⟨rfl, K2⟩
set_option maxRecDepth 100000 in
set_option maxHeartbeats 8000000 in
/-- plays: all that is told. -/
theorem lPlaysTell (P Q : Value) (ot uk : Int) (ukey : ByteArray) (ux uy : Int) (uf uh : Bool) (ua : Option Addr) (un uc : Nat) (key : ByteArray) (gx gy oN : Int) (w : World) (D : Hid (∀ V, Kept (fun _ => False) w V → Calls Tryz.prog 32 #[P, Q] V fun o w' => o = .returned (.bool true) ∧ Kept (fun _ => False) V w')) :
    Calls Tryz.prog 31 #[P, Q, .agg #[.int .i64 3, .int .i64 ot, .int .i64 uk, .string ukey, .int .i64 ux, .int .i64 uy, .bool uf, .bool uh, .slice ua un uc, .string key, .int .i64 gx, .int .i64 gy, .int .i64 oN]] w fun o w' => o = .returned (.bool true) ∧ Kept (fun _ => False) w w' := by
  obtain ⟨W, hW⟩ : ∃ W, W = w.alloc (.cells #[.int .i64 3, .int .i64 ot, .int .i64 uk, .string ukey, .int .i64 ux, .int .i64 uy, .bool uf, .bool uh, .slice ua un uc, .string key, .int .i64 gx, .int .i64 gy, .int .i64 oN] 78) := ⟨_, rfl⟩
  have KZ : Kept (fun _ => False) w W := by rw [hW]; exact k0_alloc _ _
  have H : Hid (W.heap[w.heap.size]? = some (.cells #[.int .i64 3, .int .i64 ot, .int .i64 uk, .string ukey, .int .i64 ux, .int .i64 uy, .bool uf, .bool uh, .slice ua un uc, .string key, .int .i64 gx, .int .i64 gy, .int .i64 oN] 78 (0, 0)) ∧ Kept (fun _ => False) w W) := ⟨by rw [hW]; exact heap_alloc_new _ _, KZ⟩
  have EW : Hid (W = w.alloc (.cells #[.int .i64 3, .int .i64 ot, .int .i64 uk, .string ukey, .int .i64 ux, .int .i64 uy, .bool uf, .bool uh, .slice ua un uc, .string key, .int .i64 gx, .int .i64 gy, .int .i64 oN] 78)) := hW
  clear hW KZ
  go_enter Tryz.func31, Tryz.ntmps31
  go_upto_region 1 with fail
  rw [← EW.out]
  have o0 := cell_blk H.out.1 0 (v := .int .i64 3) rfl
  go_wp2_with fail
  refine (D.out W H.out.2).mono ?_
  rintro o w2 ⟨rfl, K2⟩
  go_wp2_with fail
  go_ret
  exact ⟨rfl, H.out.2.and0 K2⟩
set_option maxRecDepth 100000 in
set_option maxHeartbeats 8000000 in
/-- plays: nothing. -/
theorem lPlaysNot (P Q : Value) (ok ot uk : Int) (ukey : ByteArray) (ux uy : Int) (uf uh : Bool) (ua : Option Addr) (un uc : Nat) (key : ByteArray) (gx gy oN : Int) (w : World) (h0 : ¬ ok = 0) (h1 : ¬ ok = 1) (h2 : ¬ ok = 2) (h3 : ¬ ok = 3) :
    Calls Tryz.prog 31 #[P, Q, .agg #[.int .i64 ok, .int .i64 ot, .int .i64 uk, .string ukey, .int .i64 ux, .int .i64 uy, .bool uf, .bool uh, .slice ua un uc, .string key, .int .i64 gx, .int .i64 gy, .int .i64 oN]] w fun o w' => o = .returned (.bool true) ∧ Kept (fun _ => False) w w' := by
  obtain ⟨W, hW⟩ : ∃ W, W = w.alloc (.cells #[.int .i64 ok, .int .i64 ot, .int .i64 uk, .string ukey, .int .i64 ux, .int .i64 uy, .bool uf, .bool uh, .slice ua un uc, .string key, .int .i64 gx, .int .i64 gy, .int .i64 oN] 78) := ⟨_, rfl⟩
  have KZ : Kept (fun _ => False) w W := by rw [hW]; exact k0_alloc _ _
  have H : Hid (W.heap[w.heap.size]? = some (.cells #[.int .i64 ok, .int .i64 ot, .int .i64 uk, .string ukey, .int .i64 ux, .int .i64 uy, .bool uf, .bool uh, .slice ua un uc, .string key, .int .i64 gx, .int .i64 gy, .int .i64 oN] 78 (0, 0)) ∧ Kept (fun _ => False) w W) := ⟨by rw [hW]; exact heap_alloc_new _ _, KZ⟩
  have EW : Hid (W = w.alloc (.cells #[.int .i64 ok, .int .i64 ot, .int .i64 uk, .string ukey, .int .i64 ux, .int .i64 uy, .bool uf, .bool uh, .slice ua un uc, .string key, .int .i64 gx, .int .i64 gy, .int .i64 oN] 78)) := hW
  clear hW KZ
  go_enter Tryz.func31, Tryz.ntmps31
  go_upto_region 1 with fail
  rw [← EW.out]
  have o0 := cell_blk H.out.1 0 (v := .int .i64 ok) rfl
  go_wp2_with fail
  go_ret
  exact ⟨rfl, H.out.2⟩
set_option maxRecDepth 100000 in
set_option maxHeartbeats 8000000 in
/-- plays: what is asked of a key. -/
theorem lPlaysAsk (P Q : Value) (ot uk : Int) (ukey : ByteArray) (ux uy : Int) (uf uh : Bool) (ua : Option Addr) (un uc : Nat) (key : ByteArray) (gx gy oN : Int) (w : World) (rx ry : Int) (rf rh : Bool) (rl : List Nat) (rb : Bool) (tx ty fx fy fm : Int) (es : List Ev) (G1 : Hid (∀ V, Kept (fun _ => False) w V → Calls Tryz.prog 15 #[P, .string key, .agg #[.int .i64 gx, .int .i64 gy]] V fun o w' => GetAns o V w' (rx, ry, rf, rh, rl, rb))) (G2 : Hid (∀ V, Kept (fun _ => False) w V → Calls Tryz.prog 48 #[Q, .string key, .agg #[.int .i64 gx, .int .i64 gy]] V fun o w' => GetAns o V w' (rx, ry, rf, rh, rl, rb))) (T1 : Hid (∀ V, Kept (fun _ => False) w V → Calls Tryz.prog 23 #[P, .string key] V fun o w' => o = .returned (.agg #[.int .i64 tx, .int .i64 ty]) ∧ Kept (fun _ => False) V w')) (T2 : Hid (∀ V, Kept (fun _ => False) w V → Calls Tryz.prog 49 #[Q, .string key] V fun o w' => o = .returned (.agg #[.int .i64 tx, .int .i64 ty]) ∧ Kept (fun _ => False) V w')) (F1 : Hid (∀ V, Kept (fun _ => False) w V → Calls Tryz.prog 24 #[P, .string key] V fun o w' => o = .returned (.agg #[.int .i64 fx, .int .i64 fy]) ∧ Kept (fun _ => False) V w')) (F2 : Hid (∀ V, Kept (fun _ => False) w V → Calls Tryz.prog 50 #[Q, .string key] V fun o w' => o = .returned (.agg #[.int .i64 fx, .int .i64 fy]) ∧ Kept (fun _ => False) V w')) (N1 : Hid (∀ V, Kept (fun _ => False) w V → Calls Tryz.prog 38 #[P, .string key] V fun o w' => o = .returned (.int .i64 fm) ∧ Kept (fun _ => False) V w')) (N2 : Hid (∀ V, Kept (fun _ => False) w V → Calls Tryz.prog 51 #[Q, .string key] V fun o w' => o = .returned (.int .i64 fm) ∧ Kept (fun _ => False) V w')) (E1 : Hid (∀ V, Kept (fun _ => False) w V → Calls Tryz.prog 14 #[P, .string key] V fun o w' => ∃ p n c, o = .returned (.slice p n c) ∧ Hid (EntRd w' p n c es ∧ Kept (fun _ => False) V w'))) (E2 : Hid (∀ V, Kept (fun _ => False) w V → Calls Tryz.prog 52 #[Q, .string key] V fun o w' => ∃ p n c, o = .returned (.slice p n c) ∧ Hid (EntRd w' p n c es ∧ Kept (fun _ => False) V w'))) :
    Calls Tryz.prog 31 #[P, Q, .agg #[.int .i64 2, .int .i64 ot, .int .i64 uk, .string ukey, .int .i64 ux, .int .i64 uy, .bool uf, .bool uh, .slice ua un uc, .string key, .int .i64 gx, .int .i64 gy, .int .i64 oN]] w fun o w' => o = .returned (.bool true) ∧ Kept (fun _ => False) w w' := by
  obtain ⟨W, hW⟩ : ∃ W, W = w.alloc (.cells #[.int .i64 2, .int .i64 ot, .int .i64 uk, .string ukey, .int .i64 ux, .int .i64 uy, .bool uf, .bool uh, .slice ua un uc, .string key, .int .i64 gx, .int .i64 gy, .int .i64 oN] 78) := ⟨_, rfl⟩
  have KZ : Kept (fun _ => False) w W := by rw [hW]; exact k0_alloc _ _
  have H : Hid (W.heap[w.heap.size]? = some (.cells #[.int .i64 2, .int .i64 ot, .int .i64 uk, .string ukey, .int .i64 ux, .int .i64 uy, .bool uf, .bool uh, .slice ua un uc, .string key, .int .i64 gx, .int .i64 gy, .int .i64 oN] 78 (0, 0)) ∧ Kept (fun _ => False) w W) := ⟨by rw [hW]; exact heap_alloc_new _ _, KZ⟩
  have EW : Hid (W = w.alloc (.cells #[.int .i64 2, .int .i64 ot, .int .i64 uk, .string ukey, .int .i64 ux, .int .i64 uy, .bool uf, .bool uh, .slice ua un uc, .string key, .int .i64 gx, .int .i64 gy, .int .i64 oN] 78)) := hW
  clear hW KZ
  go_enter Tryz.func31, Tryz.ntmps31
  go_upto_region 1 with fail
  rw [← EW.out]
  have o0 := cell_blk H.out.1 0 (v := .int .i64 2) rfl
  have o1 := cell_blk H.out.1 1 (v := .int .i64 ot) rfl
  have o2 := cell_blk H.out.1 2 (v := .int .i64 uk) rfl
  have o3 := cell_blk H.out.1 3 (v := .string ukey) rfl
  have o4 := cell_blk H.out.1 4 (v := .int .i64 ux) rfl
  have o5 := cell_blk H.out.1 5 (v := .int .i64 uy) rfl
  have o6 := cell_blk H.out.1 6 (v := .bool uf) rfl
  have o7 := cell_blk H.out.1 7 (v := .bool uh) rfl
  have o8 := cell_blk H.out.1 8 (v := .slice ua un uc) rfl
  have o9 := cell_blk H.out.1 9 (v := .string key) rfl
  have o10 := cell_blk H.out.1 10 (v := .int .i64 gx) rfl
  have o11 := cell_blk H.out.1 11 (v := .int .i64 gy) rfl
  have o12 := cell_blk H.out.1 12 (v := .int .i64 oN) rfl
  go_wp2_with fail
  refine (G1.out W H.out.2).mono ?_
  rintro o w1 ⟨p1, n1, c1, rfl, R1, K1⟩
  have Q1 : Hid (Kept (fun _ => False) w w1 ∧ Reads w1 p1 n1 c1 rl) := ⟨H.out.2.and0 K1, R1⟩
  obtain ⟨W1, hW1⟩ : ∃ W1, W1 = w1.alloc (.cells #[.int .i64 rx, .int .i64 ry, .bool rf, .bool rh, .slice p1 n1 c1] 40) := ⟨_, rfl⟩
  obtain ⟨X1, hX1⟩ : ∃ X1, X1 = w1.heap.size := ⟨_, rfl⟩
  have J1 : Hid (W1.heap[X1]? = some (.cells #[.int .i64 rx, .int .i64 ry, .bool rf, .bool rh, .slice p1 n1 c1] 40 (0, 0)) ∧ Kept (fun _ => False) w W1 ∧ Reads W1 p1 n1 c1 rl ∧ W1.heap[w.heap.size]? = some (.cells #[.int .i64 2, .int .i64 ot, .int .i64 uk, .string ukey, .int .i64 ux, .int .i64 uy, .bool uf, .bool uh, .slice ua un uc, .string key, .int .i64 gx, .int .i64 gy, .int .i64 oN] 78 (0, 0))) := by
    have K : Kept (fun _ => False) w1 W1 := by rw [hW1]; exact k0_alloc _ _
    exact ⟨by rw [hW1, hX1]; exact heap_alloc_new _ _, Q1.out.1.and0 K, Q1.out.2.kept K (fun _ _ z => z), (K1.and0 K).get H.out.1 (fun z => z)⟩
  have EW1 : Hid (W1 = w1.alloc (.cells #[.int .i64 rx, .int .i64 ry, .bool rf, .bool rh, .slice p1 n1 c1] 40) ∧ X1 = w1.heap.size) := ⟨hW1, hX1⟩
  clear hW1 hX1 R1 K1
  clear o0 o1 o2 o3 o4 o5 o6 o7 o8 o9 o10 o11 o12
  go_upto_region 7 with fail
  rw [← EW1.out.1, ← EW1.out.2]
  have o9 := cell_blk J1.out.2.2.2 9 (v := .string key) rfl
  have o10 := cell_blk J1.out.2.2.2 10 (v := .int .i64 gx) rfl
  have o11 := cell_blk J1.out.2.2.2 11 (v := .int .i64 gy) rfl
  go_wp2_with fail
  refine (G2.out W1 J1.out.2.1).mono ?_
  rintro o w2 ⟨p2, n2, c2, rfl, R2, K2⟩
  obtain ⟨W2, hW2⟩ : ∃ W2, W2 = w2.alloc (.cells #[.int .i64 rx, .int .i64 ry, .bool rf, .bool rh, .slice p2 n2 c2] 40) := ⟨_, rfl⟩
  obtain ⟨X2, hX2⟩ : ∃ X2, X2 = w2.heap.size := ⟨_, rfl⟩
  have J2 : Hid (W2.heap[X2]? = some (.cells #[.int .i64 rx, .int .i64 ry, .bool rf, .bool rh, .slice p2 n2 c2] 40 (0, 0)) ∧ Kept (fun _ => False) w W2 ∧ Reads W2 p2 n2 c2 rl ∧ W2.heap[w.heap.size]? = some (.cells #[.int .i64 2, .int .i64 ot, .int .i64 uk, .string ukey, .int .i64 ux, .int .i64 uy, .bool uf, .bool uh, .slice ua un uc, .string key, .int .i64 gx, .int .i64 gy, .int .i64 oN] 78 (0, 0)) ∧ W2.heap[X1]? = some (.cells #[.int .i64 rx, .int .i64 ry, .bool rf, .bool rh, .slice p1 n1 c1] 40 (0, 0)) ∧ Reads W2 p1 n1 c1 rl) := by
    have K : Kept (fun _ => False) w2 W2 := by rw [hW2]; exact k0_alloc _ _
    exact ⟨by rw [hW2, hX2]; exact heap_alloc_new _ _, (J1.out.2.1.and0 K2).and0 K, R2.kept K (fun _ _ z => z), (K2.and0 K).get J1.out.2.2.2 (fun z => z), (K2.and0 K).get J1.out.1 (fun z => z), J1.out.2.2.1.kept (K2.and0 K) (fun _ _ z => z)⟩
  have EW2 : Hid (W2 = w2.alloc (.cells #[.int .i64 rx, .int .i64 ry, .bool rf, .bool rh, .slice p2 n2 c2] 40) ∧ X2 = w2.heap.size) := ⟨hW2, hX2⟩
  clear hW2 hX2 R2 K2 o9 o10 o11
  go_upto_region 8 with fail
  rw [← EW2.out.1, ← EW2.out.2]
  have SS : Hid (∀ V, Kept (fun _ => False) W2 V → V.cell? ⟨w.heap.size, 9, none⟩ = some (.string key) ∧ V.cell? ⟨X1, 0, none⟩ = some (.int .i64 rx) ∧ V.cell? ⟨X1, 1, none⟩ = some (.int .i64 ry) ∧ V.cell? ⟨X1, 2, none⟩ = some (.bool rf) ∧ V.cell? ⟨X1, 3, none⟩ = some (.bool rh) ∧ V.cell? ⟨X1, 4, none⟩ = some (.slice p1 n1 c1) ∧ V.cell? ⟨X2, 0, none⟩ = some (.int .i64 rx) ∧ V.cell? ⟨X2, 1, none⟩ = some (.int .i64 ry) ∧ V.cell? ⟨X2, 2, none⟩ = some (.bool rf) ∧ V.cell? ⟨X2, 3, none⟩ = some (.bool rh) ∧ V.cell? ⟨X2, 4, none⟩ = some (.slice p2 n2 c2)) := by
    intro V K
    have q0 := K.get J2.out.2.2.2.1 (fun z => z)
    have q1 := K.get J2.out.2.2.2.2.1 (fun z => z)
    have q2 := K.get J2.out.1 (fun z => z)
    exact ⟨cell_blk q0 9 rfl, cell_blk q1 0 rfl, cell_blk q1 1 rfl, cell_blk q1 2 rfl, cell_blk q1 3 rfl, cell_blk q1 4 rfl, cell_blk q2 0 rfl, cell_blk q2 1 rfl, cell_blk q2 2 rfl, cell_blk q2 3 rfl, cell_blk q2 4 rfl⟩
  obtain ⟨a0, a1, a2, a3, a4, a5, a6, a7, a8, a9, a10⟩ := SS.out W2 (Kept.refl _ _)
  have D0 : Hid (Kept (fun _ => False) W2 W2.drew) := (Kept.refl _ _).drew
  go_cut [70] (fun z wc => z = .bool false ∧ Hid (Kept (fun _ => False) W2 wc))
  case first =>
    go_region_held3 (fun V => V.cell? ⟨w.heap.size, 9, none⟩ = some (.string key) ∧ V.cell? ⟨X1, 0, none⟩ = some (.int .i64 rx) ∧ V.cell? ⟨X1, 1, none⟩ = some (.int .i64 ry) ∧ V.cell? ⟨X1, 2, none⟩ = some (.bool rf) ∧ V.cell? ⟨X1, 3, none⟩ = some (.bool rh) ∧ V.cell? ⟨X1, 4, none⟩ = some (.slice p1 n1 c1) ∧ V.cell? ⟨X2, 0, none⟩ = some (.int .i64 rx) ∧ V.cell? ⟨X2, 1, none⟩ = some (.int .i64 ry) ∧ V.cell? ⟨X2, 2, none⟩ = some (.bool rf) ∧ V.cell? ⟨X2, 3, none⟩ = some (.bool rh) ∧ V.cell? ⟨X2, 4, none⟩ = some (.slice p2 n2 c2)) (first | with_reducible exact Sv5.out | with_reducible exact Sv4.out | with_reducible exact Sv3.out | with_reducible exact Sv2.out | with_reducible exact Sv1.out | go_keep)
      (first
        | (go_at_call 50; refine (F2.out v4 (J2.out.2.1.and0 Mv4.out)).mono ?_; rintro o v5 ⟨rfl, K5⟩
           have Mv5 : Hid (Kept (fun _ => False) W2 v5) := Mv4.out.and0 K5
           have Sv5 : Hid (v5.cell? ⟨w.heap.size, 9, none⟩ = some (.string key) ∧ v5.cell? ⟨X1, 0, none⟩ = some (.int .i64 rx) ∧ v5.cell? ⟨X1, 1, none⟩ = some (.int .i64 ry) ∧ v5.cell? ⟨X1, 2, none⟩ = some (.bool rf) ∧ v5.cell? ⟨X1, 3, none⟩ = some (.bool rh) ∧ v5.cell? ⟨X1, 4, none⟩ = some (.slice p1 n1 c1) ∧ v5.cell? ⟨X2, 0, none⟩ = some (.int .i64 rx) ∧ v5.cell? ⟨X2, 1, none⟩ = some (.int .i64 ry) ∧ v5.cell? ⟨X2, 2, none⟩ = some (.bool rf) ∧ v5.cell? ⟨X2, 3, none⟩ = some (.bool rh) ∧ v5.cell? ⟨X2, 4, none⟩ = some (.slice p2 n2 c2)) := SS.out v5 Mv5.out)
        | (go_at_call 24; refine (F1.out v3 (J2.out.2.1.and0 Mv3.out)).mono ?_; rintro o v4 ⟨rfl, K4⟩
           have Mv4 : Hid (Kept (fun _ => False) W2 v4) := Mv3.out.and0 K4
           have Sv4 : Hid (v4.cell? ⟨w.heap.size, 9, none⟩ = some (.string key) ∧ v4.cell? ⟨X1, 0, none⟩ = some (.int .i64 rx) ∧ v4.cell? ⟨X1, 1, none⟩ = some (.int .i64 ry) ∧ v4.cell? ⟨X1, 2, none⟩ = some (.bool rf) ∧ v4.cell? ⟨X1, 3, none⟩ = some (.bool rh) ∧ v4.cell? ⟨X1, 4, none⟩ = some (.slice p1 n1 c1) ∧ v4.cell? ⟨X2, 0, none⟩ = some (.int .i64 rx) ∧ v4.cell? ⟨X2, 1, none⟩ = some (.int .i64 ry) ∧ v4.cell? ⟨X2, 2, none⟩ = some (.bool rf) ∧ v4.cell? ⟨X2, 3, none⟩ = some (.bool rh) ∧ v4.cell? ⟨X2, 4, none⟩ = some (.slice p2 n2 c2)) := SS.out v4 Mv4.out)
        | (go_at_call 49; refine (T2.out v2 (J2.out.2.1.and0 Mv2.out)).mono ?_; rintro o v3 ⟨rfl, K3⟩
           have Mv3 : Hid (Kept (fun _ => False) W2 v3) := Mv2.out.and0 K3
           have Sv3 : Hid (v3.cell? ⟨w.heap.size, 9, none⟩ = some (.string key) ∧ v3.cell? ⟨X1, 0, none⟩ = some (.int .i64 rx) ∧ v3.cell? ⟨X1, 1, none⟩ = some (.int .i64 ry) ∧ v3.cell? ⟨X1, 2, none⟩ = some (.bool rf) ∧ v3.cell? ⟨X1, 3, none⟩ = some (.bool rh) ∧ v3.cell? ⟨X1, 4, none⟩ = some (.slice p1 n1 c1) ∧ v3.cell? ⟨X2, 0, none⟩ = some (.int .i64 rx) ∧ v3.cell? ⟨X2, 1, none⟩ = some (.int .i64 ry) ∧ v3.cell? ⟨X2, 2, none⟩ = some (.bool rf) ∧ v3.cell? ⟨X2, 3, none⟩ = some (.bool rh) ∧ v3.cell? ⟨X2, 4, none⟩ = some (.slice p2 n2 c2)) := SS.out v3 Mv3.out)
        | (go_at_call 23; refine (T1.out v1 (J2.out.2.1.and0 Mv1.out)).mono ?_; rintro o v2 ⟨rfl, K2⟩
           have Mv2 : Hid (Kept (fun _ => False) W2 v2) := Mv1.out.and0 K2
           have Sv2 : Hid (v2.cell? ⟨w.heap.size, 9, none⟩ = some (.string key) ∧ v2.cell? ⟨X1, 0, none⟩ = some (.int .i64 rx) ∧ v2.cell? ⟨X1, 1, none⟩ = some (.int .i64 ry) ∧ v2.cell? ⟨X1, 2, none⟩ = some (.bool rf) ∧ v2.cell? ⟨X1, 3, none⟩ = some (.bool rh) ∧ v2.cell? ⟨X1, 4, none⟩ = some (.slice p1 n1 c1) ∧ v2.cell? ⟨X2, 0, none⟩ = some (.int .i64 rx) ∧ v2.cell? ⟨X2, 1, none⟩ = some (.int .i64 ry) ∧ v2.cell? ⟨X2, 2, none⟩ = some (.bool rf) ∧ v2.cell? ⟨X2, 3, none⟩ = some (.bool rh) ∧ v2.cell? ⟨X2, 4, none⟩ = some (.slice p2 n2 c2)) := SS.out v2 Mv2.out)
        | (go_at_call 41; refine (sameEntry rx ry rf rh rl p1 n1 c1 p2 n2 c2 W2.drew (J2.out.2.2.2.2.2.kept D0.out (fun _ _ z => z)).txt (J2.out.2.2.1.kept D0.out (fun _ _ z => z)).txt).mono ?_; rintro o v1 ⟨rfl, K1⟩
           have Mv1 : Hid (Kept (fun _ => False) W2 v1) := D0.out.and0 K1
           have Sv1 : Hid (v1.cell? ⟨w.heap.size, 9, none⟩ = some (.string key) ∧ v1.cell? ⟨X1, 0, none⟩ = some (.int .i64 rx) ∧ v1.cell? ⟨X1, 1, none⟩ = some (.int .i64 ry) ∧ v1.cell? ⟨X1, 2, none⟩ = some (.bool rf) ∧ v1.cell? ⟨X1, 3, none⟩ = some (.bool rh) ∧ v1.cell? ⟨X1, 4, none⟩ = some (.slice p1 n1 c1) ∧ v1.cell? ⟨X2, 0, none⟩ = some (.int .i64 rx) ∧ v1.cell? ⟨X2, 1, none⟩ = some (.int .i64 ry) ∧ v1.cell? ⟨X2, 2, none⟩ = some (.bool rf) ∧ v1.cell? ⟨X2, 3, none⟩ = some (.bool rh) ∧ v1.cell? ⟨X2, 4, none⟩ = some (.slice p2 n2 c2)) := SS.out v1 Mv1.out)
        | fail)
    all_goals go_wp2_with fail
    all_goals go_meet
    all_goals refine ⟨rfl, ?_⟩
    all_goals first | exact Mv5.out | exact Mv5.out.drew
  case rest =>
    obtain ⟨rfl, KC⟩ := hcut
    obtain ⟨w3, rfl⟩ : ∃ w3 : World, w3 = wc := ⟨_, rfl⟩
    clear a0 a1 a2 a3 a4 a5 a6 a7 a8 a9 a10
    have a0 := (SS.out w3 KC.out).1
    have KW : Hid (Kept (fun _ => False) w w3) := J2.out.2.1.and0 KC.out
    have S3 : Hid (∀ V, Kept (fun _ => False) w3 V → V.cell? ⟨w.heap.size, 9, none⟩ = some (.string key)) := fun V K => (SS.out V (KC.out.and0 K)).1
    have D3 : Hid (Kept (fun _ => False) w3 w3.drew) := (Kept.refl _ _).drew
    go_upto_region 10 with fail
    go_region_held3 (fun V => V.cell? ⟨w.heap.size, 9, none⟩ = some (.string key)) (first | with_reducible exact Sv5.out | with_reducible exact Sv4.out | with_reducible exact Sv3.out | with_reducible exact Sv2.out | with_reducible exact Sv1.out | go_keep)
      (first
        | (go_at_call 22; refine (sameEntriesG pa pb na nb ca cb es es v4 (Qa.out.1.k0 Qb.out.2) Qb.out.1).mono ?_; rintro o v5 ⟨rfl, K5⟩
           have Mv5 : Hid (Kept (fun _ => False) w3 v5) := Mv4.out.and0 K5
           have Sv5 : Hid (v5.cell? ⟨w.heap.size, 9, none⟩ = some (.string key)) := S3.out v5 Mv5.out)
        | (go_at_call 52; refine (E2.out v3 (KW.out.and0 Mv3.out)).mono ?_; rintro o v4 ⟨pb, nb, cb, rfl, Qb⟩
           have Mv4 : Hid (Kept (fun _ => False) w3 v4) := Mv3.out.and0 Qb.out.2
           have Sv4 : Hid (v4.cell? ⟨w.heap.size, 9, none⟩ = some (.string key)) := S3.out v4 Mv4.out)
        | (go_at_call 14; refine (E1.out v2 (KW.out.and0 Mv2.out)).mono ?_; rintro o v3 ⟨pa, na, ca, rfl, Qa⟩
           have Mv3 : Hid (Kept (fun _ => False) w3 v3) := Mv2.out.and0 Qa.out.2
           have Sv3 : Hid (v3.cell? ⟨w.heap.size, 9, none⟩ = some (.string key)) := S3.out v3 Mv3.out)
        | (go_at_call 51; refine (N2.out v1 (KW.out.and0 Mv1.out)).mono ?_; rintro o v2 ⟨rfl, K2⟩
           have Mv2 : Hid (Kept (fun _ => False) w3 v2) := Mv1.out.and0 K2
           have Sv2 : Hid (v2.cell? ⟨w.heap.size, 9, none⟩ = some (.string key)) := S3.out v2 Mv2.out)
        | (go_at_call 38; refine (N1.out w3.drew (KW.out.and0 D3.out)).mono ?_; rintro o v1 ⟨rfl, K1⟩
           have Mv1 : Hid (Kept (fun _ => False) w3 v1) := D3.out.and0 K1
           have Sv1 : Hid (v1.cell? ⟨w.heap.size, 9, none⟩ = some (.string key)) := S3.out v1 Mv1.out)
        | fail)
    all_goals go_wp2_with fail
    all_goals go_ret
    all_goals refine ⟨?_, KW.out.and0 (by first | exact Mv5.out | exact Mv5.out.drew)⟩
    all_goals (try simp)
end Go.Proofs.YtojepeefphbekaaGreat
