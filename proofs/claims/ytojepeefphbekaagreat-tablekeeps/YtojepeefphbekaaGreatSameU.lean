import Derived.Test.YtojepeefphbekaaGreatUpds
namespace Go.Proofs.YtojepeefphbekaaGreat
open Go.RowKit 

theorem UpRd.at {b0 : Nat} {w : World} {p : Option Addr} {n c : Nat} {us : List Uv} (h : UpRd b0 w p n c us) {i : Nat} (hi : i < n) : ∃ b k x y f g l a m cc, p = some ⟨b, 0, none⟩ ∧ us[i]? = some (k, entV x y f g l) ∧ w.cell? ⟨b, i * 7, none⟩ = some (.int .i64 3) ∧ w.cell? ⟨b, i * 7 + 1, none⟩ = some (.string k) ∧ w.cell? ⟨b, i * 7 + 2, none⟩ = some (.int .i64 x) ∧ w.cell? ⟨b, i * 7 + 3, none⟩ = some (.int .i64 y) ∧ w.cell? ⟨b, i * 7 + 4, none⟩ = some (.bool f) ∧ w.cell? ⟨b, i * 7 + 5, none⟩ = some (.bool g) ∧ w.cell? ⟨b, i * 7 + 6, none⟩ = some (.slice a m cc) ∧ Reads w a m cc l := by
  obtain ⟨L, ow, al⟩ := h.row
  have hl : L.length = n := by rw [al.1]; exact h.len
  rcases ow.2 with ⟨_, hn⟩ | ⟨b, cap, cur, z, _⟩
  · omega
  · have z : Value.slice p n c = .slice (some ⟨b, 0, none⟩) n cap := z
    injection z with z1 _ z3
    subst z1
    subst z3
    have hc := ow.cells (g := b) rfl
    have h1 : i < L.length := by omega
    have h2 : i < us.length := by rw [h.len]; exact hi
    obtain ⟨⟨k, ⟨x, y⟩, f, g, a, m, cc⟩, hL⟩ : ∃ e, L[i] = e := ⟨_, rfl⟩
    have q := al.2 i h1 h2
    rw [hL] at q
    have cell : ∀ j v, j < 7 → (encU (k, (x, y), f, g, a, m, cc))[j]? = some v → w.cell? ⟨b, i * 7 + j, none⟩ = some v := fun j v hj hv => by
      have := hc (i * 7 + j) v (by rw [ucells_get L i h1 j hj, hL]; exact hv)
      rw [Addr.add_none, Nat.zero_add] at this
      exact this
    refine ⟨b, k, x, y, f, g, us[i].2.2.2.2, a, m, cc, rfl, ?_, cell 0 _ (by omega) rfl, cell 1 _ (by omega) rfl, cell 2 _ (by omega) rfl, cell 3 _ (by omega) rfl, cell 4 _ (by omega) rfl, cell 5 _ (by omega) rfl, cell 6 _ (by omega) rfl, q.ent.data⟩
    rw [List.getElem?_eq_getElem h2]
    congr 1
    exact Prod.ext q.key.symm (Prod.ext q.ent.tag.symm (Prod.ext q.ent.fin.symm (Prod.ext q.ent.has.symm rfl)))
theorem UpRd.small {b0 : Nat} {w : World} {p : Option Addr} {n c : Nat} {us : List Uv} (h : UpRd b0 w p n c us) : n ≤ c ∧ c ≤ maxLen := by
  obtain ⟨L, ow, al⟩ := h.row
  exact own_room ow
set_option maxRecDepth 100000 in
set_option maxHeartbeats 4000000 in
/-- Two lists of updates that are alike. -/
theorem sameUpdatesE (b1 b2 : Nat) (p1 p2 : Option Addr) (m1 c1 c2 : Nat) (us : List Uv) (w : World) (h1 : UpRd b1 w p1 m1 c1 us) (h2 : UpRd b2 w p2 m1 c2 us) :
    Calls Tryz.prog 25 #[.slice p1 m1 c1, .slice p2 m1 c2] w fun o w' => o = .returned (.bool true) ∧ Kept (fun _ => False) w w' := by
  have H : Hid (UpRd b1 w p1 m1 c1 us ∧ UpRd b2 w p2 m1 c2 us) := ⟨h1, h2⟩
  have hl := Nat.le_trans h1.small.1 h1.small.2
  unfold maxLen at hl
  clear h1 h2
  go_enter Tryz.func25, Tryz.ntmps25
  go_wp2_with fail
  go_loopw [5, 13] (fun _ x wr => ∃ (i : Nat), x = .int .i64 (i : Int) ∧ i ≤ m1 ∧ Hid (Kept (fun _ => False) w wr)) (fun _ x _ => m1 - (intOf x).toNat)
  case atStart => exact ⟨0, rfl, Nat.zero_le _, Kept.refl _ _⟩
  case round =>
    obtain ⟨i, rfl, hi, S⟩ := hrel
    by_cases hlt : i < m1
    · have i1 : (i : Int) < (m1 : Int) := by omega
      obtain ⟨g1, k, x, y, f, g, l1, a1, n1, q1, rfl, v1, d0, d1, d2, d3, d4, d5, d6, r1⟩ := (H.out.1.k0 S.out).at hlt
      obtain ⟨g2, k', x', y', f', g', l2, a2, n2, q2, rfl, v2, f0, f1, f2, f3, f4, f5, f6, r2⟩ := (H.out.2.k0 S.out).at hlt
      rw [v1] at v2
      have ev : (k, entV x y f g l1) = (k', entV x' y' f' g' l2) := Option.some.inj v2
      have ek : k = k' := congrArg (fun u : Uv => u.1) ev
      have ex : x = x' := congrArg (fun u : Uv => u.2.1.1) ev
      have ey : y = y' := congrArg (fun u : Uv => u.2.1.2) ev
      have ef : f = f' := congrArg (fun u : Uv => u.2.2.1) ev
      have eg : g = g' := congrArg (fun u : Uv => u.2.2.2.1) ev
      have el : l1 = l2 := congrArg (fun u : Uv => u.2.2.2.2) ev
      clear ev v1 v2
      subst ek ex ey ef eg el
      have RR : Hid (Reads wr a1 n1 q1 l1 ∧ Reads wr a2 n2 q2 l1) := ⟨r1, r2⟩
      have CF : Hid (∀ V, Kept (fun _ => False) wr V → V.cell? ⟨g1, i * 7, none⟩ = some (.int .i64 3) ∧ V.cell? ⟨g1, i * 7 + 1, none⟩ = some (.string k) ∧ V.cell? ⟨g1, i * 7 + 2, none⟩ = some (.int .i64 x) ∧ V.cell? ⟨g1, i * 7 + 3, none⟩ = some (.int .i64 y) ∧ V.cell? ⟨g1, i * 7 + 4, none⟩ = some (.bool f) ∧ V.cell? ⟨g1, i * 7 + 5, none⟩ = some (.bool g) ∧ V.cell? ⟨g1, i * 7 + 6, none⟩ = some (.slice a1 n1 q1) ∧ V.cell? ⟨g2, i * 7, none⟩ = some (.int .i64 3) ∧ V.cell? ⟨g2, i * 7 + 1, none⟩ = some (.string k) ∧ V.cell? ⟨g2, i * 7 + 2, none⟩ = some (.int .i64 x) ∧ V.cell? ⟨g2, i * 7 + 3, none⟩ = some (.int .i64 y) ∧ V.cell? ⟨g2, i * 7 + 4, none⟩ = some (.bool f) ∧ V.cell? ⟨g2, i * 7 + 5, none⟩ = some (.bool g) ∧ V.cell? ⟨g2, i * 7 + 6, none⟩ = some (.slice a2 n2 q2)) := fun V K => ⟨K.cell d0 (fun z => z), K.cell d1 (fun z => z), K.cell d2 (fun z => z), K.cell d3 (fun z => z), K.cell d4 (fun z => z), K.cell d5 (fun z => z), K.cell d6 (fun z => z), K.cell f0 (fun z => z), K.cell f1 (fun z => z), K.cell f2 (fun z => z), K.cell f3 (fun z => z), K.cell f4 (fun z => z), K.cell f5 (fun z => z), K.cell f6 (fun z => z)⟩
      clear r1 r2
      go_upto_region 6 with fail
      go_region_held3 (fun V => V.cell? ⟨g1, i * 7, none⟩ = some (.int .i64 3) ∧ V.cell? ⟨g1, i * 7 + 1, none⟩ = some (.string k) ∧ V.cell? ⟨g1, i * 7 + 2, none⟩ = some (.int .i64 x) ∧ V.cell? ⟨g1, i * 7 + 3, none⟩ = some (.int .i64 y) ∧ V.cell? ⟨g1, i * 7 + 4, none⟩ = some (.bool f) ∧ V.cell? ⟨g1, i * 7 + 5, none⟩ = some (.bool g) ∧ V.cell? ⟨g1, i * 7 + 6, none⟩ = some (.slice a1 n1 q1) ∧ V.cell? ⟨g2, i * 7, none⟩ = some (.int .i64 3) ∧ V.cell? ⟨g2, i * 7 + 1, none⟩ = some (.string k) ∧ V.cell? ⟨g2, i * 7 + 2, none⟩ = some (.int .i64 x) ∧ V.cell? ⟨g2, i * 7 + 3, none⟩ = some (.int .i64 y) ∧ V.cell? ⟨g2, i * 7 + 4, none⟩ = some (.bool f) ∧ V.cell? ⟨g2, i * 7 + 5, none⟩ = some (.bool g) ∧ V.cell? ⟨g2, i * 7 + 6, none⟩ = some (.slice a2 n2 q2)) (first | go_keep)
        (first
          | (go_at_call 41; refine (sameEntry x y f g l1 a1 n1 q1 a2 n2 q2 wr.drew (fun V KV => RR.out.1.txt V ((Kept.refl _ _).drew.and0 KV)) (fun V KV => RR.out.2.txt V ((Kept.refl _ _).drew.and0 KV))).mono ?_; rintro o w2 ⟨rfl, K2⟩
             have K3 : Hid (Kept (fun _ => False) wr w2) := ((Kept.refl _ _).drew).and0 K2
             obtain ⟨d0, d1, d2, d3, d4, d5, d6, f0, f1, f2, f3, f4, f5, f6⟩ := CF.out w2 K3.out
             clear K2)
          | fail)
      go_wp2_with fail
      go_roundw
      case rel => exact ⟨i + 1, by go_num, by omega, S.out.and0 K3.out⟩
      case measure => simp [intOf] <;> omega
    · have i1 : ¬ (i : Int) < (m1 : Int) := by omega
      go_wp2_with fail
      go_ret
      exact ⟨rfl, S.out⟩
end Go.Proofs.YtojepeefphbekaaGreat
