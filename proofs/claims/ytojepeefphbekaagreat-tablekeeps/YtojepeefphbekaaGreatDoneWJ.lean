import Derived.Test.YtojepeefphbekaaGreatKeep0J
import Derived.Test.YtojepeefphbekaaGreatDoneJ
namespace Go.Proofs.YtojepeefphbekaaGreat
open Go.RowKit 

theorem own_upd {b0 : Nat} {w : World} {p : Option Addr} {n c : Nat} {L : List Ut} (ow : w.ownsRow b0 44 7 (.slice p n c) n (ucells L)) (hl : L.length = n) {i : Nat} (hi : i < n) : ∃ b k x y f g a m q, p = some ⟨b, 0, none⟩ ∧ L[i]? = some (k, (x, y), f, g, a, m, q) ∧ w.cell? ⟨b, i * 7, none⟩ = some (.int .i64 3) ∧ w.cell? ⟨b, i * 7 + 1, none⟩ = some (.string k) ∧ w.cell? ⟨b, i * 7 + 2, none⟩ = some (.int .i64 x) ∧ w.cell? ⟨b, i * 7 + 3, none⟩ = some (.int .i64 y) ∧ w.cell? ⟨b, i * 7 + 4, none⟩ = some (.bool f) ∧ w.cell? ⟨b, i * 7 + 5, none⟩ = some (.bool g) ∧ w.cell? ⟨b, i * 7 + 6, none⟩ = some (.slice a m q) := by
  rcases ow.2 with ⟨_, hn⟩ | ⟨b, cap, cur, z, _⟩
  · omega
  · have z : Value.slice p n c = .slice (some ⟨b, 0, none⟩) n cap := z
    injection z with z1 _ z3
    subst z1
    subst z3
    have hc := ow.cells (g := b) rfl
    have h1 : i < L.length := by omega
    obtain ⟨⟨k, ⟨x, y⟩, f, g, a, m, q⟩, hL⟩ : ∃ e, L[i] = e := ⟨_, rfl⟩
    have cell : ∀ j v, j < 7 → (encU (k, (x, y), f, g, a, m, q))[j]? = some v → w.cell? ⟨b, i * 7 + j, none⟩ = some v := fun j v hj hv => by
      have := hc (i * 7 + j) v (by rw [ucells_get _ i h1 j hj, hL]; exact hv)
      rw [Addr.add_none, Nat.zero_add] at this
      exact this
    exact ⟨b, k, x, y, f, g, a, m, q, rfl, by rw [List.getElem?_eq_getElem h1, hL], cell 0 _ (by omega) rfl, cell 1 _ (by omega) rfl, cell 2 _ (by omega) rfl, cell 3 _ (by omega) rfl, cell 4 _ (by omega) rfl, cell 5 _ (by omega) rfl, cell 6 _ (by omega) rfl⟩
theorem dKeys {w wr : World} {d : Int} {t : TK} {ms : List Mv} {tb : Nat} (h : Dst w wr d t ms) (et : t.tb = tb) (hl : ms.length ≤ 4398046511104) : Calls Tryz.prog 13 #[.pointer (some ⟨tb, 0, none⟩)] wr fun o w' => ∃ g cp nk, o = .returned (.slice (some ⟨g, 0, none⟩) nk cp) ∧ Hid (∃ ks, ks.length = nk ∧ nk ≤ 3 ∧ KE t.rv (fun _ => False) ks ∧ SortedS ks ∧ w'.ownsRow wr.heap.size 9 1 (.slice (some ⟨g, 0, none⟩) nk cp) nk (strs ks) ∧ Kept (fun _ => False) wr w') := by
  rw [← et]
  refine (tKeys ms.length t wr h.tab hl).mono ?_
  rintro o w' ⟨g, cp, ks, rfl, ke, srt, ow, _, K⟩
  exact ⟨g, cp, ks.length, rfl, ks, rfl, keys3 h ke, ke, srt, ow, K⟩
theorem Dst.fits {w wr : World} {d : Int} {t : TK} {ms : List Mv} (h : Dst w wr d t ms) {key : ByteArray} {g : Int × Int} {hd : Hd} (hm : TMp t key g = some hd) : TFit g := by
  cases hr : t.R key with
  | none => rw [TMp_no hr] at hm; cases hm
  | some r =>
    rw [TMp_at hr] at hm
    obtain ⟨D, _, s⟩ := (h.tab.row key r hr).tm
    exact s.2 g hd hm
theorem Dst.ksize {w wr : World} {d : Int} {t : TK} {ms : List Mv} (h : Dst w wr d t ms) {key : ByteArray} (hk : t.rv key ≠ none) : key.size ≤ maxLen := by
  obtain ⟨D, _, s⟩ := h.tab.rows
  cases hv : t.rv key with
  | none => exact absurd hv hk
  | some e => exact s.2 key e hv
theorem dEntriesO {w wr : World} {d : Int} {t : TK} {ms : List Mv} {tb : Nat} (h : Dst w wr d t ms) (et : t.tb = tb) (hl : ms.length ≤ 4398046511104) (key : ByteArray) (hk : key.size ≤ maxLen) : Calls Tryz.prog 14 #[.pointer (some ⟨tb, 0, none⟩), .string key] wr fun o w' => ∃ p n c, o = .returned (.slice p n c) ∧ Hid (∃ L : List Et6, L.length = n ∧ n ≤ 60 ∧ w'.ownsRow wr.heap.size 40 5 (.slice p n c) n (ecells L) ∧ EOwn wr.heap.size w' L ∧ (∀ e ∈ L, TFit e.1) ∧ Kept (fun _ => False) wr w') := by
  rw [← et]
  refine (tEntriesO ms.length t key (datOf t key) wr h.tab hk (fun r hr => h.datAll key r hr) hl).mono ?_
  rintro o w' ⟨p, cp, L, rfl, ge, srt, ow, K, eo⟩
  exact ⟨p, L.length, cp, rfl, L, rfl, ents60 h ge srt, ow, eo.2, fun e he => by
    obtain ⟨_, hd, hm, _⟩ := ge.each e he
    exact h.fits hm, K⟩
theorem dGetO {w wr : World} {d : Int} {t : TK} {ms : List Mv} {tb : Nat} (h : Dst w wr d t ms) (et : t.tb = tb) (key : ByteArray) (hk : t.rv key ≠ none) (x y : Int) (ft : TFit (x, y)) : Calls Tryz.prog 15 #[.pointer (some ⟨tb, 0, none⟩), .string key, .agg #[.int .i64 x, .int .i64 y]] wr fun o w' => ∃ x' y' f g p n c b, o = .returned (.tuple #[.agg #[.int .i64 x', .int .i64 y', .bool f, .bool g, .slice p n c], .bool b]) ∧ Hid (OL wr.heap.size w' [(p, n, c)] ∧ Kept (fun _ => False) wr w') := by
  rw [← et]
  cases hr : t.R key with
  | none => exact absurd (rv_none.2 hr) hk
  | some r =>
    refine (tGetO ms.length t key r x y wr h.tab (h.ksize hk) hr ft (h.dat key r hr).ok).mono ?_
    rintro o w' ⟨x', y', f, g, p, n, c, b, rfl, Q⟩
    obtain ⟨h1, ⟨xs, ow⟩, K⟩ := Q.out
    exact ⟨x', y', f, g, p, n, c, b, rfl, OL.one h1 ow, K⟩
theorem src_sl2 {w : World} {b : Nat} {a a' : Option Addr} {n c n' c' : Nat} (h : w.heap[b]? = some (.cells #[.slice a n c, .slice a' n' c'] 38 (0, 0))) : Src Tryz.prog 1 30 (.slice (some ⟨b, 0, none⟩) 2 2) 2 [.slice a n c, .slice a' n' c'] w :=
  Src.ofSlice w Tryz.underlying30 ⟨b, 0, none⟩ 2 2 [.slice a n c, .slice a' n' c'] rfl (fun j u hj => by
    rw [Addr.add_none, Nat.zero_add, cell_of_row w b j _ 38 (0, 0) h]
    simpa using hj) (fun v hv => by simp at hv; rcases hv with rfl | rfl <;> rfl)
/-- Another row's cells are none of what was told. -/
theorem Tld.ng {w6 wr : World} {p : Option Addr} {n c : Nat} {T R : List B3} (h : Tld w6 wr p n c T R) {k : Nat} {cs : Array Value} {ty : TypeId} (ht : ty ≠ 38) (hc : wr.heap[k]? = some (.cells cs ty (0, 0))) : ¬ blockOf p = some k := fun z => by
  obtain ⟨c3, h3⟩ := own_typ h.row z
  rw [h3] at hc
  simp at hc
  exact ht hc.2.symm
theorem own_ng {w6 wr w' : World} {p : Option Addr} {n c : Nat} {T R : List B3} (h : Tld w6 wr p n c T R) (K : Kept (fun k => blockOf p = some k) wr w') {b0 ty st : Nat} {q : Option Addr} {m e : Nat} {xs : List Value} (ht : ty ≠ 38) (ow : wr.ownsRow b0 ty st (.slice q m e) m xs) : w'.ownsRow b0 ty st (.slice q m e) m xs := K.owns ow (fun k hk => by
  obtain ⟨c3, h3⟩ := own_typ ow (by rw [← blockOf_own]; exact hk)
  exact h.ng ht h3)
end Go.Proofs.YtojepeefphbekaaGreat

namespace Go.Proofs.YtojepeefphbekaaGreat
open Go.RowKit 

set_option maxRecDepth 100000 in
set_option maxHeartbeats 4000000 in
/-- A table to which the moves were applied. -/
theorem tDoneW (d : Int) (a : Option Addr) (len cap : Nat) (l : List Mv) (w : World) (r : MReads w a len cap l) (hl : len ≤ 4398046511000) (h0 : 0 ≤ d) (h1 : d ≤ 4) : Calls Tryz.prog 9 #[.int .i64 d, .slice a len cap] w fun o w' => ∃ (tb : Nat), o = .returned (.tuple #[.pointer (some ⟨tb, 0, none⟩), .bool true]) ∧ Hid (∃ t, Dst w w' d t l ∧ t.tb = tb) := by
  have HM : Hid (MReads w a len cap l) := r
  have room := r.room
  have smallc := r.small
  unfold maxLen at smallc
  clear r
  go_enter Tryz.func9, Tryz.ntmps9
  go_wp2_with fail
  refine (new_good d w h0 (by omega)).mono ?_
  rintro o w1 ⟨tb, rb, rfl, i, K, e1, e2⟩
  have D0 : Hid (∃ t, Dst w w1 d t (l.take 0) ∧ t.tb = tb) := ⟨⟨tb, rb, d, fun _ => none⟩, Dst.new h0 i K e1 e2, rfl⟩
  clear i K e1 e2
  go_wp2_with fail
  go_loopw [4, 5, 9, 10, 11, 12, 13, 14, 28] (fun _ _ _ _ _ _ _ _ z wr => ∃ (i : Nat), z = .int .i64 (i : Int) ∧ i ≤ len ∧ Hid (∃ t, Dst w wr d t (l.take i) ∧ t.tb = tb)) (fun _ _ _ _ _ _ _ _ z _ => len - (intOf z).toNat)
  case atStart => exact ⟨0, rfl, Nat.zero_le _, D0⟩
  case round =>
    obtain ⟨i, rfl, hi, S⟩ := hrel
    clear D0
    by_cases hlt : i < len
    · have i1 : (i : Int) < (len : Int) := by omega
      obtain ⟨t, dst, et⟩ := S.out
      have B1 : Hid (Dst w wr d t (l.take i) ∧ t.tb = tb ∧ (l.take i).length = i) := ⟨dst, et, by rw [List.length_take, HM.out.length]; omega⟩
      obtain ⟨mb, off, rfl, hc0⟩ := (HM.out.by B1.out.1.kept (fun _ _ z => z)).cells (by omega)
      obtain ⟨⟨mk, mf, mo, mc, ml⟩, hm⟩ : ∃ m, m = l.getD i Mv.zero := ⟨_, rfl⟩
      have HK : Hid (l.take i ++ [⟨mk, mf, mo, mc, ml⟩] = l.take (i + 1)) := by
        have hil : i < l.length := by rw [HM.out.length]; exact hlt
        rw [hm, List.getD_eq_getElem?_getD, List.getElem?_eq_getElem hil, List.take_add_one, List.getElem?_eq_getElem hil]
        rfl
      have hc := hc0 i hlt
      clear hc0
      rw [← hm] at hc
      obtain ⟨m0, m1, m2, m3, m4⟩ := hc
      clear hm dst et S
      dsimp only at m0 m1 m2 m3 m4
      rw [Nat.add_zero] at m0
      go_upto_region 7 with fail
      obtain ⟨W, hW⟩ : ∃ W, W = wr.alloc (.cells #[.int .i64 mk, .bool mf, .bool mo, .int .i64 mc, .int .i64 ml] 28) := ⟨_, rfl⟩
      obtain ⟨X, hX⟩ : ∃ X, X = wr.heap.size := ⟨_, rfl⟩
      have B2 : Hid (Dst w W d t (l.take i) ∧ W.heap[X]? = some (.cells #[.int .i64 mk, .bool mf, .bool mo, .int .i64 mc, .int .i64 ml] 28 (0, 0)) ∧ w.heap.size ≤ X) := by
        rw [hW, hX]
        exact ⟨B1.out.1.k0 (k0_alloc _ _), heap_alloc_new _ _, B1.out.1.kept.size⟩
      rw [← hW, ← hX]
      clear hW hX m0 m1 m2 m3 m4
      go_wp2_with fail
      refine (dAll B2.out.1 B1.out.2.1 (by rw [B1.out.2.2]; omega)).mono ?_
      rintro o w2 ⟨p2, n2, c2, v2, rfl, A2⟩
      have B3 : Hid (Dst w w2 d t (l.take i) ∧ w2.heap[X]? = some (.cells #[.int .i64 mk, .bool mf, .bool mo, .int .i64 mc, .int .i64 ml] 28 (0, 0))) := ⟨B2.out.1.k0 A2.out.2.2, A2.out.2.2.get B2.out.2.1 (fun z => z)⟩
      have m0 := cell_blk B3.out.2 0 (v := .int .i64 mk) rfl
      have m1 := cell_blk B3.out.2 1 (v := .bool mf) rfl
      have m2 := cell_blk B3.out.2 2 (v := .bool mo) rfl
      have m3 := cell_blk B3.out.2 3 (v := .int .i64 mc) rfl
      have m4 := cell_blk B3.out.2 4 (v := .int .i64 ml) rfl
      go_wp2_with fail
      refine (dUpdate ⟨mk, mf, mo, mc, ml⟩ w2).mono ?_
      rintro o w3 ⟨kd, key, x, y, fin, has, ua, un, uc, lu, rfl, U3⟩
      have B4 : Hid (Dst w w3 d t (l.take i)) := B3.out.1.k0 U3.out.2.2
      clear m0 m1 m2 m3 m4
      obtain ⟨wv, hwv⟩ : ∃ wv, wv = wM t ⟨mk, mf, mo, mc, ml⟩ := ⟨_, rfl⟩
      have WV : Hid (wv = wM t ⟨mk, mf, mo, mc, ml⟩) := hwv
      have WO : Hid (Calls Tryz.prog 33 #[.pointer (some ⟨tb, 0, none⟩), .agg #[.int .i64 kd, .string key, .int .i64 x, .int .i64 y, .bool fin, .bool has, .slice ua un uc]] w3 fun o w' => o = .returned (.tuple #[.bool wv, .int .i64 0]) ∧ Kept (fun _ => False) w3 w') := by
        rw [hwv, ← would_m U3.out.1]
        exact dWould B4.out B1.out.2.1 U3.out.1
      clear hwv
      go_wp2_with fail
      refine WO.out.mono ?_
      rintro o w4 ⟨rfl, K4'⟩
      have K24 : Hid (Kept (fun _ => False) w2 w4) := U3.out.2.2.and0 K4'
      have B5 : Hid (Dst w w4 d t (l.take i)) := B4.out.k0 K4'
      clear K4' WO
      go_wp2_with fail
      refine (dAll B5.out B1.out.2.1 (by rw [B1.out.2.2]; omega)).mono ?_
      rintro o w5 ⟨p5, n5, c5, v5, rfl, A5⟩
      have B6 : Hid (Dst w w5 d t (l.take i) ∧ AllRd w5 p2 n2 c2 v2 ∧ w5.heap[X]? = some (.cells #[.int .i64 mk, .bool mf, .bool mo, .int .i64 mc, .int .i64 ml] 28 (0, 0)) ∧ v5 = v2) := ⟨B5.out.k0 A5.out.2.2, A2.out.1.k0 (K24.out.and0 A5.out.2.2), A5.out.2.2.get (K24.out.get B3.out.2 (fun z => z)) (fun z => z), all_same A5.out.2.1 A2.out.2.1⟩
      go_wp2_with fail
      refine (sameAllG p5 p2 n5 n2 c5 c2 v5 v2 w5 A5.out.1 B6.out.2.1).mono ?_
      rintro o w6 ⟨⟨yb, rfl, hyb⟩, K6⟩
      have ey : yb = true := hyb.2 B6.out.2.2.2
      subst ey
      have B7 : Hid (Dst w w6 d t (l.take i) ∧ AllRd w6 p2 n2 c2 v2 ∧ w6.heap[X]? = some (.cells #[.int .i64 mk, .bool mf, .bool mo, .int .i64 mc, .int .i64 ml] 28 (0, 0))) := ⟨B6.out.1.k0 K6, B6.out.2.1.k0 K6, K6.get B6.out.2.2.1 (fun z => z)⟩
      have AO : Hid (AllOf t (datOf t) v2) := A2.out.2.1
      have m0 := cell_blk B7.out.2.2 0 (v := .int .i64 mk) rfl
      have m1 := cell_blk B7.out.2.2 1 (v := .bool mf) rfl
      have m2 := cell_blk B7.out.2.2 2 (v := .bool mo) rfl
      have m3 := cell_blk B7.out.2.2 3 (v := .int .i64 mc) rfl
      have m4 := cell_blk B7.out.2.2 4 (v := .int .i64 ml) rfl
      clear hyb K6 B6 A5 B5 K24 A2 B4 B3 B2 U3
      go_wp2_with fail
      refine (dUpdate ⟨mk, mf, mo, mc, ml⟩ w6).mono ?_
      rintro o w7 ⟨kd', key', x', y', fin', has', ua', un', uc', lu', rfl, U7⟩
      have B8 : Hid (Dst w w7 d t (l.take i) ∧ AllRd w7 p2 n2 c2 v2) := ⟨B7.out.1.k0 U7.out.2.2, B7.out.2.1.k0 U7.out.2.2⟩
      have AP : Hid (Calls Tryz.prog 27 #[.pointer (some ⟨tb, 0, none⟩), .agg #[.int .i64 kd', .string key', .int .i64 x', .int .i64 y', .bool fin', .bool has', .slice ua' un' uc']] w7 fun o w' => o = .returned (.tuple #[.bool wv, .int .i64 0]) ∧ Hid (∃ t', Dst w w' d t' (l.take (i + 1)) ∧ t'.tb = tb ∧ Kept t.Uses w7 w' ∧ (wv = true → flags t' key' (x', y') ≠ flags t key' (x', y')) ∧ (wv = false → t' = t))) := by
        have := dApply B8.out.1 B1.out.2.1 h0 (by rw [B1.out.2.2]; omega) U7.out.1 U7.out.2.1
        rw [would_m U7.out.1, ← WV.out, HK.out] at this
        exact this
      clear m0 m1 m2 m3 m4
      go_wp2_with fail
      refine AP.out.mono ?_
      rintro o w8 ⟨rfl, S8⟩
      obtain ⟨t', dst', et', K8, f1, f2⟩ := S8.out
      have B9 : Hid (Dst w w8 d t' (l.take (i + 1)) ∧ t'.tb = tb ∧ AllRd w8 p2 n2 c2 v2) := ⟨dst', et', B8.out.2.off K8 (fun k cs ty fr ht hc => B8.out.1.tab.u.nbT hc ht)⟩
      have F9 : Hid ((wv = true → flags t' key' (x', y') ≠ flags t key' (x', y')) ∧ (wv = false → t' = t)) := ⟨f1, f2⟩
      clear dst' et' K8 f1 f2 S8 AP
      go_wp2_with fail
      refine (dAll B9.out.1 B9.out.2.1 (by rw [List.length_take]; omega)).mono ?_
      rintro o w9 ⟨p9, n9, c9, v9, rfl, A9⟩
      have B10 : Hid (Dst w w9 d t' (l.take (i + 1)) ∧ AllRd w9 p2 n2 c2 v2) := ⟨B9.out.1.k0 A9.out.2.2, B9.out.2.2.k0 A9.out.2.2⟩
      have SA : Hid (Calls Tryz.prog 17 #[.slice p9 n9 c9, .slice p2 n2 c2] w9 fun o w' => o = .returned (.bool (!wv)) ∧ Kept (fun _ => False) w9 w') := by
        refine (sameAllG p9 p2 n9 n2 c9 c2 v9 v2 w9 A9.out.1 B10.out.2).mono ?_
        rintro o w' ⟨⟨yb, rfl, hyb⟩, K⟩
        rw [all_step AO.out A9.out.2.1 F9.out.1 F9.out.2] at hyb
        refine ⟨?_, K⟩
        revert hyb
        cases yb <;> cases wv <;> simp
      go_wp2_with fail
      refine SA.out.mono ?_
      rintro o w10 ⟨rfl, K10⟩
      have B11 : Hid (∃ t, Dst w w10 d t (l.take (i + 1)) ∧ t.tb = tb) := ⟨t', B10.out.1.k0 K10, B9.out.2.1⟩
      clear K10 SA
      cases wv
      · go_wp2_with fail
        go_roundw
        case rel => exact ⟨i + 1, by go_num, by omega, B11⟩
        case measure => simp [intOf]; omega
      · go_wp2_with fail
        go_roundw
        case rel => exact ⟨i + 1, by go_num, by omega, B11⟩
        case measure => simp [intOf]; omega
    · have i1 : ¬ (i : Int) < (len : Int) := by omega
      have G : Hid (∃ t, Dst w wr d t l ∧ t.tb = tb) := by
        obtain ⟨t, h, e⟩ := S.out
        rw [List.take_of_length_le (by rw [HM.out.length]; omega)] at h
        exact ⟨t, h, e⟩
      clear S
      go_wp2_with fail
      go_ret2
      exact ⟨tb, rfl, G⟩
end Go.Proofs.YtojepeefphbekaaGreat
