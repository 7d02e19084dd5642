import Derived.Test.YtojepeefphbekaaGreatDst
namespace Go.Proofs.YtojepeefphbekaaGreat
open Go.RowKit 

theorem IsRow.nbT {w : World} {n : Nat} {r : RK} (h : IsRow w n r) {k : Nat} {cs : Array Value} {ty : TypeId} {fr : Nat × Nat} (hk : w.heap[k]? = some (.cells cs ty fr)) (ht : ty = 5 ∨ ty = 40 ∨ ty = 35) : ¬ r.Uses k := by
  rintro (z | z | z)
  · obtain ⟨D, ⟨es, clock, hb, _⟩, _⟩ := h.tm
    rw [← z, hk] at hb
    cases hb
  · have hb := h.st.blk
    rw [← z, hk] at hb
    have := Option.some.inj hb
    injection this with _ e
    rcases ht with rfl | rfl | rfl <;> exact absurd e (by decide)
  · rcases h.st.row.pos with ⟨e1, _⟩ | ⟨g, off, cur, e1, h1, _⟩
    · rw [e1] at z
      cases z
    · rw [e1] at z
      have z : g = k := Option.some.inj z
      rw [z, hk] at h1
      have := Option.some.inj h1
      injection this with _ e
      rcases ht with rfl | rfl | rfl <;> exact absurd e (by decide)
theorem IsU.nbT {w : World} {m n : Nat} {t : TK} (h : IsU w m n t) {k : Nat} {cs : Array Value} {ty : TypeId} {fr : Nat × Nat} (hk : w.heap[k]? = some (.cells cs ty fr)) (ht : ty = 5 ∨ ty = 40 ∨ ty = 35) : ¬ t.Uses k := by
  rintro (e | ⟨j, r, hr, hu⟩)
  · obtain ⟨D, ⟨es, clock, hb, _⟩, _⟩ := h.rows
    rw [← e, hk] at hb
    cases hb
  · exact (h.row j r hr).nbT hk ht hu
theorem AllRd.off {S : Nat → Prop} {w w' : World} {p : Option Addr} {n c : Nat} {vs : List Av} (h : AllRd w p n c vs) (K : Kept S w w') (hn : ∀ k cs ty fr, (ty = 5 ∨ ty = 40 ∨ ty = 35) → w.heap[k]? = some (.cells cs ty fr) → ¬ S k) : AllRd w' p n c vs := by
  obtain ⟨L, ow, al⟩ := h.row
  refine ⟨h.len, L, K.owns ow (fun k hk => ?_), al.imp (fun a b q => q.off K (fun k cs t fr ht hc => hn k cs t fr (by rcases ht with z | z; exact .inl z; exact .inr (.inl z)) hc))⟩
  obtain ⟨cs, hc⟩ := own_type ow k (by rw [← blockOf_own p n c]; exact hk)
  exact hn k cs 35 _ (.inr (.inr rfl)) hc
theorem dAll {w wr : World} {d : Int} {t : TK} {ms : List Mv} {tb : Nat} (h : Dst w wr d t ms) (et : t.tb = tb) (hl : ms.length ≤ 4398046511104) : Calls Tryz.prog 11 #[.pointer (some ⟨tb, 0, none⟩)] wr fun o w' => ∃ p n c vs, o = .returned (.slice p n c) ∧ Hid (AllRd w' p n c vs ∧ AllOf t (datOf t) vs ∧ Kept (fun _ => False) wr w') := by
  rw [← et]
  exact tAll ms.length t (datOf t) wr h.tab h.datAll hl
/-- The update of a move. -/
theorem dUpdate (m : Mv) (w : World) : Calls Tryz.prog 28 #[.agg #[.int .i64 m.key, .bool m.fin, .bool m.both, .int .i64 m.c, .int .i64 m.k]] w fun o w' => ∃ (kd : Int) (key : ByteArray) (x y : Int) (fin has : Bool) (ua : Option Addr) (un uc : Nat) (lu : List Nat), o = .returned (.agg #[.int .i64 kd, .string key, .int .i64 x, .int .i64 y, .bool fin, .bool has, .slice ua un uc]) ∧ Hid (UOf ⟨kd, key, x, y, fin, has, ua, un, uc⟩ m lu ∧ Reads w' ua un uc lu ∧ Kept (fun _ => False) w w') := by
  refine (update m.key m.fin m.both m.c m.k w).mono ?_
  rintro o w' ⟨⟨kd, key, x, y, fin, has, ua, un, uc⟩, l, rfl, h1, h2, h3, h4, h5, h6, h7, h8, h9⟩
  exact ⟨kd, key, x, y, fin, has, ua, un, uc, l, rfl, ⟨h1, h2, h3, h4, h5, h6.length.symm, h8⟩, h6, h9⟩
theorem UOf.fit {u : Upd} {m : Mv} {l : List Nat} (h : UOf u m l) : TFit (u.x, u.y) ∧ u.key.size ≤ maxLen ∧ u.n ≤ 140737488355328 := by
  have a0 := Int.emod_nonneg m.c (show (12 : Int) ≠ 0 by omega)
  have a1 := Int.emod_lt_of_pos m.c (show (0 : Int) < 12 by omega)
  have b0 := Int.emod_nonneg m.k (show (5 : Int) ≠ 0 by omega)
  have b1 := Int.emod_lt_of_pos m.k (show (0 : Int) < 5 by omega)
  have ex : u.x = m.c % 12 + 1 := h.tag1.1
  have ey : u.y = m.k % 5 + 1 := h.tag1.2
  have ks := key3_size m.key
  refine ⟨⟨⟨by show _ ≤ u.x; omega, by show u.x < _; omega⟩, ⟨by show _ ≤ u.y; omega, by show u.y < _; omega⟩⟩, by rw [h.key]; unfold maxLen; omega, ?_⟩
  rw [h.n, h.data]
  split
  · rw [fragD_len]; omega
  · simp
theorem would_zero {t : TK} {u : Upd} {m : Mv} {l : List Nat} (h : UOf u m l) : (wouldV t u).2 = 0 := by
  unfold wouldV
  rw [if_pos h.may]
theorem dWould {w wr : World} {d : Int} {t : TK} {ms : List Mv} {tb : Nat} (h : Dst w wr d t ms) (et : t.tb = tb) {kd : Int} {key : ByteArray} {x y : Int} {fin has : Bool} {ua : Option Addr} {un uc : Nat} {m : Mv} {lu : List Nat} (uo : UOf ⟨kd, key, x, y, fin, has, ua, un, uc⟩ m lu) : Calls Tryz.prog 33 #[.pointer (some ⟨tb, 0, none⟩), .agg #[.int .i64 kd, .string key, .int .i64 x, .int .i64 y, .bool fin, .bool has, .slice ua un uc]] wr fun o w' => o = .returned (.tuple #[.bool (wouldV t ⟨kd, key, x, y, fin, has, ua, un, uc⟩).1, .int .i64 0]) ∧ Kept (fun _ => False) wr w' := by
  rw [← et]
  have := would ms.length t ⟨kd, key, x, y, fin, has, ua, un, uc⟩ wr h.tab uo.fit.2.1 uo.fit.1
  rw [would_zero uo] at this
  exact this
theorem dApply {w wr : World} {d : Int} {t : TK} {ms : List Mv} {tb : Nat} (h : Dst w wr d t ms) (et : t.tb = tb) (h0 : 0 ≤ d) (hl : ms.length < 4398046511104) {kd : Int} {key : ByteArray} {x y : Int} {fin has : Bool} {ua : Option Addr} {un uc : Nat} {m : Mv} {lu : List Nat} (uo : UOf ⟨kd, key, x, y, fin, has, ua, un, uc⟩ m lu) (rd : Reads wr ua un uc lu) : Calls Tryz.prog 27 #[.pointer (some ⟨tb, 0, none⟩), .agg #[.int .i64 kd, .string key, .int .i64 x, .int .i64 y, .bool fin, .bool has, .slice ua un uc]] wr fun o w' => o = .returned (.tuple #[.bool (wouldV t ⟨kd, key, x, y, fin, has, ua, un, uc⟩).1, .int .i64 0]) ∧ Hid (∃ t', Dst w w' d t' (ms ++ [m]) ∧ t'.tb = tb ∧ Kept t.Uses wr w' ∧ ((wouldV t ⟨kd, key, x, y, fin, has, ua, un, uc⟩).1 = true → flags t' key (x, y) ≠ flags t key (x, y)) ∧ ((wouldV t ⟨kd, key, x, y, fin, has, ua, un, uc⟩).1 = false → t' = t)) := by
  rw [← et]
  refine (apply ms.length ms.length t ⟨kd, key, x, y, fin, has, ua, un, uc⟩ lu wr h.tab h.dat h.len (by omega) uo.fit.2.1 uo.fit.1 rd uo.fit.2.2 (by unfold maxLen; omega)).mono ?_
  rintro o w' ⟨rfl, t', p, i'⟩
  obtain ⟨q1, q2, q3⟩ := p.onward h h0 i' uo rd
  rw [would_zero uo]
  exact ⟨rfl, t', q1, p.tb, p.kept, q2, q3⟩
/-- Two tellings of one table. -/
theorem all_same {t : TK} {vs vs' : List Av} (h : AllOf t (datOf t) vs) (h' : AllOf t (datOf t) vs') : vs = vs' := all_one h h' (fun _ => Iff.rfl) (fun _ _ => rfl)
/-- Tellings behind an update. -/
theorem all_step {t t' : TK} {vs vs' : List Av} {k : ByteArray} {g : Int × Int} {b : Bool} (h : AllOf t (datOf t) vs) (h' : AllOf t' (datOf t') vs') (h1 : b = true → flags t' k g ≠ flags t k g) (h2 : b = false → t' = t) : vs' = vs ↔ b = false := by
  constructor
  · rintro rfl
    cases b
    · rfl
    · exact absurd (flags_ab (all_ne h' h k g)) (h1 rfl)
  · intro hb
    have := h2 hb
    subst this
    exact all_same h' h
end Go.Proofs.YtojepeefphbekaaGreat

namespace Go.Proofs.YtojepeefphbekaaGreat
open Go.RowKit 

/-- Would a move change something? -/
def wM (t : TK) (m : Mv) : Bool := if tc m.tag (floorT (TS t (key3 m.key)) t.delta) < 0 then false else ((m.brings && !((TMp t (key3 m.key) m.tag).getD Hd.zero).has) || (m.fin && !((TMp t (key3 m.key) m.tag).getD Hd.zero).fin))
theorem would_m {t : TK} {u : Upd} {m : Mv} {l : List Nat} (h : UOf u m l) : (wouldV t u).1 = wM t m := by
  unfold wouldV wM
  rw [if_pos h.may]
  unfold wouldF lackF
  rw [h.brings, h.final, h.key, h.tag]
  split <;> rfl
set_option maxRecDepth 100000 in
set_option maxHeartbeats 4000000 in
/-- A table to which the moves were applied. -/
theorem tDone (d : Int) (a : Option Addr) (len cap : Nat) (l : List Mv) (w : World) (r : MReads w a len cap l) (hl : len ≤ 4398046510976) (h0 : 0 ≤ d) (h1 : d ≤ 4) : Calls Tryz.prog 9 #[.int .i64 d, .slice a len cap] w fun o w' => ∃ (tb : Nat), o = .returned (.tuple #[.pointer (some ⟨tb, 0, none⟩), .bool true]) ∧ Hid (∃ t, Dst w w' d t l ∧ t.tb = tb) := by
  have HM : Hid (MReads w a len cap l) := r
  have room := r.room
  have smallc := r.small
  unfold maxLen at smallc
  clear r
  go_enter Tryz.func9, Tryz.ntmps9
  go_wp2_with fail
  refine (new_good d w h0 (by omega)).mono ?_
  rintro o w1 ⟨tb, rb, rfl, i, K, e1, e2⟩
  have D0 : Hid (∃ t, Dst w w1 d t (l.take 0) ∧ t.tb = tb) := ⟨⟨tb, rb, d, fun _ => none⟩, Dst.new h0 i K e1 e2, rfl⟩
  clear i K e1 e2
  go_wp2_with fail
  go_loopw [4, 5, 9, 10, 11, 12, 13, 14, 28] (fun _ _ _ _ _ _ _ _ z wr => ∃ (i : Nat), z = .int .i64 (i : Int) ∧ i ≤ len ∧ Hid (∃ t, Dst w wr d t (l.take i) ∧ t.tb = tb)) (fun _ _ _ _ _ _ _ _ z _ => len - (intOf z).toNat)
  case atStart => exact ⟨0, rfl, Nat.zero_le _, D0⟩
  case round =>
    obtain ⟨i, rfl, hi, S⟩ := hrel
    clear D0
    by_cases hlt : i < len
    · have i1 : (i : Int) < (len : Int) := by omega
      obtain ⟨t, dst, et⟩ := S.out
      have B1 : Hid (Dst w wr d t (l.take i) ∧ t.tb = tb ∧ (l.take i).length = i) := ⟨dst, et, by rw [List.length_take, HM.out.length]; omega⟩
      obtain ⟨mb, off, rfl, hc0⟩ := (HM.out.by B1.out.1.kept (fun _ _ z => z)).cells (by omega)
      obtain ⟨⟨mk, mf, mo, mc, ml⟩, hm⟩ : ∃ m, m = l.getD i Mv.zero := ⟨_, rfl⟩
      have HK : Hid (l.take i ++ [⟨mk, mf, mo, mc, ml⟩] = l.take (i + 1)) := by
        have hil : i < l.length := by rw [HM.out.length]; exact hlt
        rw [hm, List.getD_eq_getElem?_getD, List.getElem?_eq_getElem hil, List.take_add_one, List.getElem?_eq_getElem hil]
        rfl
      have hc := hc0 i hlt
      clear hc0
      rw [← hm] at hc
      obtain ⟨m0, m1, m2, m3, m4⟩ := hc
      clear hm dst et S
      dsimp only at m0 m1 m2 m3 m4
      rw [Nat.add_zero] at m0
      go_upto_region 7 with fail
      obtain ⟨W, hW⟩ : ∃ W, W = wr.alloc (.cells #[.int .i64 mk, .bool mf, .bool mo, .int .i64 mc, .int .i64 ml] 28) := ⟨_, rfl⟩
      obtain ⟨X, hX⟩ : ∃ X, X = wr.heap.size := ⟨_, rfl⟩
      have B2 : Hid (Dst w W d t (l.take i) ∧ W.heap[X]? = some (.cells #[.int .i64 mk, .bool mf, .bool mo, .int .i64 mc, .int .i64 ml] 28 (0, 0)) ∧ w.heap.size ≤ X) := by
        rw [hW, hX]
        exact ⟨B1.out.1.k0 (k0_alloc _ _), heap_alloc_new _ _, B1.out.1.kept.size⟩
      rw [← hW, ← hX]
      clear hW hX m0 m1 m2 m3 m4
      go_wp2_with fail
      refine (dAll B2.out.1 B1.out.2.1 (by rw [B1.out.2.2]; omega)).mono ?_
      rintro o w2 ⟨p2, n2, c2, v2, rfl, A2⟩
      have B3 : Hid (Dst w w2 d t (l.take i) ∧ w2.heap[X]? = some (.cells #[.int .i64 mk, .bool mf, .bool mo, .int .i64 mc, .int .i64 ml] 28 (0, 0))) := ⟨B2.out.1.k0 A2.out.2.2, A2.out.2.2.get B2.out.2.1 (fun z => z)⟩
      have m0 := cell_blk B3.out.2 0 (v := .int .i64 mk) rfl
      have m1 := cell_blk B3.out.2 1 (v := .bool mf) rfl
      have m2 := cell_blk B3.out.2 2 (v := .bool mo) rfl
      have m3 := cell_blk B3.out.2 3 (v := .int .i64 mc) rfl
      have m4 := cell_blk B3.out.2 4 (v := .int .i64 ml) rfl
      go_wp2_with fail
      refine (dUpdate ⟨mk, mf, mo, mc, ml⟩ w2).mono ?_
      rintro o w3 ⟨kd, key, x, y, fin, has, ua, un, uc, lu, rfl, U3⟩
      have B4 : Hid (Dst w w3 d t (l.take i)) := B3.out.1.k0 U3.out.2.2
      clear m0 m1 m2 m3 m4
      obtain ⟨wv, hwv⟩ : ∃ wv, wv = wM t ⟨mk, mf, mo, mc, ml⟩ := ⟨_, rfl⟩
      have WV : Hid (wv = wM t ⟨mk, mf, mo, mc, ml⟩) := hwv
      have WO : Hid (Calls Tryz.prog 33 #[.pointer (some ⟨tb, 0, none⟩), .agg #[.int .i64 kd, .string key, .int .i64 x, .int .i64 y, .bool fin, .bool has, .slice ua un uc]] w3 fun o w' => o = .returned (.tuple #[.bool wv, .int .i64 0]) ∧ Kept (fun _ => False) w3 w') := by
        rw [hwv, ← would_m U3.out.1]
        exact dWould B4.out B1.out.2.1 U3.out.1
      clear hwv
      go_wp2_with fail
      refine WO.out.mono ?_
      rintro o w4 ⟨rfl, K4'⟩
      have K24 : Hid (Kept (fun _ => False) w2 w4) := U3.out.2.2.and0 K4'
      have B5 : Hid (Dst w w4 d t (l.take i)) := B4.out.k0 K4'
      clear K4' WO
      go_wp2_with fail
      refine (dAll B5.out B1.out.2.1 (by rw [B1.out.2.2]; omega)).mono ?_
      rintro o w5 ⟨p5, n5, c5, v5, rfl, A5⟩
      have B6 : Hid (Dst w w5 d t (l.take i) ∧ AllRd w5 p2 n2 c2 v2 ∧ w5.heap[X]? = some (.cells #[.int .i64 mk, .bool mf, .bool mo, .int .i64 mc, .int .i64 ml] 28 (0, 0)) ∧ v5 = v2) := ⟨B5.out.k0 A5.out.2.2, A2.out.1.k0 (K24.out.and0 A5.out.2.2), A5.out.2.2.get (K24.out.get B3.out.2 (fun z => z)) (fun z => z), all_same A5.out.2.1 A2.out.2.1⟩
      go_wp2_with fail
      refine (sameAllG p5 p2 n5 n2 c5 c2 v5 v2 w5 A5.out.1 B6.out.2.1).mono ?_
      rintro o w6 ⟨⟨yb, rfl, hyb⟩, K6⟩
      have ey : yb = true := hyb.2 B6.out.2.2.2
      subst ey
      have B7 : Hid (Dst w w6 d t (l.take i) ∧ AllRd w6 p2 n2 c2 v2 ∧ w6.heap[X]? = some (.cells #[.int .i64 mk, .bool mf, .bool mo, .int .i64 mc, .int .i64 ml] 28 (0, 0))) := ⟨B6.out.1.k0 K6, B6.out.2.1.k0 K6, K6.get B6.out.2.2.1 (fun z => z)⟩
      have AO : Hid (AllOf t (datOf t) v2) := A2.out.2.1
      have m0 := cell_blk B7.out.2.2 0 (v := .int .i64 mk) rfl
      have m1 := cell_blk B7.out.2.2 1 (v := .bool mf) rfl
      have m2 := cell_blk B7.out.2.2 2 (v := .bool mo) rfl
      have m3 := cell_blk B7.out.2.2 3 (v := .int .i64 mc) rfl
      have m4 := cell_blk B7.out.2.2 4 (v := .int .i64 ml) rfl
      clear hyb K6 B6 A5 B5 K24 A2 B4 B3 B2 U3
      go_wp2_with fail
      refine (dUpdate ⟨mk, mf, mo, mc, ml⟩ w6).mono ?_
      rintro o w7 ⟨kd', key', x', y', fin', has', ua', un', uc', lu', rfl, U7⟩
      have B8 : Hid (Dst w w7 d t (l.take i) ∧ AllRd w7 p2 n2 c2 v2) := ⟨B7.out.1.k0 U7.out.2.2, B7.out.2.1.k0 U7.out.2.2⟩
      have AP : Hid (Calls Tryz.prog 27 #[.pointer (some ⟨tb, 0, none⟩), .agg #[.int .i64 kd', .string key', .int .i64 x', .int .i64 y', .bool fin', .bool has', .slice ua' un' uc']] w7 fun o w' => o = .returned (.tuple #[.bool wv, .int .i64 0]) ∧ Hid (∃ t', Dst w w' d t' (l.take (i + 1)) ∧ t'.tb = tb ∧ Kept t.Uses w7 w' ∧ (wv = true → flags t' key' (x', y') ≠ flags t key' (x', y')) ∧ (wv = false → t' = t))) := by
        have := dApply B8.out.1 B1.out.2.1 h0 (by rw [B1.out.2.2]; omega) U7.out.1 U7.out.2.1
        rw [would_m U7.out.1, ← WV.out, HK.out] at this
        exact this
      clear m0 m1 m2 m3 m4
      go_wp2_with fail
      refine AP.out.mono ?_
      rintro o w8 ⟨rfl, S8⟩
      obtain ⟨t', dst', et', K8, f1, f2⟩ := S8.out
      have B9 : Hid (Dst w w8 d t' (l.take (i + 1)) ∧ t'.tb = tb ∧ AllRd w8 p2 n2 c2 v2) := ⟨dst', et', B8.out.2.off K8 (fun k cs ty fr ht hc => B8.out.1.tab.u.nbT hc ht)⟩
      have F9 : Hid ((wv = true → flags t' key' (x', y') ≠ flags t key' (x', y')) ∧ (wv = false → t' = t)) := ⟨f1, f2⟩
      clear dst' et' K8 f1 f2 S8 AP
      go_wp2_with fail
      refine (dAll B9.out.1 B9.out.2.1 (by rw [List.length_take]; omega)).mono ?_
      rintro o w9 ⟨p9, n9, c9, v9, rfl, A9⟩
      have B10 : Hid (Dst w w9 d t' (l.take (i + 1)) ∧ AllRd w9 p2 n2 c2 v2) := ⟨B9.out.1.k0 A9.out.2.2, B9.out.2.2.k0 A9.out.2.2⟩
      have SA : Hid (Calls Tryz.prog 17 #[.slice p9 n9 c9, .slice p2 n2 c2] w9 fun o w' => o = .returned (.bool (!wv)) ∧ Kept (fun _ => False) w9 w') := by
        refine (sameAllG p9 p2 n9 n2 c9 c2 v9 v2 w9 A9.out.1 B10.out.2).mono ?_
        rintro o w' ⟨⟨yb, rfl, hyb⟩, K⟩
        rw [all_step AO.out A9.out.2.1 F9.out.1 F9.out.2] at hyb
        refine ⟨?_, K⟩
        revert hyb
        cases yb <;> cases wv <;> simp
      go_wp2_with fail
      refine SA.out.mono ?_
      rintro o w10 ⟨rfl, K10⟩
      have B11 : Hid (∃ t, Dst w w10 d t (l.take (i + 1)) ∧ t.tb = tb) := ⟨t', B10.out.1.k0 K10, B9.out.2.1⟩
      clear K10 SA
      cases wv
      · go_wp2_with fail
        go_roundw
        case rel => exact ⟨i + 1, by go_num, by omega, B11⟩
        case measure => simp [intOf]; omega
      · go_wp2_with fail
        go_roundw
        case rel => exact ⟨i + 1, by go_num, by omega, B11⟩
        case measure => simp [intOf]; omega
    · have i1 : ¬ (i : Int) < (len : Int) := by omega
      have G : Hid (∃ t, Dst w wr d t l ∧ t.tb = tb) := by
        obtain ⟨t, h, e⟩ := S.out
        rw [List.take_of_length_le (by rw [HM.out.length]; omega)] at h
        exact ⟨t, h, e⟩
      clear S
      go_wp2_with fail
      go_ret2
      exact ⟨tb, rfl, G⟩
end Go.Proofs.YtojepeefphbekaaGreat
