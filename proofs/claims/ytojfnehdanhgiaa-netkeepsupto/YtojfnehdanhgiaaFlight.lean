import Derived.Test.YtojfnehdanhgiaaCalls
namespace Go.Proofs.Ytojfnehdanhgiaa
open Go.RowKit

theorem set_take (L : List Value) (n : Nat) (v : Value) (h : n < L.length) : (L.set n v).take (n + 1) = L.take n ++ [v] := by
  rw [List.take_succ_eq_append_getElem (by simpa using h), List.take_set_of_le (Nat.le_refl _)]
  simp
theorem set_cur {cur : Array Value} (n : Nat) (v : Value) : (cur.setIfInBounds n v).toList = cur.toList.set n v := Array.toList_setIfInBounds ..
/-- Six cells of a block are stored, one behind the other. -/
theorem put6 {w : World} {g : Nat} {cur : Array Value} (hg : w.heap[g]? = some (.cells cur 39 (0, 0))) (n : Nat) (hn : n + 6 ≤ cur.size) (v1 v2 v3 v4 v5 v6 : Value) :
    ∃ cur', ((((((w.setCell ⟨g, n, none⟩ v1).setCell ⟨g, n + 1, none⟩ v2).setCell ⟨g, n + 2, none⟩ v3).setCell ⟨g, n + 3, none⟩ v4).setCell ⟨g, n + 4, none⟩ v5).setCell ⟨g, n + 5, none⟩ v6).heap[g]? = some (.cells cur' 39 (0, 0)) ∧
      cur'.size = cur.size ∧ cur'.toList.take (n + 6) = cur.toList.take n ++ [v1, v2, v3, v4, v5, v6] := by
  have hl : cur.toList.length = cur.size := Array.length_toList
  refine ⟨_, set_heap (set_heap (set_heap (set_heap (set_heap (set_heap hg n v1) _ v2) _ v3) _ v4) _ v5) _ v6, by simp, ?_⟩
  simp only [set_cur]
  rw [set_take _ _ _ (by simp only [List.length_set]; omega), set_take _ _ _ (by simp only [List.length_set]; omega), set_take _ _ _ (by simp only [List.length_set]; omega), set_take _ _ _ (by simp only [List.length_set]; omega), set_take _ _ _ (by simp only [List.length_set]; omega), set_take _ _ _ (by omega)]
  simp
/-- The bytes of no two of them lie in one block. -/
def Apart (R : List Ent) : Prop := R.Pairwise fun e f => ∀ k, blockOf e.a = some k → blockOf f.a ≠ some k
theorem Apart.snoc {R : List Ent} (h : Apart R) {e : Ent} (he : ∀ f ∈ R, ∀ k, blockOf f.a = some k → blockOf e.a ≠ some k) : Apart (R ++ [e]) :=
  List.pairwise_append.2 ⟨h, List.pairwise_singleton _ _, fun f hf g hg => by rw [List.mem_singleton.1 hg]; exact he f hf⟩
/-- How far a list is filled. -/
structure Filled (w0 wr : World) (g len : Nat) (R' : List Ent) : Prop where
  blk : ∃ cur, wr.heap[g]? = some (.cells cur 39 (0, 0)) ∧ cur.size = len * 6 ∧ cur.toList.take (R'.length * 6) = rcells R'
  good : ∀ e ∈ R', Good w0.heap.size wr e
  apart : Apart R'
  kept : Kept (fun _ => False) w0 wr
  low : w0.heap.size ≤ g
theorem Good.lt {base : Nat} {w : World} {e : Ent} (h : Good base w e) : ∀ k, blockOf e.a = some k → base ≤ k ∧ k < w.heap.size := own_lt h.own
theorem Good.ne {base : Nat} {w : World} {e : Ent} (h : Good base w e) {g : Nat} {cur : Array Value} {t : TypeId} (hg : w.heap[g]? = some (.cells cur t (0, 0))) (ht : t ≠ 5) : ∀ k, blockOf e.a = some k → k ≠ g := fun k hk e' => by
  obtain ⟨cs, hc⟩ := own_type h.own k hk
  rw [e', hg] at hc
  simp at hc
  exact ht hc.2
/-- One more is stored. -/
theorem Filled.put {w0 wr w2 : World} {g len : Nat} {R' : List Ent} (h : Filled w0 wr g len R') (hl : R'.length < len) {e : Ent} (K : Kept (fun _ => False) wr w2) (he : Good wr.heap.size w2 e) {n : Nat} (hn : n = R'.length * 6) :
    Filled w0 ((((((w2.setCell ⟨g, n, none⟩ (.int .i64 e.p.fk)).setCell ⟨g, n + 1, none⟩ (.int .i64 e.p.fi)).setCell ⟨g, n + 2, none⟩ (.int .i64 e.p.tk)).setCell ⟨g, n + 3, none⟩ (.int .i64 e.p.ti)).setCell ⟨g, n + 4, none⟩ (.slice e.a e.len e.cap)).setCell ⟨g, n + 5, none⟩ (.bool e.p.lost)) g len (R' ++ [e]) := by
  obtain ⟨cur, hg, hs, ht⟩ := h.blk
  have hg2 := K.get hg (fun q => q)
  subst hn
  obtain ⟨cur', h1, h2, h3⟩ := put6 hg2 (R'.length * 6) (by omega) (.int .i64 e.p.fk) (.int .i64 e.p.fi) (.int .i64 e.p.tk) (.int .i64 e.p.ti) (.slice e.a e.len e.cap) (.bool e.p.lost)
  have nd : NotData w2 g := fun cs f q => by rw [hg2] at q; simp at q
  have KS : ∀ (S : Nat → Prop) (w : World) (K : Kept S w w2) (hb : g < w.heap.size → S g), Kept S w ((((((w2.setCell ⟨g, R'.length * 6, none⟩ (.int .i64 e.p.fk)).setCell ⟨g, R'.length * 6 + 1, none⟩ (.int .i64 e.p.fi)).setCell ⟨g, R'.length * 6 + 2, none⟩ (.int .i64 e.p.tk)).setCell ⟨g, R'.length * 6 + 3, none⟩ (.int .i64 e.p.ti)).setCell ⟨g, R'.length * 6 + 4, none⟩ (.slice e.a e.len e.cap)).setCell ⟨g, R'.length * 6 + 5, none⟩ (.bool e.p.lost)) := fun S w K hb =>
    (((((K.setCell hb _).setCell hb _).setCell hb _).setCell hb _).setCell hb _).setCell hb _
  have K2 := KS (fun k => k = g) w2 (Kept.refl _ _) (fun _ => rfl)
  refine ⟨⟨cur', h1, by omega, ?_⟩, fun f hf => ?_, h.apart.snoc fun f hf k hk hk2 => ?_, KS _ _ (h.kept.trans K (fun _ _ q => q)) (fun q => by have := h.low; omega), h.low⟩
  · rw [List.length_append, show (R'.length + [e].length) * 6 = R'.length * 6 + 6 by simp; omega, h3, ht, rcells_append, rcells_one']
    rfl
  · rcases List.mem_append.1 hf with m | m
    · exact ((h.good f m).kept0 K).kept K2 (fun k _ q => by rw [q]; exact nd)
    · rw [List.mem_singleton.1 m]
      exact (he.mono (Nat.le_trans h.kept.size (Nat.le_refl _))).kept K2 (fun k _ q => by rw [q]; exact nd)
  · have a1 := ((h.good f hf).lt k hk).2
    have a2 := (he.lt k hk2).1
    omega
theorem Filled.quiet {w0 wr w2 : World} {g len : Nat} {R' : List Ent} (h : Filled w0 wr g len R') (K : Kept (fun _ => False) wr w2) : Filled w0 w2 g len R' := by
  obtain ⟨cur, hg, hs, ht⟩ := h.blk
  exact ⟨⟨cur, K.get hg (fun q => q), hs, ht⟩, fun e he => (h.good e he).kept0 K, h.apart, h.kept.trans K (fun _ _ q => q), h.low⟩
theorem Filled.list {w0 wr : World} {g len : Nat} {R' : List Ent} (h : Filled w0 wr g len R') (hl : R'.length = len) (hm : len ≤ maxLen) : IsL w0.heap.size wr (some ⟨g, 0, none⟩) len len R' := by
  obtain ⟨cur, hg, hs, ht⟩ := h.blk
  exact ⟨⟨by rw [rcells_length, hl], .inr ⟨g, len, cur, rfl, h.low, hg, Nat.le_refl _, hm, hs, by rw [← hl]; exact ht⟩⟩, h.good⟩
theorem Try.info39 : (Try.prog.info? 39).map (fun i => (i.zero, i.size, i.bytes)) = some (some (.agg #[.int .i64 0, .int .i64 0, .int .i64 0, .int .i64 0, .slice none 0 0, .bool false]), 6, 64) := by kernel_rfl
/-- How many there may be. -/
def Big : Nat := 2199023255552
theorem big_bytes {n : Nat} (h : n ≤ Big) : 64 * n ≤ 281474976710656 := by unfold Big at h; omega
theorem big_max {n : Nat} (h : n ≤ Big) : n ≤ maxLen := by unfold Big at h; unfold maxLen; omega
theorem big_wide {n : Nat} (h : n ≤ Big) : (n + n / 4 + 192) * 64 ≤ 281474976710656 := by unfold Big at h; omega
theorem map_getElem {R R' : List Ent} {i : Nat} (h : R'.map Ent.p = (R.map Ent.p).take i) (hi : i < R.length) (e : Ent) (he : e.p = R[i].p) : (R' ++ [e]).map Ent.p = (R.map Ent.p).take (i + 1) := by
  rw [List.take_succ_eq_append_getElem (by simpa using hi), List.map_append, h]
  simp [he]
theorem Filled.start {w w1 : World} (len : Nat) (xs : List Value) (ho : w1.ownsRow w.heap.size 39 6 (.slice (some ⟨w.heap.size, 0, none⟩) len len) len xs) (K : Kept (fun _ => False) w w1) : Filled w w1 w.heap.size len [] := by
  rcases ho.2 with ⟨e0, _⟩ | ⟨g, cap, cur, e0, _, hg, _, _, hs, _⟩
  · simp at e0
  · simp at e0
    obtain ⟨rfl, rfl⟩ := e0
    exact ⟨⟨cur, hg, hs, by simp [rcells]⟩, fun _ h => by simp at h, List.Pairwise.nil, K, Nat.le_refl _⟩
/-- Six cells that may be stored to. -/
theorem six {w : World} {g : Nat} {cur : Array Value} {t : TypeId} (hg : w.heap[g]? = some (.cells cur t (0, 0))) (n : Nat) (hn : n + 6 ≤ cur.size) : ∃ u0 u1 u2 u3 u4 u5, w.cell? ⟨g, n, none⟩ = some u0 ∧ w.cell? ⟨g, n + 1, none⟩ = some u1 ∧ w.cell? ⟨g, n + 2, none⟩ = some u2 ∧ w.cell? ⟨g, n + 3, none⟩ = some u3 ∧ w.cell? ⟨g, n + 4, none⟩ = some u4 ∧ w.cell? ⟨g, n + 5, none⟩ = some u5 ∧ ∀ i, w.frozen? ⟨g, i, none⟩ = false := by
  have key : ∀ j, j < cur.size → w.cell? ⟨g, j, none⟩ = some cur[j]! := fun j hj => by
    rw [cell_of_row w g j cur t (0, 0) hg]
    simp [hj]
  exact ⟨_, _, _, _, _, _, key _ (by omega), key _ (by omega), key _ (by omega), key _ (by omega), key _ (by omega), key _ (by omega), fun i => soft_blk hg i⟩
set_option maxRecDepth 100000 in
set_option maxHeartbeats 1000000 in
/-- Flight. -/
theorem flight (base C : Nat) (q : Option Addr) (len cap : Nat) (R : List Ent) (w : World) (h : IsNet 67 base w C q len cap R) (hb : len ≤ Big) :
    Calls Try.prog 10 #[.pointer (some ⟨C, 0, none⟩)] w fun x w' => ∃ p c R', x = .returned (.slice p len c) ∧ R'.map Ent.p = R.map Ent.p ∧ IsL w.heap.size w' p len c R' ∧ Apart R' ∧ Kept (fun _ => False) w w' := by
  have H : Hid (IsNet 67 base w C q len cap R) := h
  have BB : Hid (len ≤ Big) := hb
  have c0 := h.cell
  have hl := h.list.length
  have hm := big_max hb
  obtain ⟨hr1, hr2⟩ := own_room h.list.own
  unfold maxLen at hm hr2
  clear h hb
  obtain ⟨i39, hi, hz, hsize, hby⟩ := info_parts Try.info39
  go_enter Try.func10, Try.ntmps10
  go_wp2_with (first | (at_make; refine wpList_make_full _ rfl (.tmp 12) (.tmp 12) 27 rfl w.heap.size 39 i39 _ 6 Try.underlying27 hi hz hsize .i64 .i64 len len len rfl rfl rfl rfl (by rw [hby]; exact big_bytes BB.out) (big_max BB.out) (Nat.le_refl _) ?_; intro w1 ho hg; have K1 : Hid (Kept (fun _ => False) w w1) := (Kept.refl (fun _ => False) w).grown hg (fun _ _ q => by cases q); have F0 : Hid (Filled w w1 w.heap.size len []) := Filled.start len _ ho K1.out; have c1 := (H.out.kept0 K1.out).cell; clear ho hg) | fail)
  go_loopw [19] (fun x wr => ∃ (i : Nat) (R' : List Ent), x = .int .i64 (i : Int) ∧ i ≤ len ∧ Hid (Filled w wr w.heap.size len R' ∧ R'.length = i ∧ R'.map Ent.p = (R.map Ent.p).take i)) (fun x _ => len - (intOf x).toNat)
  case atStart => exact ⟨0, [], rfl, Nat.zero_le _, F0.out, rfl, by simp⟩
  case round =>
    obtain ⟨i, R', rfl, hi2, S⟩ := hrel
    by_cases hlt : i < len
    · obtain ⟨g, rfl, hlR, d0, d1, d2, d3, d4, d5⟩ := (H.out.list.kept0 S.out.1.kept).cells i hlt
      obtain ⟨e, he⟩ : ∃ e, R[i] = e := ⟨_, rfl⟩
      rw [he] at d0 d1 d2 d3 d4 d5
      have GE : Hid (Good base wr e ∧ R[i] = e) := ⟨((H.out.list.kept0 S.out.1.kept).good e (by rw [← he]; exact List.getElem_mem _)), he⟩
      have i1 : (i : Int) < (len : Int) := by omega
      clear he
      go_wp2_with fail
      refine (second _ _ _ _ _ _ _ _ e.p.data _ ((GE.out.1.reads).kept' (alloc_kept0 wr _) (fun _ _ q => q)) (Nat.le_trans GE.out.1.short (by omega))).mono ?_
      rintro x w2 ⟨p2, c2, rfl, ho2, K2⟩
      have KK : Hid (Kept (fun _ => False) wr w2) := (alloc_kept0 wr _).trans K2 (fun _ _ q => q)
      have G2 : Hid (Good wr.heap.size w2 ⟨e.p, p2, e.len, c2⟩) := ⟨owns_mono ho2 (by simp), GE.out.1.bytes, GE.out.1.short⟩
      obtain ⟨cur, hcur, hsz, _⟩ := (S.out.1.quiet KK.out).blk
      obtain ⟨u0, u1, u2, u3, u4, u5, f0, f1, f2, f3, f4, f5, ff⟩ := six hcur (i * 6) (by omega)
      clear hcur hsz ho2 K2
      go_wp2_with fail
      go_roundw
      case rel => exact ⟨i + 1, R' ++ [⟨e.p, p2, e.len, c2⟩], by go_num, by omega, S.out.1.put (by rw [S.out.2.1]; exact hlt) KK.out G2.out (by rw [S.out.2.1]), by rw [List.length_append, S.out.2.1]; rfl, map_getElem S.out.2.2 hlR _ (by rw [GE.out.2])⟩
      case measure => simp [intOf]; omega
    · have he : len = i := by omega
      subst he
      have i1 : ¬ (len : Int) < (len : Int) := by omega
      go_wp2_with fail
      go_ret
      exact ⟨_, _, rfl, R', by rw [S.out.2.2, List.take_of_length_le (by simp [hl])], S.out.1.list S.out.2.1 (big_max BB.out), S.out.1.apart, S.out.1.kept⟩
theorem flight_nil (w : World) : Calls Try.prog 10 #[.pointer none] w fun x w' => x = .returned (.slice none 0 0) ∧ w' = w := by
  go_enter Try.func10, Try.ntmps10
  go_wp2_with fail
  go_ret
  exact ⟨rfl, rfl⟩
set_option maxRecDepth 100000 in
/-- Copy. -/
theorem nCopy (base C : Nat) (q : Option Addr) (len cap : Nat) (R : List Ent) (w : World) (h : IsNet 67 base w C q len cap R) (hb : len ≤ Big) :
    Calls Try.prog 11 #[.pointer (some ⟨C, 0, none⟩)] w fun x w' => ∃ C' p c R', x = .returned (.pointer (some ⟨C', 0, none⟩)) ∧ R'.map Ent.p = R.map Ent.p ∧ IsNet 67 w.heap.size w' C' p len c R' ∧ Apart R' ∧ Kept (fun _ => False) w w' := by
  have H : Hid (IsNet 67 base w C q len cap R) := h
  have BB : Hid (len ≤ Big) := hb
  clear h hb
  go_enter Try.func11, Try.ntmps11
  go_wp2_with fail
  refine (flight base C q len cap R w H.out BB.out).mono ?_
  rintro x w1 ⟨p, c, R', rfl, hm, hL, hA, hK⟩
  have HH : Hid (R'.map Ent.p = R.map Ent.p ∧ IsL w.heap.size w1 p len c R' ∧ Apart R' ∧ Kept (fun _ => False) w w1) := ⟨hm, hL, hA, hK⟩
  clear hm hL hA hK
  go_wp2_with fail
  go_ret
  exact ⟨w1.heap.size, p, c, R', rfl, HH.out.1, ⟨alloc_new _ _, HH.out.2.1.kept0 (alloc_kept0 _ _), HH.out.2.2.2.size, by decide, by decide⟩, HH.out.2.2.1, HH.out.2.2.2.trans (alloc_kept0 _ _) (fun _ _ q => q)⟩
theorem nCopy_nil (w : World) : Calls Try.prog 11 #[.pointer none] w fun x w' => x = .returned (.pointer none) ∧ w' = w := by
  go_enter Try.func11, Try.ntmps11
  go_wp2_with fail
  go_ret
  exact ⟨rfl, rfl⟩
end Go.Proofs.Ytojfnehdanhgiaa
