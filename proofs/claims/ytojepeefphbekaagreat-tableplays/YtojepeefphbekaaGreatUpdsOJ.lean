import Derived.Test.YtojepeefphbekaaGreatEntsO
import Derived.Test.YtojepeefphbekaaGreatUpdsJ
namespace Go.Proofs.YtojepeefphbekaaGreat
open Go.RowKit 

/-- What All answers, as it lies in memory. -/
structure AllX (b0 : Nat) (w : World) (p : Option Addr) (n c : Nat) (hs : List (Hl × List Et6)) : Prop where
  len : hs.length = n
  row : w.ownsRow b0 35 2 (.slice p n c) n (hcells (hs.map fun h => h.1))
  ents : ∀ h ∈ hs, h.2.length = h.1.2.2.1 ∧ w.ownsRow b0 40 5 (.slice h.1.2.1 h.1.2.2.1 h.1.2.2.2) h.1.2.2.1 (ecells h.2)
  apart : hs.Pairwise fun h h' => ∀ k, blockOf h.1.2.1 = some k → blockOf h'.1.2.1 ≠ some k
  data : EOwn b0 w (hs.flatMap fun h => h.2)
theorem own_typ {w : World} {b0 ty st : Nat} {p : Option Addr} {n c : Nat} {xs : List Value} (h : w.ownsRow b0 ty st (.slice p n c) n xs) {k : Nat} (hk : blockOf p = some k) : ∃ cs, w.heap[k]? = some (.cells cs ty (0, 0)) := own_type h k hk
theorem AllX.nil (b0 : Nat) (w : World) : AllX b0 w none 0 0 [] := ⟨rfl, ⟨rfl, .inl ⟨rfl, rfl⟩⟩, fun h hh => (by cases hh), List.Pairwise.nil, EOwn.nil _ _⟩
theorem AllX.snoc {b0 : Nat} {w wi w9 : World} {p p9 pe : Option Addr} {n c c9 m ce : Nat} {hs : List (Hl × List Et6)} {key : ByteArray} {L : List Et6} {o : Obj} (x : AllX b0 w p n c hs) (K : Kept (fun _ => False) w wi) (ow : wi.ownsRow w.heap.size 40 5 (.slice pe m ce) m (ecells L)) (hl : L.length = m) (eo : EOwn w.heap.size wi L) (hb : b0 ≤ w.heap.size)
    (ho : w9.ownsRow b0 35 2 (.slice p9 (n + 1) c9) (n + 1) (hcells (hs.map fun h => h.1) ++ encH (key, pe, m, ce))) (hg : (wi.alloc o).grownBy w9 (Value.slice p n c).ownBlock) : AllX b0 w9 p9 (n + 1) c9 (hs ++ [((key, pe, m, ce), L)]) := by
  have KG : Kept (fun k => blockOf p = some k) wi w9 := ((Kept.refl (fun k => blockOf p = some k) wi).alloc _).grown hg (fun k _ z => by rw [blockOf_own] at z; exact z)
  have row := K.owns x.row (fun _ _ z => z)
  have ng : ∀ k cs ty, ty ≠ 35 → wi.heap[k]? = some (.cells cs ty (0, 0)) → ¬ blockOf p = some k := fun k cs ty ht hc z => by
    obtain ⟨c2, h2⟩ := own_typ row z
    rw [h2] at hc
    simp at hc
    exact ht hc.2.symm
  refine ⟨by rw [List.length_append, x.len]; rfl, ?_, fun h hh => ?_, List.pairwise_append.2 ⟨x.apart, List.pairwise_singleton _ _, fun h hh h' hh' k hk z => ?_⟩, ?_⟩
  · rw [List.map_append, hcells_append]
    have e : hcells (List.map (fun h : Hl × List Et6 => h.1) [((key, pe, m, ce), L)]) = encH (key, pe, m, ce) := by simp [hcells]
    rw [e]
    exact ho
  · rcases List.mem_append.1 hh with z | z
    · obtain ⟨h1, h2⟩ := x.ents h z
      have h3 := K.owns h2 (fun _ _ z => z)
      refine ⟨h1, KG.owns h3 (fun k hk => ?_)⟩
      obtain ⟨c2, hc⟩ := own_typ h3 (by rw [← blockOf_own]; exact hk)
      exact ng k c2 40 (by decide) hc
    · rw [List.mem_singleton] at z
      subst z
      refine ⟨hl, KG.owns (owns_mono ow hb) (fun k hk => ?_)⟩
      obtain ⟨c2, hc⟩ := own_typ ow (by rw [← blockOf_own]; exact hk)
      exact ng k c2 40 (by decide) hc
  · rw [List.mem_singleton] at hh'
    subst hh'
    have h1 := (own_lt (x.ents h hh).2 k hk).2
    have h2 := (own_lt ow k z).1
    omega
  · rw [List.flatMap_append]
    have e : List.flatMap (fun h : Hl × List Et6 => h.2) [((key, pe, m, ce), L)] = L := by simp
    rw [e]
    refine (EOwn.app (x.data.off K (fun _ _ _ z => z)) eo hb (fun f hf k hk => (x.data.lt hf hk).2)).off KG (fun k cs hc => ng k cs 5 (by decide) hc)
/-- What a list of what is held tells. -/
def tellX (dat : ByteArray → Int × Int → List Nat) (hs : List (Hl × List Et6)) : List Av := hs.map fun h => (h.1.1, h.2.map (evOf (dat h.1.1)))
structure AS2 (w wr : World) (p : Option Addr) (i c : Nat) (t : TK) (dat : ByteArray → Int × Int → List Nat) (ks : List ByteArray) (hs : List (Hl × List Et6)) : Prop where
  x : AllX w.heap.size wr p i c hs
  keys : (tellX dat hs).map (fun v => v.1) = ks.take i
  ents : ∀ v ∈ tellX dat hs, EntsOf (TMp t v.1) (dat v.1) v.2
  kept : Kept (fun _ => False) w wr
set_option maxRecDepth 100000 in
set_option maxHeartbeats 2000000 in
/-- All. -/
theorem tAllO (nn : Nat) (t : TK) (dat : ByteArray → Int × Int → List Nat) (w : World) (h : IsT w nn t) (hd : DatAll w t dat) (hn : nn ≤ 4398046511104) : Calls Tryz.prog 11 #[.pointer (some ⟨t.tb, 0, none⟩)] w fun o w' => ∃ p n c hs, o = .returned (.slice p n c) ∧ Hid (AllX w.heap.size w' p n c hs ∧ AllOf t dat (tellX dat hs) ∧ Kept (fun _ => False) w w') := by
  have H : Hid (IsT w nn t ∧ DatAll w t dat ∧ nn ≤ 4398046511104) := ⟨h, hd, hn⟩
  obtain ⟨tb, htb⟩ : ∃ tb, tb = t.tb := ⟨_, rfl⟩
  have HT : Hid (tb = t.tb) := htb
  rw [← htb]
  clear h hd hn htb
  go_enter Tryz.func11, Tryz.ntmps11
  go_wp2_with fail
  rw [HT.out]
  refine (tKeys nn t w H.out.1 (by have := H.out.2.2; omega)).mono ?_
  rintro o w1 ⟨g, cp, ks, rfl, ke, srt, ow, ln, k1⟩
  have R : Hid (KE t.rv (fun _ => False) ks ∧ SortedS ks ∧ w1.ownsRow w.heap.size 9 1 (.slice (some ⟨g, 0, none⟩) ks.length cp) ks.length (strs ks) ∧ Kept (fun _ => False) w w1 ∧ ks.length ≤ nn) := ⟨ke, srt, ow, k1, ln⟩
  obtain ⟨m, hm⟩ : ∃ m, m = ks.length := ⟨_, rfl⟩
  have HM : Hid (m = ks.length ∧ m ≤ 4398046511104) := ⟨hm, by have := H.out.2.2; omega⟩
  have mb : m ≤ 4398046511104 := HM.out.2
  rw [← hm]
  have A0 : Hid (AS2 w1 w1 none 0 0 t dat ks []) := ⟨AllX.nil _ _, rfl, (fun _ h => by cases h), Kept.refl _ _⟩
  have cr : m ≤ cp := by rw [hm]; exact (own_room ow).1
  clear ke srt ow ln k1 hm
  rw [← HT.out]
  go_wp2_with fail
  (try go_frame)
  go_loopw [3, 9] (fun y z wr => ∃ (i c : Nat) (p : Option Addr) (hs : List (Hl × List Et6)), z = .int .i64 (i : Int) ∧ y = .slice p i c ∧ i ≤ m ∧ Hid (AS2 w1 wr p i c t dat ks hs)) (fun _ z _ => m - (intOf z).toNat)
  case atStart => exact ⟨0, 0, none, [], rfl, rfl, Nat.zero_le _, A0⟩
  case round =>
    obtain ⟨i, c, p, hs, rfl, rfl, hi, A⟩ := hrel
    clear A0
    by_cases hlt : i < m
    · obtain ⟨key, hk⟩ : ∃ key, ks[i]? = some key := ⟨ks[i]'(by rw [← HM.out.1]; exact hlt), List.getElem?_eq_getElem _⟩
      have d0 : wr.cell? ⟨g, i, none⟩ = some (.string key) := by
        have := R.out.2.2.1.cells (g := g) rfl i (.string key) (by unfold strs; rw [List.getElem?_map, hk]; rfl)
        rw [Addr.add_none, Nat.zero_add] at this
        exact A.out.kept.cell this (fun z => z)
      have hlt' : (i : Int) < (m : Int) := by omega
      have KM : Hid (ks[i]? = some key ∧ key.size ≤ maxLen) := by
        refine ⟨hk, ?_⟩
        obtain ⟨D, _, sD⟩ := H.out.1.rows
        have := (R.out.1.each key (List.mem_of_getElem? hk)).2
        cases hv : t.rv key with
        | none => exact absurd hv this
        | some e => exact sD.2 key e hv
      clear hk
      go_wp2_with fail
      rw [HT.out]
      have kw : Kept (fun _ => False) w wr := R.out.2.2.2.1.and0 A.out.kept
      refine (tEntriesO nn t key (dat key) wr (H.out.1.k0 kw) KM.out.2 (fun r hr => (H.out.2.1.k0 kw) key r hr) (by have := H.out.2.2; omega)).mono ?_
      rintro o w2 ⟨pe, ce, L, rfl, ge, srt, ow, k2, eo⟩
      have E2 : Hid (w2.ownsRow wr.heap.size 40 5 (.slice pe L.length ce) L.length (ecells L) ∧ EntsOf (TMp t key) (dat key) (L.map (evOf (dat key))) ∧ Kept (fun _ => False) wr w2) := ⟨ow, entsOf ge srt, k2⟩
      have E3 : Hid (EOwn wr.heap.size w2 L) := eo.2
      obtain ⟨nL, hnL⟩ : ∃ nL, nL = L.length := ⟨_, rfl⟩
      have HN : Hid (L.length = nL) := hnL.symm
      rw [← hnL] at E2 ⊢
      clear ge srt ow k2 eo kw hnL
      rw [← HT.out]
      have AR : Hid (w2.ownsRow w1.heap.size 35 2 (.slice p i c) i (hcells (hs.map fun h => h.1))) := E2.out.2.2.owns A.out.x.row (fun _ _ z => z)
      have BL : Hid (i + 1 ≤ maxLen ∧ ((i + 1) + (i + 1) / 4 + 192) * 40 ≤ 281474976710656) := by
        unfold maxLen
        exact ⟨by omega, by omega⟩
      have K12 : Hid (Kept (fun _ => False) w1 w2) := A.out.kept.and0 E2.out.2.2
      clear d0
      go_wp2_with
        (first
          | (at_builtin; refine wpList_append_all _ rfl (.tmp 13) (.tmp 19) 31 35 31 _ 2 40 rfl Tryz.underlying31 Tryz.info35c rfl w1.heap.size (.slice p i c) i (hcells (hs.map fun h => h.1)) rfl ((k0_alloc w2 _).owns AR.out (fun _ _ z => z)) _ 1 (encH (key, pe, nL, ce)) rfl (src_held (heap_alloc_new w2 _)) BL.out.1 BL.out.2 (Nat.le_trans K12.out.size (k0_alloc w2 _).size) ?_; intro p9 c9 w9 ho hg hn)
          | fail)
      have A9 : Hid (AS2 w1 w9 p9 (i + 1) c9 t dat ks (hs ++ [((key, pe, nL, ce), L)])) := by
        refine ⟨A.out.x.snoc E2.out.2.2 E2.out.1 HN.out E3.out A.out.kept.size ho.out hg.out, ?_, fun v hv => ?_, ?_⟩
        · unfold tellX
          rw [List.map_append, List.map_append, List.take_add_one, KM.out.1]
          have := A.out.keys
          unfold tellX at this
          rw [this]
          rfl
        · unfold tellX at hv
          rw [List.map_append] at hv
          rcases List.mem_append.1 hv with z | z
          · exact A.out.ents v z
          · rw [List.map_singleton, List.mem_singleton] at z
            subst z
            exact E2.out.2.1
        · have KG : Kept (fun k => blockOf p = some k) w2 w9 := ((Kept.refl (fun k => blockOf p = some k) w2).alloc _).grown hg.out (fun k _ z => by rw [blockOf_own] at z; exact z)
          refine K12.out.trans KG (fun j hj z => ?_)
          have := (own_lt AR.out j z).1
          omega
      clear ho hg hn A AR
      go_roundw
      case rel => exact ⟨i + 1, c9, p9, _, by go_num, rfl, by omega, A9⟩
      case measure => simp [intOf]; omega
    · have G : Hid (AllX w.heap.size wr p i c hs ∧ AllOf t dat (tellX dat hs) ∧ Kept (fun _ => False) w wr) := by
        have ek : (tellX dat hs).map (fun v => v.1) = ks := by
          rw [A.out.keys]
          exact List.take_of_length_le (by rw [← HM.out.1]; omega)
        have hb := R.out.2.2.2.1.size
        refine ⟨⟨A.out.x.len, owns_mono A.out.x.row hb, fun h hh => ⟨(A.out.x.ents h hh).1, owns_mono (A.out.x.ents h hh).2 hb⟩, A.out.x.apart, A.out.x.data.mono hb⟩, ⟨by rw [ek]; exact R.out.1, by rw [ek]; exact R.out.2.1, A.out.ents⟩, R.out.2.2.2.1.and0 A.out.kept⟩
      clear A
      go_wp2_with fail
      go_ret
      exact ⟨p, i, c, hs, rfl, G⟩
theorem tellX_flat (dat : ByteArray → Int × Int → List Nat) (hs : List (Hl × List Et6)) : (flat (tellX dat hs)).length = (hs.flatMap fun h => h.2).length := by
  unfold flat tellX
  rw [List.flatMap_map]
  induction hs with
  | nil => rfl
  | cons h hs ih => simp only [List.flatMap_cons, List.length_append, List.length_map, ih]
theorem dAllO {w wr : World} {d : Int} {t : TK} {ms : List Mv} {tb : Nat} (h : Dst w wr d t ms) (et : t.tb = tb) (hl : ms.length ≤ 4398046511104) : Calls Tryz.prog 11 #[.pointer (some ⟨tb, 0, none⟩)] wr fun o w' => ∃ p n c hs, o = .returned (.slice p n c) ∧ Hid (AllX wr.heap.size w' p n c hs ∧ (hs.flatMap fun h => h.2).length ≤ 180 ∧ n ≤ 3 ∧ Kept (fun _ => False) wr w') := by
  rw [← et]
  refine (tAllO ms.length t (datOf t) wr h.tab h.datAll hl).mono ?_
  rintro o w' ⟨p, n, c, hs, rfl, Q⟩
  obtain ⟨x, a, K⟩ := Q.out
  refine ⟨p, n, c, hs, rfl, x, ?_, ?_, K⟩
  · rw [← tellX_flat (datOf t)]
    exact flat_few h a
  · have := keys_few h a
    unfold tellX at this
    rw [List.length_map, x.len] at this
    exact this
end Go.Proofs.YtojepeefphbekaaGreat

namespace Go.Proofs.YtojepeefphbekaaGreat
open Go.RowKit 

theorem AllX.at {b0 : Nat} {w : World} {p : Option Addr} {n c : Nat} {hs : List (Hl × List Et6)} (x : AllX b0 w p n c hs) {i : Nat} (hi : i < n) : ∃ b key a m q L, p = some ⟨b, 0, none⟩ ∧ hs[i]? = some ((key, a, m, q), L) ∧ w.cell? ⟨b, i * 2, none⟩ = some (.string key) ∧ w.cell? ⟨b, i * 2 + 1, none⟩ = some (.slice a m q) := by
  rcases x.row.2 with ⟨_, hn⟩ | ⟨b, cap, cur, z, _⟩
  · omega
  · have z : Value.slice p n c = .slice (some ⟨b, 0, none⟩) n cap := z
    injection z with z1 _ z3
    subst z1
    subst z3
    have hc := x.row.cells (g := b) rfl
    have h2 : i < hs.length := by rw [x.len]; exact hi
    have h1 : i < (hs.map fun h => h.1).length := by rw [List.length_map]; exact h2
    obtain ⟨⟨⟨key, a, m, q⟩, L⟩, hL⟩ : ∃ e, hs[i] = e := ⟨_, rfl⟩
    have cell : ∀ j v, j < 2 → (encH (key, a, m, q))[j]? = some v → w.cell? ⟨b, i * 2 + j, none⟩ = some v := fun j v hj hv => by
      have := hc (i * 2 + j) v (by rw [hcells_get _ i h1 j hj, List.getElem_map, hL]; exact hv)
      rw [Addr.add_none, Nat.zero_add] at this
      exact this
    exact ⟨b, key, a, m, q, L, rfl, by rw [List.getElem?_eq_getElem h2, hL], cell 0 _ (by omega) rfl, cell 1 _ (by omega) rfl⟩
theorem own_ent {b0 : Nat} {w : World} {p : Option Addr} {n c : Nat} {L : List Et6} (ow : w.ownsRow b0 40 5 (.slice p n c) n (ecells L)) (hl : L.length = n) {i : Nat} (hi : i < n) : ∃ b x y f g a m q, p = some ⟨b, 0, none⟩ ∧ L[i]? = some ((x, y), f, g, a, m, q) ∧ w.cell? ⟨b, i * 5, none⟩ = some (.int .i64 x) ∧ w.cell? ⟨b, i * 5 + 1, none⟩ = some (.int .i64 y) ∧ w.cell? ⟨b, i * 5 + 2, none⟩ = some (.bool f) ∧ w.cell? ⟨b, i * 5 + 3, none⟩ = some (.bool g) ∧ w.cell? ⟨b, i * 5 + 4, none⟩ = some (.slice a m q) := by
  rcases ow.2 with ⟨_, hn⟩ | ⟨b, cap, cur, z, _⟩
  · omega
  · have z : Value.slice p n c = .slice (some ⟨b, 0, none⟩) n cap := z
    injection z with z1 _ z3
    subst z1
    subst z3
    have hc := ow.cells (g := b) rfl
    have h1 : i < L.length := by omega
    obtain ⟨⟨⟨x, y⟩, f, g, a, m, q⟩, hL⟩ : ∃ e, L[i] = e := ⟨_, rfl⟩
    have cell : ∀ j v, j < 5 → (encE ((x, y), f, g, a, m, q))[j]? = some v → w.cell? ⟨b, i * 5 + j, none⟩ = some v := fun j v hj hv => by
      have := hc (i * 5 + j) v (by rw [ecells_get _ i h1 j hj, hL]; exact hv)
      rw [Addr.add_none, Nat.zero_add] at this
      exact this
    exact ⟨b, x, y, f, g, a, m, q, rfl, by rw [List.getElem?_eq_getElem h1, hL], cell 0 _ (by omega) rfl, cell 1 _ (by omega) rfl, cell 2 _ (by omega) rfl, cell 3 _ (by omega) rfl, cell 4 _ (by omega) rfl⟩
/-- A list of updates on the way. -/
structure UX (w1 wr : World) (p : Option Addr) (n c : Nat) (L : List Ut) (es : List Et6) : Prop where
  len : L.length = n
  row : wr.ownsRow w1.heap.size 44 7 (.slice p n c) n (ucells L)
  dat : L.map (fun u => u.2) = es
  kept : Kept (fun _ => False) w1 wr
theorem UX.more {w1 wr wi w9 : World} {p p9 : Option Addr} {n c c9 : Nat} {L : List Ut} {es : List Et6} {u : Ut} {o : Obj} (h : UX w1 wr p n c L es) (K : Kept (fun _ => False) wr wi) (ho : w9.ownsRow w1.heap.size 44 7 (.slice p9 (n + 1) c9) (n + 1) (ucells L ++ encU u)) (hg : (wi.alloc o).grownBy w9 (Value.slice p n c).ownBlock) : UX w1 w9 p9 (n + 1) c9 (L ++ [u]) (es ++ [u.2]) ∧ Kept (fun k => blockOf p = some k) wi w9 := by
  have KG : Kept (fun k => blockOf p = some k) wi w9 := ((Kept.refl (fun k => blockOf p = some k) wi).alloc _).grown hg (fun k _ z => by rw [blockOf_own] at z; exact z)
  refine ⟨⟨by rw [List.length_append, h.len]; rfl, ?_, by rw [List.map_append, h.dat]; rfl, (h.kept.and0 K).trans KG (fun j hj z => ?_)⟩, KG⟩
  · rw [ucells_append]
    have e0 : ucells [u] = encU u := by simp [ucells]
    rw [e0]
    exact ho
  · have := (own_lt h.row j z).1
    omega
set_option maxRecDepth 100000 in
set_option maxHeartbeats 4000000 in
/-- Updates, as they lie in memory. -/
theorem dUpdatesO {w wr0 : World} {d : Int} {t : TK} {ms : List Mv} {tb : Nat} (h : Dst w wr0 d t ms) (et : t.tb = tb) (hl : ms.length ≤ 4398046511104) : Calls Tryz.prog 12 #[.pointer (some ⟨tb, 0, none⟩)] wr0 fun o w' => ∃ p n c, o = .returned (.slice p n c) ∧ ∃ L : List Ut, Hid (L.length = n ∧ n ≤ 180 ∧ w'.ownsRow wr0.heap.size 44 7 (.slice p n c) n (ucells L) ∧ EOwn wr0.heap.size w' (L.map fun u => u.2) ∧ Kept (fun _ => False) wr0 w') := by
  have H : Hid (Dst w wr0 d t ms ∧ t.tb = tb ∧ ms.length ≤ 4398046511104) := ⟨h, et, hl⟩
  clear h et hl
  go_enter Tryz.func12, Tryz.ntmps12
  go_wp2_with fail
  refine (dAllO H.out.1 H.out.2.1 H.out.2.2).mono ?_
  rintro o w1 ⟨p1, n1, c1, hs, rfl, A1⟩
  have sm : n1 ≤ 3 := A1.out.2.2.1
  have room := own_room A1.out.1.row
  unfold maxLen at room
  obtain ⟨room1, room2⟩ := room
  have U0 : Hid (∃ L, UX w1 w1 none 0 0 L ((hs.take 0).flatMap fun h => h.2)) := ⟨[], rfl, ⟨rfl, .inl ⟨rfl, rfl⟩⟩, rfl, Kept.refl _ _⟩
  go_wp2_with fail
  go_loopw [3, 5, 7, 11] (fun u3 _ _ u11 wr => ∃ (i n c : Nat) (p : Option Addr), u3 = .slice p n c ∧ u11 = .int .i64 (i : Int) ∧ i ≤ n1 ∧ Hid (∃ L, UX w1 wr p n c L ((hs.take i).flatMap fun h => h.2))) (fun _ _ _ u11 _ => n1 - (intOf u11).toNat)
  case atStart => exact ⟨0, 0, 0, none, rfl, rfl, Nat.zero_le _, U0⟩
  case round =>
    obtain ⟨i, n, c, p, rfl, rfl, hi, S⟩ := hrel
    obtain ⟨wo, hwo⟩ : ∃ wo, wo = wr := ⟨_, rfl⟩
    rw [← hwo] at S ⊢
    clear hwo U0
    by_cases hlt : i < n1
    · have i1 : (i : Int) < (n1 : Int) := by omega
      obtain ⟨L0, ux0⟩ := S.out
      obtain ⟨b1, k1, a1, m1, q1, es, rfl, hv, d0', d1'⟩ := A1.out.1.at hlt
      have d0 := ux0.kept.cell d0' (fun z => z)
      have d1 := ux0.kept.cell d1' (fun z => z)
      obtain ⟨le1, ow1⟩ := A1.out.1.ents _ (List.mem_of_getElem? hv)
      have le1 : es.length = m1 := le1
      have ow1 : w1.ownsRow wr0.heap.size 40 5 (.slice a1 m1 q1) m1 (ecells es) := ow1
      have HV : Hid (hs[i]? = some ((k1, a1, m1, q1), es) ∧ es.length = m1 ∧ w1.ownsRow wr0.heap.size 40 5 (.slice a1 m1 q1) m1 (ecells es) ∧ ((hs.take i).flatMap fun h => h.2).length + m1 ≤ 180) := by
        refine ⟨hv, le1, ow1, ?_⟩
        have hil : i < hs.length := (List.getElem?_eq_some_iff.1 hv).1
        have e5 : hs[i] = ((k1, a1, m1, q1), es) := (List.getElem?_eq_some_iff.1 hv).2
        have hd : (hs.flatMap fun h => h.2) = ((hs.take i).flatMap fun h => h.2) ++ (es ++ ((hs.drop (i + 1)).flatMap fun h => h.2)) := by
          conv => lhs; rw [← List.take_append_drop i hs, List.drop_eq_getElem_cons hil, e5]
          simp
        have := A1.out.2.1
        rw [hd, List.length_append, List.length_append, le1] at this
        omega
      have es60 : m1 ≤ 180 := by have := HV.out.2.2.2; omega
      have mq1 := (own_room ow1).1
      have mq2 := (own_room ow1).2
      unfold maxLen at mq2
      clear hv le1 ow1 d0' d1'
      go_upto_region 5 with fail
      obtain ⟨W, hW⟩ : ∃ W, W = wo.alloc (.cells #[.string k1, .slice a1 m1 q1] 35) := ⟨_, rfl⟩
      obtain ⟨HB, hHB⟩ : ∃ B, B = wo.heap.size := ⟨_, rfl⟩
      have B0 : Hid (W.heap[HB]? = some (.cells #[.string k1, .slice a1 m1 q1] 35 (0, 0)) ∧ Kept (fun _ => False) wo W) := by
        rw [hW, hHB]
        exact ⟨heap_alloc_new _ _, k0_alloc _ _⟩
      rw [← hW, ← hHB]
      clear hW hHB d0 d1
      have g0 := cell_blk B0.out.1 0 (v := .string k1) rfl
      have g1 := cell_blk B0.out.1 1 (v := .slice a1 m1 q1) rfl
      have V0 : Hid ((∃ L, UX w1 W p n c L (((hs.take i).flatMap fun h => h.2) ++ es.take 0)) ∧ W.heap[HB]? = some (.cells #[.string k1, .slice a1 m1 q1] 35 (0, 0))) := by
        refine ⟨⟨L0, ux0.len, B0.out.2.owns ux0.row (fun _ _ z => z), ?_, ux0.kept.and0 B0.out.2⟩, B0.out.1⟩
        rw [List.take_zero, List.append_nil]
        exact ux0.dat
      clear ux0 S
      go_wp2_with fail
      go_loopw [3, 7, 18] (fun u3 _ u18 wr => ∃ (j n c : Nat) (p : Option Addr), u3 = .slice p n c ∧ u18 = .int .i64 (j : Int) ∧ j ≤ m1 ∧ Hid ((∃ L, UX w1 wr p n c L (((hs.take i).flatMap fun h => h.2) ++ es.take j)) ∧ wr.heap[HB]? = some (.cells #[.string k1, .slice a1 m1 q1] 35 (0, 0)))) (fun _ _ u18 _ => m1 - (intOf u18).toNat)
      case atStart => exact ⟨0, n, c, p, rfl, rfl, Nat.zero_le _, V0⟩
      case round =>
        obtain ⟨j, n2, c2, p2, rfl, rfl, hj, T⟩ := hrel
        clear V0
        by_cases hjl : j < m1
        · have j1 : (j : Int) < (m1 : Int) := by omega
          obtain ⟨L, ux⟩ := T.out.1
          obtain ⟨b2, x, y, f, g, ea, en, ec, rfl, hv2, e0, e1, e2, e3, e4⟩ := own_ent (ux.kept.owns HV.out.2.2.1 (fun _ _ z => z)) HV.out.2.1 hjl
          have q0 := cell_blk T.out.2 0 (v := .string k1) rfl
          have N180 : n2 ≤ 180 := by
            have l1 := congrArg List.length ux.dat
            rw [List.length_map, List.length_append, List.length_take, ux.len] at l1
            have := HV.out.2.2.2
            omega
          have AR : Hid (UX w1 wr p2 n2 c2 L (((hs.take i).flatMap fun h => h.2) ++ es.take j) ∧ es[j]? = some ((x, y), f, g, ea, en, ec)) := ⟨ux, hv2⟩
          have BL : Hid (n2 + 1 ≤ maxLen ∧ ((n2 + 1) + (n2 + 1) / 4 + 192) * 72 ≤ 281474976710656) := by
            unfold maxLen
            exact ⟨by omega, by omega⟩
          clear ux hv2
          go_upto_region 8 with fail
          obtain ⟨W2, hW2⟩ : ∃ W2, W2 = wr.alloc (.cells #[.int .i64 x, .int .i64 y, .bool f, .bool g, .slice ea en ec] 40) := ⟨_, rfl⟩
          obtain ⟨EB, hEB⟩ : ∃ B, B = wr.heap.size := ⟨_, rfl⟩
          have H2 : Hid (W2.heap[EB]? = some (.cells #[.int .i64 x, .int .i64 y, .bool f, .bool g, .slice ea en ec] 40 (0, 0)) ∧ Kept (fun _ => False) wr W2) := by
            rw [hW2, hEB]
            exact ⟨heap_alloc_new _ _, k0_alloc _ _⟩
          rw [← hW2, ← hEB]
          clear hW2 hEB e0 e1 e2 e3 e4 q0
          have e0 := cell_blk H2.out.1 0 (v := .int .i64 x) rfl
          have e1 := cell_blk H2.out.1 1 (v := .int .i64 y) rfl
          have e2 := cell_blk H2.out.1 2 (v := .bool f) rfl
          have e3 := cell_blk H2.out.1 3 (v := .bool g) rfl
          have e4 := cell_blk H2.out.1 4 (v := .slice ea en ec) rfl
          have q0 := cell_blk (H2.out.2.get T.out.2 (fun z => z)) 0 (v := .string k1) rfl
          go_wp2_with
            (first
              | (at_builtin; refine wpList_append_all _ rfl (.tmp 22) (.tmp 27) 41 44 41 _ 7 72 rfl Tryz.underlying41 Tryz.info44c rfl w1.heap.size (.slice p2 n2 c2) n2 (ucells L) rfl ((k0_alloc W2 _).owns (H2.out.2.owns AR.out.1.row (fun _ _ z => z)) (fun _ _ z => z)) _ 1 (encU (k1, (x, y), f, g, ea, en, ec)) rfl (src_upd (heap_alloc_new W2 _)) BL.out.1 BL.out.2 (Nat.le_trans (AR.out.1.kept.and0 H2.out.2).size (k0_alloc W2 _).size) ?_; intro p9 c9 w9 ho hg hn)
              | fail)
          have T9 : Hid ((∃ L, UX w1 w9 p9 (n2 + 1) c9 L (((hs.take i).flatMap fun h => h.2) ++ es.take (j + 1))) ∧ w9.heap[HB]? = some (.cells #[.string k1, .slice (some ⟨b2, 0, none⟩) m1 q1] 35 (0, 0))) := by
            obtain ⟨u1, KG⟩ := AR.out.1.more H2.out.2 (u := (k1, (x, y), f, g, ea, en, ec)) ho.out hg.out
            refine ⟨⟨_, by rw [List.take_add_one, AR.out.2, ← List.append_assoc]; exact u1⟩, ?_⟩
            have hb := H2.out.2.get T.out.2 (fun z => z)
            refine KG.get hb (fun z => ?_)
            obtain ⟨c3, h3⟩ := own_typ (H2.out.2.owns AR.out.1.row (fun _ _ z => z)) z
            rw [h3] at hb
            simp at hb
          clear ho hg hn
          go_roundw
          case rel => exact ⟨j + 1, n2 + 1, c9, p9, rfl, by go_num, by omega, T9⟩
          case measure => simp [intOf] <;> omega
        · have j1 : ¬ (j : Int) < (m1 : Int) := by omega
          have G : Hid (∃ L, UX w1 wr p2 n2 c2 L ((hs.take (i + 1)).flatMap fun h => h.2)) := by
            obtain ⟨L, ux⟩ := T.out.1
            rw [List.take_of_length_le (l := es) (i := j) (by rw [HV.out.2.1]; omega)] at ux
            refine ⟨L, ?_⟩
            rw [List.take_add_one, HV.out.1, List.flatMap_append]
            have e : List.flatMap (fun h : Hl × List Et6 => h.2) (some ((k1, a1, m1, q1), es)).toList = es := by simp
            rw [e]
            exact ux
          clear T
          go_wp2_with fail
          go_roundw
          case rel => exact ⟨i + 1, n2, c2, p2, rfl, by go_num, by omega, G⟩
          case measure => simp [intOf] <;> omega
    · have i1 : ¬ (i : Int) < (n1 : Int) := by omega
      obtain ⟨L, ux⟩ := S.out
      have G : Hid (L.length = n ∧ n ≤ 180 ∧ wo.ownsRow wr0.heap.size 44 7 (.slice p n c) n (ucells L) ∧ EOwn wr0.heap.size wo (L.map fun u => u.2) ∧ Kept (fun _ => False) wr0 wo) := by
        have ev : hs.take i = hs := List.take_of_length_le (by rw [A1.out.1.len]; omega)
        rw [ev] at ux
        refine ⟨ux.len, ?_, owns_mono ux.row A1.out.2.2.2.size, ?_, A1.out.2.2.2.and0 ux.kept⟩
        · have l1 := congrArg List.length ux.dat
          rw [List.length_map, ux.len] at l1
          rw [l1]
          exact A1.out.2.1
        · rw [ux.dat]
          exact A1.out.1.data.off ux.kept (fun _ _ _ z => z)
      clear S ux
      go_wp2_with fail
      go_ret
      exact ⟨p, n, c, rfl, L, G⟩
end Go.Proofs.YtojepeefphbekaaGreat
