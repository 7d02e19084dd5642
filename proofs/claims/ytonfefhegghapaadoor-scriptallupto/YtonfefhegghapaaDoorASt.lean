import Derived.Test.YtonfefhegghapaaDoorAWdJ
import Derived.Test.YtonfefhegghapaaDoorUTqJ
namespace Go.Proofs.YtonfefhegghapaaDoor
open Go.RowKit 

theorem BRd.cut {w : World} {p : Option Addr} {n m c : Nat} {l x : List UInt8} (h : BRd w p (n + m) c (l ++ x)) (hl : l.length = n) : BRd w p n c l := by
  have h1 := h.room
  refine ⟨hl, by omega, h.small, fun h0 => ?_⟩
  obtain ⟨b, off, e, hc⟩ := h.cells (by omega)
  refine ⟨b, off, e, fun i y hy => hc i y ?_⟩
  rw [List.getElem?_append_left (List.getElem?_eq_some_iff.1 hy).1]
  exact hy
theorem IRd.cut {w : World} {p : Option Addr} {n m c : Nat} {l x : List Int} (h : IRd w p (n + m) c (l ++ x)) (hl : l.length = n) : IRd w p n c l := by
  have h1 := h.room
  refine ⟨hl, by omega, h.small, fun z hz => h.ki z (List.mem_append_left _ hz), fun h0 => ?_⟩
  obtain ⟨b, off, e, hc⟩ := h.cells (by omega)
  refine ⟨b, off, e, fun i y hy => hc i y ?_⟩
  rw [List.getElem?_append_left (List.getElem?_eq_some_iff.1 hy).1]
  exact hy
theorem ki77 : KI (-77) := ⟨by omega, by omega⟩
theorem CO.bytes {b0 : Nat} {w : World} {y : Sm} {s : St} (h : CO b0 w y s) : BRd w y.va (y.vn + 2) y.vc (s.val ++ [193, 194]) := (owns_bytes h.vr (by rw [List.length_append, h.vl]; rfl)).1
theorem CO.ints {b0 : Nat} {w : World} {y : Sm} {s : St} (h : CO b0 w y s) (ks : KS s) : IRd w y.la (y.ln + 1) y.lc (s.l ++ [-77]) := (owns_ints h.lr (by rw [List.length_append, h.ll]; rfl) (fun z hz => by
  rcases List.mem_append.1 hz with hz | hz
  · exact ks.l z hz
  · rw [List.mem_singleton.1 hz]
    exact ki77)).1
theorem CO.srd {b0 : Nat} {w : World} {y : Sm} {s : St} (h : CO b0 w y s) (ks : KS s) (sm : s.key.length + s.val.length + s.l.length ≤ 134217728) : SRd w y s := ⟨h.kind, h.a, h.b, h.key, ks.a, ks.b, h.bytes.cut h.vl.symm, (h.ints ks).cut h.ll.symm, sm⟩
theorem CO.k0 {b0 : Nat} {w w' : World} {x : Sm} {s : St} (h : CO b0 w x s) (K : Kept (fun _ => False) w w') : CO b0 w' x s := ⟨h.kind, h.a, h.b, h.key, h.vl, K.owns h.vr (fun _ _ z => z), h.ll, K.owns h.lr (fun _ _ z => z)⟩
theorem CO.mono {b0 b1 : Nat} {w : World} {x : Sm} {s : St} (h : CO b0 w x s) (hb : b1 ≤ b0) : CO b1 w x s := ⟨h.kind, h.a, h.b, h.key, h.vl, owns_mono h.vr hb, h.ll, owns_mono h.lr hb⟩
theorem CO.grow {b0 b1 : Nat} {w w9 : World} {x : Sm} {s : St} {p : Option Addr} {k c : Nat} {xs : List Value} (h : CO b0 w x s) (ho : w.ownsRow b1 38 6 (.slice p k c) k xs) (KG : Kept (fun j => blockOf p = some j) w w9) : CO b0 w9 x s := by
  refine ⟨h.kind, h.a, h.b, h.key, h.vl, KG.owns h.vr (fun j z q => ?_), h.ll, KG.owns h.lr (fun j z q => ?_)⟩
  · rw [blockOf_own] at z
    obtain ⟨c1, e1⟩ := own_type h.vr j z
    obtain ⟨c2, e2⟩ := own_type ho j q
    rw [e1] at e2
    simp at e2
  · rw [blockOf_own] at z
    obtain ⟨c1, e1⟩ := own_type h.lr j z
    obtain ⟨c2, e2⟩ := own_type ho j q
    rw [e1] at e2
    simp at e2
/-- Copied steps. -/
structure PQ (w wr : World) (p : Option Addr) (k c : Nat) (L : List Sm) (ss : List St) : Prop where
  len : L.length = k
  slen : ss.length = k
  row : wr.ownsRow w.heap.size 38 6 (.slice p k c) k (scs L)
  co : ∀ (i : Nat) (x : Sm) (s : St), L[i]? = some x → ss[i]? = some s → CO w.heap.size wr x s
  kept : Kept (fun _ => False) w wr
theorem PQ.nil (w : World) : PQ w w none 0 0 [] [] := ⟨rfl, rfl, ⟨rfl, .inl ⟨rfl, rfl⟩⟩, fun i x s hx => (by cases hx), Kept.refl _ _⟩
theorem PQ.k0 {w wr W : World} {p : Option Addr} {k c : Nat} {L : List Sm} {ss : List St} (h : PQ w wr p k c L ss) (K : Kept (fun _ => False) wr W) : PQ w W p k c L ss := ⟨h.len, h.slen, K.owns h.row (fun _ _ z => z), fun i x s hx hs => (h.co i x s hx hs).k0 K, h.kept.trans K (fun _ _ z => z)⟩
theorem PQ.more {w wr w9 : World} {p p9 : Option Addr} {k c c9 : Nat} {L : List Sm} {ss : List St} {x : Sm} {s : St} (h : PQ w wr p k c L ss) (hx : CO w.heap.size wr x s) (ho : w9.ownsRow w.heap.size 38 6 (.slice p9 (k + 1) c9) (k + 1) (scs L ++ scs [x])) (hg : wr.grownBy w9 (Value.slice p k c).ownBlock) : PQ w w9 p9 (k + 1) c9 (L ++ [x]) (ss ++ [s]) := by
  have KG := TX.kg hg
  refine ⟨by rw [List.length_append, h.len]; rfl, by rw [List.length_append, h.slen]; rfl, by rw [scs_append]; exact ho, fun i y t hy ht => ?_, h.kept.trans KG (fun j hj z => by have := (own_lt h.row j z).1; omega)⟩
  by_cases hi : i < k
  · rw [List.getElem?_append_left (by rw [h.len]; exact hi)] at hy
    rw [List.getElem?_append_left (by rw [h.slen]; exact hi)] at ht
    exact (h.co i y t hy ht).grow h.row KG
  · rw [List.getElem?_append_right (by rw [h.len]; omega), h.len] at hy
    rw [List.getElem?_append_right (by rw [h.slen]; omega), h.slen] at ht
    have e : i - k = 0 := by
      have := (List.getElem?_eq_some_iff.1 hy).1
      simp at this
      omega
    rw [e] at hy ht
    simp at hy ht
    subst hy
    subst ht
    exact hx.grow h.row KG
/-- The mark behind the steps. -/
def mkS : Sm := ⟨-77, 0, 0, ⟨#[]⟩, none, 0, 0, none, 0, 0⟩
/-- Copied steps with the mark behind them. -/
structure PC (w wr : World) (p : Option Addr) (k c : Nat) (L : List Sm) (ss : List St) : Prop where
  len : L.length = k
  slen : ss.length = k
  row : wr.ownsRow w.heap.size 38 6 (.slice p (k + 1) c) (k + 1) (scs (L ++ [mkS]))
  co : ∀ (i : Nat) (x : Sm) (s : St), L[i]? = some x → ss[i]? = some s → CO w.heap.size wr x s
  kept : Kept (fun _ => False) w wr
theorem PC.k0 {w wr W : World} {p : Option Addr} {k c : Nat} {L : List Sm} {ss : List St} (h : PC w wr p k c L ss) (K : Kept (fun _ => False) wr W) : PC w W p k c L ss := ⟨h.len, h.slen, K.owns h.row (fun _ _ z => z), fun i x s hx hs => (h.co i x s hx hs).k0 K, h.kept.trans K (fun _ _ z => z)⟩
theorem PC.cells {w wr : World} {p : Option Addr} {k c : Nat} {L : List Sm} {ss : List St} (h : PC w wr p k c L ss) : ∃ g, p = some ⟨g, 0, none⟩ ∧ ∀ (i : Nat) (x : Sm), (L ++ [mkS])[i]? = some x → ∀ (j : Nat) (v : Value), x.cs[j]? = some v → wr.cell? ⟨g, i * 6 + j, none⟩ = some v := by
  rcases h.row.2 with ⟨_, hn⟩ | ⟨g, cap, cur, z, _⟩
  · omega
  · have z : Value.slice p (k + 1) c = .slice (some ⟨g, 0, none⟩) (k + 1) cap := z
    injection z with z1 _ z3
    subst z1
    have hc := h.row.cells (g := g) rfl
    refine ⟨g, rfl, fun i x hx j v hv => ?_⟩
    obtain ⟨hi, ex⟩ := List.getElem?_eq_some_iff.1 hx
    have hj : j < 6 := by
      obtain ⟨h1, _⟩ := Array.getElem?_eq_some_iff.1 hv
      have : x.cs.size = 6 := rfl
      omega
    have := hc (i * 6 + j) v (by rw [scs_get _ i hi j hj, ex]; exact hv)
    rw [Addr.add_none, Nat.zero_add] at this
    exact this
theorem PC.sls {w wr : World} {p : Option Addr} {k c : Nat} {L : List Sm} {ss : List St} (h : PC w wr p k c L ss) (g : ∀ s ∈ ss, KS s ∧ KI s.kind ∧ s.key.length + s.val.length + s.l.length ≤ 134217728) : SLs wr p k c L ss := by
  obtain ⟨r1, r2⟩ := own_room h.row
  refine ⟨h.len, h.slen, by omega, r2, fun h0 => ?_, fun i x s hx hs => ?_⟩
  · obtain ⟨b, e, hc⟩ := h.cells
    refine ⟨b, 0, e, fun i hi j v hv => ?_⟩
    rw [Nat.zero_add]
    exact hc i L[i] (by rw [List.getElem?_append_left hi, List.getElem?_eq_getElem hi]) j v hv
  · obtain ⟨ks, ki, sm⟩ := g s (List.mem_of_getElem? hs)
    exact ⟨(h.co i x s hx hs).srd ks sm, ki⟩
set_option maxRecDepth 100000 in
set_option maxHeartbeats 4000000 in
/-- steps. -/
theorem hSteps {w : World} {p : Option Addr} {k c : Nat} {L : List Sm} {ss : List St} (R : SLs w p k c L ss) (hk : k ≤ 33554430) : Calls Tryd.prog 16 #[.slice p k c] w fun o w' => ∃ (q : Option Addr) (d : Nat) (L' : List Sm), o = .returned (.slice q k d) ∧ PC w w' q k d L' ss := by
  have H : Hid (SLs w p k c L ss) := R
  clear R
  go_enter Tryd.func16, Tryd.ntmps16
  go_upto_region 3 with fail
  go_loopw [3, 4] (fun u3 u4 wr => ∃ (i : Nat) (q : Option Addr) (d : Nat) (L' : List Sm), u3 = .slice q i d ∧ u4 = .int .i64 (i : Int) ∧ i ≤ k ∧ Hid (PQ w wr q i d L' (ss.take i))) (fun _ u4 _ => k - (intOf u4).toNat)
  case atStart => exact ⟨0, none, 0, [], rfl, rfl, Nat.zero_le _, PQ.nil w⟩
  case round =>
    obtain ⟨i, q, d, L', rfl, rfl, hi, S⟩ := hrel
    obtain ⟨wo, hwo⟩ : ∃ wo, wo = wr := ⟨_, rfl⟩
    rw [← hwo] at S ⊢
    clear hwo
    by_cases hlt : i < k
    · have i1 : (i : Int) < (k : Int) := by omega
      obtain ⟨pb, off, x, s, rfl, hs, rd, ki, hc⟩ := H.out.at hlt
      have HS : Hid (ss[i]? = some s ∧ SRd w x s) := ⟨hs, rd⟩
      have hcx : ∀ (j : Nat) (v : Value), x.cs[j]? = some v → wo.cell? ⟨pb, off + i * 6 + j, none⟩ = some v := fun j v hv => S.out.kept.cell (hc j v hv) (fun z => z)
      have C38 : Hid (∀ V, Kept (fun _ => False) w V → Calls Tryd.prog 38 #[.agg x.cs] V (RetM fun y w' => CO V.heap.size w' y s ∧ Kept (fun _ => False) V w')) := fun V K => hCopied (HS.out.2.kept K)
      obtain ⟨kind, a, b, key, va, vn, vc, la, ln, lc⟩ := x
      have C38 : Hid (∀ V, Kept (fun _ => False) w V → Calls Tryd.prog 38 #[.agg #[.int .i64 kind, .int .i64 a, .int .i64 b, .string key, .slice va vn vc, .slice la ln lc]] V (RetM fun y w' => CO V.heap.size w' y s ∧ Kept (fun _ => False) V w')) := C38
      have x0 := hcx 0 (.int .i64 kind) rfl
      have x1 := hcx 1 (.int .i64 a) rfl
      have x2 := hcx 2 (.int .i64 b) rfl
      have x3 := hcx 3 (.string key) rfl
      have x4 := hcx 4 (.slice va vn vc) rfl
      have x5 := hcx 5 (.slice la ln lc) rfl
      rw [Nat.add_zero] at x0
      clear hcx hc hs rd ki
      go_wp2_with fail
      refine (C38.out _ S.out.kept).mono ?_
      rintro o w2 ⟨y, rfl, so, K2⟩
      have S2 : Hid (PQ w w2 q i d L' (ss.take i) ∧ CO w.heap.size w2 y s) := ⟨S.out.k0 K2, so.mono S.out.kept.size⟩
      clear K2 so S x0 x1 x2 x3 x4 x5 C38
      obtain ⟨kind', a', b', key', va', vn', vc', la', ln', lc'⟩ := y
      have e0 : (Sm.cs ⟨kind', a', b', key', va', vn', vc', la', ln', lc'⟩) = #[.int .i64 kind', .int .i64 a', .int .i64 b', .string key', .slice va' vn' vc', .slice la' ln' lc'] := rfl
      rw [e0]
      clear e0
      have A6 : Hid (PQ w (w2.alloc (.cells #[.int .i64 kind', .int .i64 a', .int .i64 b', .string key', .slice va' vn' vc', .slice la' ln' lc'] 38)) q i d L' (ss.take i) ∧ CO w.heap.size (w2.alloc (.cells #[.int .i64 kind', .int .i64 a', .int .i64 b', .string key', .slice va' vn' vc', .slice la' ln' lc'] 38)) ⟨kind', a', b', key', va', vn', vc', la', ln', lc'⟩ s) := ⟨S2.out.1.k0 ((Kept.refl _ _).alloc _), S2.out.2.k0 ((Kept.refl _ _).alloc _)⟩
      have SR : Hid (Src Tryd.prog 6 30 (.slice (some ⟨w2.heap.size, 0, none⟩) 1 1) 1 (scs [⟨kind', a', b', key', va', vn', vc', la', ln', lc'⟩]) (w2.alloc (.cells #[.int .i64 kind', .int .i64 a', .int .i64 b', .string key', .slice va' vn' vc', .slice la' ln' lc'] 38))) := src_st (alloc_new w2 _)
      have LN : Hid (i + 1 ≤ maxLen ∧ ((i + 1) + (i + 1) / 4 + 192) * 88 ≤ 281474976710656) := by unfold maxLen; exact ⟨by omega, by omega⟩
      go_wp2_with
        (first
          | (at_builtin; refine wpList_append_all _ rfl (.tmp 11) (.tmp 17) 30 38 30 _ 6 88 rfl Tryd.underlying30c Tryd.info38c rfl w.heap.size (.slice q i d) i (scs L') rfl A6.out.1.row _ 1 (scs [⟨kind', a', b', key', va', vn', vc', la', ln', lc'⟩]) rfl SR.out LN.out.1 LN.out.2 A6.out.1.kept.size ?_; intro p9 c9 w9 ho hg hn9)
          | fail)
      have N9 : Hid (PQ w w9 p9 (i + 1) c9 (L' ++ [⟨kind', a', b', key', va', vn', vc', la', ln', lc'⟩]) (ss.take (i + 1))) := by
        have e1 : ss.take (i + 1) = ss.take i ++ [s] := by
          rw [List.take_add_one, HS.out.1]
          rfl
        rw [e1]
        exact A6.out.1.more A6.out.2 ho.out hg.out
      clear ho hg hn9 A6 SR LN S2
      go_roundw
      case rel => exact ⟨i + 1, p9, c9, _, rfl, by go_num, by omega, N9⟩
      case measure => simp [intOf] <;> omega
    · have i1 : ¬ (i : Int) < (k : Int) := by omega
      have ek : i = k := by omega
      subst ek
      have S1 : Hid (PQ w wo q i d L' ss) := by
        have q := S.out
        rw [List.take_of_length_le (by rw [H.out.slen]; exact Nat.le_refl _)] at q
        exact q
      clear S
      have A6 : Hid (PQ w (wo.alloc (.cells #[.int .i64 (-77), .int .i64 0, .int .i64 0, .string ⟨#[]⟩, .slice none 0 0, .slice none 0 0] 38)) q i d L' ss) := S1.out.k0 ((Kept.refl _ _).alloc _)
      have SR : Hid (Src Tryd.prog 6 30 (.slice (some ⟨wo.heap.size, 0, none⟩) 1 1) 1 (scs [mkS]) (wo.alloc (.cells #[.int .i64 (-77), .int .i64 0, .int .i64 0, .string ⟨#[]⟩, .slice none 0 0, .slice none 0 0] 38))) := src_st (e := mkS) (alloc_new wo _)
      have LN : Hid (i + 1 ≤ maxLen ∧ ((i + 1) + (i + 1) / 4 + 192) * 88 ≤ 281474976710656) := by unfold maxLen; exact ⟨by omega, by omega⟩
      go_wp2_with
        (first
          | (at_builtin; refine wpList_append_all _ rfl (.tmp 19) (.tmp 21) 30 38 30 _ 6 88 rfl Tryd.underlying30c Tryd.info38c rfl w.heap.size (.slice q i d) i (scs L') rfl A6.out.row _ 1 (scs [mkS]) rfl SR.out LN.out.1 LN.out.2 A6.out.kept.size ?_; intro p9 c9 w9 ho hg hn9; have rm : i + 1 ≤ c9 := (own_room ho.out).1; have ci : (i : Int) ≤ (c9 : Int) := by omega)
          | fail)
      go_ret
      refine ⟨p9, c9, by first | rfl | simp, L', A6.out.len, A6.out.slen, by rw [scs_append]; exact ho.out, fun j x s hx hs => (A6.out.co j x s hx hs).grow A6.out.row (TX.kg hg.out), A6.out.kept.trans (TX.kg hg.out) (fun j hj z => by have := (own_lt A6.out.row j z).1; omega)⟩
end Go.Proofs.YtonfefhegghapaaDoor
