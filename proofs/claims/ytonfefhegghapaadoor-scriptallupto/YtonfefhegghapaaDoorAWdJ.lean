import Derived.Test.YtonfefhegghapaaDoorALn
import Derived.Test.YtonfefhegghapaaDoorTTx
import Derived.Test.YtonfefhegghapaaDoorUOw
namespace Go.Proofs.YtonfefhegghapaaDoor
open Go.RowKit 

theorem src_strE (w : World) (t : ByteArray) : Src Tryd.prog 1 9 (.string t) t.size (Lib.byteCells t.data.toList) w := by
  have h := Src.ofString (P := Tryd.prog) w Tryd.underlying9 t
  have e : byteCells t = Lib.byteCells t.data.toList := by unfold byteCells Lib.byteCells; simp
  rw [e] at h
  exact h
set_option maxRecDepth 100000 in
set_option maxHeartbeats 4000000 in
/-- The document's Text. -/
theorem hRefText {w : World} {p : Option Addr} {k c : Nat} {L : List Sm} {ss : List St} (R : SLs w p k c L ss) (M : WM w) (hb : (lnsL ss).length ≤ 100000000) : Calls Tryd.prog 20 #[.slice p k c] w fun o w' => o = .returned (.tuple #[.string (txtL ss).1, .int .i64 (txtL ss).2]) ∧ Kept (fun _ => False) w w' := by
  have hk : k ≤ 9223372036854775807 := by have h1 := R.room; have h2 := R.small; unfold maxLen at h2; omega
  have H : Hid (SLs w p k c L ss ∧ WM w ∧ (lnsL ss).length ≤ 100000000) := ⟨R, M, hb⟩
  obtain ⟨G, hG⟩ : ∃ G, txtL ss = G := ⟨_, rfl⟩
  rw [hG]
  unfold txtL at hG
  rw [R.slen] at hG
  have HG : Hid ((if 4096 < k then (⟨#[]⟩, 2) else if fstE ss = 0 then (ofL (lnsL ss), 0) else (⟨#[]⟩, fstE ss)) = G) := hG
  clear R M hb hG
  by_cases h4 : 4096 < k
  · have h4i : (4096 : Int) < (k : Int) := by omega
    have e : G = (⟨#[]⟩, 2) := by rw [← HG.out, if_pos h4]
    subst e
    clear HG
    go_enter Tryd.func20, Tryd.ntmps20
    go_wp2_with fail
    go_ret2
    exact ⟨by first | rfl | simp, Kept.refl _ _⟩
  have h4i : ¬ (4096 : Int) < (k : Int) := by omega
  have HG2 : Hid ((if fstE ss = 0 then (ofL (lnsL ss), 0) else (⟨#[]⟩, fstE ss)) = G) := by have q := HG.out; rw [if_neg h4] at q; exact q
  clear HG
  go_enter Tryd.func20, Tryd.ntmps20
  go_upto_region 5 with fail
  go_loopw [4, 5, 6, 7] (fun u4 u5 _ _ wr => ∃ (i : Nat) (q : Option Addr) (n d : Nat), u4 = .slice q n d ∧ u5 = .int .i64 (i : Int) ∧ i ≤ k ∧ Hid (TX w wr q n d (lnsL (ss.take i)) ∧ ∀ (j : Nat) (t : St), j < i → ss[j]? = some t → chkS t = 0)) (fun _ u5 _ _ _ => k - (intOf u5).toNat)
  case atStart => exact ⟨0, none, 0, 0, rfl, rfl, Nat.zero_le _, TX.nil w, fun j t hj => absurd hj (by omega)⟩
  case round =>
    obtain ⟨i, q, n, d, rfl, rfl, hi, S⟩ := hrel
    obtain ⟨wo, hwo⟩ : ∃ wo, wo = wr := ⟨_, rfl⟩
    rw [← hwo] at S ⊢
    clear hwo
    by_cases hlt : i < k
    · have i1 : (i : Int) < (k : Int) := by omega
      obtain ⟨pb, po, x, s, rfl, hs, rd, ki, hc⟩ := H.out.1.at hlt
      have HX : Hid (SRd w x s ∧ KI s.kind ∧ ss[i]? = some s) := ⟨rd, ki, hs⟩
      have hcx : ∀ (j : Nat) (v : Value), x.cs[j]? = some v → wo.cell? ⟨pb, po + i * 6 + j, none⟩ = some v := fun j v hv => S.out.1.kept.cell (hc j v hv) (fun z => z)
      obtain ⟨ck, hck⟩ : ∃ ck, chkS s = ck := ⟨_, rfl⟩
      obtain ⟨LS, hLS⟩ : ∃ LS, lineS s = LS := ⟨_, rfl⟩
      have C1 : Hid (∀ V, Kept (fun _ => False) w V → Calls Tryd.prog 18 #[.agg x.cs] V fun o w' => o = .returned (.tuple #[.string LS, .int .i64 ck]) ∧ Kept (fun _ => False) V w') := fun V K => by rw [← hck, ← hLS]; exact hRefLine (HX.out.1.kept K) HX.out.2.1 (H.out.2.1.kept K)
      have HC : Hid (chkS s = ck ∧ lineS s = LS) := ⟨hck, hLS⟩
      obtain ⟨kind, a, b, key, va, vn, vc, la, ln, lc⟩ := x
      have C1 : Hid (∀ V, Kept (fun _ => False) w V → Calls Tryd.prog 18 #[.agg #[.int .i64 kind, .int .i64 a, .int .i64 b, .string key, .slice va vn vc, .slice la ln lc]] V fun o w' => o = .returned (.tuple #[.string LS, .int .i64 ck]) ∧ Kept (fun _ => False) V w') := C1
      have x0 := hcx 0 (.int .i64 kind) rfl
      have x1 := hcx 1 (.int .i64 a) rfl
      have x2 := hcx 2 (.int .i64 b) rfl
      have x3 := hcx 3 (.string key) rfl
      have x4 := hcx 4 (.slice va vn vc) rfl
      have x5 := hcx 5 (.slice la ln lc) rfl
      rw [Nat.add_zero] at x0
      clear hcx hc hs rd ki hck hLS
      go_wp2_with fail
      refine (C1.out _ S.out.1.kept).mono ?_
      rintro o w5 ⟨rfl, K5⟩
      have S5 : Hid (TX w w5 q n d (lnsL (ss.take i)) ∧ ∀ (j : Nat) (t : St), j < i → ss[j]? = some t → chkS t = 0) := ⟨S.out.1.k0 K5, S.out.2⟩
      clear K5 C1 S x0 x1 x2 x3 x4 x5
      by_cases h0 : ck = 0
      · subst h0
        have LL : Hid (LS.data.toList = lineL s) := by
          have q := HC.out.2
          unfold lineS at q
          rw [if_pos HC.out.1] at q
          show LS.data.toList = lineL s
          rw [← q]
          rfl
        have NZ : Hid (n + LS.size + 1 ≤ 100000000) := by
          have h1 := S5.out.1.len
          have h2 := lnsL_take ss (i + 1)
          rw [lnsL_step HX.out.2.2, List.length_append, List.length_append, List.length_singleton, ← LL.out, ← size_list] at h2
          have h3 := H.out.2.2
          show n + LS.size + 1 ≤ 100000000
          omega
        have SR : Hid (Src Tryd.prog 1 9 (.string LS) LS.size (Lib.byteCells LS.data.toList) w5) := src_strE w5 LS
        have LN : Hid (n + LS.size ≤ maxLen ∧ ((n + LS.size) + (n + LS.size) / 4 + 192) * 1 ≤ 281474976710656) := by have := NZ.out; unfold maxLen; exact ⟨by omega, by omega⟩
        go_upto_region 11 with
          (first
            | (at_builtin; refine wpList_append_all _ rfl (.tmp 28) (.tmp 29) 35 5 9 _ 1 1 rfl Tryd.underlying35 Tryd.info5 rfl w.heap.size (.slice q n d) n (Lib.byteCells (lnsL (ss.take i))) rfl S5.out.1.row _ LS.size (Lib.byteCells LS.data.toList) rfl SR.out LN.out.1 LN.out.2 S5.out.1.kept.size ?_; intro p9 c9 w9 ho hg hn9)
            | fail)
        have T9 : Hid (TX w w9 p9 (n + LS.size) c9 (lnsL (ss.take i) ++ lineL s)) := by
          have := S5.out.1.more (x := LS.data.toList) (size_list LS) ho.out hg.out
          rw [LL.out] at this
          exact this
        clear ho hg hn9 SR LN
        obtain ⟨m, hm⟩ : ∃ m, n + LS.size = m := ⟨_, rfl⟩
        rw [hm] at T9 ⊢
        have MZ : Hid (m + 1 ≤ 100000000) := by rw [← hm]; exact NZ.out
        clear hm
        have A6 : Hid (TX w (w9.alloc (.cells #[.int .u8 10] 5)) p9 m c9 (lnsL (ss.take i) ++ lineL s)) := T9.out.k0 ((Kept.refl _ _).alloc _)
        have SR : Hid (Src Tryd.prog 1 35 (.slice (some ⟨w9.heap.size, 0, none⟩) 1 1) 1 (Lib.byteCells [10]) (w9.alloc (.cells #[.int .u8 10] 5))) := src_byte w9 10 (by omega)
        have LN : Hid (m + 1 ≤ maxLen ∧ ((m + 1) + (m + 1) / 4 + 192) * 1 ≤ 281474976710656) := by have := MZ.out; unfold maxLen; exact ⟨by omega, by omega⟩
        go_wp2_with
          (first
            | (at_builtin; refine wpList_append_all _ rfl (.tmp 31) (.tmp 32) 35 5 35 _ 1 1 rfl Tryd.underlying35 Tryd.info5 rfl w.heap.size (.slice p9 m c9) m (Lib.byteCells (lnsL (ss.take i) ++ lineL s)) rfl A6.out.row _ 1 (Lib.byteCells [10]) rfl SR.out LN.out.1 LN.out.2 A6.out.kept.size ?_; intro p10 c10 w10 ho hg hn9)
            | fail)
        have N9 : Hid (TX w w10 p10 (m + 1) c10 (lnsL (ss.take (i + 1))) ∧ ∀ (j : Nat) (t : St), j < i + 1 → ss[j]? = some t → chkS t = 0) := by
          refine ⟨?_, fun j t hj ht => ?_⟩
          · rw [lnsL_step HX.out.2.2]
            exact A6.out.more (x := [10]) rfl ho.out hg.out
          · by_cases hj2 : j < i
            · exact S5.out.2 j t hj2 ht
            · have e : j = i := by omega
              subst e
              rw [HX.out.2.2] at ht
              have e2 : s = t := by simpa using ht
              rw [← e2]
              exact HC.out.1
        clear ho hg hn9 A6 SR LN S5 T9
        go_roundw
        case rel => exact ⟨i + 1, p10, m + 1, c10, rfl, by go_num, by omega, N9⟩
        case measure => simp [intOf] <;> omega
      · have FN : Hid (G = (⟨#[]⟩, ck) ∧ Kept (fun _ => False) w w5) := by
          have e := fst_at ss i s HX.out.2.2 S5.out.2 (by rw [HC.out.1]; exact h0)
          refine ⟨?_, S5.out.1.kept⟩
          rw [← HG2.out, e, HC.out.1, if_neg h0]
        clear S5
        go_wp2_with fail
        go_ret2
        exact ⟨by rw [FN.out.1]; first | rfl | simp, FN.out.2⟩
    · have i1 : ¬ (i : Int) < (k : Int) := by omega
      have TS := S.out.1.string
      rw [List.take_of_length_le (by rw [H.out.1.slen]; omega)] at TS
      obtain ⟨TT, hTT⟩ : ∃ T, ofL (lnsL ss) = T := ⟨_, rfl⟩
      rw [hTT] at TS
      have FN : Hid (G = (TT, 0) ∧ Kept (fun _ => False) w wo) := by
        have e := fst_none ss (fun j t ht => S.out.2 j t (by
          have := (List.getElem?_eq_some_iff.1 ht).1
          rw [H.out.1.slen] at this
          omega) ht)
        refine ⟨?_, S.out.1.kept⟩
        rw [← HG2.out, e, if_pos rfl, hTT]
      clear S hTT
      go_wp2_with fail
      go_ret2
      exact ⟨by rw [FN.out.1]; first | rfl | simp, FN.out.2⟩
end Go.Proofs.YtonfefhegghapaaDoor

namespace Go.Proofs.YtonfefhegghapaaDoor
open Go.RowKit 

set_option maxRecDepth 100000 in
set_option maxHeartbeats 1000000 in
/-- wide. -/
theorem hWide {w : World} {p : Option Addr} {n c : Nat} {l : List UInt8} (R : BRd w p n c l) (hn : n ≤ 134217728) : Calls Tryd.prog 59 #[.slice p n c] w fun o w' => ∃ q d, o = .returned (.slice q n d) ∧ w'.ownsRow w.heap.size 5 1 (.slice q (n + 2) d) (n + 2) (Lib.byteCells (l ++ [193, 194])) ∧ Kept (fun _ => False) w w' := by
  have SR : Hid (Src Tryd.prog 1 35 (.slice p n c) n (Lib.byteCells l) w) := R.src
  have LN : Hid (0 + n ≤ maxLen ∧ ((0 + n) + (0 + n) / 4 + 192) * 1 ≤ 281474976710656) := by unfold maxLen; exact ⟨by omega, by omega⟩
  clear R
  go_enter Tryd.func59, Tryd.ntmps59
  go_upto_region 3 with
    (first
      | (at_builtin; refine wpList_append_all _ rfl (.tmp 4) (.tmp 5) 35 5 35 _ 1 1 rfl Tryd.underlying35 Tryd.info5 rfl w.heap.size (.slice none 0 0) 0 [] rfl (own_none w _ _ _) _ n (Lib.byteCells l) rfl SR.out LN.out.1 LN.out.2 (Nat.le_refl _) ?_; intro p1 c1 w1 ho hg hn9)
      | fail)
  have S1 : Hid (w1.ownsRow w.heap.size 5 1 (.slice p1 n c1) n (Lib.byteCells l) ∧ Kept (fun _ => False) w w1) := by
    have ho2 := ho.out
    rw [Nat.zero_add, List.nil_append] at ho2
    exact ⟨ho2, (Kept.refl _ _).grown hg.out (fun j _ z => by simp [Value.ownBlock] at z)⟩
  clear ho hg hn9 SR LN
  have A1 : Hid ((w1.alloc (.cells #[.int .u8 193, .int .u8 194] 5)).ownsRow w.heap.size 5 1 (.slice p1 n c1) n (Lib.byteCells l) ∧ Kept (fun _ => False) w (w1.alloc (.cells #[.int .u8 193, .int .u8 194] 5))) := ⟨((Kept.refl (fun _ => False) w1).alloc _).owns S1.out.1 (fun _ _ z => z), S1.out.2.alloc _⟩
  have SR : Hid (Src Tryd.prog 1 35 (.slice (some ⟨w1.heap.size, 0, none⟩) 2 2) 2 (Lib.byteCells [193, 194]) (w1.alloc (.cells #[.int .u8 193, .int .u8 194] 5))) := src_two w1 193 194 (by omega) (by omega)
  have LN : Hid (n + 2 ≤ maxLen ∧ ((n + 2) + (n + 2) / 4 + 192) * 1 ≤ 281474976710656) := by unfold maxLen; exact ⟨by omega, by omega⟩
  go_upto_region 4 with
    (first
      | (at_builtin; refine wpList_append_all _ rfl (.tmp 7) (.tmp 8) 35 5 35 _ 1 1 rfl Tryd.underlying35 Tryd.info5 rfl w.heap.size (.slice p1 n c1) n (Lib.byteCells l) rfl A1.out.1 _ 2 (Lib.byteCells [193, 194]) rfl SR.out LN.out.1 LN.out.2 A1.out.2.size ?_; intro p9 c9 w9 ho hg hn9)
      | fail)
  have S9 : Hid (w9.ownsRow w.heap.size 5 1 (.slice p9 (n + 2) c9) (n + 2) (Lib.byteCells (l ++ [193, 194])) ∧ Kept (fun _ => False) w w9) := by
    refine ⟨by rw [Lib.byteCells_append]; exact ho.out, A1.out.2.trans (TX.kg hg.out) (fun j hj z => ?_)⟩
    have := (own_lt A1.out.1 j z).1
    omega
  have nc : n + 2 ≤ c9 := (own_room S9.out.1).1
  have ci : (n : Int) ≤ (c9 : Int) := by omega
  clear ho hg hn9 A1 SR LN S1
  go_wp2_with fail
  go_ret
  exact ⟨p9, c9, by first | rfl | simp, S9.out⟩
/-- A copied step. -/
structure CO (b0 : Nat) (w : World) (y : Sm) (s : St) : Prop where
  kind : y.kind = s.kind
  a : y.a = s.a
  b : y.b = s.b
  key : y.key = ofL s.key
  vl : y.vn = s.val.length
  vr : w.ownsRow b0 5 1 (.slice y.va (y.vn + 2) y.vc) (y.vn + 2) (Lib.byteCells (s.val ++ [193, 194]))
  ll : y.ln = s.l.length
  lr : w.ownsRow b0 3 1 (.slice y.la (y.ln + 1) y.lc) (y.ln + 1) (intC (s.l ++ [-77]))
theorem copied_grow {w W W9 : World} {cs : Array Value} {q p8 p9 : Option Addr} {vn d ln c8 c9 : Nat} {bs : List Value} {l : List Int} {z : Int} (h : OW w W cs) (hb : W.ownsRow w.heap.size 5 1 (.slice q vn d) vn bs) (hl : W.ownsRow w.heap.size 3 1 (.slice p8 ln c8) ln (intC l)) (ho : W9.ownsRow w.heap.size 3 1 (.slice p9 (ln + 1) c9) (ln + 1) (intC l ++ intC [z])) (hg : W.grownBy W9 (Value.slice p8 ln c8).ownBlock) : OW w W9 cs ∧ W9.ownsRow w.heap.size 5 1 (.slice q vn d) vn bs ∧ W9.ownsRow w.heap.size 3 1 (.slice p9 (ln + 1) c9) (ln + 1) (intC (l ++ [z])) := by
  have K := TX.kg hg
  have off : ∀ {cs2 : Array Value} {b : Nat}, W.heap[b]? = some (.cells cs2 38 (0, 0)) → ¬ blockOf p8 = some b := fun {cs2 b} hh z => by
    obtain ⟨c2, e2⟩ := own_type hl b z
    rw [hh] at e2
    simp at e2
  refine ⟨⟨K.get h.b1 (off h.b1), K.get h.b2 (off h.b2), h.kept.trans K (fun j hj z => ?_)⟩, K.owns hb (fun j z y => ?_), ?_⟩
  · have := (own_lt hl j z).1
    omega
  · rw [blockOf_own] at z
    obtain ⟨c1, e1⟩ := own_type hb j z
    obtain ⟨c2, e2⟩ := own_type hl j y
    rw [e1] at e2
    simp at e2
  · unfold intC at ho ⊢
    rw [List.map_append]
    exact ho
set_option maxRecDepth 100000 in
set_option maxHeartbeats 4000000 in
/-- copied. -/
theorem hCopied {w : World} {x : Sm} {s : St} (R : SRd w x s) : Calls Tryd.prog 38 #[.agg x.cs] w (RetM fun y w' => CO w.heap.size w' y s ∧ Kept (fun _ => False) w w') := by
  obtain ⟨kind, a, b, key, va, vn, vc, la, ln, lc⟩ := x
  have HR : Hid (SRd w ⟨kind, a, b, key, va, vn, vc, la, ln, lc⟩ s) := R
  have hv : vn ≤ 134217728 := by have h1 := R.sm; have h2 : s.val.length = vn := R.v.len; omega
  have hl : ln ≤ 134217728 := by have h1 := R.sm; have h2 : s.l.length = ln := R.l.len; omega
  clear R
  show Calls Tryd.prog 38 #[.agg #[.int .i64 kind, .int .i64 a, .int .i64 b, .string key, .slice va vn vc, .slice la ln lc]] w _
  obtain ⟨W0, hW0⟩ : ∃ W0, (w.alloc (.cells #[.int .i64 kind, .int .i64 a, .int .i64 b, .string key, .slice va vn vc, .slice la ln lc] 38)).alloc (.cells #[.int .i64 0, .int .i64 0, .int .i64 0, .string ⟨#[]⟩, .slice none 0 0, .slice none 0 0] 38) = W0 := ⟨_, rfl⟩
  have S0 : Hid (W0.heap[w.heap.size]? = some (.cells #[.int .i64 kind, .int .i64 a, .int .i64 b, .string key, .slice va vn vc, .slice la ln lc] 38 (0, 0)) ∧ W0.heap[w.heap.size + 1]? = some (.cells #[.int .i64 0, .int .i64 0, .int .i64 0, .string ⟨#[]⟩, .slice none 0 0, .slice none 0 0] 38 (0, 0)) ∧ Kept (fun _ => False) w W0) := by
    rw [← hW0]
    refine ⟨alloc_old _ (alloc_new _ _), ?_, ((Kept.refl _ _).alloc _).alloc _⟩
    have := alloc_new (w.alloc (.cells #[.int .i64 kind, .int .i64 a, .int .i64 b, .string key, .slice va vn vc, .slice la ln lc] 38)) (.cells #[.int .i64 0, .int .i64 0, .int .i64 0, .string ⟨#[]⟩, .slice none 0 0, .slice none 0 0] 38)
    simpa using this
  have C1 : Hid (Calls Tryd.prog 59 #[.slice va vn vc] W0 fun o w' => ∃ q d, o = .returned (.slice q vn d) ∧ w'.ownsRow W0.heap.size 5 1 (.slice q (vn + 2) d) (vn + 2) (Lib.byteCells (s.val ++ [193, 194])) ∧ Kept (fun _ => False) W0 w') := hWide ((HR.out.kept S0.out.2.2).v) hv
  have HW0 : Hid ((w.alloc (.cells #[.int .i64 kind, .int .i64 a, .int .i64 b, .string key, .slice va vn vc, .slice la ln lc] 38)).alloc (.cells #[.int .i64 0, .int .i64 0, .int .i64 0, .string ⟨#[]⟩, .slice none 0 0, .slice none 0 0] 38) = W0) := hW0
  clear hW0
  go_enter Tryd.func38, Tryd.ntmps38
  go_upto_region 1 with fail
  rw [HW0.out]
  clear HW0
  have b4 := cell_blk S0.out.1 4 (v := .slice va vn vc) rfl
  go_wp2_with fail
  refine C1.out.mono ?_
  rintro o w1 ⟨q, d, rfl, ow, K1⟩
  have S1 : Hid (OW w w1 #[.int .i64 kind, .int .i64 a, .int .i64 b, .string key, .slice va vn vc, .slice la ln lc] ∧ w1.ownsRow w.heap.size 5 1 (.slice q (vn + 2) d) (vn + 2) (Lib.byteCells (s.val ++ [193, 194]))) := ⟨(⟨S0.out.1, S0.out.2.1, S0.out.2.2⟩ : OW w W0 _).k0 K1, owns_mono ow S0.out.2.2.size⟩
  clear K1 ow C1 S0 b4
  obtain ⟨W2, hW2⟩ : ∃ W2, w1.setCell ⟨w.heap.size, 4, none⟩ (.slice q vn d) = W2 := ⟨_, rfl⟩
  have S2 : Hid (OW w W2 #[.int .i64 kind, .int .i64 a, .int .i64 b, .string key, .slice q vn d, .slice la ln lc] ∧ W2.ownsRow w.heap.size 5 1 (.slice q (vn + 2) d) (vn + 2) (Lib.byteCells (s.val ++ [193, 194]))) := by
    rw [← hW2]
    have z := S1.out.1.set 4 (.slice q vn d)
    exact ⟨z.1, own_off S1.out.2 S1.out.1.b1 (by decide) z.2⟩
  have HW2 : Hid (w1.setCell ⟨w.heap.size, 4, none⟩ (.slice q vn d) = W2) := hW2
  have b4 := cell_blk S1.out.1.b1 4 (v := .slice va vn vc) rfl
  have s4 := soft_blk S1.out.1.b1 4
  clear hW2
  go_upto_region 3 with fail
  rw [HW2.out]
  clear HW2 b4 s4 S1
  have b5 := cell_blk S2.out.1.b1 5 (v := .slice la ln lc) rfl
  have SR : Hid (Src Tryd.prog 1 36 (.slice la ln lc) ln (intC s.l) W2) := (HR.out.kept S2.out.1.kept).l.src
  have LN : Hid (0 + ln ≤ maxLen ∧ ((0 + ln) + (0 + ln) / 4 + 192) * 8 ≤ 281474976710656) := by unfold maxLen; exact ⟨by omega, by omega⟩
  go_upto_region 4 with
    (first
      | (at_builtin; refine wpList_append_all _ rfl (.tmp 8) (.tmp 10) 36 3 36 _ 1 8 rfl Tryd.underlying36 Tryd.info3 rfl w.heap.size (.slice none 0 0) 0 [] rfl (own_none W2 _ _ _) _ ln (intC s.l) rfl SR.out LN.out.1 LN.out.2 S2.out.1.kept.size ?_; intro p8 c8 w8 ho hg hn9)
      | fail)
  have S8 : Hid (OW w w8 #[.int .i64 kind, .int .i64 a, .int .i64 b, .string key, .slice q vn d, .slice la ln lc] ∧ w8.ownsRow w.heap.size 5 1 (.slice q (vn + 2) d) (vn + 2) (Lib.byteCells (s.val ++ [193, 194])) ∧ w8.ownsRow w.heap.size 3 1 (.slice p8 ln c8) ln (intC s.l)) := by
    have ho2 := ho.out
    rw [Nat.zero_add, List.nil_append] at ho2
    exact ⟨S2.out.1.k0 ((Kept.refl _ _).grown hg.out (fun j _ z => by simp [Value.ownBlock] at z)), ((Kept.refl (fun _ => False) _).grown hg.out (fun j _ z => by simp [Value.ownBlock] at z)).owns S2.out.2 (fun _ _ z => z), ho2⟩
  clear ho hg hn9 SR LN b5 S2
  have A1 : Hid (OW w (w8.alloc (.cells #[.int .i64 (-77)] 3)) #[.int .i64 kind, .int .i64 a, .int .i64 b, .string key, .slice q vn d, .slice la ln lc] ∧ (w8.alloc (.cells #[.int .i64 (-77)] 3)).ownsRow w.heap.size 5 1 (.slice q (vn + 2) d) (vn + 2) (Lib.byteCells (s.val ++ [193, 194])) ∧ (w8.alloc (.cells #[.int .i64 (-77)] 3)).ownsRow w.heap.size 3 1 (.slice p8 ln c8) ln (intC s.l)) := ⟨S8.out.1.k0 ((Kept.refl _ _).alloc _), ((Kept.refl (fun _ => False) w8).alloc _).owns S8.out.2.1 (fun _ _ z => z), ((Kept.refl (fun _ => False) w8).alloc _).owns S8.out.2.2 (fun _ _ z => z)⟩
  have SR : Hid (Src Tryd.prog 1 36 (.slice (some ⟨w8.heap.size, 0, none⟩) 1 1) 1 (intC [-77]) (w8.alloc (.cells #[.int .i64 (-77)] 3))) := src_int w8 (-77)
  have LN : Hid (ln + 1 ≤ maxLen ∧ ((ln + 1) + (ln + 1) / 4 + 192) * 8 ≤ 281474976710656) := by unfold maxLen; exact ⟨by omega, by omega⟩
  go_upto_region 5 with
    (first
      | (at_builtin; refine wpList_append_all _ rfl (.tmp 12) (.tmp 13) 36 3 36 _ 1 8 rfl Tryd.underlying36 Tryd.info3 rfl w.heap.size (.slice p8 ln c8) ln (intC s.l) rfl A1.out.2.2 _ 1 (intC [-77]) rfl SR.out LN.out.1 LN.out.2 A1.out.1.kept.size ?_; intro p9 c9 w9 ho hg hn9; have O9 : Hid (OW w w9 #[.int .i64 kind, .int .i64 a, .int .i64 b, .string key, .slice q vn d, .slice la ln lc] ∧ w9.ownsRow w.heap.size 5 1 (.slice q (vn + 2) d) (vn + 2) (Lib.byteCells (s.val ++ [193, 194])) ∧ w9.ownsRow w.heap.size 3 1 (.slice p9 (ln + 1) c9) (ln + 1) (intC (s.l ++ [-77]))) := copied_grow A1.out.1 A1.out.2.1 A1.out.2.2 ho.out hg.out; have c5 := cell_blk O9.out.1.b1 5 (v := .slice la ln lc) rfl; have s5 := soft_blk O9.out.1.b1 5; have rm : ln + 1 ≤ c9 := (own_room O9.out.2.2).1; have ci : (ln : Int) ≤ (c9 : Int) := by omega)
      | fail)
  obtain ⟨W4, hW4⟩ : ∃ W4, w9.setCell ⟨w.heap.size, 5, none⟩ (.slice p9 ln c9) = W4 := ⟨_, rfl⟩
  have S4 : Hid (OW w W4 #[.int .i64 kind, .int .i64 a, .int .i64 b, .string key, .slice q vn d, .slice p9 ln c9] ∧ W4.ownsRow w.heap.size 5 1 (.slice q (vn + 2) d) (vn + 2) (Lib.byteCells (s.val ++ [193, 194])) ∧ W4.ownsRow w.heap.size 3 1 (.slice p9 (ln + 1) c9) (ln + 1) (intC (s.l ++ [-77]))) := by
    rw [← hW4]
    have z := O9.out.1.set 5 (.slice p9 ln c9)
    exact ⟨z.1, own_off O9.out.2.1 O9.out.1.b1 (by decide) z.2, own_off O9.out.2.2 O9.out.1.b1 (by decide) z.2⟩
  rw [hW4]
  clear hW4 ho hg hn9 O9 c5 s5 SR LN A1 S8
  have c0 := cell_blk S4.out.1.b1 0 (v := .int .i64 kind) rfl
  have c1 := cell_blk S4.out.1.b1 1 (v := .int .i64 a) rfl
  have c2 := cell_blk S4.out.1.b1 2 (v := .int .i64 b) rfl
  have c3 := cell_blk S4.out.1.b1 3 (v := .string key) rfl
  have c4 := cell_blk S4.out.1.b1 4 (v := .slice q vn d) rfl
  have c5 := cell_blk S4.out.1.b1 5 (v := .slice p9 ln c9) rfl
  have a0 := cell_blk S4.out.1.b2 0 (v := .int .i64 0) rfl
  have a1 := cell_blk S4.out.1.b2 1 (v := .int .i64 0) rfl
  have a2 := cell_blk S4.out.1.b2 2 (v := .int .i64 0) rfl
  have a3 := cell_blk S4.out.1.b2 3 (v := .string ⟨#[]⟩) rfl
  have a4 := cell_blk S4.out.1.b2 4 (v := .slice none 0 0) rfl
  have a5 := cell_blk S4.out.1.b2 5 (v := .slice none 0 0) rfl
  have s0 := soft_blk S4.out.1.b2 0
  have s1 := soft_blk S4.out.1.b2 1
  have s2 := soft_blk S4.out.1.b2 2
  have s3 := soft_blk S4.out.1.b2 3
  have s4 := soft_blk S4.out.1.b2 4
  have s5 := soft_blk S4.out.1.b2 5
  have FN := set6 S4.out.1.b2 (.int .i64 kind) (.int .i64 a) (.int .i64 b) (.string key) (.slice q vn d) (.slice p9 ln c9)
  obtain ⟨W9, hW9⟩ : ∃ W9, (((((W4.setCell ⟨w.heap.size + 1, 0, none⟩ (.int .i64 kind)).setCell ⟨w.heap.size + 1, 1, none⟩ (.int .i64 a)).setCell ⟨w.heap.size + 1, 2, none⟩ (.int .i64 b)).setCell ⟨w.heap.size + 1, 3, none⟩ (.string key)).setCell ⟨w.heap.size + 1, 4, none⟩ (.slice q vn d)).setCell ⟨w.heap.size + 1, 5, none⟩ (.slice p9 ln c9) = W9 := ⟨_, rfl⟩
  rw [hW9] at FN
  have AN : Hid (W9.heap[w.heap.size + 1]? = some (.cells #[.int .i64 kind, .int .i64 a, .int .i64 b, .string key, .slice q vn d, .slice p9 ln c9] 38 (0, 0)) ∧ CO w.heap.size W9 ⟨kind, a, b, key, q, vn, d, p9, ln, c9⟩ s ∧ Kept (fun _ => False) w W9) := by
    have r := HR.out
    refine ⟨FN.1, ⟨r.kind, r.a, r.b, r.key, r.v.len.symm, own_off S4.out.2.1 S4.out.1.b2 (by decide) FN.2, r.l.len.symm, own_off S4.out.2.2 S4.out.1.b2 (by decide) FN.2⟩, S4.out.1.kept.trans FN.2 (fun j hj z => by omega)⟩
  have HW9 : Hid ((((((W4.setCell ⟨w.heap.size + 1, 0, none⟩ (.int .i64 kind)).setCell ⟨w.heap.size + 1, 1, none⟩ (.int .i64 a)).setCell ⟨w.heap.size + 1, 2, none⟩ (.int .i64 b)).setCell ⟨w.heap.size + 1, 3, none⟩ (.string key)).setCell ⟨w.heap.size + 1, 4, none⟩ (.slice q vn d)).setCell ⟨w.heap.size + 1, 5, none⟩ (.slice p9 ln c9) = W9) := hW9
  clear hW9 FN S4 HR
  go_wp2_with fail
  rw [HW9.out]
  refine bodyPost_ret (results_cell_row (P := Tryd.prog) rfl _ _ (w.heap.size + 1) 38 _ (0, 0) _ rfl AN.out.1 Tryd.underlying38 rfl (by kernel_rfl)) rfl ?_
  exact ⟨⟨kind, a, b, key, q, vn, d, p9, ln, c9⟩, rfl, AN.out.2⟩
end Go.Proofs.YtonfefhegghapaaDoor
