import Derived.Test.YtonfefhegghapaaDoorACf
namespace Go.Proofs.YtonfefhegghapaaDoor
open Go.RowKit 

/-- Steps in memory whose bytes and numbers lie in blocks of their own, each behind the ones before it. -/
def Ord (L : List Sm) : Prop := L.Pairwise (fun x y => ∀ b c, (blockOf x.va = some b → blockOf y.va = some c → b < c) ∧ (blockOf x.la = some b → blockOf y.la = some c → b < c))
theorem Ord.nil : Ord [] := List.Pairwise.nil
theorem Ord.more {w W W' : World} {p : Option Addr} {k c : Nat} {L : List Sm} {ss : List St} {y : Sm} {s : St} (h : Ord L) (P : PX w W p k c L ss) (so : SO W.heap.size W' y s) : Ord (L ++ [y]) := by
  refine List.pairwise_append.2 ⟨h, List.pairwise_singleton _ _, fun x hx z hz b c => ?_⟩
  rw [List.mem_singleton.1 hz]
  obtain ⟨i, hi⟩ := List.mem_iff_getElem?.1 hx
  obtain ⟨u, hu⟩ : ∃ u, ss[i]? = some u := ⟨_, List.getElem?_eq_getElem (by
    have h1 := (List.getElem?_eq_some_iff.1 hi).1
    have h2 := P.len
    have h3 := P.slen
    omega)⟩
  have q := P.so i x u hi hu
  refine ⟨fun e1 e2 => ?_, fun e1 e2 => ?_⟩
  · have h1 := (own_lt q.vr b e1).2
    have h2 := (own_lt so.vr c e2).1
    omega
  · have h1 := (own_lt q.lr b e1).2
    have h2 := (own_lt so.lr c e2).1
    omega
set_option maxRecDepth 100000 in
set_option maxHeartbeats 4000000 in
/-- script.Parse, and that its steps share nothing. -/
theorem hParseO (s : ByteArray) (w : World) (hs : s.size ≤ 33554432) (V : Vars w) (F : FM w) : Calls Tryd.prog 14 #[.string s] w (RetP fun p k c L r w' => r = parL s.data.toList ∧ PX w w' p k c L r.1 ∧ Ord L) := by
  have VV : Hid (Vars w ∧ FM w) := ⟨V, F⟩
  have C0 : Hid (Calls Tryd.prog 34 #[.string s] w fun o w' => o = .returned (.int .i64 (linesN s.data.toList : Int)) ∧ Kept (fun _ => False) w w') := hLines s w (by omega)
  obtain ⟨ll, hll⟩ : ∃ n, linesN s.data.toList = n := ⟨_, rfl⟩
  rw [hll] at C0
  obtain ⟨R0, hR0⟩ : ∃ R, parL s.data.toList = R := ⟨_, rfl⟩
  rw [hR0]
  unfold parL at hR0
  rw [hll] at hR0
  have HR0 : Hid ((if 4096 < ll then ([], 0, 2) else parF s.data.toList.length s.data.toList []) = R0) := hR0
  clear V F hll hR0
  go_enter Tryd.func14, Tryd.ntmps14
  go_wp2_with fail
  refine C0.out.mono ?_
  rintro o w1 ⟨rfl, K1⟩
  have S1 : Hid (PX w w1 none 0 0 [] []) := (PX.nil w).k0 K1
  clear K1 C0
  by_cases hl : 4096 < ll
  · have hli : (4096 : Int) < (ll : Int) := by omega
    have e : R0 = ([], 0, 2) := by rw [← HR0.out, if_pos hl]
    subst e
    clear HR0
    go_wp2_with fail
    go_ret3
    exact ⟨none, 0, 0, [], ([], 0, 2), by first | rfl | simp, rfl, S1.out, Ord.nil⟩
  have hli : ¬ (4096 : Int) < (ll : Int) := by omega
  have HR : Hid (parF s.data.toList.length s.data.toList [] = R0) := by have q := HR0.out; rw [if_neg hl] at q; exact q
  clear HR0
  go_upto_region 4 with fail
  go_loopw [0, 5, 6, 7, 8, 9] (fun u0 u5 _ _ _ _ wr => ∃ (t : ByteArray) (p : Option Addr) (k c : Nat) (L : List Sm) (acc : List St), u0 = .string t ∧ u5 = .slice p k c ∧ Hid ((PX w wr p k c L acc ∧ Ord L) ∧ parF t.data.toList.length t.data.toList acc = R0 ∧ k + t.size ≤ 33554432)) (fun u0 _ _ _ _ _ _ => strLen u0)
  case atStart => exact ⟨s, none, 0, 0, [], [], rfl, rfl, ⟨S1.out, Ord.nil⟩, HR.out, by omega⟩
  case round =>
    clear S1 HR
    obtain ⟨t, p, k, c, L, acc, rfl, rfl, S⟩ := hrel
    obtain ⟨wo, hwo⟩ : ∃ wo, wo = wr := ⟨_, rfl⟩
    rw [← hwo] at S ⊢
    clear hwo
    by_cases hE : (⟨#[]⟩ : ByteArray) = t
    · have eb : t.toList.isEmpty = true := emp_yes hE
      have FN : Hid (R0 = (acc, 0, 0) ∧ PX w wo p k c L acc ∧ Ord L) := by
        have q := S.out.2.1
        have e : t.data.toList = [] := by rw [← hE]
        rw [e, parF_end] at q
        exact ⟨q.symm, S.out.1⟩
      clear S hE
      go_wp2_with fail
      go_ret3
      exact ⟨p, k, c, L, R0, by rw [FN.out.1]; first | rfl | simp, rfl, by rw [FN.out.1]; exact FN.out.2⟩
    have eb : t.toList.isEmpty = false := emp_no hE
    have tn : t.data.toList ≠ [] := fun z => hE (by rw [← ofL_self t, z]; rfl)
    obtain ⟨ln, hln⟩ : ∃ x, ofL (cutE 10 t.data.toList).1 = x := ⟨_, rfl⟩
    obtain ⟨t2, ht2⟩ : ∃ x, ofL (cutE 10 t.data.toList).2 = x := ⟨_, rfl⟩
    have e1 : (cutE 10 t.data.toList).1 = ln.data.toList := by rw [← hln]; rfl
    have e2 : (cutE 10 t.data.toList).2 = t2.data.toList := by rw [← ht2]; rfl
    have tz : t.data.toList.length = t.size := Array.length_toList
    have t2z : t2.data.toList.length = t2.size := Array.length_toList
    have lnz : ln.data.toList.length = ln.size := Array.length_toList
    have HZ : Hid (t2.size < t.size ∧ ln.size ≤ 33554432) := by
      have h1 := (cutE_len 10 t.data.toList).2.2 tn
      have h2 := (cutE_len 10 t.data.toList).1
      have h3 := S.out.2.2
      rw [e2, t2z, tz] at h1
      rw [e1, lnz, tz] at h2
      exact ⟨h1, by omega⟩
    have C1 : Hid (∀ V, Calls Tryd.prog 35 #[.string t, .int .i32 10] V fun o w' => o = .returned (.tuple #[.string ln, .string t2]) ∧ Kept (fun _ => False) V w') := fun V => by
      rw [← hln, ← ht2]
      exact hCutE t 10 (by decide) V (by have := S.out.2.2; omega)
    obtain ⟨G, hG⟩ : ∃ G, gs ln.data.toList = G := ⟨_, rfl⟩
    have HS : Hid ((chkS G = 0 ∧ lineL G = ln.data.toList → parF t2.data.toList.length t2.data.toList (acc ++ [G]) = R0) ∧ (¬ (chkS G = 0 ∧ lineL G = ln.data.toList) → R0 = ([], acc.length, 82)) ∧ GSm ln.size G) := by
      have q := S.out.2.1
      refine ⟨fun z => ?_, fun z => ?_, ?_⟩
      · rw [← hG] at z ⊢
        rw [parF_step tn (by rw [e1]; exact z), e1, e2] at q
        exact q
      · rw [← hG] at z
        rw [parF_bad tn (by rw [e1]; exact z)] at q
        exact q.symm
      · rw [← hG, ← lnz]
        exact gs_small _
    have C2 : Hid (∀ V, Kept (fun _ => False) w V → Calls Tryd.prog 36 #[.string ln] V fun o w' => ∃ x : Sm, o = .returned (.agg x.cs) ∧ SO V.heap.size w' x G ∧ Kept (fun _ => False) V w') := fun V K => by
      rw [← hG]
      exact hGuessE ln V HZ.out.2 (VV.out.1.kept K) (VV.out.2.kept K)
    have S0 : Hid (PX w wo p k c L acc ∧ k + t.size ≤ 33554432) := ⟨S.out.1.1, S.out.2.2⟩
    have O0 : Hid (Ord L) := S.out.1.2
    clear S hln ht2 e1 e2 tz t2z lnz hG tn hE
    go_wp2_with fail
    refine (C1.out _).mono ?_
    rintro o w2 ⟨rfl, K2⟩
    have S2 : Hid (PX w w2 p k c L acc) := S0.out.1.k0 K2
    clear K2 C1
    go_wp2_with fail
    refine (C2.out _ S2.out.kept).mono ?_
    rintro o w3 ⟨x, rfl, so, K3⟩
    have O3 : Hid (Ord (L ++ [x])) := O0.out.more S2.out so
    have S3 : Hid (PX w w3 p k c L acc ∧ SO w.heap.size w3 x G) := ⟨S2.out.k0 K3, so.mono S2.out.kept.size⟩
    clear so K3 C2 S2 O0
    obtain ⟨kind, a, b, key, va, vn, vc, la, ln', lc⟩ := x
    have e0 : (Sm.cs ⟨kind, a, b, key, va, vn, vc, la, ln', lc⟩) = #[.int .i64 kind, .int .i64 a, .int .i64 b, .string key, .slice va vn vc, .slice la ln' lc] := rfl
    rw [e0]
    clear e0
    obtain ⟨W, hW⟩ : ∃ W, w3.alloc (.cells #[.int .i64 kind, .int .i64 a, .int .i64 b, .string key, .slice va vn vc, .slice la ln' lc] 38) = W := ⟨_, rfl⟩
    obtain ⟨B, hB⟩ : ∃ B, w3.heap.size = B := ⟨_, rfl⟩
    have S4 : Hid (PX w W p k c L acc ∧ SO w.heap.size W ⟨kind, a, b, key, va, vn, vc, la, ln', lc⟩ G ∧ W.heap[B]? = some (.cells #[.int .i64 kind, .int .i64 a, .int .i64 b, .string key, .slice va vn vc, .slice la ln' lc] 38 (0, 0))) := by
      rw [← hW, ← hB]
      exact ⟨S3.out.1.k0 ((Kept.refl _ _).alloc _), S3.out.2.k0 ((Kept.refl _ _).alloc _), alloc_new _ _⟩
    have HW : Hid (w3.alloc (.cells #[.int .i64 kind, .int .i64 a, .int .i64 b, .string key, .slice va vn vc, .slice la ln' lc] 38) = W ∧ w3.heap.size = B) := ⟨hW, hB⟩
    clear hW hB S3
    go_upto_region 8 with fail
    rw [HW.out.1, HW.out.2]
    clear HW
    obtain ⟨ck, hck⟩ : ∃ ck, chkS G = ck := ⟨_, rfl⟩
    obtain ⟨LS, hLS⟩ : ∃ LS, lineS G = LS := ⟨_, rfl⟩
    have C3 : Hid (Calls Tryd.prog 17 #[.agg #[.int .i64 kind, .int .i64 a, .int .i64 b, .string key, .slice va vn vc, .slice la ln' lc]] W fun o w' => o = .returned (.tuple #[.string LS, .int .i64 ck]) ∧ Kept (fun _ => False) W w') := by
      rw [← hck, ← hLS]
      have gk := HS.out.2.2.kind
      exact hLine (x := ⟨kind, a, b, key, va, vn, vc, la, ln', lc⟩) (S4.out.2.1.srd HS.out.2.2 HZ.out.2) ⟨by omega, by omega⟩ (VV.out.1.kept S4.out.1.kept) (VV.out.2.kept S4.out.1.kept)
    have HC : Hid (chkS G = ck ∧ lineS G = LS) := ⟨hck, hLS⟩
    clear hck hLS
    have b0 := cell_blk S4.out.2.2 0 (v := .int .i64 kind) rfl
    have b1 := cell_blk S4.out.2.2 1 (v := .int .i64 a) rfl
    have b2 := cell_blk S4.out.2.2 2 (v := .int .i64 b) rfl
    have b3 := cell_blk S4.out.2.2 3 (v := .string key) rfl
    have b4 := cell_blk S4.out.2.2 4 (v := .slice va vn vc) rfl
    have b5 := cell_blk S4.out.2.2 5 (v := .slice la ln' lc) rfl
    go_wp2_with fail
    refine C3.out.mono ?_
    rintro o w5 ⟨rfl, K5⟩
    have S5 : Hid (PX w w5 p k c L acc ∧ SO w.heap.size w5 ⟨kind, a, b, key, va, vn, vc, la, ln', lc⟩ G ∧ w5.heap[B]? = some (.cells #[.int .i64 kind, .int .i64 a, .int .i64 b, .string key, .slice va vn vc, .slice la ln' lc] 38 (0, 0))) := ⟨S4.out.1.k0 K5, S4.out.2.1.k0 K5, K5.get S4.out.2.2 (fun z => z)⟩
    clear K5 C3 S4 b0 b1 b2 b3 b4 b5
    have BAD : Hid ((ck ≠ 0 ∨ LS ≠ ln) → R0 = ([], k, 82)) := fun z => by
      have q := HS.out.2.1 (fun y => by
        rw [HC.out.1] at y
        rcases z with z | z
        · exact z y.1
        · apply z
          rw [← HC.out.2]
          unfold lineS
          rw [if_pos (by rw [HC.out.1]; exact y.1), y.2, ofL_self])
      rw [S5.out.1.slen] at q
      exact q
    have KL : Hid (k ≤ 33554432) := by have := S0.out.2; show k ≤ 33554432; omega
    have kz : k ≤ 33554432 := KL.out
    by_cases hc : ck = 0
    · by_cases hq : LS = ln
      · have GOOD : Hid (parF t2.data.toList.length t2.data.toList (acc ++ [G]) = R0) := HS.out.1 ⟨HC.out.1.trans hc, by
          have q := HC.out.2
          unfold lineS at q
          rw [if_pos (HC.out.1.trans hc), hq] at q
          rw [← q]
          rfl⟩
        subst hc
        have eq1 : (LS.toList == ln.toList) = true := by rw [eq_bytesE]; exact decide_eq_true hq
        have eq2 : decide (LS = ln) = true := decide_eq_true hq
        have b0 := cell_blk S5.out.2.2 0 (v := .int .i64 kind) rfl
        have b1 := cell_blk S5.out.2.2 1 (v := .int .i64 a) rfl
        have b2 := cell_blk S5.out.2.2 2 (v := .int .i64 b) rfl
        have b3 := cell_blk S5.out.2.2 3 (v := .string key) rfl
        have b4 := cell_blk S5.out.2.2 4 (v := .slice va vn vc) rfl
        have b5 := cell_blk S5.out.2.2 5 (v := .slice la ln' lc) rfl
        have A6 : Hid (PX w (w5.alloc (.cells #[.int .i64 kind, .int .i64 a, .int .i64 b, .string key, .slice va vn vc, .slice la ln' lc] 38)) p k c L acc ∧ SO w.heap.size (w5.alloc (.cells #[.int .i64 kind, .int .i64 a, .int .i64 b, .string key, .slice va vn vc, .slice la ln' lc] 38)) ⟨kind, a, b, key, va, vn, vc, la, ln', lc⟩ G) := ⟨S5.out.1.k0 ((Kept.refl _ _).alloc _), S5.out.2.1.k0 ((Kept.refl _ _).alloc _)⟩
        have SR : Hid (Src Tryd.prog 6 30 (.slice (some ⟨w5.heap.size, 0, none⟩) 1 1) 1 (scs [⟨kind, a, b, key, va, vn, vc, la, ln', lc⟩]) (w5.alloc (.cells #[.int .i64 kind, .int .i64 a, .int .i64 b, .string key, .slice va vn vc, .slice la ln' lc] 38))) := src_st (alloc_new w5 _)
        have LN : Hid (k + 1 ≤ maxLen ∧ ((k + 1) + (k + 1) / 4 + 192) * 88 ≤ 281474976710656) := by unfold maxLen; exact ⟨by omega, by omega⟩
        clear HS BAD HC
        go_wp2_with
          (first
            | (at_builtin; refine wpList_append_all _ rfl (.tmp 36) (.tmp 38) 30 38 30 _ 6 88 rfl Tryd.underlying30c Tryd.info38c rfl w.heap.size (.slice p k c) k (scs L) rfl A6.out.1.row _ 1 (scs [⟨kind, a, b, key, va, vn, vc, la, ln', lc⟩]) rfl SR.out LN.out.1 LN.out.2 A6.out.1.kept.size ?_; intro p9 c9 w9 ho hg hn9)
            | fail)
        have N9 : Hid (PX w w9 p9 (k + 1) c9 (L ++ [⟨kind, a, b, key, va, vn, vc, la, ln', lc⟩]) (acc ++ [G])) := A6.out.1.more A6.out.2 ho.out hg.out
        clear ho hg hn9 A6 SR LN b0 b1 b2 b3 b4 b5 S5
        go_roundw
        case rel => exact ⟨t2, p9, k + 1, c9, L ++ [⟨kind, a, b, key, va, vn, vc, la, ln', lc⟩], acc ++ [G], rfl, rfl, ⟨N9.out, O3.out⟩, GOOD.out, by have := S0.out.2; have := HZ.out.1; omega⟩
        case measure => exact HZ.out.1
      · have r := BAD.out (.inr hq)
        subst r
        have eq1 : (LS.toList == ln.toList) = false := by rw [eq_bytesE]; exact decide_eq_false hq
        have eq2 : decide (LS = ln) = false := decide_eq_false hq
        subst hc
        clear HS BAD HC
        go_wp2_with fail
        go_ret3
        exact ⟨none, 0, 0, [], ([], k, 82), by first | rfl | simp, rfl, (PX.nil w).k0 S5.out.1.kept, Ord.nil⟩
    · have r := BAD.out (.inl hc)
      subst r
      clear HS BAD HC
      go_wp2_with fail
      go_ret3
      exact ⟨none, 0, 0, [], ([], k, 82), by first | rfl | simp, rfl, (PX.nil w).k0 S5.out.1.kept, Ord.nil⟩
end Go.Proofs.YtonfefhegghapaaDoor

namespace Go.Proofs.YtonfefhegghapaaDoor
open Go.RowKit 

theorem Ord.ne {L : List Sm} (h : Ord L) {i m : Nat} {x y : Sm} (hx : L[i]? = some x) (hy : L[m]? = some y) (hn : i ≠ m) (b : Nat) : (blockOf x.va = some b → ¬ blockOf y.va = some b) ∧ (blockOf x.la = some b → ¬ blockOf y.la = some b) := by
  obtain ⟨i1, e1⟩ := List.getElem?_eq_some_iff.1 hx
  obtain ⟨m1, e2⟩ := List.getElem?_eq_some_iff.1 hy
  have P := List.pairwise_iff_getElem.1 h
  rcases Nat.lt_or_gt_of_ne hn with z | z
  · have q := P i m i1 m1 z b b
    rw [e1, e2] at q
    exact ⟨fun a c => absurd (q.1 a c) (Nat.lt_irrefl _), fun a c => absurd (q.2 a c) (Nat.lt_irrefl _)⟩
  · have q := P m i m1 i1 z b b
    rw [e1, e2] at q
    exact ⟨fun a c => absurd (q.1 c a) (Nat.lt_irrefl _), fun a c => absurd (q.2 c a) (Nat.lt_irrefl _)⟩
theorem byteCells_set (l : List UInt8) (j : Nat) (b : UInt8) : (Lib.byteCells l).set j (.int .u8 (b.toNat : Int)) = Lib.byteCells (l.set j b) := by
  unfold Lib.byteCells
  rw [List.map_set]
theorem intC_set (l : List Int) (j : Nat) (z : Int) : (intC l).set j (.int .i64 z) = intC (l.set j z) := by
  unfold intC
  rw [List.map_set]
/-- A byte of a step's value is set. -/
theorem PX.setV {w W : World} {p : Option Addr} {k c : Nat} {L : List Sm} {ss : List St} (h : PX w W p k c L ss) (o : Ord L) {i g j : Nat} {x : Sm} {s : St} (hx : L[i]? = some x) (hs : ss[i]? = some s) (hg : x.va = some ⟨g, 0, none⟩) (b : UInt8) : PX w (W.setCell ⟨g, j, none⟩ (.int .u8 (b.toNat : Int))) p k c L (ss.set i { s with val := s.val.set j b }) := by
  have K : Kept (fun q => q = g) W (W.setCell ⟨g, j, none⟩ (.int .u8 (b.toNat : Int))) := (Kept.refl (fun q => q = g) W).setCell (p := ⟨g, j, none⟩) (fun _ => rfl) _
  have q := h.so i x s hx hs
  have bg : blockOf x.va = some g := by rw [hg]; rfl
  obtain ⟨cs, ty⟩ := own_type q.vr g bg
  refine ⟨h.len, by rw [List.length_set]; exact h.slen, own_off h.row ty (by decide) K, fun m y u hy hu => ?_, h.kept.trans K (fun r hr e => by have := (own_lt q.vr g bg).1; omega)⟩
  by_cases hm : i = m
  · subst hm
    obtain rfl : x = y := by rw [hx] at hy; simpa using hy
    have hi := (List.getElem?_eq_some_iff.1 hs).1
    rw [List.getElem?_set_self hi] at hu
    obtain rfl : { s with val := s.val.set j b } = u := by simpa using hu
    refine ⟨q.kind, q.a, q.b, q.key, by show x.vn = (s.val.set j b).length; rw [List.length_set]; exact q.vl, ?_, q.ll, own_off q.lr ty (by decide) K⟩
    have r := q.vr
    rw [hg] at r ⊢
    have r2 := owns_set r j (.int .u8 (b.toNat : Int))
    rw [byteCells_set] at r2
    exact r2
  · rw [List.getElem?_set_ne hm] at hu
    have qy := h.so m y u hy hu
    exact ⟨qy.kind, qy.a, qy.b, qy.key, qy.vl, K.owns qy.vr (fun r z e => by
      rw [blockOf_own] at z
      subst e
      exact (o.ne hx hy hm _).1 bg z), qy.ll, own_off qy.lr ty (by decide) K⟩
/-- A number of a step's list is set. -/
theorem PX.setL {w W : World} {p : Option Addr} {k c : Nat} {L : List Sm} {ss : List St} (h : PX w W p k c L ss) (o : Ord L) {i g j : Nat} {x : Sm} {s : St} (hx : L[i]? = some x) (hs : ss[i]? = some s) (hg : x.la = some ⟨g, 0, none⟩) (b : Int) : PX w (W.setCell ⟨g, j, none⟩ (.int .i64 b)) p k c L (ss.set i { s with l := s.l.set j b }) := by
  have K : Kept (fun q => q = g) W (W.setCell ⟨g, j, none⟩ (.int .i64 b)) := (Kept.refl (fun q => q = g) W).setCell (p := ⟨g, j, none⟩) (fun _ => rfl) _
  have q := h.so i x s hx hs
  have bg : blockOf x.la = some g := by rw [hg]; rfl
  obtain ⟨cs, ty⟩ := own_type q.lr g bg
  refine ⟨h.len, by rw [List.length_set]; exact h.slen, own_off h.row ty (by decide) K, fun m y u hy hu => ?_, h.kept.trans K (fun r hr e => by have := (own_lt q.lr g bg).1; omega)⟩
  by_cases hm : i = m
  · subst hm
    obtain rfl : x = y := by rw [hx] at hy; simpa using hy
    have hi := (List.getElem?_eq_some_iff.1 hs).1
    rw [List.getElem?_set_self hi] at hu
    obtain rfl : { s with l := s.l.set j b } = u := by simpa using hu
    refine ⟨q.kind, q.a, q.b, q.key, q.vl, own_off q.vr ty (by decide) K, by show x.ln = (s.l.set j b).length; rw [List.length_set]; exact q.ll, ?_⟩
    have r := q.lr
    rw [hg] at r ⊢
    have r2 := owns_set r j (.int .i64 b)
    rw [intC_set] at r2
    exact r2
  · rw [List.getElem?_set_ne hm] at hu
    have qy := h.so m y u hy hu
    exact ⟨qy.kind, qy.a, qy.b, qy.key, qy.vl, own_off qy.vr ty (by decide) K, qy.ll, K.owns qy.lr (fun r z e => by
      rw [blockOf_own] at z
      subst e
      exact (o.ne hx hy hm _).2 bg z)⟩
end Go.Proofs.YtonfefhegghapaaDoor

namespace Go.Proofs.YtonfefhegghapaaDoor
open Go.RowKit 

/-- A row in memory: where, how long, its room, what is in it. -/
structure Rw where
  p : Option Addr
  n : Nat
  c : Nat
  xs : List Value
/-- Rows of one type, each in a block of its own. -/
structure RB (b0 : Nat) (ty : TypeId) (W : World) (R : List Rw) : Prop where
  own : ∀ (m : Nat) (r : Rw), R[m]? = some r → W.ownsRow b0 ty 1 (.slice r.p r.n r.c) r.n r.xs
  ne : ∀ (m n : Nat) (r s : Rw), m ≠ n → R[m]? = some r → R[n]? = some s → ∀ b, blockOf r.p = some b → ¬ blockOf s.p = some b
theorem RB.k0 {b0 : Nat} {ty : TypeId} {W W' : World} {R : List Rw} (h : RB b0 ty W R) (K : Kept (fun _ => False) W W') : RB b0 ty W' R := ⟨fun m r hr => K.owns (h.own m r hr) (fun _ _ z => z), h.ne⟩
/-- A row of another type grows. -/
theorem RB.other {b0 b1 : Nat} {ty t' : TypeId} {W W' : World} {R : List Rw} {p : Option Addr} {n c size : Nat} {xs : List Value} (h : RB b0 ty W R) (ho : W.ownsRow b1 t' size (.slice p n c) n xs) (ht : t' ≠ ty) (hg : W.grownBy W' (Value.slice p n c).ownBlock) : RB b0 ty W' R := ⟨fun m r hr => (TX.kg hg).owns (h.own m r hr) (fun j z e => by
  rw [blockOf_own] at z
  obtain ⟨c1, e1⟩ := own_type (h.own m r hr) j z
  obtain ⟨c2, e2⟩ := own_type ho j e
  rw [e1] at e2
  simp at e2
  exact ht e2.2.symm), h.ne⟩
/-- One of them grows. -/
theorem RB.grow {b0 : Nat} {ty : TypeId} {W W' : World} {R : List Rw} {m n c c9 : Nat} {p p9 : Option Addr} {xs ys : List Value} (h : RB b0 ty W R) (hm : R[m]? = some ⟨p, n, c, xs⟩) (ho : W'.ownsRow b0 ty 1 (.slice p9 (n + 1) c9) (n + 1) ys) (hg : W.grownBy W' (Value.slice p n c).ownBlock) (hn : (Value.slice p9 (n + 1) c9).ownBlock = (Value.slice p n c).ownBlock ∨ ((Value.slice p9 (n + 1) c9).ownBlock = some W.heap.size ∧ W.grownBy W' none)) : RB b0 ty W' (R.set m ⟨p9, n + 1, c9, ys⟩) := by
  have hl := (List.getElem?_eq_some_iff.1 hm).1
  have key : ∀ (i : Nat) (r : Rw), i ≠ m → R[i]? = some r → ∀ b, blockOf p9 = some b → ¬ blockOf r.p = some b := fun i r hi hr b e1 e2 => by
    rcases hn with z | ⟨z, _⟩
    · rw [blockOf_own, blockOf_own] at z
      exact h.ne m i _ r (fun q => hi q.symm) hm hr b (z ▸ e1) e2
    · rw [blockOf_own] at z
      have q := (own_lt (h.own i r hr) b e2).2
      rw [e1] at z
      have : b = W.heap.size := by simpa using z
      omega
  refine ⟨fun i r hr => ?_, fun i j r s hij hr hs b e1 e2 => ?_⟩
  · by_cases hi : i = m
    · subst hi
      rw [List.getElem?_set_self hl] at hr
      obtain rfl : Rw.mk p9 (n + 1) c9 ys = r := by simpa using hr
      exact ho
    · rw [List.getElem?_set_ne (fun q => hi q.symm)] at hr
      exact (TX.kg hg).owns (h.own i r hr) (fun j z e => by
        rw [blockOf_own] at z
        exact h.ne m i _ r (fun q => hi q.symm) hm hr j e z)
  · by_cases hi : i = m
    · subst hi
      rw [List.getElem?_set_self hl] at hr
      obtain rfl : Rw.mk p9 (n + 1) c9 ys = r := by simpa using hr
      rw [List.getElem?_set_ne hij] at hs
      exact key j s (fun q => hij q.symm) hs b e1 e2
    · rw [List.getElem?_set_ne (fun q => hi q.symm)] at hr
      by_cases hj : j = m
      · subst hj
        rw [List.getElem?_set_self hl] at hs
        obtain rfl : Rw.mk p9 (n + 1) c9 ys = s := by simpa using hs
        exact key i r hi hr b e2 e1
      · rw [List.getElem?_set_ne (fun q => hj q.symm)] at hs
        exact h.ne i j r s hij hr hs b e1 e2
/-- The values of Parse's steps, as rows; their lists. -/
def rwV (x : Sm) (s : St) : Rw := ⟨x.va, x.vn, x.vc, Lib.byteCells s.val⟩
def rwL (x : Sm) (s : St) : Rw := ⟨x.la, x.ln, x.lc, intC s.l⟩
theorem zip_at {α β γ : Type} {f : α → β → γ} {L : List α} {ss : List β} {m : Nat} {r : γ} (h : (List.zipWith f L ss)[m]? = some r) : ∃ x s, L[m]? = some x ∧ ss[m]? = some s ∧ r = f x s := by
  rw [List.getElem?_zipWith] at h
  cases hL : L[m]? with
  | none => rw [hL] at h; simp at h
  | some x =>
    cases hs : ss[m]? with
    | none => rw [hL, hs] at h; simp at h
    | some s => rw [hL, hs] at h; exact ⟨x, s, rfl, rfl, by simpa using h.symm⟩
theorem PX.rows {w W : World} {p : Option Addr} {k c : Nat} {L : List Sm} {ss : List St} (h : PX w W p k c L ss) (o : Ord L) : RB w.heap.size 5 W (List.zipWith rwV L ss) ∧ RB w.heap.size 3 W (List.zipWith rwL L ss) := by
  refine ⟨⟨fun m r hr => ?_, fun m n r s hmn hr hs b => ?_⟩, ⟨fun m r hr => ?_, fun m n r s hmn hr hs b => ?_⟩⟩
  · obtain ⟨x, s, hx, hs, rfl⟩ := zip_at hr
    exact (h.so m x s hx hs).vr
  · obtain ⟨x, u, hx, _, rfl⟩ := zip_at hr
    obtain ⟨y, v, hy, _, rfl⟩ := zip_at hs
    exact (o.ne hx hy hmn b).1
  · obtain ⟨x, s, hx, hs, rfl⟩ := zip_at hr
    exact (h.so m x s hx hs).lr
  · obtain ⟨x, u, hx, _, rfl⟩ := zip_at hr
    obtain ⟨y, v, hy, _, rfl⟩ := zip_at hs
    exact (o.ne hx hy hmn b).2
end Go.Proofs.YtonfefhegghapaaDoor
