import Derived.Test.YtonfefhegghapaaDoorTPmJ
namespace Go.Proofs.YtonfefhegghapaaDoor
open Go.RowKit 

def strLen : Value → Nat
  | .string s => s.size
  | _ => 0
def RetP (Q : Option Addr → Nat → Nat → List Sm → List St × Nat × Int → World → Prop) (o : Ending) (w : World) : Prop := ∃ (p : Option Addr) (k c : Nat) (L : List Sm) (r : List St × Nat × Int), o = .returned (.tuple #[.slice p k c, .int .i64 (r.2.1 : Int), .int .i64 r.2.2]) ∧ Q p k c L r w
theorem parF_end (f : Nat) (acc : List St) : parF f [] acc = (acc, 0, 0) := by
  cases f with
  | zero => rfl
  | succ f => unfold parF; rw [if_pos rfl]
theorem parF_step {l : List UInt8} {acc : List St} (h : l ≠ []) (h2 : chkS (gs (cutE 10 l).1) = 0 ∧ lineL (gs (cutE 10 l).1) = (cutE 10 l).1) : parF l.length l acc = parF (cutE 10 l).2.length (cutE 10 l).2 (acc ++ [gs (cutE 10 l).1]) := by
  obtain ⟨f, hf⟩ : ∃ f, l.length = f + 1 := ⟨l.length - 1, by have := List.length_pos_iff.2 h; omega⟩
  have c := (cutE_len 10 l).2.2 h
  rw [hf]
  conv => lhs; unfold parF
  rw [if_neg h, if_pos h2]
  exact parF_more _ _ _ _ (by omega) (Nat.le_refl _)
theorem parF_bad {l : List UInt8} {acc : List St} (h : l ≠ []) (h2 : ¬ (chkS (gs (cutE 10 l).1) = 0 ∧ lineL (gs (cutE 10 l).1) = (cutE 10 l).1)) : parF l.length l acc = ([], acc.length, 82) := by
  obtain ⟨f, hf⟩ : ∃ f, l.length = f + 1 := ⟨l.length - 1, by have := List.length_pos_iff.2 h; omega⟩
  rw [hf]
  unfold parF
  rw [if_neg h, if_neg h2]
set_option maxRecDepth 100000 in
set_option maxHeartbeats 4000000 in
theorem hParse (s : ByteArray) (w : World) (hs : s.size ≤ 33554432) (V : Vars w) (F : FM w) : Calls Tryd.prog 14 #[.string s] w (RetP fun p k c L r w' => r = parL s.data.toList ∧ PX w w' p k c L r.1) := by
  have VV : Hid (Vars w ∧ FM w) := ⟨V, F⟩
  have C0 : Hid (Calls Tryd.prog 34 #[.string s] w fun o w' => o = .returned (.int .i64 (linesN s.data.toList : Int)) ∧ Kept (fun _ => False) w w') := hLines s w (by omega)
  obtain ⟨ll, hll⟩ : ∃ n, linesN s.data.toList = n := ⟨_, rfl⟩
  rw [hll] at C0
  obtain ⟨R0, hR0⟩ : ∃ R, parL s.data.toList = R := ⟨_, rfl⟩
  rw [hR0]
  unfold parL at hR0
  rw [hll] at hR0
  have HR0 : Hid ((if 4096 < ll then ([], 0, 2) else parF s.data.toList.length s.data.toList []) = R0) := hR0
  clear V F hll hR0
  go_enter Tryd.func14, Tryd.ntmps14
  go_wp2_with fail
  refine C0.out.mono ?_
  rintro o w1 ⟨rfl, K1⟩
  have S1 : Hid (PX w w1 none 0 0 [] []) := (PX.nil w).k0 K1
  clear K1 C0
  by_cases hl : 4096 < ll
  · have hli : (4096 : Int) < (ll : Int) := by omega
    have e : R0 = ([], 0, 2) := by rw [← HR0.out, if_pos hl]
    subst e
    clear HR0
    go_wp2_with fail
    go_ret3
    exact ⟨none, 0, 0, [], ([], 0, 2), by first | rfl | simp, rfl, S1.out⟩
  have hli : ¬ (4096 : Int) < (ll : Int) := by omega
  have HR : Hid (parF s.data.toList.length s.data.toList [] = R0) := by have q := HR0.out; rw [if_neg hl] at q; exact q
  clear HR0
  go_upto_region 4 with fail
  go_loopw [0, 5, 6, 7, 8, 9] (fun u0 u5 _ _ _ _ wr => ∃ (t : ByteArray) (p : Option Addr) (k c : Nat) (L : List Sm) (acc : List St), u0 = .string t ∧ u5 = .slice p k c ∧ Hid (PX w wr p k c L acc ∧ parF t.data.toList.length t.data.toList acc = R0 ∧ k + t.size ≤ 33554432)) (fun u0 _ _ _ _ _ _ => strLen u0)
  case atStart => exact ⟨s, none, 0, 0, [], [], rfl, rfl, S1.out, HR.out, by omega⟩
  case round =>
    clear S1 HR
    obtain ⟨t, p, k, c, L, acc, rfl, rfl, S⟩ := hrel
    obtain ⟨wo, hwo⟩ : ∃ wo, wo = wr := ⟨_, rfl⟩
    rw [← hwo] at S ⊢
    clear hwo
    by_cases hE : (⟨#[]⟩ : ByteArray) = t
    · have eb : t.toList.isEmpty = true := emp_yes hE
      have FN : Hid (R0 = (acc, 0, 0) ∧ PX w wo p k c L acc) := by
        have q := S.out.2.1
        have e : t.data.toList = [] := by rw [← hE]
        rw [e, parF_end] at q
        exact ⟨q.symm, S.out.1⟩
      clear S hE
      go_wp2_with fail
      go_ret3
      exact ⟨p, k, c, L, R0, by rw [FN.out.1]; first | rfl | simp, rfl, by rw [FN.out.1]; exact FN.out.2⟩
    have eb : t.toList.isEmpty = false := emp_no hE
    have tn : t.data.toList ≠ [] := fun z => hE (by rw [← ofL_self t, z]; rfl)
    obtain ⟨ln, hln⟩ : ∃ x, ofL (cutE 10 t.data.toList).1 = x := ⟨_, rfl⟩
    obtain ⟨t2, ht2⟩ : ∃ x, ofL (cutE 10 t.data.toList).2 = x := ⟨_, rfl⟩
    have e1 : (cutE 10 t.data.toList).1 = ln.data.toList := by rw [← hln]; rfl
    have e2 : (cutE 10 t.data.toList).2 = t2.data.toList := by rw [← ht2]; rfl
    have tz : t.data.toList.length = t.size := Array.length_toList
    have t2z : t2.data.toList.length = t2.size := Array.length_toList
    have lnz : ln.data.toList.length = ln.size := Array.length_toList
    have HZ : Hid (t2.size < t.size ∧ ln.size ≤ 33554432) := by
      have h1 := (cutE_len 10 t.data.toList).2.2 tn
      have h2 := (cutE_len 10 t.data.toList).1
      have h3 := S.out.2.2
      rw [e2, t2z, tz] at h1
      rw [e1, lnz, tz] at h2
      exact ⟨h1, by omega⟩
    have C1 : Hid (∀ V, Calls Tryd.prog 35 #[.string t, .int .i32 10] V fun o w' => o = .returned (.tuple #[.string ln, .string t2]) ∧ Kept (fun _ => False) V w') := fun V => by
      rw [← hln, ← ht2]
      exact hCutE t 10 (by decide) V (by have := S.out.2.2; omega)
    obtain ⟨G, hG⟩ : ∃ G, gs ln.data.toList = G := ⟨_, rfl⟩
    have HS : Hid ((chkS G = 0 ∧ lineL G = ln.data.toList → parF t2.data.toList.length t2.data.toList (acc ++ [G]) = R0) ∧ (¬ (chkS G = 0 ∧ lineL G = ln.data.toList) → R0 = ([], acc.length, 82)) ∧ GSm ln.size G) := by
      have q := S.out.2.1
      refine ⟨fun z => ?_, fun z => ?_, ?_⟩
      · rw [← hG] at z ⊢
        rw [parF_step tn (by rw [e1]; exact z), e1, e2] at q
        exact q
      · rw [← hG] at z
        rw [parF_bad tn (by rw [e1]; exact z)] at q
        exact q.symm
      · rw [← hG, ← lnz]
        exact gs_small _
    have C2 : Hid (∀ V, Kept (fun _ => False) w V → Calls Tryd.prog 36 #[.string ln] V fun o w' => ∃ x : Sm, o = .returned (.agg x.cs) ∧ SO V.heap.size w' x G ∧ Kept (fun _ => False) V w') := fun V K => by
      rw [← hG]
      exact hGuessE ln V HZ.out.2 (VV.out.1.kept K) (VV.out.2.kept K)
    have S0 : Hid (PX w wo p k c L acc ∧ k + t.size ≤ 33554432) := ⟨S.out.1, S.out.2.2⟩
    clear S hln ht2 e1 e2 tz t2z lnz hG tn hE
    go_wp2_with fail
    refine (C1.out _).mono ?_
    rintro o w2 ⟨rfl, K2⟩
    have S2 : Hid (PX w w2 p k c L acc) := S0.out.1.k0 K2
    clear K2 C1
    go_wp2_with fail
    refine (C2.out _ S2.out.kept).mono ?_
    rintro o w3 ⟨x, rfl, so, K3⟩
    have S3 : Hid (PX w w3 p k c L acc ∧ SO w.heap.size w3 x G) := ⟨S2.out.k0 K3, so.mono S2.out.kept.size⟩
    clear so K3 C2 S2
    obtain ⟨kind, a, b, key, va, vn, vc, la, ln', lc⟩ := x
    have e0 : (Sm.cs ⟨kind, a, b, key, va, vn, vc, la, ln', lc⟩) = #[.int .i64 kind, .int .i64 a, .int .i64 b, .string key, .slice va vn vc, .slice la ln' lc] := rfl
    rw [e0]
    clear e0
    obtain ⟨W, hW⟩ : ∃ W, w3.alloc (.cells #[.int .i64 kind, .int .i64 a, .int .i64 b, .string key, .slice va vn vc, .slice la ln' lc] 38) = W := ⟨_, rfl⟩
    obtain ⟨B, hB⟩ : ∃ B, w3.heap.size = B := ⟨_, rfl⟩
    have S4 : Hid (PX w W p k c L acc ∧ SO w.heap.size W ⟨kind, a, b, key, va, vn, vc, la, ln', lc⟩ G ∧ W.heap[B]? = some (.cells #[.int .i64 kind, .int .i64 a, .int .i64 b, .string key, .slice va vn vc, .slice la ln' lc] 38 (0, 0))) := by
      rw [← hW, ← hB]
      exact ⟨S3.out.1.k0 ((Kept.refl _ _).alloc _), S3.out.2.k0 ((Kept.refl _ _).alloc _), alloc_new _ _⟩
    have HW : Hid (w3.alloc (.cells #[.int .i64 kind, .int .i64 a, .int .i64 b, .string key, .slice va vn vc, .slice la ln' lc] 38) = W ∧ w3.heap.size = B) := ⟨hW, hB⟩
    clear hW hB S3
    go_upto_region 8 with fail
    rw [HW.out.1, HW.out.2]
    clear HW
    obtain ⟨ck, hck⟩ : ∃ ck, chkS G = ck := ⟨_, rfl⟩
    obtain ⟨LS, hLS⟩ : ∃ LS, lineS G = LS := ⟨_, rfl⟩
    have C3 : Hid (Calls Tryd.prog 17 #[.agg #[.int .i64 kind, .int .i64 a, .int .i64 b, .string key, .slice va vn vc, .slice la ln' lc]] W fun o w' => o = .returned (.tuple #[.string LS, .int .i64 ck]) ∧ Kept (fun _ => False) W w') := by
      rw [← hck, ← hLS]
      have gk := HS.out.2.2.kind
      exact hLine (x := ⟨kind, a, b, key, va, vn, vc, la, ln', lc⟩) (S4.out.2.1.srd HS.out.2.2 HZ.out.2) ⟨by omega, by omega⟩ (VV.out.1.kept S4.out.1.kept) (VV.out.2.kept S4.out.1.kept)
    have HC : Hid (chkS G = ck ∧ lineS G = LS) := ⟨hck, hLS⟩
    clear hck hLS
    have b0 := cell_blk S4.out.2.2 0 (v := .int .i64 kind) rfl
    have b1 := cell_blk S4.out.2.2 1 (v := .int .i64 a) rfl
    have b2 := cell_blk S4.out.2.2 2 (v := .int .i64 b) rfl
    have b3 := cell_blk S4.out.2.2 3 (v := .string key) rfl
    have b4 := cell_blk S4.out.2.2 4 (v := .slice va vn vc) rfl
    have b5 := cell_blk S4.out.2.2 5 (v := .slice la ln' lc) rfl
    go_wp2_with fail
    refine C3.out.mono ?_
    rintro o w5 ⟨rfl, K5⟩
    have S5 : Hid (PX w w5 p k c L acc ∧ SO w.heap.size w5 ⟨kind, a, b, key, va, vn, vc, la, ln', lc⟩ G ∧ w5.heap[B]? = some (.cells #[.int .i64 kind, .int .i64 a, .int .i64 b, .string key, .slice va vn vc, .slice la ln' lc] 38 (0, 0))) := ⟨S4.out.1.k0 K5, S4.out.2.1.k0 K5, K5.get S4.out.2.2 (fun z => z)⟩
    clear K5 C3 S4 b0 b1 b2 b3 b4 b5
    have BAD : Hid ((ck ≠ 0 ∨ LS ≠ ln) → R0 = ([], k, 82)) := fun z => by
      have q := HS.out.2.1 (fun y => by
        rw [HC.out.1] at y
        rcases z with z | z
        · exact z y.1
        · apply z
          rw [← HC.out.2]
          unfold lineS
          rw [if_pos (by rw [HC.out.1]; exact y.1), y.2, ofL_self])
      rw [S5.out.1.slen] at q
      exact q
    have KL : Hid (k ≤ 33554432) := by have := S0.out.2; show k ≤ 33554432; omega
    have kz : k ≤ 33554432 := KL.out
    by_cases hc : ck = 0
    · by_cases hq : LS = ln
      · have GOOD : Hid (parF t2.data.toList.length t2.data.toList (acc ++ [G]) = R0) := HS.out.1 ⟨HC.out.1.trans hc, by
          have q := HC.out.2
          unfold lineS at q
          rw [if_pos (HC.out.1.trans hc), hq] at q
          rw [← q]
          rfl⟩
        subst hc
        have eq1 : (LS.toList == ln.toList) = true := by rw [eq_bytesE]; exact decide_eq_true hq
        have eq2 : decide (LS = ln) = true := decide_eq_true hq
        have b0 := cell_blk S5.out.2.2 0 (v := .int .i64 kind) rfl
        have b1 := cell_blk S5.out.2.2 1 (v := .int .i64 a) rfl
        have b2 := cell_blk S5.out.2.2 2 (v := .int .i64 b) rfl
        have b3 := cell_blk S5.out.2.2 3 (v := .string key) rfl
        have b4 := cell_blk S5.out.2.2 4 (v := .slice va vn vc) rfl
        have b5 := cell_blk S5.out.2.2 5 (v := .slice la ln' lc) rfl
        have A6 : Hid (PX w (w5.alloc (.cells #[.int .i64 kind, .int .i64 a, .int .i64 b, .string key, .slice va vn vc, .slice la ln' lc] 38)) p k c L acc ∧ SO w.heap.size (w5.alloc (.cells #[.int .i64 kind, .int .i64 a, .int .i64 b, .string key, .slice va vn vc, .slice la ln' lc] 38)) ⟨kind, a, b, key, va, vn, vc, la, ln', lc⟩ G) := ⟨S5.out.1.k0 ((Kept.refl _ _).alloc _), S5.out.2.1.k0 ((Kept.refl _ _).alloc _)⟩
        have SR : Hid (Src Tryd.prog 6 30 (.slice (some ⟨w5.heap.size, 0, none⟩) 1 1) 1 (scs [⟨kind, a, b, key, va, vn, vc, la, ln', lc⟩]) (w5.alloc (.cells #[.int .i64 kind, .int .i64 a, .int .i64 b, .string key, .slice va vn vc, .slice la ln' lc] 38))) := src_st (alloc_new w5 _)
        have LN : Hid (k + 1 ≤ maxLen ∧ ((k + 1) + (k + 1) / 4 + 192) * 88 ≤ 281474976710656) := by unfold maxLen; exact ⟨by omega, by omega⟩
        clear HS BAD HC
        go_wp2_with
          (first
            | (at_builtin; refine wpList_append_all _ rfl (.tmp 36) (.tmp 38) 30 38 30 _ 6 88 rfl Tryd.underlying30c Tryd.info38c rfl w.heap.size (.slice p k c) k (scs L) rfl A6.out.1.row _ 1 (scs [⟨kind, a, b, key, va, vn, vc, la, ln', lc⟩]) rfl SR.out LN.out.1 LN.out.2 A6.out.1.kept.size ?_; intro p9 c9 w9 ho hg hn9)
            | fail)
        have N9 : Hid (PX w w9 p9 (k + 1) c9 (L ++ [⟨kind, a, b, key, va, vn, vc, la, ln', lc⟩]) (acc ++ [G])) := A6.out.1.more A6.out.2 ho.out hg.out
        clear ho hg hn9 A6 SR LN b0 b1 b2 b3 b4 b5 S5
        go_roundw
        case rel => exact ⟨t2, p9, k + 1, c9, L ++ [⟨kind, a, b, key, va, vn, vc, la, ln', lc⟩], acc ++ [G], rfl, rfl, N9.out, GOOD.out, by have := S0.out.2; have := HZ.out.1; omega⟩
        case measure => exact HZ.out.1
      · have r := BAD.out (.inr hq)
        subst r
        have eq1 : (LS.toList == ln.toList) = false := by rw [eq_bytesE]; exact decide_eq_false hq
        have eq2 : decide (LS = ln) = false := decide_eq_false hq
        subst hc
        clear HS BAD HC
        go_wp2_with fail
        go_ret3
        exact ⟨none, 0, 0, [], ([], k, 82), by first | rfl | simp, rfl, (PX.nil w).k0 S5.out.1.kept⟩
    · have r := BAD.out (.inl hc)
      subst r
      clear HS BAD HC
      go_wp2_with fail
      go_ret3
      exact ⟨none, 0, 0, [], ([], k, 82), by first | rfl | simp, rfl, (PX.nil w).k0 S5.out.1.kept⟩
end Go.Proofs.YtonfefhegghapaaDoor
