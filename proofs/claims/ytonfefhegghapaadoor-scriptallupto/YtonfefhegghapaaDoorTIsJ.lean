import Derived.Test.YtonfefhegghapaaDoorTNsJ
namespace Go.Proofs.YtonfefhegghapaaDoor
open Go.RowKit 

/-- Numbers that can be read. -/
structure IRd (w : World) (p : Option Addr) (n c : Nat) (zs : List Int) : Prop where
  len : zs.length = n
  room : n ≤ c
  small : c ≤ maxLen
  ki : ∀ z ∈ zs, KI z
  cells : 0 < n → ∃ b off, p = some ⟨b, off, none⟩ ∧ ∀ (i : Nat) (z : Int), zs[i]? = some z → w.cell? ⟨b, off + i, none⟩ = some (.int .i64 z)
theorem IRd.kept {w w' : World} {p : Option Addr} {n c : Nat} {zs : List Int} (h : IRd w p n c zs) (K : Kept (fun _ => False) w w') : IRd w' p n c zs := ⟨h.len, h.room, h.small, h.ki, fun h0 => by
  obtain ⟨b, off, e, hc⟩ := h.cells h0
  exact ⟨b, off, e, fun i z hz => K.cell (hc i z hz) (fun x => x)⟩⟩
theorem IRd.one {w : World} {nb : Nat} {z : Int} (h : w.heap[nb]? = some (.cells #[.int .i64 z] 3 (0, 0))) (k : KI z) : IRd w (some ⟨nb, 0, none⟩) 1 1 [z] := ⟨rfl, Nat.le_refl _, by unfold maxLen; omega, fun y hy => by simp at hy; rw [hy]; exact k, fun _ => ⟨nb, 0, rfl, fun i y hy => by
  have : i = 0 := by
    have := (List.getElem?_eq_some_iff.1 hy).1
    simp at this
    exact this
  subst this
  have e : y = z := by simpa using hy.symm
  rw [e]
  exact cell_blk h 0 rfl⟩⟩
theorem numL_take_len (zs : List Int) (i : Nat) (h : ∀ z ∈ zs, KI z) : (numL (zs.take i)).length ≤ 22 * zs.length := by
  have h2 := numL_len (zs.take i) (fun y hy => h y (List.mem_of_mem_take hy))
  rw [List.length_take] at h2
  omega
/-- Blocks that hold no bytes are kept. -/
def Oth (w w' : World) : Prop := Lib.OthersKept 5 none w w'
theorem Oth.refl (w : World) : Oth w w := Lib.OthersKept.refl _ _ _
theorem Oth.trans {a b c : World} (h : Oth a b) (k : Oth b c) : Oth a c := Lib.OthersKept.trans h k
theorem Oth.kept {a b c : World} (h : Oth a b) (K : Kept (fun _ => False) b c) : Oth a c := h.trans (fun _ _ ho _ _ => K.get ho (fun z => z))
theorem Oth.get {w w' : World} (h : Oth w w') {b : Nat} {cs : Array Value} {t : TypeId} (hb : w.heap[b]? = some (.cells cs t (0, 0))) (ht : t ≠ 5) : w'.heap[b]? = some (.cells cs t (0, 0)) := h b _ hb (by simp) (fun c fz z => by cases z; exact ht rfl)
theorem Oth.grown {w V w9 : World} (h : Oth w V) {b0 : Nat} {size k c : Nat} {p : Option Addr} {xs : List Value} (ho : V.ownsRow b0 5 size (.slice p k c) k xs) (hg : V.grownBy w9 (Value.slice p k c).ownBlock) : Oth w w9 := h.trans (fun q o hq _ ne => by
  have KG : Kept (fun j => blockOf p = some j) V w9 := (Kept.refl (fun j => blockOf p = some j) V).grown hg (fun j _ z => by rw [blockOf_own] at z; exact z)
  refine KG.get hq (fun z => ?_)
  obtain ⟨c2, e2⟩ := own_type ho q z
  rw [hq] at e2
  cases e2
  exact ne _ _ rfl)
/-- Where numbers lie in a row of type 3. -/
def I3 (w : World) (np : Option Addr) (n : Nat) : Prop := 0 < n → ∀ b, blockOf np = some b → ∃ cs, w.heap[b]? = some (.cells cs 3 (0, 0))
set_option maxRecDepth 100000 in
set_option maxHeartbeats 1000000 in
/-- appendNumbers; the numbers lie below, or in a row of type 3. -/
theorem hNumsG {w0 w : World} {p np : Option Addr} {k c n nc : Nat} {l : List UInt8} {zs : List Int} (T : TX w0 w p k c l) (tab : Lib.TabIs Tryd.prog w0 "internal/strconv.uint64pow10" .u64 Lib.pow10Tab) (R : IRd w np n nc zs) (B : I3 w np n) (hl : l.length + 22 * zs.length ≤ 4294967296) : Calls Tryd.prog 54 #[.slice p k c, .slice np n nc] w (RetT fun p' k' c' w' => TX w0 w' p' k' c' (l ++ numL zs) ∧ Oth w w') := by
  have H : Hid (Lib.TabIs Tryd.prog w0 "internal/strconv.uint64pow10" .u64 Lib.pow10Tab ∧ (∀ z ∈ zs, KI z) ∧ l.length + 22 * zs.length ≤ 4294967296) := ⟨tab, R.ki, hl⟩
  have hn : n ≤ 9223372036854775807 := by have h1 := R.room; have h2 := R.small; unfold maxLen at h2; omega
  by_cases h0 : n = 0
  · subst h0
    have e : zs = [] := List.eq_nil_of_length_eq_zero R.len
    subst e
    have F : Hid (TX w0 w p k c (l ++ numL []) ∧ Oth w w) := by
      refine ⟨?_, Oth.refl _⟩
      simpa [numL] using T
    clear T tab R B H
    go_enter Tryd.func54, Tryd.ntmps54
    go_wp2_with fail
    go_loopw [0, 6, 9] (fun u0 _ u9 wr => u0 = .slice p k c ∧ u9 = .int .i64 0 ∧ wr = w) (fun _ _ _ _ => 0)
    case atStart => exact ⟨rfl, rfl, rfl⟩
    case round =>
      obtain ⟨rfl, rfl, hw⟩ := hrel
      subst hw
      go_wp2_with fail
      go_ret
      exact ⟨p, k, c, by first | rfl | simp, F.out⟩
  obtain ⟨nb, off, rfl, hc⟩ := R.cells (by omega)
  obtain ⟨bs, hb⟩ := B (by omega) nb rfl
  have HN : Hid (n = zs.length) := R.len.symm
  have CS : Hid (∀ (i : Nat) (z : Int), zs[i]? = some z → bs[off + i]? = some (.int .i64 z)) := fun i z hz => by
    have q := hc i z hz
    unfold World.cell? at q
    rw [hb] at q
    simpa using q
  have S0 : Hid (TX w0 w p k c (l ++ numL (zs.take 0)) ∧ w.heap[nb]? = some (.cells bs 3 (0, 0)) ∧ Oth w w) := ⟨by simpa [numL] using T, hb, Oth.refl _⟩
  clear T tab R B hb hc
  go_enter Tryd.func54, Tryd.ntmps54
  go_wp2_with fail
  go_loopw [0, 6, 9] (fun u0 _ u9 wr => ∃ (i : Nat) (p : Option Addr) (k c : Nat), u0 = .slice p k c ∧ u9 = .int .i64 (i : Int) ∧ i ≤ n ∧ Hid (TX w0 wr p k c (l ++ numL (zs.take i)) ∧ wr.heap[nb]? = some (.cells bs 3 (0, 0)) ∧ Oth w wr)) (fun _ _ u9 _ => n - (intOf u9).toNat)
  case atStart => exact ⟨0, p, k, c, rfl, rfl, Nat.zero_le _, S0⟩
  case round =>
    clear S0
    obtain ⟨i, p, k, c, rfl, rfl, hi, S⟩ := hrel
    obtain ⟨wo, hwo⟩ : ∃ wo, wo = wr := ⟨_, rfl⟩
    rw [← hwo] at S ⊢
    clear hwo
    by_cases hlt : i < n
    · have i1 : (i : Int) < (n : Int) := by omega
      obtain ⟨z, hz1⟩ : ∃ z, zs[i]? = some z := ⟨_, List.getElem?_eq_getElem (by rw [← HN.out]; exact hlt)⟩
      have ZI : Hid (zs[i]? = some z) := hz1
      have zk := H.out.2.1 z (List.mem_of_getElem? hz1)
      have ZK : Hid (KI z) := zk
      have c0 := cell_blk S.out.2.1 (off + i) (v := .int .i64 z) (CS.out i z hz1)
      have kl : Hid (k ≤ 4294967296) := by
        have h1 := S.out.1.len
        have h2 := numL_take_len zs i H.out.2.1
        have h4 := H.out.2.2
        rw [List.length_append] at h1
        show k ≤ 4294967296
        omega
      clear hz1 zk
      have A1 : Hid (TX w0 (wo.alloc (.cells #[.int .u8 32] 5)) p k c (l ++ numL (zs.take i)) ∧ (wo.alloc (.cells #[.int .u8 32] 5)).heap[nb]? = some (.cells bs 3 (0, 0)) ∧ Oth w (wo.alloc (.cells #[.int .u8 32] 5))) := ⟨S.out.1.k0 ((Kept.refl _ _).alloc _), alloc_old _ S.out.2.1, S.out.2.2.kept ((Kept.refl _ _).alloc _)⟩
      have SR : Hid (Src Tryd.prog 1 35 (.slice (some ⟨wo.heap.size, 0, none⟩) 1 1) 1 (Lib.byteCells [32]) (wo.alloc (.cells #[.int .u8 32] 5))) := src_byte wo 32 (by omega)
      have LN : Hid (k + 1 ≤ maxLen ∧ ((k + 1) + (k + 1) / 4 + 192) * 1 ≤ 281474976710656) := by have := kl.out; unfold maxLen; exact ⟨by omega, by omega⟩
      go_wp2_with
        (first
          | (at_builtin; refine wpList_append_all _ rfl (.tmp 13) (.tmp 14) 35 5 35 _ 1 1 rfl Tryd.underlying35 Tryd.info5 rfl w0.heap.size (.slice p k c) k (Lib.byteCells (l ++ numL (zs.take i))) rfl A1.out.1.row _ 1 (Lib.byteCells [32]) rfl SR.out LN.out.1 LN.out.2 A1.out.1.kept.size ?_; intro p9 c9 w9 ho hg hn9)
          | fail)
      have B9 : Hid (TX w0 w9 p9 (k + 1) c9 (l ++ numL (zs.take i) ++ [32]) ∧ w9.heap[nb]? = some (.cells bs 3 (0, 0)) ∧ Oth w w9) := ⟨A1.out.1.more (x := [32]) rfl ho.out hg.out, grown_keep A1.out.1.row hg.out (by decide) A1.out.2.1, A1.out.2.2.grown A1.out.1.row hg.out⟩
      have CA : Hid (Calls Tryd.prog 62 #[.slice p9 (k + 1) c9, .int .i64 z, .int .i64 10] w9 fun e w' => ∃ v', e = .returned v' ∧ w'.ownsRow w0.heap.size 5 1 v' (k + 1 + (Lib.itoa z).length) (Lib.byteCells (l ++ numL (zs.take i) ++ [32]) ++ Lib.byteCells (Lib.itoa z)) ∧ Below w0.heap.size w9 w' ∧ Lib.OthersKept 5 none w9 w') := Tryd.strconv_AppendInt_10 w0.heap.size (k + 1) z ZK.out.1 ZK.out.2 _ _ w9 B9.out.1.row B9.out.1.kept.size (by have := kl.out; omega) ((Lib.tabBelow_of_tabIs H.out.1).on (below_kept B9.out.1.kept))
      clear ho hg hn9 A1 SR LN c0
      refine CA.out.mono ?_
      rintro o w10 ⟨v', rfl, ro, bel, ok⟩
      obtain ⟨q, cq, hv⟩ : ∃ q cq, v' = .slice q (k + 1 + (Lib.itoa z).length) cq := by
        rcases ro.2 with ⟨e0, e1⟩ | ⟨g, cap, cur, e0, _⟩
        · exact ⟨none, 0, by rw [e0, e1]⟩
        · exact ⟨_, _, e0⟩
      subst hv
      have NX : Hid (TX w0 w10 q (k + 1 + (Lib.itoa z).length) cq (l ++ numL (zs.take (i + 1))) ∧ w10.heap[nb]? = some (.cells bs 3 (0, 0)) ∧ Oth w w10) := by
        have e1 : zs.take (i + 1) = zs.take i ++ [z] := by
          rw [List.take_add_one, ZI.out]
          rfl
        have e2 : l ++ numL (zs.take (i + 1)) = (l ++ numL (zs.take i) ++ [32]) ++ Lib.itoa z := by
          rw [e1, numL_snoc]
          simp
        refine ⟨⟨?_, ?_, ?_⟩, ?_, B9.out.2.2.trans ok⟩
        · rw [e2, List.length_append, ← B9.out.1.len]
        · rw [e2, Lib.byteCells_append]
          exact ro
        · exact kept_below ((below_kept B9.out.1.kept).trans bel)
        · exact ok _ _ B9.out.2.1 (by simp) (by simp)
      obtain ⟨kk, hkk⟩ : ∃ kk, kk = k + 1 + (Lib.itoa z).length := ⟨_, rfl⟩
      rw [← hkk] at NX ⊢
      clear hkk ro bel ok CA B9 S
      go_wp2_with fail
      go_roundw
      case rel => exact ⟨i + 1, q, kk, cq, rfl, by go_num, by omega, NX⟩
      case measure => simp [intOf] <;> omega
    · have i1 : ¬ (i : Int) < (n : Int) := by omega
      have F : Hid (TX w0 wo p k c (l ++ numL zs) ∧ Oth w wo) := by
        have q := S.out.1
        rw [List.take_of_length_le (by rw [← HN.out]; omega)] at q
        exact ⟨q, S.out.2.2⟩
      clear S
      go_wp2_with fail
      go_ret
      exact ⟨p, k, c, by first | rfl | simp, F.out⟩
set_option maxRecDepth 100000 in
set_option maxHeartbeats 1000000 in
/-- appendNumbers; the numbers lie below. -/
theorem hNumsB {w0 w : World} {p np : Option Addr} {k c n nc : Nat} {l : List UInt8} {zs : List Int} (T : TX w0 w p k c l) (tab : Lib.TabIs Tryd.prog w0 "internal/strconv.uint64pow10" .u64 Lib.pow10Tab) (R : IRd w0 np n nc zs) (hl : l.length + 22 * zs.length ≤ 4294967296) : Calls Tryd.prog 54 #[.slice p k c, .slice np n nc] w (RetT fun p' k' c' w' => TX w0 w' p' k' c' (l ++ numL zs) ∧ Oth w w') := by
  have H : Hid (Lib.TabIs Tryd.prog w0 "internal/strconv.uint64pow10" .u64 Lib.pow10Tab ∧ (∀ z ∈ zs, KI z) ∧ l.length + 22 * zs.length ≤ 4294967296) := ⟨tab, R.ki, hl⟩
  have hn : n ≤ 9223372036854775807 := by have h1 := R.room; have h2 := R.small; unfold maxLen at h2; omega
  by_cases h0 : n = 0
  · subst h0
    have e : zs = [] := List.eq_nil_of_length_eq_zero R.len
    subst e
    have F : Hid (TX w0 w p k c (l ++ numL []) ∧ Oth w w) := by
      refine ⟨?_, Oth.refl _⟩
      simpa [numL] using T
    clear T tab R H
    go_enter Tryd.func54, Tryd.ntmps54
    go_wp2_with fail
    go_loopw [0, 6, 9] (fun u0 _ u9 wr => u0 = .slice p k c ∧ u9 = .int .i64 0 ∧ wr = w) (fun _ _ _ _ => 0)
    case atStart => exact ⟨rfl, rfl, rfl⟩
    case round =>
      obtain ⟨rfl, rfl, hw⟩ := hrel
      subst hw
      go_wp2_with fail
      go_ret
      exact ⟨p, k, c, by first | rfl | simp, F.out⟩
  obtain ⟨nb, off, rfl, hc⟩ := R.cells (by omega)
  have HN : Hid (n = zs.length) := R.len.symm
  have CS : Hid (∀ (i : Nat) (z : Int), zs[i]? = some z → w0.cell? ⟨nb, off + i, none⟩ = some (.int .i64 z)) := hc
  have S0 : Hid (TX w0 w p k c (l ++ numL (zs.take 0)) ∧ Oth w w) := ⟨by simpa [numL] using T, Oth.refl _⟩
  clear T tab R hc
  go_enter Tryd.func54, Tryd.ntmps54
  go_wp2_with fail
  go_loopw [0, 6, 9] (fun u0 _ u9 wr => ∃ (i : Nat) (p : Option Addr) (k c : Nat), u0 = .slice p k c ∧ u9 = .int .i64 (i : Int) ∧ i ≤ n ∧ Hid (TX w0 wr p k c (l ++ numL (zs.take i)) ∧ Oth w wr)) (fun _ _ u9 _ => n - (intOf u9).toNat)
  case atStart => exact ⟨0, p, k, c, rfl, rfl, Nat.zero_le _, S0⟩
  case round =>
    clear S0
    obtain ⟨i, p, k, c, rfl, rfl, hi, S⟩ := hrel
    obtain ⟨wo, hwo⟩ : ∃ wo, wo = wr := ⟨_, rfl⟩
    rw [← hwo] at S ⊢
    clear hwo
    by_cases hlt : i < n
    · have i1 : (i : Int) < (n : Int) := by omega
      obtain ⟨z, hz1⟩ : ∃ z, zs[i]? = some z := ⟨_, List.getElem?_eq_getElem (by rw [← HN.out]; exact hlt)⟩
      have ZI : Hid (zs[i]? = some z) := hz1
      have zk := H.out.2.1 z (List.mem_of_getElem? hz1)
      have ZK : Hid (KI z) := zk
      have c0 := S.out.1.kept.cell (CS.out i z hz1) (fun q => q)
      have kl : Hid (k ≤ 4294967296) := by
        have h1 := S.out.1.len
        have h2 := numL_take_len zs i H.out.2.1
        have h4 := H.out.2.2
        rw [List.length_append] at h1
        show k ≤ 4294967296
        omega
      clear hz1 zk
      have A1 : Hid (TX w0 (wo.alloc (.cells #[.int .u8 32] 5)) p k c (l ++ numL (zs.take i)) ∧ Oth w (wo.alloc (.cells #[.int .u8 32] 5))) := ⟨S.out.1.k0 ((Kept.refl _ _).alloc _), S.out.2.kept ((Kept.refl _ _).alloc _)⟩
      have SR : Hid (Src Tryd.prog 1 35 (.slice (some ⟨wo.heap.size, 0, none⟩) 1 1) 1 (Lib.byteCells [32]) (wo.alloc (.cells #[.int .u8 32] 5))) := src_byte wo 32 (by omega)
      have LN : Hid (k + 1 ≤ maxLen ∧ ((k + 1) + (k + 1) / 4 + 192) * 1 ≤ 281474976710656) := by have := kl.out; unfold maxLen; exact ⟨by omega, by omega⟩
      go_wp2_with
        (first
          | (at_builtin; refine wpList_append_all _ rfl (.tmp 13) (.tmp 14) 35 5 35 _ 1 1 rfl Tryd.underlying35 Tryd.info5 rfl w0.heap.size (.slice p k c) k (Lib.byteCells (l ++ numL (zs.take i))) rfl A1.out.1.row _ 1 (Lib.byteCells [32]) rfl SR.out LN.out.1 LN.out.2 A1.out.1.kept.size ?_; intro p9 c9 w9 ho hg hn9)
          | fail)
      have B9 : Hid (TX w0 w9 p9 (k + 1) c9 (l ++ numL (zs.take i) ++ [32]) ∧ Oth w w9) := ⟨A1.out.1.more (x := [32]) rfl ho.out hg.out, A1.out.2.grown A1.out.1.row hg.out⟩
      have CA : Hid (Calls Tryd.prog 62 #[.slice p9 (k + 1) c9, .int .i64 z, .int .i64 10] w9 fun e w' => ∃ v', e = .returned v' ∧ w'.ownsRow w0.heap.size 5 1 v' (k + 1 + (Lib.itoa z).length) (Lib.byteCells (l ++ numL (zs.take i) ++ [32]) ++ Lib.byteCells (Lib.itoa z)) ∧ Below w0.heap.size w9 w' ∧ Lib.OthersKept 5 none w9 w') := Tryd.strconv_AppendInt_10 w0.heap.size (k + 1) z ZK.out.1 ZK.out.2 _ _ w9 B9.out.1.row B9.out.1.kept.size (by have := kl.out; omega) ((Lib.tabBelow_of_tabIs H.out.1).on (below_kept B9.out.1.kept))
      clear ho hg hn9 A1 SR LN c0
      refine CA.out.mono ?_
      rintro o w10 ⟨v', rfl, ro, bel, ok⟩
      obtain ⟨q, cq, hv⟩ : ∃ q cq, v' = .slice q (k + 1 + (Lib.itoa z).length) cq := by
        rcases ro.2 with ⟨e0, e1⟩ | ⟨g, cap, cur, e0, _⟩
        · exact ⟨none, 0, by rw [e0, e1]⟩
        · exact ⟨_, _, e0⟩
      subst hv
      have NX : Hid (TX w0 w10 q (k + 1 + (Lib.itoa z).length) cq (l ++ numL (zs.take (i + 1))) ∧ Oth w w10) := by
        have e1 : zs.take (i + 1) = zs.take i ++ [z] := by
          rw [List.take_add_one, ZI.out]
          rfl
        have e2 : l ++ numL (zs.take (i + 1)) = (l ++ numL (zs.take i) ++ [32]) ++ Lib.itoa z := by
          rw [e1, numL_snoc]
          simp
        refine ⟨⟨?_, ?_, ?_⟩, B9.out.2.trans ok⟩
        · rw [e2, List.length_append, ← B9.out.1.len]
        · rw [e2, Lib.byteCells_append]
          exact ro
        · exact kept_below ((below_kept B9.out.1.kept).trans bel)
      obtain ⟨kk, hkk⟩ : ∃ kk, kk = k + 1 + (Lib.itoa z).length := ⟨_, rfl⟩
      rw [← hkk] at NX ⊢
      clear hkk ro bel ok CA B9 S
      go_wp2_with fail
      go_roundw
      case rel => exact ⟨i + 1, q, kk, cq, rfl, by go_num, by omega, NX⟩
      case measure => simp [intOf] <;> omega
    · have i1 : ¬ (i : Int) < (n : Int) := by omega
      have F : Hid (TX w0 wo p k c (l ++ numL zs) ∧ Oth w wo) := by
        have q := S.out.1
        rw [List.take_of_length_le (by rw [← HN.out]; omega)] at q
        exact ⟨q, S.out.2⟩
      clear S
      go_wp2_with fail
      go_ret
      exact ⟨p, k, c, by first | rfl | simp, F.out⟩
end Go.Proofs.YtonfefhegghapaaDoor

namespace Go.Proofs.YtonfefhegghapaaDoor
open Go.RowKit 

def isPat : List Int → Bool
  | [z] => decide (0 ≤ z) && decide (z ≤ 4294967295)
  | _ => false
set_option maxRecDepth 100000 in
set_option maxHeartbeats 1000000 in
theorem hPat {w : World} {p : Option Addr} {n c : Nat} {zs : List Int} (R : IRd w p n c zs) : Calls Tryd.prog 33 #[.slice p n c] w fun o w' => o = .returned (.bool (isPat zs)) ∧ w' = w := by
  have hn : n ≤ 9223372036854775807 := by have h1 := R.room; have h2 := R.small; unfold maxLen at h2; omega
  obtain ⟨x, hx⟩ : ∃ x, isPat zs = x := ⟨_, rfl⟩
  rw [hx]
  by_cases h1 : n = 1
  · subst h1
    obtain ⟨z, rfl⟩ := List.length_eq_one_iff.1 R.len
    obtain ⟨b, off, rfl, hc⟩ := R.cells (by omega)
    have c0 := hc 0 z rfl
    rw [Nat.add_zero] at c0
    have zk := R.ki z (by simp)
    have z1 := zk.1
    have z2 := zk.2
    have hx : (decide (0 ≤ z) && decide (z ≤ 4294967295)) = x := hx
    clear R hc zk
    by_cases a : 0 ≤ z
    · by_cases b : z ≤ 4294967295
      · rw [decide_eq_true a, decide_eq_true b] at hx
        subst hx
        go_enter Tryd.func33, Tryd.ntmps33
        go_wp2_with fail
        go_ret
        exact ⟨by first | rfl | simp, rfl⟩
      · rw [decide_eq_true a, decide_eq_false b] at hx
        subst hx
        go_enter Tryd.func33, Tryd.ntmps33
        go_wp2_with fail
        go_ret
        exact ⟨by first | rfl | simp, rfl⟩
    · rw [decide_eq_false a] at hx
      subst hx
      go_enter Tryd.func33, Tryd.ntmps33
      go_wp2_with fail
      go_ret
      exact ⟨by first | rfl | simp, rfl⟩
  · have e : x = false := by
      rw [← hx]
      rcases zs with _ | ⟨z, _ | ⟨y, r⟩⟩
      · rfl
      · have := R.len
        simp at this
        omega
      · rfl
    subst e
    have n1 : ¬ (n : Int) = 1 := by omega
    clear R hx h1
    go_enter Tryd.func33, Tryd.ntmps33
    go_wp2_with fail
    go_ret
    exact ⟨by first | rfl | simp, rfl⟩
end Go.Proofs.YtonfefhegghapaaDoor
