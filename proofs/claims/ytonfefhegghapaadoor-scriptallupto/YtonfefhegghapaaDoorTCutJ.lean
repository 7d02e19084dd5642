import Derived.Test.YtonfefhegghapaaDoorSDec
import Derived.Lib.AppendIntMem
import Derived.Lib.MapLaws
import Derived.Lib.DecodeN
namespace Go.Proofs.YtonfefhegghapaaDoor
open Go.RowKit 

theorem grown_keep {V w9 : World} {b0 : Nat} {t t' : TypeId} {size k c : Nat} {p : Option Addr} {xs : List Value} (ho : V.ownsRow b0 t size (.slice p k c) k xs) (hg : V.grownBy w9 (Value.slice p k c).ownBlock) (hne : t' ≠ t) {q : Nat} {cs : Array Value} (hq : V.heap[q]? = some (.cells cs t' (0, 0))) : w9.heap[q]? = some (.cells cs t' (0, 0)) := by
  have KG : Kept (fun j => blockOf p = some j) V w9 := (Kept.refl (fun j => blockOf p = some j) V).grown hg (fun j _ z => by rw [blockOf_own] at z; exact z)
  refine KG.get hq (fun z => ?_)
  obtain ⟨c2, e2⟩ := own_type ho q z
  rw [hq] at e2
  simp at e2
  exact hne e2.2
/-- A text that grows, in a row of one's own. -/
structure TX (w0 wr : World) (p : Option Addr) (k c : Nat) (l : List UInt8) : Prop where
  len : k = l.length
  row : wr.ownsRow w0.heap.size 5 1 (.slice p k c) k (Lib.byteCells l)
  kept : Kept (fun _ => False) w0 wr
theorem TX.k0 {w0 wr W : World} {p : Option Addr} {k c : Nat} {l : List UInt8} (h : TX w0 wr p k c l) (K : Kept (fun _ => False) wr W) : TX w0 W p k c l := ⟨h.len, K.owns h.row (fun _ _ z => z), h.kept.trans K (fun _ _ z => z)⟩
theorem TX.nil (w : World) : TX w w none 0 0 [] := ⟨rfl, ⟨rfl, .inl ⟨rfl, rfl⟩⟩, Kept.refl _ _⟩
theorem TX.more {w0 wr w9 : World} {p p9 : Option Addr} {k m c c9 : Nat} {l x : List UInt8} (h : TX w0 wr p k c l) (hm : m = x.length) (ho : w9.ownsRow w0.heap.size 5 1 (.slice p9 (k + m) c9) (k + m) (Lib.byteCells l ++ Lib.byteCells x)) (hg : wr.grownBy w9 (Value.slice p k c).ownBlock) : TX w0 w9 p9 (k + m) c9 (l ++ x) := by
  have KG : Kept (fun j => blockOf p = some j) wr w9 := (Kept.refl (fun j => blockOf p = some j) wr).grown hg (fun j _ z => by rw [blockOf_own] at z; exact z)
  exact ⟨by rw [List.length_append, h.len, hm], by rw [Lib.byteCells_append]; exact ho, h.kept.trans KG (fun j hj z => by have := (own_lt h.row j z).1; omega)⟩
theorem byteCells_of (l : List UInt8) : Lib.byteCells l = cellsOf (l.map (·.toNat)) := by
  unfold Lib.byteCells cellsOf
  rw [List.map_map]
  rfl
theorem bytes_back : ∀ l : List UInt8, (l.map (·.toNat)).map UInt8.ofNat = l
  | [] => rfl
  | x :: r => by
    rw [List.map_cons, List.map_cons, bytes_back r]
    congr 1
    exact UInt8.ofNat_toNat
/-- The text as a string. -/
theorem TX.string {w0 wr : World} {p : Option Addr} {k c : Nat} {l : List UInt8} (h : TX w0 wr p k c l) : (convert 35 9 (.slice p k c)).run Tryd.prog wr = .ok (.string (ofL l)) wr := by
  have o := h.row
  rw [byteCells_of] at o
  obtain ⟨a, cap, e, r, _⟩ := owns_reads o (fun x hx => by obtain ⟨y, _, rfl⟩ := List.mem_map.1 hx; exact y.toNat_lt)
  simp at e
  obtain ⟨rfl, rfl⟩ := e
  have q := r.string
  have e2 : str (l.map (·.toNat)) = ofL l := by
    unfold str ofL
    rw [bytes_back]
  rw [e2] at q
  exact q
/-- Numbers, each with a blank ahead. -/
def numL (zs : List Int) : List UInt8 := zs.flatMap fun z => 32 :: Lib.itoa z
theorem numL_snoc (zs : List Int) (z : Int) : numL (zs ++ [z]) = numL zs ++ (32 :: Lib.itoa z) := by
  unfold numL
  rw [List.flatMap_append]
  simp
theorem numL_len (zs : List Int) (h : ∀ z ∈ zs, KI z) : (numL zs).length ≤ 22 * zs.length := by
  induction zs with
  | nil => simp [numL]
  | cons z r ih =>
    have e : numL (z :: r) = (32 :: Lib.itoa z) ++ numL r := by unfold numL; simp
    have h1 := Lib.itoa_length_le z (h z (by simp)).1 (h z (by simp)).2
    have h2 := ih (fun y hy => h y (by simp [hy]))
    rw [e, List.length_append, List.length_cons, List.length_cons]
    omega
def RetT (Q : Option Addr → Nat → Nat → World → Prop) (o : Ending) (w : World) : Prop := ∃ (p : Option Addr) (k c : Nat), o = .returned (.slice p k c) ∧ Q p k c w
set_option maxRecDepth 100000 in
set_option maxHeartbeats 1000000 in
theorem hNums {w0 w : World} {p : Option Addr} {k c : Nat} {l : List UInt8} (T : TX w0 w p k c l) (tab : Lib.TabIs Tryd.prog w0 "internal/strconv.uint64pow10" .u64 Lib.pow10Tab) {nb : Nat} {zs : List Int} (hb : w.heap[nb]? = some (.cells (zs.map fun z => Value.int .i64 z).toArray 3 (0, 0))) (hz : zs.length ≤ 10) (ki : ∀ z ∈ zs, KI z) (hl : l.length ≤ 1000) : Calls Tryd.prog 54 #[.slice p k c, .slice (some ⟨nb, 0, none⟩) zs.length zs.length] w (RetT fun p' k' c' w' => TX w0 w' p' k' c' (l ++ numL zs)) := by
  have H : Hid (Lib.TabIs Tryd.prog w0 "internal/strconv.uint64pow10" .u64 Lib.pow10Tab ∧ zs.length ≤ 10 ∧ (∀ z ∈ zs, KI z) ∧ l.length ≤ 1000) := ⟨tab, hz, ki, hl⟩
  have S0 : Hid (TX w0 w p k c (l ++ numL (zs.take 0)) ∧ w.heap[nb]? = some (.cells (zs.map fun z => Value.int .i64 z).toArray 3 (0, 0))) := ⟨by simpa [numL] using T, hb⟩
  clear T tab hb ki
  obtain ⟨n, hn⟩ : ∃ n, n = zs.length := ⟨_, rfl⟩
  rw [← hn] at hz ⊢
  have HN : Hid (n = zs.length) := hn
  clear hn
  go_enter Tryd.func54, Tryd.ntmps54
  go_wp2_with fail
  go_loopw [0, 6, 9] (fun u0 _ u9 wr => ∃ (i : Nat) (p : Option Addr) (k c : Nat), u0 = .slice p k c ∧ u9 = .int .i64 (i : Int) ∧ i ≤ n ∧ Hid (TX w0 wr p k c (l ++ numL (zs.take i)) ∧ wr.heap[nb]? = some (.cells (zs.map fun z => Value.int .i64 z).toArray 3 (0, 0)))) (fun _ _ u9 _ => n - (intOf u9).toNat)
  case atStart => exact ⟨0, p, k, c, rfl, rfl, Nat.zero_le _, S0⟩
  case round =>
    clear S0
    obtain ⟨i, p, k, c, rfl, rfl, hi, S⟩ := hrel
    obtain ⟨wo, hwo⟩ : ∃ wo, wo = wr := ⟨_, rfl⟩
    rw [← hwo] at S ⊢
    clear hwo
    by_cases hlt : i < n
    · have i1 : (i : Int) < (n : Int) := by omega
      obtain ⟨z, hz1⟩ : ∃ z, zs[i]? = some z := ⟨_, List.getElem?_eq_getElem (by rw [← HN.out]; exact hlt)⟩
      have ZI : Hid (zs[i]? = some z) := hz1
      have zk := H.out.2.2.1 z (List.mem_of_getElem? hz1)
      have ZK : Hid (KI z) := zk
      have c0 := cell_blk S.out.2 i (v := .int .i64 z) (by rw [List.getElem?_toArray, List.getElem?_map, hz1]; rfl)
      have kl : Hid (k ≤ 1220) := by
        have h1 := S.out.1.len
        have h2 := numL_len (zs.take i) (fun y hy => H.out.2.2.1 y (List.mem_of_mem_take hy))
        have h3 := H.out.2.1
        have h4 := H.out.2.2.2
        rw [List.length_append] at h1
        rw [List.length_take] at h2
        show k ≤ 1220
        omega
      clear hz1 zk
      have A1 : Hid (TX w0 (wo.alloc (.cells #[.int .u8 32] 5)) p k c (l ++ numL (zs.take i)) ∧ (wo.alloc (.cells #[.int .u8 32] 5)).heap[nb]? = some (.cells (zs.map fun z => Value.int .i64 z).toArray 3 (0, 0))) := ⟨S.out.1.k0 ((Kept.refl _ _).alloc _), alloc_old _ S.out.2⟩
      have SR : Hid (Src Tryd.prog 1 35 (.slice (some ⟨wo.heap.size, 0, none⟩) 1 1) 1 (Lib.byteCells [32]) (wo.alloc (.cells #[.int .u8 32] 5))) := src_byte wo 32 (by omega)
      have LN : Hid (k + 1 ≤ maxLen ∧ ((k + 1) + (k + 1) / 4 + 192) * 1 ≤ 281474976710656) := by have := kl.out; unfold maxLen; exact ⟨by omega, by omega⟩
      go_wp2_with
        (first
          | (at_builtin; refine wpList_append_all _ rfl (.tmp 13) (.tmp 14) 35 5 35 _ 1 1 rfl Tryd.underlying35 Tryd.info5 rfl w0.heap.size (.slice p k c) k (Lib.byteCells (l ++ numL (zs.take i))) rfl A1.out.1.row _ 1 (Lib.byteCells [32]) rfl SR.out LN.out.1 LN.out.2 A1.out.1.kept.size ?_; intro p9 c9 w9 ho hg hn9)
          | fail)
      have B9 : Hid (TX w0 w9 p9 (k + 1) c9 (l ++ numL (zs.take i) ++ [32]) ∧ w9.heap[nb]? = some (.cells (zs.map fun z => Value.int .i64 z).toArray 3 (0, 0))) := ⟨A1.out.1.more (x := [32]) rfl ho.out hg.out, grown_keep A1.out.1.row hg.out (by decide) A1.out.2⟩
      have CA : Hid (Calls Tryd.prog 62 #[.slice p9 (k + 1) c9, .int .i64 z, .int .i64 10] w9 fun e w' => ∃ v', e = .returned v' ∧ w'.ownsRow w0.heap.size 5 1 v' (k + 1 + (Lib.itoa z).length) (Lib.byteCells (l ++ numL (zs.take i) ++ [32]) ++ Lib.byteCells (Lib.itoa z)) ∧ Below w0.heap.size w9 w' ∧ Lib.OthersKept 5 none w9 w') := Tryd.strconv_AppendInt_10 w0.heap.size (k + 1) z ZK.out.1 ZK.out.2 _ _ w9 B9.out.1.row B9.out.1.kept.size (by have := kl.out; omega) ((Lib.tabBelow_of_tabIs H.out.1).on (below_kept B9.out.1.kept))
      clear ho hg hn9 A1 SR LN c0
      refine CA.out.mono ?_
      rintro o w10 ⟨v', rfl, ro, bel, ok⟩
      obtain ⟨q, cq, hv⟩ : ∃ q cq, v' = .slice q (k + 1 + (Lib.itoa z).length) cq := by
        rcases ro.2 with ⟨e0, e1⟩ | ⟨g, cap, cur, e0, _⟩
        · exact ⟨none, 0, by rw [e0, e1]⟩
        · exact ⟨_, _, e0⟩
      subst hv
      have NX : Hid (TX w0 w10 q (k + 1 + (Lib.itoa z).length) cq (l ++ numL (zs.take (i + 1))) ∧ w10.heap[nb]? = some (.cells (zs.map fun z => Value.int .i64 z).toArray 3 (0, 0))) := by
        have e1 : zs.take (i + 1) = zs.take i ++ [z] := by
          rw [List.take_add_one, ZI.out]
          rfl
        have e2 : l ++ numL (zs.take (i + 1)) = (l ++ numL (zs.take i) ++ [32]) ++ Lib.itoa z := by
          rw [e1, numL_snoc]
          simp
        refine ⟨⟨?_, ?_, ?_⟩, ?_⟩
        · rw [e2, List.length_append, ← B9.out.1.len]
        · rw [e2, Lib.byteCells_append]
          exact ro
        · exact kept_below ((below_kept B9.out.1.kept).trans bel)
        · exact ok _ _ B9.out.2 (by simp) (by simp)
      obtain ⟨kk, hkk⟩ : ∃ kk, kk = k + 1 + (Lib.itoa z).length := ⟨_, rfl⟩
      rw [← hkk] at NX ⊢
      clear hkk ro bel ok CA B9 S
      go_wp2_with fail
      go_roundw
      case rel => exact ⟨i + 1, q, kk, cq, rfl, by go_num, by omega, NX⟩
      case measure => simp [intOf] <;> omega
    · have i1 : ¬ (i : Int) < (n : Int) := by omega
      have F : Hid (TX w0 wo p k c (l ++ numL zs)) := by
        have q := S.out.1
        rw [List.take_of_length_le (by rw [← HN.out]; omega)] at q
        exact q
      clear S
      go_wp2_with fail
      go_ret
      exact ⟨p, k, c, by first | rfl | simp, F.out⟩
end Go.Proofs.YtonfefhegghapaaDoor

namespace Go.Proofs.YtonfefhegghapaaDoor
open Go.RowKit 

theorem get_bang (s : ByteArray) (j : Nat) (h : j < s.size) : s.data.toList[j]? = some (s.get! j) := by
  rw [get_list s j h]
  congr 1
  simp [ByteArray.get!, getElem!_pos, h]
  rfl
/-- What a rune takes: its other bytes are none of ASCII's. -/
theorem decode_tail (s : ByteArray) (pos : Nat) (h : pos < s.size) : pos + (Utf8.decode s pos).2 ≤ s.size ∧ ∀ j, pos < j → j < pos + (Utf8.decode s pos).2 → 128 ≤ (s.get! j).toNat := by
  rw [Lib.decode_at]
  rcases Lib.decodeN_shape (s.size - pos) (s.get! pos).toNat (s.get! (pos + 1)).toNat (s.get! (pos + 2)).toNat (s.get! (pos + 3)).toNat with ⟨_, e⟩ | ⟨_, h1, h2, _, e⟩ | ⟨_, h1, h2, h3, _, _, e⟩ | ⟨_, h1, h2, h3, h4, _, _, e⟩ | e
  · rw [e]
    exact ⟨by show pos + 1 ≤ _; omega, fun j a b => absurd b (by show ¬ j < pos + 1; omega)⟩
  · rw [e]
    refine ⟨by show pos + 2 ≤ _; omega, fun j a b => ?_⟩
    have b : j < pos + 2 := b
    have : j = pos + 1 := by omega
    rw [this]
    omega
  · rw [e]
    refine ⟨by show pos + 3 ≤ _; omega, fun j a b => ?_⟩
    have b : j < pos + 3 := b
    have : j = pos + 1 ∨ j = pos + 2 := by omega
    rcases this with e | e <;> rw [e] <;> omega
  · rw [e]
    refine ⟨by show pos + 4 ≤ _; omega, fun j a b => ?_⟩
    have b : j < pos + 4 := b
    have : j = pos + 1 ∨ j = pos + 2 ∨ j = pos + 3 := by omega
    rcases this with e | e | e <;> rw [e] <;> omega
  · rw [e]
    exact ⟨by show pos + 1 ≤ _; omega, fun j a b => absurd b (by show ¬ j < pos + 1; omega)⟩
/-- What stands ahead of the first end, and what stands behind. -/
def cutE (e : UInt8) : List UInt8 → List UInt8 × List UInt8
  | [] => ([], [])
  | c :: r => if c = e then ([], r) else (c :: (cutE e r).1, (cutE e r).2)
theorem cutE_at (e : UInt8) : ∀ (l : List UInt8) (i : Nat), l[i]? = some e → (∀ j, j < i → l[j]? ≠ some e) → cutE e l = (l.take i, l.drop (i + 1))
  | [], i, h, _ => by simp at h
  | c :: r, 0, h, _ => by
    have : c = e := by simpa using h
    unfold cutE
    rw [if_pos this]
    rfl
  | c :: r, i + 1, h, hj => by
    have hc : ¬ c = e := fun z => hj 0 (by omega) (by rw [z]; rfl)
    unfold cutE
    rw [if_neg hc, cutE_at e r i (by simpa using h) (fun j hl => by have := hj (j + 1) (by omega); simpa using this)]
    rfl
theorem cutE_none (e : UInt8) : ∀ (l : List UInt8), (∀ j, j < l.length → l[j]? ≠ some e) → cutE e l = (l, [])
  | [], _ => rfl
  | c :: r, hj => by
    have hc : ¬ c = e := fun z => hj 0 (by simp) (by rw [z]; rfl)
    unfold cutE
    rw [if_neg hc, cutE_none e r (fun j hl => by have := hj (j + 1) (by simpa using hl); simpa using this)]
theorem cutE_word (e : UInt8) (x y : List UInt8) (h : ∀ c ∈ x, c ≠ e) : cutE e (x ++ e :: y) = (x, y) := by
  induction x with
  | nil => simp [cutE]
  | cons c r ih =>
    show (if c = e then _ else _) = _
    rw [if_neg (h c (by simp))]
    show (c :: (cutE e (r ++ e :: y)).1, (cutE e (r ++ e :: y)).2) = _
    rw [ih (fun d hd => h d (by simp [hd]))]
theorem cutE_last (e : UInt8) (x : List UInt8) (h : ∀ c ∈ x, c ≠ e) : cutE e x = (x, []) := cutE_none e x (fun _ _ z => h e (List.mem_of_getElem? z) rfl)
theorem cutE_len (e : UInt8) : ∀ l : List UInt8, (cutE e l).1.length ≤ l.length ∧ (cutE e l).2.length ≤ l.length ∧ (l ≠ [] → (cutE e l).2.length < l.length)
  | [] => ⟨Nat.le_refl _, Nat.le_refl _, fun z => absurd rfl z⟩
  | c :: r => by
    have := cutE_len e r
    unfold cutE
    split
    · simp
    · simp
      omega
theorem decode_is (s : ByteArray) (pos : Nat) (h : pos < s.size) (e : UInt8) (he : e.toNat < 128) : ((Utf8.decode s pos).1 = e.toNat ↔ s.data.toList[pos]? = some e) := by
  rw [get_list s pos h]
  by_cases ha : (s[pos]'h).toNat < 128
  · rw [decode_ascii s pos h ha]
    constructor
    · intro z
      congr 1
      exact UInt8.toNat_inj.1 z
    · intro z
      rw [Option.some.inj z]
  · have h1 := (decode_high s pos h (by omega)).1
    constructor
    · intro z
      omega
    · intro z
      rw [Option.some.inj z] at ha
      exact absurd he ha
/-- Nothing of what a rune takes is the end, if it isn't itself. -/
theorem decode_not (s : ByteArray) (pos : Nat) (h : pos < s.size) (e : UInt8) (he : e.toNat < 128) (hd : ¬ (Utf8.decode s pos).1 = e.toNat) : ∀ j, pos ≤ j → j < pos + (Utf8.decode s pos).2 → s.data.toList[j]? ≠ some e := fun j a b z => by
  by_cases q : j = pos
  · rw [q] at z
    exact hd ((decode_is s pos h e he).2 z)
  · obtain ⟨h1, h2⟩ := decode_tail s pos h
    have h3 := h2 j (by omega) b
    rw [get_bang s j (by omega)] at z
    rw [Option.some.inj z] at h3
    omega
theorem cut_hit {s : ByteArray} {i : Nat} {e : UInt8} (h : s.data.toList[i]? = some e) (hj : ∀ j, j < i → s.data.toList[j]? ≠ some e) : s.extract 0 i = ofL (cutE e s.data.toList).1 ∧ s.extract (i + 1) s.size = ofL (cutE e s.data.toList).2 := by
  rw [cutE_at e _ i h hj]
  refine ⟨?_, ?_⟩
  · rw [← ofL_self (s.extract 0 i), extract_take]
  · rw [← ofL_self (s.extract (i + 1) s.size), extract_drop]
set_option maxRecDepth 100000 in
set_option maxHeartbeats 1000000 in
theorem hCutE (s : ByteArray) (e : UInt8) (he : e.toNat < 128) (w : World) (hs : s.size ≤ 281474976710656) : Calls Tryd.prog 35 #[.string s, .int .i32 (e.toNat : Int)] w fun o w' => o = .returned (.tuple #[.string (ofL (cutE e s.data.toList).1), .string (ofL (cutE e s.data.toList).2)]) ∧ Kept (fun _ => False) w w' := by
  have S0 : Hid ((w.iter s 0).heap[w.heap.size]? = some (.stringIter s 0) ∧ Kept (fun _ => False) w (w.iter s 0)) := ⟨World.iter_heap w s 0, (Kept.refl _ w).alloc _⟩
  obtain ⟨A, hA⟩ : ∃ A, A = ofL (cutE e s.data.toList).1 := ⟨_, rfl⟩
  obtain ⟨C, hC⟩ : ∃ C, C = ofL (cutE e s.data.toList).2 := ⟨_, rfl⟩
  obtain ⟨en, hen⟩ : ∃ en, e.toNat = en := ⟨_, rfl⟩
  rw [← hA, ← hC, hen]
  have HH : Hid (A = ofL (cutE e s.data.toList).1 ∧ C = ofL (cutE e s.data.toList).2 ∧ e.toNat = en ∧ e.toNat < 128) := ⟨hA, hC, hen, he⟩
  clear hA hC hen he
  go_enter Tryd.func35, Tryd.ntmps35
  go_wp2_with fail
  go_loopw [6, 7] (fun _ _ wr => ∃ pos : Nat, Hid (wr.heap[w.heap.size]? = some (.stringIter s pos) ∧ Kept (fun _ => False) w wr ∧ (∀ j, j < pos → s.data.toList[j]? ≠ some e))) (fun _ _ wr => s.size - wr.iterPos w.heap.size)
  case atStart => exact ⟨0, S0.out.1, S0.out.2, fun j hj => absurd hj (by omega)⟩
  case round =>
    obtain ⟨pos, S⟩ := hrel
    clear S0
    by_cases hp : pos < s.size
    · have hnx : ∀ ty, (Instr.next (.pointer (some ⟨w.heap.size, 0, none⟩)) true ty).run Tryd.prog wr = _ := fun ty => Lib.run_next_any_at wr w.heap.size s pos ty S.out.1 hp
      have hwd : Hid (1 ≤ (Utf8.decode s pos).2) := width_pos s pos hp
      obtain ⟨ru, hru⟩ : ∃ ru, (Utf8.decode s pos).1 = ru := ⟨_, rfl⟩
      obtain ⟨wi, hwi⟩ : ∃ wi, (Utf8.decode s pos).2 = wi := ⟨_, rfl⟩
      rw [hru, hwi] at hnx
      obtain ⟨W, hW⟩ : ∃ W, wr.iterAt w.heap.size s (pos + wi) = W := ⟨_, rfl⟩
      rw [hW] at hnx
      have NX : Hid (W.heap[w.heap.size]? = some (.stringIter s (pos + wi)) ∧ Kept (fun _ => False) w W) := by
        rw [← hW]
        exact ⟨Lib.iterAt_heap wr w.heap.size s pos (pos + wi) S.out.1, iter_kept S.out.2.1 (Nat.le_refl _) s _⟩
      have RU : Hid ((Utf8.decode s pos).1 = ru ∧ (Utf8.decode s pos).2 = wi ∧ wr.iterPos w.heap.size = pos) := ⟨hru, hwi, by simp [World.iterPos, S.out.1]⟩
      clear hru hwi hW
      by_cases h32 : ru = en
      · subst h32
        have Q := cut_hit ((decode_is s pos hp e HH.out.2.2.2).1 (RU.out.1.trans HH.out.2.2.1.symm)) S.out.2.2
        rw [← HH.out.1, ← HH.out.2.1] at Q
        have q1 := Q.1
        have q2 := Q.2
        have p1 : (pos : Int) < (s.size : Int) := by omega
        clear S RU hwd Q
        go_wp2_with fail
        go_quiet (fail)
        go_wp2_with fail
        go_ret2
        exact ⟨by first | rfl | simp, NX.out.2.drewN _⟩
      · have q32 : ((ru : Int) == (en : Int)) = false := by
          simp
          omega
        have NS : Hid (∀ j, j < pos + wi → s.data.toList[j]? ≠ some e) := fun j hj => by
          by_cases q : j < pos
          · exact S.out.2.2 j q
          · exact decode_not s pos hp e HH.out.2.2.2 (by rw [RU.out.1, HH.out.2.2.1]; exact h32) j (by omega) (by rw [RU.out.2.1]; exact hj)
        clear S
        go_wp2_with fail
        go_roundw
        case rel => exact ⟨pos + wi, NX.out.1, NX.out.2, NS.out⟩
        case measure =>
          have e1 : W.iterPos w.heap.size = pos + wi := by simp [World.iterPos, NX.out.1]
          have := hwd.out
          rw [RU.out.2.1] at this
          rw [e1, RU.out.2.2]
          omega
    · have hnx : ∀ ty, (Instr.next (.pointer (some ⟨w.heap.size, 0, none⟩)) true ty).run Tryd.prog wr = _ := fun ty => Lib.run_next_end_at wr w.heap.size s pos ty S.out.1 hp
      have Q : Hid (s = A ∧ (⟨#[]⟩ : ByteArray) = C ∧ Kept (fun _ => False) w wr) := by
        have q := cutE_none e s.data.toList (fun j hj => S.out.2.2 j (by rw [Array.length_toList] at hj; have : j < s.size := hj; omega))
        refine ⟨?_, ?_, S.out.2.1⟩
        · rw [HH.out.1, q, ofL_self]
        · rw [HH.out.2.1, q]
          rfl
      clear S
      go_wp2_with fail
      go_ret2
      refine ⟨?_, Q.out.2.2⟩
      rw [← Q.out.1, ← Q.out.2.1]
      first | rfl | simp
end Go.Proofs.YtonfefhegghapaaDoor
