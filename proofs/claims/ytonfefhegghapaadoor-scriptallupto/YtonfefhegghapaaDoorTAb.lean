import Derived.Test.YtonfefhegghapaaDoorTIsJ
import Derived.Test.YtonfefhegghapaaDoorTNsJ
import Derived.Deep.RegionHeldLaw
namespace Go.Proofs.YtonfefhegghapaaDoor
open Go.RowKit 

/-- A hexadecimal digit. -/
def hxd (n : Nat) : Nat := if n < 10 then 48 + n else 87 + n
/-- Bytes as a line has them. -/
def hexs (l : List UInt8) : List UInt8 := l.flatMap fun b => [UInt8.ofNat (hxd (b.toNat / 16)), UInt8.ofNat (hxd (b.toNat % 16))]
def bytL (l : List UInt8) : List UInt8 := if l = [] then [32, 45] else 32 :: hexs l
theorem hexs_snoc (l : List UInt8) (b : UInt8) : hexs (l ++ [b]) = hexs l ++ [UInt8.ofNat (hxd (b.toNat / 16)), UInt8.ofNat (hxd (b.toNat % 16))] := by
  unfold hexs
  rw [List.flatMap_append]
  simp
theorem hexs_len (l : List UInt8) : (hexs l).length = 2 * l.length := by
  unfold hexs
  induction l with
  | nil => rfl
  | cons b r ih => rw [List.flatMap_cons, List.length_append, ih]; simp; omega
theorem hxd_lt (n : Nat) (h : n < 16) : hxd n < 256 := by unfold hxd; split <;> omega
def HXD : ByteArray := ⟨#[48, 49, 50, 51, 52, 53, 54, 55, 56, 57, 97, 98, 99, 100, 101, 102]⟩
/-- Bytes that can be read, and in whose block nothing is written. -/
structure BRd (w : World) (p : Option Addr) (n c : Nat) (l : List UInt8) : Prop where
  len : l.length = n
  room : n ≤ c
  small : c ≤ maxLen
  cells : 0 < n → ∃ b off, p = some ⟨b, off, none⟩ ∧ ∀ (i : Nat) (x : UInt8), l[i]? = some x → w.cell? ⟨b, off + i, none⟩ = some (.int .u8 (x.toNat : Int))
theorem BRd.keep {S : Nat → Prop} {w w' : World} {p : Option Addr} {n c : Nat} {l : List UInt8} (h : BRd w p n c l) (K : Kept S w w') (hs : ∀ b, blockOf p = some b → ¬ S b) : BRd w' p n c l := ⟨h.len, h.room, h.small, fun h0 => by
  obtain ⟨b, off, e, hc⟩ := h.cells h0
  exact ⟨b, off, e, fun i x hx => K.cell (hc i x hx) (hs b (by rw [e]; rfl))⟩⟩
theorem BRd.keep0 {S : Nat → Prop} {w w' : World} {p : Option Addr} {n c : Nat} {l : List UInt8} (h : BRd w p n c l) (K : Kept S w w') (hs : 0 < n → ∀ b, blockOf p = some b → ¬ S b) : BRd w' p n c l := ⟨h.len, h.room, h.small, fun h0 => by
  obtain ⟨b, off, e, hc⟩ := h.cells h0
  exact ⟨b, off, e, fun i x hx => K.cell (hc i x hx) (hs h0 b (by rw [e]; rfl))⟩⟩
theorem BRd.lt {w : World} {p : Option Addr} {n c : Nat} {l : List UInt8} (h : BRd w p n c l) (h0 : 0 < n) (b : Nat) (hb : blockOf p = some b) : b < w.heap.size := by
  obtain ⟨g, off, e, hc⟩ := h.cells h0
  subst e
  have e2 : g = b := by simpa [blockOf] using hb
  subst e2
  obtain ⟨x, hx⟩ : ∃ x, l[0]? = some x := ⟨_, List.getElem?_eq_getElem (by rw [h.len]; exact h0)⟩
  exact World.block_lt_of_cell? w _ (hc 0 x hx)
theorem TX.kg {wr w9 : World} {p : Option Addr} {k c : Nat} (hg : wr.grownBy w9 (Value.slice p k c).ownBlock) : Kept (fun j => blockOf p = some j) wr w9 := (Kept.refl (fun j => blockOf p = some j) wr).grown hg (fun j _ z => by rw [blockOf_own] at z; exact z)
theorem hexix (n : Nat) (h : n < 16) (w : World) : (Instr.index 9 (.string ⟨#[48, 49, 50, 51, 52, 53, 54, 55, 56, 57, 97, 98, 99, 100, 101, 102]⟩) (.int .u8 (n : Int))).run Tryd.prog w = .ok (.int .u8 (hxd n : Int)) w := by
  obtain rfl | rfl | rfl | rfl | rfl | rfl | rfl | rfl | rfl | rfl | rfl | rfl | rfl | rfl | rfl | rfl : n = 0 ∨ n = 1 ∨ n = 2 ∨ n = 3 ∨ n = 4 ∨ n = 5 ∨ n = 6 ∨ n = 7 ∨ n = 8 ∨ n = 9 ∨ n = 10 ∨ n = 11 ∨ n = 12 ∨ n = 13 ∨ n = 14 ∨ n = 15 := by omega
  all_goals kernel_rfl
theorem u8_shr4 (y : Nat) : (y : Int) / 16 = ((y / 16 : Nat) : Int) := by omega
theorem u8_and15 (y : Nat) (h : y < 256) : bits .and .u8 (y : Int) 15 = ((y % 16 : Nat) : Int) := by
  show IntKind.u8.wrap ((BitVec.ofInt 8 (y : Int) &&& BitVec.ofInt 8 15).toNat : Int) = _
  rw [BitVec.toNat_and, u8_nat y h]
  have e : (BitVec.ofInt 8 15).toNat = 2 ^ 4 - 1 := by decide
  rw [e, Nat.and_two_pow_sub_one_eq_mod, IntKind.wrap_u8]
  omega
theorem src_two (w : World) (x y : Nat) (hx : x < 256) (hy : y < 256) : Src Tryd.prog 1 35 (.slice (some ⟨w.heap.size, 0, none⟩) 2 2) 2 (Lib.byteCells [UInt8.ofNat x, UInt8.ofNat y]) (w.alloc (.cells #[.int .u8 (x : Int), .int .u8 (y : Int)] 5)) := by
  have e : Lib.byteCells [UInt8.ofNat x, UInt8.ofNat y] = [.int .u8 (x : Int), .int .u8 (y : Int)] := by
    have h1 := byte_cell x hx
    have h2 := byte_cell y hy
    have h3 : Lib.byteCells [UInt8.ofNat x, UInt8.ofNat y] = Lib.byteCells [UInt8.ofNat x] ++ Lib.byteCells [UInt8.ofNat y] := by rw [← Lib.byteCells_append]; rfl
    rw [h3, h1, h2]
    rfl
  rw [e]
  refine Src.ofSlice _ Tryd.underlying35 ⟨w.heap.size, 0, none⟩ 2 2 _ rfl (fun j u hj => ?_) (fun v hv => ?_)
  · have hl := (List.getElem?_eq_some_iff.1 hj).1
    rw [Addr.add_none]
    obtain rfl | rfl : j = 0 ∨ j = 1 := by simp at hl; omega
    · exact cell_blk (alloc_new w _) 0 (by simpa using hj)
    · exact cell_blk (alloc_new w _) 1 (by simpa using hj)
  · simp at hv
    rcases hv with rfl | rfl <;> rfl
/-- Where appendBytes is. -/
structure AB (w0 wr : World) (p : Option Addr) (k c : Nat) (l : List UInt8) (q : Option Addr) (n nc : Nat) (bs : List UInt8) : Prop where
  tx : TX w0 wr p k c l
  rd : BRd wr q n nc bs
  sep : 0 < n → ∀ b, blockOf q = some b → b < wr.heap.size ∧ blockOf p ≠ some b
theorem AB.keep {w0 wr W : World} {p q : Option Addr} {k c n nc : Nat} {l bs : List UInt8} (h : AB w0 wr p k c l q n nc bs) (K : Kept (fun _ => False) wr W) : AB w0 W p k c l q n nc bs := ⟨h.tx.k0 K, h.rd.keep K (fun _ _ z => z), fun h0 b hb => ⟨Nat.lt_of_lt_of_le (h.sep h0 b hb).1 K.size, (h.sep h0 b hb).2⟩⟩
theorem AB.more {w0 wr w9 : World} {p q p9 : Option Addr} {k m c c9 n nc : Nat} {l bs x : List UInt8} (h : AB w0 wr p k c l q n nc bs) (hm : m = x.length) (ho : w9.ownsRow w0.heap.size 5 1 (.slice p9 (k + m) c9) (k + m) (Lib.byteCells l ++ Lib.byteCells x)) (hg : wr.grownBy w9 (Value.slice p k c).ownBlock) (hn : (Value.slice p9 (k + m) c9).ownBlock = (Value.slice p k c).ownBlock ∨ ((Value.slice p9 (k + m) c9).ownBlock = some wr.heap.size ∧ wr.grownBy w9 none)) : AB w0 w9 p9 (k + m) c9 (l ++ x) q n nc bs := by
  have K := TX.kg hg
  refine ⟨h.tx.more hm ho hg, h.rd.keep0 K (fun h0 b hb => (h.sep h0 b hb).2), fun h0 b hb => ⟨Nat.lt_of_lt_of_le (h.sep h0 b hb).1 K.size, ?_⟩⟩
  rw [blockOf_own, blockOf_own] at hn
  rcases hn with e | ⟨e, _⟩
  · rw [e]
    exact (h.sep h0 b hb).2
  · rw [e]
    intro z
    have := (h.sep h0 b hb).1
    simp at z
    omega
set_option maxRecDepth 100000 in
set_option maxHeartbeats 2000000 in
/-- appendBytes. -/
theorem hAppB {w0 w : World} {p q : Option Addr} {k c n nc : Nat} {l bs : List UInt8} (T : AB w0 w p k c l q n nc bs) (hl : l.length + 2 * bs.length ≤ 4294967296) : Calls Tryd.prog 55 #[.slice p k c, .slice q n nc] w (RetT fun p' k' c' w' => TX w0 w' p' k' c' (l ++ bytL bs) ∧ Oth w w') := by
  have hn : n ≤ 9223372036854775807 := by have h1 := T.rd.room; have h2 := T.rd.small; unfold maxLen at h2; omega
  have kl : Hid (k + 2 * n ≤ 4294967296) := by
    have h1 := T.tx.len
    have h2 := T.rd.len
    show k + 2 * n ≤ 4294967296
    omega
  have A1 : Hid (AB w0 (w.alloc (.cells #[.int .u8 32] 5)) p k c l q n nc bs) := T.keep ((Kept.refl _ _).alloc _)
  have SR : Hid (Src Tryd.prog 1 35 (.slice (some ⟨w.heap.size, 0, none⟩) 1 1) 1 (Lib.byteCells [32]) (w.alloc (.cells #[.int .u8 32] 5))) := src_byte w 32 (by omega)
  have LN : Hid (k + 1 ≤ maxLen ∧ ((k + 1) + (k + 1) / 4 + 192) * 1 ≤ 281474976710656) := by have := kl.out; unfold maxLen; exact ⟨by omega, by omega⟩
  have RL : Hid (bs.length = n) := T.rd.len
  have OA : Hid (Oth w (w.alloc (.cells #[.int .u8 32] 5))) := (Oth.refl w).kept ((Kept.refl _ _).alloc _)
  clear T hl
  go_enter Tryd.func55, Tryd.ntmps55
  go_upto_region 2 with
    (first
      | (at_builtin; refine wpList_append_all _ rfl (.tmp 7) (.tmp 8) 35 5 35 _ 1 1 rfl Tryd.underlying35 Tryd.info5 rfl w0.heap.size (.slice p k c) k (Lib.byteCells l) rfl A1.out.tx.row _ 1 (Lib.byteCells [32]) rfl SR.out LN.out.1 LN.out.2 A1.out.tx.kept.size ?_; intro p1 c1 w1 ho hg hn9)
      | fail)
  have B1 : Hid (AB w0 w1 p1 (k + 1) c1 (l ++ [32]) q n nc bs) := A1.out.more (x := [32]) rfl ho.out hg.out hn9.out
  have OB : Hid (Oth w w1) := OA.out.grown A1.out.tx.row hg.out
  clear ho hg hn9 A1 SR LN OA
  by_cases h0 : n = 0
  · subst h0
    have e : bs = [] := List.eq_nil_of_length_eq_zero RL.out
    have A2 : Hid (AB w0 (w1.alloc (.cells #[.int .u8 45] 5)) p1 (k + 1) c1 (l ++ [32]) q 0 nc bs) := B1.out.keep ((Kept.refl _ _).alloc _)
    have SR : Hid (Src Tryd.prog 1 35 (.slice (some ⟨w1.heap.size, 0, none⟩) 1 1) 1 (Lib.byteCells [45]) (w1.alloc (.cells #[.int .u8 45] 5))) := src_byte w1 45 (by omega)
    have LN : Hid (k + 1 + 1 ≤ maxLen ∧ ((k + 1 + 1) + (k + 1 + 1) / 4 + 192) * 1 ≤ 281474976710656) := by have := kl.out; unfold maxLen; exact ⟨by omega, by omega⟩
    go_wp2_with
      (first
        | (at_builtin; refine wpList_append_all _ rfl (.tmp 13) (.tmp 14) 35 5 35 _ 1 1 rfl Tryd.underlying35 Tryd.info5 rfl w0.heap.size (.slice p1 (k + 1) c1) (k + 1) (Lib.byteCells (l ++ [32])) rfl A2.out.tx.row _ 1 (Lib.byteCells [45]) rfl SR.out LN.out.1 LN.out.2 A2.out.tx.kept.size ?_; intro p2 c2 w2 ho hg hn9)
        | fail)
    have F : Hid (TX w0 w2 p2 (k + 1 + 1) c2 (l ++ bytL bs) ∧ Oth w w2) := by
      refine ⟨?_, (OB.out.kept ((Kept.refl _ _).alloc _)).grown A2.out.tx.row hg.out⟩
      have q := A2.out.tx.more (x := [45]) rfl ho.out hg.out
      rw [e]
      have e2 : l ++ bytL [] = l ++ [32] ++ [45] := by unfold bytL; rw [if_pos rfl]; simp
      show TX w0 w2 p2 (k + 1 + 1) c2 (l ++ bytL [])
      rw [e2]
      exact q
    clear ho hg hn9 A2 SR LN
    go_ret
    exact ⟨p2, _, c2, by first | rfl | simp, F.out⟩
  have n0 : ¬ (n : Int) = 0 := by omega
  have S0 : Hid (AB w0 w1 p1 (k + 1) c1 (l ++ 32 :: hexs (bs.take 0)) q n nc bs) := by
    show AB w0 w1 p1 (k + 1) c1 (l ++ 32 :: hexs (bs.take 0)) q n nc bs
    simpa [hexs] using B1.out
  obtain ⟨k1, hk1⟩ : ∃ k1, k + 1 = k1 := ⟨_, rfl⟩
  have kl1 : Hid (k1 + 2 * n ≤ 4294967297) := by have := kl.out; show k1 + 2 * n ≤ 4294967297; omega
  rw [hk1] at S0 ⊢
  clear hk1 B1 kl
  go_upto_region 5 with fail
  have nb : ((n : Int) == 0) = false := beq_eq_false_iff_ne.2 n0
  rw [nb]
  clear nb
  go_loopw [0, 6, 18] (fun u0 _ u18 wr => ∃ (i : Nat) (p : Option Addr) (k c : Nat), u0 = .slice p k c ∧ u18 = .int .i64 (i : Int) ∧ i ≤ n ∧ Hid (AB w0 wr p k c (l ++ 32 :: hexs (bs.take i)) q n nc bs ∧ k + 2 * n ≤ 4294967297 + 2 * i ∧ Oth w wr)) (fun _ _ u18 _ => n - (intOf u18).toNat)
  case atStart => exact ⟨0, p1, k1, c1, rfl, rfl, Nat.zero_le _, S0.out, by have := kl1.out; omega, OB.out⟩
  case round =>
    clear S0 kl1 OB
    obtain ⟨i, p, k, c, rfl, rfl, hi, S⟩ := hrel
    obtain ⟨wo, hwo⟩ : ∃ wo, wo = wr := ⟨_, rfl⟩
    rw [← hwo] at S ⊢
    clear hwo
    by_cases hlt : i < n
    · have i1 : (i : Int) < (n : Int) := by omega
      obtain ⟨z, hz1⟩ : ∃ z, bs[i]? = some z := ⟨_, List.getElem?_eq_getElem (by rw [RL.out]; exact hlt)⟩
      have ZI : Hid (bs[i]? = some z) := hz1
      obtain ⟨qb, qo, rfl, hc⟩ := S.out.1.rd.cells (by omega)
      have c0 := hc i z hz1
      obtain ⟨y, hy⟩ : ∃ y, z.toNat = y := ⟨_, rfl⟩
      have yl : y < 256 := by rw [← hy]; exact z.toNat_lt
      rw [hy] at c0
      have HY : Hid (z.toNat = y) := hy
      clear hc hz1 hy
      go_upto_region 7 with fail
      obtain ⟨hi4, hhi⟩ : ∃ x : Nat, y / 16 = x := ⟨_, rfl⟩
      obtain ⟨lo4, hlo⟩ : ∃ x : Nat, y % 16 = x := ⟨_, rfl⟩
      have hl4 : hi4 < 16 := by omega
      have ll4 : lo4 < 16 := by omega
      have HH : Hid (z.toNat / 16 = hi4 ∧ z.toNat % 16 = lo4) := by rw [HY.out]; exact ⟨hhi, hlo⟩
      have b1 := u8_shr4 y
      have b2 := u8_and15 y yl
      rw [hhi] at b1
      rw [hlo] at b2
      have x1 := fun V => hexix hi4 hl4 V
      have x2 := fun V => hexix lo4 ll4 V
      have d1l := hxd_lt hi4 hl4
      have d2l := hxd_lt lo4 ll4
      have HD : Hid (z.toNat / 16 = hi4 ∧ z.toNat % 16 = lo4) := HH.out
      obtain ⟨d1, hd1⟩ : ∃ x, hxd hi4 = x := ⟨_, rfl⟩
      obtain ⟨d2, hd2⟩ : ∃ x, hxd lo4 = x := ⟨_, rfl⟩
      have HX : Hid (hxd (z.toNat / 16) = d1 ∧ hxd (z.toNat % 16) = d2) := ⟨by rw [HD.out.1]; exact hd1, by rw [HD.out.2]; exact hd2⟩
      rw [hd1] at x1 d1l
      rw [hd2] at x2 d2l
      clear hd1 hd2 hhi hlo HH HD HY
      have A1 : Hid (AB w0 (wo.drew.alloc (.cells #[.int .u8 (d1 : Int), .int .u8 (d2 : Int)] 5)) p k c (l ++ 32 :: hexs (bs.take i)) (some ⟨qb, qo, none⟩) n nc bs) := S.out.1.keep ((Kept.refl (fun _ => False) wo).drew.alloc _)
      have SR : Hid (Src Tryd.prog 1 35 (.slice (some ⟨wo.drew.heap.size, 0, none⟩) 2 2) 2 (Lib.byteCells [UInt8.ofNat d1, UInt8.ofNat d2]) (wo.drew.alloc (.cells #[.int .u8 (d1 : Int), .int .u8 (d2 : Int)] 5))) := src_two wo.drew d1 d2 d1l d2l
      have LN : Hid (k + 2 ≤ maxLen ∧ ((k + 2) + (k + 2) / 4 + 192) * 1 ≤ 281474976710656) := by have := S.out.2.1; unfold maxLen; exact ⟨by omega, by omega⟩
      refine wp_region_held_drew (S := (fun _ => True)) (by kernel_rfl) trivial (fun hHeld => ?_)
      refine wpAnyH_take (i := 0) (oi := { dst := some 22, op := Op.move (Operand.tmp 0), type := 35, pos := "write.go:58", after := #[], guard := none }) (v := .slice p k c) rfl (by kernel_rfl) (by kernel_rfl) (by kernel_rfl) (fun _ _ _ h => h) (Or.inl ⟨by rfl, ?_⟩) (by assumption) ?_
      · intro w9 hSw
        (try dsimp only at hSw)
        go_simp
      (try simp only [Act.put, List.setIfInBounds_toArray, List.set_cons_zero, List.set_cons_succ])
      refine wpAnyH_take (i := 1) (oi := { dst := some 23, op := Op.move (Operand.tmp 6), type := 5, pos := "write.go:58", after := #[], guard := none }) (v := .int .u8 (y : Int)) rfl (by kernel_rfl) (by kernel_rfl) (by kernel_rfl) (fun _ _ _ h => h) (Or.inl ⟨by rfl, ?_⟩) (by assumption) ?_
      · intro w9 hSw
        (try dsimp only at hSw)
        go_simp
      (try simp only [Act.put, List.setIfInBounds_toArray, List.set_cons_zero, List.set_cons_succ])
      refine wpAnyH_take (i := 2) (oi := { dst := some 24, op := Op.binOp BinOp.shr 5 (Operand.tmp 23) (Operand.const (Value.int IntKind.u64 4)) 90, type := 5, pos := "write.go:58", after := #[{ on := 1, ground := Ground.data }], guard := none }) (v := .int .u8 (hi4 : Int)) rfl (by kernel_rfl) (by kernel_rfl) (by kernel_rfl) (fun _ _ _ h => h) (Or.inl ⟨by rfl, ?_⟩) (by assumption) ?_
      · intro w9 hSw
        (try dsimp only at hSw)
        go_simp
      (try simp only [Act.put, List.setIfInBounds_toArray, List.set_cons_zero, List.set_cons_succ])
      refine wpAnyH_take (i := 3) (oi := { dst := some 25, op := Op.index 9 (Operand.const (Value.string { data := #[48, 49, 50, 51, 52, 53, 54, 55, 56, 57, 97, 98, 99, 100, 101, 102] })) (Operand.tmp 24), type := 5, pos := "write.go:58", after := #[{ on := 2, ground := Ground.data }], guard := none }) (v := .int .u8 (d1 : Int)) rfl (by kernel_rfl) (by kernel_rfl) (by kernel_rfl) (fun _ _ _ h => h) (Or.inl ⟨by rfl, ?_⟩) (by assumption) ?_
      · intro w9 hSw
        (try dsimp only at hSw)
        go_simp
      (try simp only [Act.put, List.setIfInBounds_toArray, List.set_cons_zero, List.set_cons_succ])
      refine wpAnyH_take (i := 4) (oi := { dst := some 26, op := Op.move (Operand.tmp 6), type := 5, pos := "write.go:58", after := #[], guard := none }) (v := .int .u8 (y : Int)) rfl (by kernel_rfl) (by kernel_rfl) (by kernel_rfl) (fun _ _ _ h => h) (Or.inl ⟨by rfl, ?_⟩) (by assumption) ?_
      · intro w9 hSw
        (try dsimp only at hSw)
        go_simp
      (try simp only [Act.put, List.setIfInBounds_toArray, List.set_cons_zero, List.set_cons_succ])
      refine wpAnyH_take (i := 5) (oi := { dst := some 27, op := Op.binOp BinOp.and 5 (Operand.tmp 26) (Operand.const (Value.int IntKind.u8 15)) 5, type := 5, pos := "write.go:58", after := #[{ on := 4, ground := Ground.data }], guard := none }) (v := .int .u8 (lo4 : Int)) rfl (by kernel_rfl) (by kernel_rfl) (by kernel_rfl) (fun _ _ _ h => h) (Or.inl ⟨by rfl, ?_⟩) (by assumption) ?_
      · intro w9 hSw
        (try dsimp only at hSw)
        go_simp
      (try simp only [Act.put, List.setIfInBounds_toArray, List.set_cons_zero, List.set_cons_succ])
      refine wpAnyH_take (i := 6) (oi := { dst := some 28, op := Op.index 9 (Operand.const (Value.string { data := #[48, 49, 50, 51, 52, 53, 54, 55, 56, 57, 97, 98, 99, 100, 101, 102] })) (Operand.tmp 27), type := 5, pos := "write.go:58", after := #[{ on := 5, ground := Ground.data }], guard := none }) (v := .int .u8 (d2 : Int)) rfl (by kernel_rfl) (by kernel_rfl) (by kernel_rfl) (fun _ _ _ h => h) (Or.inl ⟨by rfl, ?_⟩) (by assumption) ?_
      · intro w9 hSw
        (try dsimp only at hSw)
        go_simp
      (try simp only [Act.put, List.setIfInBounds_toArray, List.set_cons_zero, List.set_cons_succ])
      refine wpAnyH_ready (rs := [7]) (by kernel_rfl) (by simp) ?_
      refine (AllReadyH.cons (o := { dst := some 29, op := Op.buildSlice 35 2 #[(0, Operand.tmp 25), (1, Operand.tmp 28)], type := 35, pos := "write.go:58", after := #[{ on := 3, ground := Ground.data }, { on := 6, ground := Ground.data }], guard := none }) rfl (fun K hK => ?_) AllReadyH.nil)
      go_simp
      refine hK.out _ _ ?_ (fun hHeld => ?_)
      · exact trivial
      clear hK K
      (try simp only [Act.put, List.setIfInBounds_toArray, List.set_cons_zero, List.set_cons_succ])
      refine wpAnyH_ready (rs := [8]) (by kernel_rfl) (by simp) ?_
      refine (AllReadyH.cons (o := { dst := some 30, op := Op.call { callee := Callee.builtin Builtin.append, args := #[Operand.tmp 22, Operand.tmp 29], argTypes := #[35, 35] }, type := 35, pos := "write.go:58", after := #[{ on := 0, ground := Ground.data }, { on := 7, ground := Ground.data }], guard := none }) rfl (fun K hK => ?_) AllReadyH.nil)
      refine step_append_all _ rfl (.tmp 22) (.tmp 29) 35 5 35 _ 1 1 rfl Tryd.underlying35 Tryd.info5 rfl w0.heap.size (.slice p k c) k (Lib.byteCells (l ++ 32 :: hexs (bs.take i))) rfl A1.out.tx.row _ 2 (Lib.byteCells [UInt8.ofNat d1, UInt8.ofNat d2]) rfl SR.out LN.out.1 LN.out.2 A1.out.tx.kept.size ?_
      intro p9 c9 w9 ho hg hn9
      have N9 : Hid (AB w0 w9 p9 (k + 2) c9 (l ++ 32 :: hexs (bs.take (i + 1))) (some ⟨qb, qo, none⟩) n nc bs) := by
        have z9 := A1.out.more (x := [UInt8.ofNat d1, UInt8.ofNat d2]) rfl ho.out hg.out hn9.out
        have e1 : bs.take (i + 1) = bs.take i ++ [z] := by
          rw [List.take_add_one, ZI.out]
          rfl
        have e2 : l ++ 32 :: hexs (bs.take (i + 1)) = (l ++ 32 :: hexs (bs.take i)) ++ [UInt8.ofNat d1, UInt8.ofNat d2] := by
          rw [e1, hexs_snoc, HX.out.1, HX.out.2]
          simp
        show AB w0 w9 p9 (k + 2) c9 (l ++ 32 :: hexs (bs.take (i + 1))) (some ⟨qb, qo, none⟩) n nc bs
        rw [e2]
        exact z9
      have KK : Hid (k + 2 * n ≤ 4294967297 + 2 * i ∧ Oth w w9) := ⟨S.out.2.1, (S.out.2.2.kept ((Kept.refl (fun _ => False) wo).drew.alloc _)).grown A1.out.tx.row hg.out⟩
      refine hK.out _ _ ?_ (fun hHeld => ?_)
      · exact trivial
      clear hK K
      (try simp only [Act.put, List.setIfInBounds_toArray, List.set_cons_zero, List.set_cons_succ])
      clear ho hg hn9 A1 SR LN S
      refine wpAnyH_take (i := 9) (oi := { dst := some 0, op := Op.assign (Operand.tmp 30), type := 35, pos := "write.go:58", after := #[{ on := 8, ground := Ground.data }, { on := 8, ground := Ground.chain }, { on := 0, ground := Ground.phase }, { on := 1, ground := Ground.phase }, { on := 2, ground := Ground.phase }, { on := 3, ground := Ground.phase }, { on := 4, ground := Ground.phase }, { on := 5, ground := Ground.phase }, { on := 6, ground := Ground.phase }, { on := 7, ground := Ground.phase }, { on := 8, ground := Ground.phase }], guard := none }) (v := .slice p9 (k + 2) c9) rfl (by kernel_rfl) (by kernel_rfl) (by kernel_rfl) (fun _ _ _ h => h) (Or.inl ⟨by rfl, ?_⟩) (by assumption) ?_
      · intro w9 hSw
        (try dsimp only at hSw)
        go_simp
      (try simp only [Act.put, List.setIfInBounds_toArray, List.set_cons_zero])
      refine wpAnyH_done (by kernel_rfl) ?_ _
      go_wp2_with fail
      go_roundw
      case rel => exact ⟨i + 1, p9, k + 2, c9, rfl, by go_num, by omega, N9.out, by have := KK.out.1; omega, KK.out.2⟩
      case measure => simp [intOf] <;> omega
    · have i1 : ¬ (i : Int) < (n : Int) := by omega
      have F : Hid (TX w0 wo p k c (l ++ bytL bs) ∧ Oth w wo) := by
        refine ⟨?_, S.out.2.2⟩
        have x := S.out.1.tx
        rw [List.take_of_length_le (by rw [RL.out]; omega)] at x
        have e : bytL bs = 32 :: hexs bs := by
          unfold bytL
          rw [if_neg]
          intro z
          have := RL.out
          rw [z] at this
          exact h0 this.symm
        rw [e]
        exact x
      clear S
      go_wp2_with fail
      go_ret
      exact ⟨p, k, c, by first | rfl | simp, F.out⟩
end Go.Proofs.YtonfefhegghapaaDoor
