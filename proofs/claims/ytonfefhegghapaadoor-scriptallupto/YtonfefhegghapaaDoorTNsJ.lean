import Derived.Test.YtonfefhegghapaaDoorTRd
import Derived.Deep.Cut
namespace Go.Proofs.YtonfefhegghapaaDoor
open Go.RowKit 

/-- A digit's value, whatever the rune. -/
def valB (r : Nat) : Nat := if 97 ≤ r then (((r : Int) - 97) % 256 + 10).toNat % 256 else (((r : Int) - 48) % 256).toNat
theorem hVal (r : Nat) (hr : r ≤ 2147483647) (w : World) : Calls Tryd.prog 63 #[.int .i32 (r : Int)] w fun o w' => o = .returned (.int .u8 (valB r : Int)) ∧ w' = w := by
  obtain ⟨v, hv⟩ : ∃ v, valB r = v := ⟨_, rfl⟩
  rw [hv]
  unfold valB at hv
  by_cases h : 97 ≤ r
  · rw [if_pos h] at hv
    have h1 : (97 : Int) ≤ (r : Int) := by omega
    have e1 : IntKind.i32.wrap ((r : Int) - 97) = (r : Int) - 97 := by rw [IntKind.wrap_i32]; omega
    obtain ⟨x, hx⟩ : ∃ x : Nat, ((r : Int) - 97) % 256 = (x : Int) := ⟨(((r : Int) - 97) % 256).toNat, by omega⟩
    have e2 : IntKind.u8.wrap ((r : Int) - 97) = (x : Int) := by rw [IntKind.wrap_u8]; omega
    have e3 : IntKind.u8.wrap ((x : Int) + 10) = (v : Int) := by rw [IntKind.wrap_u8]; omega
    clear hv hx h
    go_enter Tryd.func63, Tryd.ntmps63
    go_wp2_with fail
    go_ret
    exact ⟨by first | rfl | simp, rfl⟩
  · rw [if_neg h] at hv
    have h1 : ¬ (97 : Int) ≤ (r : Int) := by omega
    have e1 : IntKind.i32.wrap ((r : Int) - 48) = (r : Int) - 48 := by rw [IntKind.wrap_i32]; omega
    have e2 : IntKind.u8.wrap ((r : Int) - 48) = (v : Int) := by rw [IntKind.wrap_u8]; omega
    clear hv h
    go_enter Tryd.func63, Tryd.ntmps63
    go_wp2_with fail
    go_ret
    exact ⟨by first | rfl | simp, rfl⟩
/-- The bytes that digits spell, two runes a byte by where they stand. -/
def hexF (s : ByteArray) : Nat → Nat → Nat → List UInt8 → List UInt8
  | 0, _, _, acc => acc
  | f + 1, pos, hi, acc => if pos < s.size then (if pos % 2 = 0 then hexF s f (pos + (Utf8.decode s pos).2) (valB (Utf8.decode s pos).1) acc else hexF s f (pos + (Utf8.decode s pos).2) hi (acc ++ [UInt8.ofNat ((hi * 16 % 256) ||| valB (Utf8.decode s pos).1)])) else acc
def hexL (s : ByteArray) : List UInt8 := hexF s s.size 0 0 []
end Go.Proofs.YtonfefhegghapaaDoor

namespace Go.Proofs.YtonfefhegghapaaDoor
open Go.RowKit 

theorem TX.iter {w0 wr : World} {p : Option Addr} {k c : Nat} {l : List UInt8} (h : TX w0 wr p k c l) {IB : Nat} {s : ByteArray} {a : Nat} (hi : wr.heap[IB]? = some (.stringIter s a)) (hb : w0.heap.size ≤ IB) (b : Nat) : TX w0 (wr.iterAt IB s b) p k c l := by
  refine ⟨h.len, ?_, iter_kept h.kept hb s b⟩
  obtain ⟨h1, h2⟩ := h.row
  refine ⟨h1, ?_⟩
  rcases h2 with h2 | ⟨g, cap, cur, a1, b1, c1, d⟩
  · exact .inl h2
  · refine .inr ⟨g, cap, cur, a1, b1, ?_, d⟩
    have ne : g ≠ IB := fun z => by
      rw [z, hi] at c1
      cases c1
    rw [Lib.iterAt_other _ _ _ _ _ ne]
    exact c1
theorem grown_iter {V w9 : World} {b0 : Nat} {t : TypeId} {size k c : Nat} {p : Option Addr} {xs : List Value} (ho : V.ownsRow b0 t size (.slice p k c) k xs) (hg : V.grownBy w9 (Value.slice p k c).ownBlock) {q : Nat} {s : ByteArray} {a : Nat} (hq : V.heap[q]? = some (.stringIter s a)) : w9.heap[q]? = some (.stringIter s a) := by
  have KG : Kept (fun j => blockOf p = some j) V w9 := (Kept.refl (fun j => blockOf p = some j) V).grown hg (fun j _ z => by rw [blockOf_own] at z; exact z)
  refine KG.get hq (fun z => ?_)
  obtain ⟨c2, e2⟩ := own_type ho q z
  rw [hq] at e2
  cases e2
theorem u8_nat (a : Nat) (h : a < 256) : (BitVec.ofInt 8 (a : Int)).toNat = a := by
  rw [BitVec.ofInt_natCast, BitVec.toNat_ofNat]
  exact Nat.mod_eq_of_lt h
theorem u8_or_nat (a b : Nat) (ha : a < 256) (hb : b < 256) : bits .or .u8 (a : Int) (b : Int) = ((a ||| b : Nat) : Int) ∧ a ||| b < 256 := by
  have hx : a ||| b < 2 ^ 8 := Nat.or_lt_two_pow ha hb
  refine ⟨?_, hx⟩
  show IntKind.u8.wrap ((BitVec.ofInt 8 (a : Int) ||| BitVec.ofInt 8 (b : Int)).toNat : Int) = _
  rw [BitVec.toNat_or, u8_nat a ha, u8_nat b hb, IntKind.wrap_u8]
  omega
theorem byte_cell (x : Nat) (h : x < 256) : Lib.byteCells [UInt8.ofNat x] = [.int .u8 (x : Int)] := by
  unfold Lib.byteCells
  simp
  omega
theorem src_u8 (w : World) (x : Nat) (h : x < 256) : Src Tryd.prog 1 35 (.slice (some ⟨w.heap.size, 0, none⟩) 1 1) 1 (Lib.byteCells [UInt8.ofNat x]) (w.alloc (.cells #[.int .u8 (x : Int)] 5)) := by
  rw [byte_cell x h]
  exact src_byte w x h
set_option maxRecDepth 100000 in
set_option maxHeartbeats 2000000 in
theorem hBytes {w : World} {g : Nat} {s : ByteArray} (hs : s.size ≤ 33554432) (hg : w.heap[g]? = some (.cells #[.string s] 75 (0, 0))) : Calls Tryd.prog 57 #[.pointer (some ⟨g, 0, none⟩)] w fun o w' => ∃ w1 p k c, o = .returned (.slice p k c) ∧ TX w1 w' p k c (hexL (ofL (cutE 32 s.data.toList).1)) ∧ Kept (fun j => j = g) w w1 ∧ w1.heap[g]? = some (.cells #[.string (ofL (cutE 32 s.data.toList).2)] 75 (0, 0)) := by
  have C : Hid (Calls Tryd.prog 52 #[.pointer (some ⟨g, 0, none⟩)] w fun o w' => o = .returned (.string (ofL (cutE 32 s.data.toList).1)) ∧ w'.heap[g]? = some (.cells #[.string (ofL (cutE 32 s.data.toList).2)] 75 (0, 0)) ∧ Kept (fun j => j = g) w w') := hWordE (by omega) hg
  obtain ⟨a, ha⟩ : ∃ a, ofL (cutE 32 s.data.toList).1 = a := ⟨_, rfl⟩
  obtain ⟨b, hb⟩ : ∃ b, ofL (cutE 32 s.data.toList).2 = b := ⟨_, rfl⟩
  have la : a.size ≤ 33554432 := by
    have := (cutE_len 32 s.data.toList).1
    rw [← ha, ofL_sizeE]
    rw [Array.length_toList] at this
    have : (cutE 32 s.data.toList).1.length ≤ s.size := this
    omega
  rw [ha, hb] at C ⊢
  clear hg ha hb hs
  obtain ⟨R, hR⟩ : ∃ R, hexL a = R := ⟨_, rfl⟩
  rw [hR]
  have HR : Hid (hexL a = R) := hR
  clear hR
  go_enter Tryd.func57, Tryd.ntmps57
  go_wp2_with fail
  refine C.out.mono ?_
  rintro o w1 ⟨rfl, g1, K1⟩
  have X1 : Hid (w1.heap[g]? = some (.cells #[.string b] 75 (0, 0)) ∧ Kept (fun j => j = g) w w1) := ⟨g1, K1⟩
  clear g1 K1 C
  obtain ⟨cp, hcp⟩ : ∃ cp, cp = a.size / 2 := ⟨_, rfl⟩
  have q1 : Int.tdiv (a.size : Int) 2 = (cp : Int) := by rw [Int.tdiv_eq_ediv_of_nonneg (by omega)]; omega
  have cl : cp ≤ 16777216 := by omega
  have w0 : IntKind.i64.wrap (cp : Int) = (cp : Int) := by rw [IntKind.wrap_i64]; omega
  clear hcp
  obtain ⟨i5, hi5, hz5, hs5, hb5⟩ := info_parts Tryd.info5
  obtain ⟨w2, mk, ow2, gr2⟩ := run_make_own (P := Tryd.prog) w1 w1.heap.size 35 5 i5 (.int .u8 0) 1 Tryd.underlying35 hi5 hz5 hs5 .i64 .i64 cp (by rw [hb5]; omega) (by unfold maxLen; omega) (Nat.le_refl _)
  have T2 : Hid (TX w1 w2 (some ⟨w1.heap.size, 0, none⟩) 0 cp []) := ⟨rfl, ow2, (Kept.refl (fun _ => False) w1).grown gr2 (fun k _ z => by cases z)⟩
  clear ow2 gr2 hi5 hz5 hs5 hb5
  obtain ⟨IB, hIB⟩ : ∃ IB, w2.heap.size = IB := ⟨_, rfl⟩
  have S0 : Hid (TX w1 (w2.iter a 0) (some ⟨w1.heap.size, 0, none⟩) 0 cp [] ∧ (w2.iter a 0).heap[IB]? = some (.stringIter a 0) ∧ hexF a a.size 0 0 [] = R) := ⟨T2.out.k0 ((Kept.refl _ _).alloc _), by rw [← hIB]; exact World.iter_heap w2 a 0, HR.out⟩
  have HI : Hid (w1.heap.size ≤ IB) := by rw [← hIB]; exact T2.out.kept.size
  go_wp2_with fail
  clear mk q1 w0 T2 HR hIB cl
  go_loopw [4, 5, 6, 7] (fun u4 u5 _ _ wr => ∃ (pos fuel hi : Nat) (acc : List UInt8) (p : Option Addr) (k c : Nat), u4 = .slice p k c ∧ u5 = .int .u8 (hi : Int) ∧ hi < 256 ∧ Hid (TX w1 wr p k c acc ∧ wr.heap[IB]? = some (.stringIter a pos) ∧ hexF a fuel pos hi acc = R ∧ a.size ≤ pos + fuel ∧ k ≤ pos)) (fun _ _ _ _ wr => a.size - wr.iterPos IB)
  case atStart => exact ⟨0, a.size, 0, [], _, 0, cp, rfl, rfl, by omega, S0.out.1, S0.out.2.1, S0.out.2.2, by omega, Nat.le_refl _⟩
  case round =>
    obtain ⟨pos, fuel, hi, acc, p, k, c, rfl, rfl, hh, S⟩ := hrel
    clear S0
    by_cases hp : pos < a.size
    · have hnx : ∀ ty, (Instr.next (.pointer (some ⟨IB, 0, none⟩)) true ty).run Tryd.prog wr = _ := fun ty => Lib.run_next_any_at wr IB a pos ty S.out.2.1 hp
      obtain ⟨fu, hfu⟩ : ∃ fu, fuel = fu + 1 := ⟨fuel - 1, by have := S.out.2.2.2.1; omega⟩
      have HX : Hid (1 ≤ (Utf8.decode a pos).2 ∧ (Utf8.decode a pos).1 ≤ 2147483647 ∧ (if pos % 2 = 0 then hexF a fu (pos + (Utf8.decode a pos).2) (valB (Utf8.decode a pos).1) acc else hexF a fu (pos + (Utf8.decode a pos).2) hi (acc ++ [UInt8.ofNat ((hi * 16 % 256) ||| valB (Utf8.decode a pos).1)])) = R) := by
        refine ⟨width_pos a pos hp, decode_le a pos, ?_⟩
        have q := S.out.2.2.1
        rw [hfu] at q
        unfold hexF at q
        rw [if_pos hp] at q
        exact q
      obtain ⟨ru, hru⟩ : ∃ ru, (Utf8.decode a pos).1 = ru := ⟨_, rfl⟩
      obtain ⟨wi, hwi⟩ : ∃ wi, (Utf8.decode a pos).2 = wi := ⟨_, rfl⟩
      rw [hru, hwi] at hnx HX
      obtain ⟨W, hW⟩ : ∃ W, wr.iterAt IB a (pos + wi) = W := ⟨_, rfl⟩
      rw [hW] at hnx
      have NX : Hid (TX w1 W p k c acc ∧ W.heap[IB]? = some (.stringIter a (pos + wi)) ∧ wr.iterPos IB = pos ∧ a.size ≤ pos + wi + fu ∧ k ≤ pos) := by
        rw [← hW]
        have h1 := S.out.2.2.2.1
        have h2 := HX.out.1
        exact ⟨S.out.1.iter S.out.2.1 HI.out _, Lib.iterAt_heap wr IB a pos (pos + wi) S.out.2.1, by simp [World.iterPos, S.out.2.1], by omega, S.out.2.2.2.2⟩
      obtain ⟨vb, hvb⟩ : ∃ vb, valB ru = vb := ⟨_, rfl⟩
      have vbl : vb < 256 := by rw [← hvb]; unfold valB; split <;> omega
      have CV : Hid (∀ V, Calls Tryd.prog 63 #[.int .i32 (ru : Int)] V fun o w' => o = .returned (.int .u8 (vb : Int)) ∧ w' = V) := fun V => by rw [← hvb]; exact hVal ru HX.out.2.1 V
      rw [hvb] at HX
      clear hru hwi hW S hfu hvb
      obtain ⟨pm, hpm⟩ : ∃ pm : Nat, pos % 2 = pm := ⟨_, rfl⟩
      have q1 : Int.tmod (pos : Int) 2 = (pm : Int) := by rw [Int.tmod_eq_emod_of_nonneg (by omega)]; omega
      rw [hpm] at HX
      have pm2 : pm = 0 ∨ pm = 1 := by omega
      clear hpm
      have wp : IntKind.i64.wrap (pm : Int) = (pm : Int) := by rw [IntKind.wrap_i64]; omega
      rcases pm2 with rfl | rfl
      · have q2 : Int.tmod (pos : Int) 2 = 0 := q1
        have HN : Hid (hexF a fu (pos + wi) vb acc = R) := by have q := HX.out.2.2; rw [if_pos rfl] at q; exact q
        have H1 : Hid (1 ≤ wi) := HX.out.1
        clear HX q1 wp
        go_wp2_with fail
        refine (CV.out _).mono ?_
        rintro o W' ⟨rfl, hW'⟩
        subst hW'
        go_wp2_with fail
        go_roundw
        case rel => exact ⟨pos + wi, fu, vb, acc, p, k, c, rfl, rfl, vbl, NX.out.1, NX.out.2.1, HN.out, NX.out.2.2.2.1, by have := NX.out.2.2.2.2; omega⟩
        case measure =>
          have e1 : W'.iterPos IB = pos + wi := by simp [World.iterPos, NX.out.2.1]
          have := H1.out
          rw [e1, NX.out.2.2.1]
          omega
      · have q2 : Int.tmod (pos : Int) 2 = 1 := q1
        clear q1 wp
        go_wp2_with fail
        refine (CV.out _).mono ?_
        rintro o W' ⟨rfl, hW'⟩
        subst hW'
        obtain ⟨x, hx⟩ : ∃ x : Nat, (hi * 16 % 256) ||| vb = x := ⟨_, rfl⟩
        have ob := u8_or_nat (hi * 16 % 256) vb (by omega) vbl
        rw [hx] at ob
        have x2 := ob.2
        have ob : bits .or .u8 ((hi : Int) * 16 % 256) (vb : Int) = (x : Int) := ob.1
        have HN : Hid (hexF a fu (pos + wi) hi (acc ++ [UInt8.ofNat x]) = R) := by have q := HX.out.2.2; rw [if_neg (by omega), hx] at q; exact q
        have H1 : Hid (1 ≤ wi) := HX.out.1
        have A1 : Hid (TX w1 (W'.alloc (.cells #[.int .u8 (x : Int)] 5)) p k c acc ∧ (W'.alloc (.cells #[.int .u8 (x : Int)] 5)).heap[IB]? = some (.stringIter a (pos + wi))) := ⟨NX.out.1.k0 ((Kept.refl _ _).alloc _), alloc_old _ NX.out.2.1⟩
        have SR : Hid (Src Tryd.prog 1 35 (.slice (some ⟨W'.heap.size, 0, none⟩) 1 1) 1 (Lib.byteCells [UInt8.ofNat x]) (W'.alloc (.cells #[.int .u8 (x : Int)] 5))) := src_u8 W' x x2
        have LN : Hid (k + 1 ≤ maxLen ∧ ((k + 1) + (k + 1) / 4 + 192) * 1 ≤ 281474976710656) := by have := NX.out.2.2.2.2; unfold maxLen; exact ⟨by omega, by omega⟩
        clear HX hx
        go_wp2_with
          (first
            | (at_builtin; refine wpList_append_all _ rfl (.tmp 25) (.tmp 31) 35 5 35 _ 1 1 rfl Tryd.underlying35 Tryd.info5 rfl w1.heap.size (.slice p k c) k (Lib.byteCells acc) rfl A1.out.1.row _ 1 (Lib.byteCells [UInt8.ofNat x]) rfl SR.out LN.out.1 LN.out.2 A1.out.1.kept.size ?_; intro p9 c9 w9 ho hg hn9)
            | fail)
        have N9 : Hid (TX w1 w9 p9 (k + 1) c9 (acc ++ [UInt8.ofNat x]) ∧ w9.heap[IB]? = some (.stringIter a (pos + wi))) := ⟨A1.out.1.more (x := [UInt8.ofNat x]) rfl ho.out hg.out, grown_iter A1.out.1.row hg.out A1.out.2⟩
        clear ho hg hn9 A1 SR LN
        go_roundw
        case rel => exact ⟨pos + wi, fu, hi, acc ++ [UInt8.ofNat x], p9, k + 1, c9, rfl, rfl, hh, N9.out.1, N9.out.2, HN.out, NX.out.2.2.2.1, by have := NX.out.2.2.2.2; have := H1.out; omega⟩
        case measure =>
          have e1 : w9.iterPos IB = pos + wi := by simp [World.iterPos, N9.out.2]
          have := H1.out
          rw [e1, NX.out.2.2.1]
          omega
    · have hnx : ∀ ty, (Instr.next (.pointer (some ⟨IB, 0, none⟩)) true ty).run Tryd.prog wr = _ := fun ty => Lib.run_next_end_at wr IB a pos ty S.out.2.1 hp
      have F : Hid (TX w1 wr p k c R) := by
        have e : R = acc := by
          rw [← S.out.2.2.1]
          cases fuel with
          | zero => rfl
          | succ f => unfold hexF; rw [if_neg hp]
        rw [e]
        exact S.out.1
      clear S
      go_wp2_with fail
      go_ret
      exact ⟨w1, p, k, c, by first | rfl | simp, F.out, X1.out.2, X1.out.1⟩
end Go.Proofs.YtonfefhegghapaaDoor

namespace Go.Proofs.YtonfefhegghapaaDoor
open Go.RowKit 

/-- All numbers that are left. -/
def numsF : Nat → List UInt8 → List Int
  | 0, _ => []
  | f + 1, l => if l = [] then [] else atoiV (cutE 32 l).1 :: numsF f (cutE 32 l).2
def numsL (l : List UInt8) : List Int := numsF l.length l
theorem numsF_more : ∀ (f g : Nat) (l : List UInt8), l.length ≤ f → l.length ≤ g → numsF f l = numsF g l
  | 0, g, l, h, _ => by
    have : l = [] := List.eq_nil_of_length_eq_zero (by omega)
    subst this
    cases g with
    | zero => rfl
    | succ g => unfold numsF; rw [if_pos rfl]
  | f + 1, 0, l, _, h => by
    have : l = [] := List.eq_nil_of_length_eq_zero (by omega)
    subst this
    unfold numsF
    rw [if_pos rfl]
  | f + 1, g + 1, l, h1, h2 => by
    unfold numsF
    by_cases h : l = []
    · rw [if_pos h, if_pos h]
    · have := (cutE_len 32 l).2.2 h
      rw [if_neg h, if_neg h, numsF_more f g (cutE 32 l).2 (by omega) (by omega)]
theorem Tryd.info3 : (Tryd.prog.info? 3).map (fun i => (i.zero, i.size, i.bytes)) = some (some (.int .i64 0), 1, 8) := by kernel_rfl
def intC (zs : List Int) : List Value := zs.map fun z => Value.int .i64 z
/-- Numbers in a row of one's own. -/
structure NX (w0 wr : World) (p : Option Addr) (k c : Nat) (zs : List Int) : Prop where
  len : k = zs.length
  row : wr.ownsRow w0.heap.size 3 1 (.slice p k c) k (intC zs)
theorem src_int (w : World) (z : Int) : Src Tryd.prog 1 36 (.slice (some ⟨w.heap.size, 0, none⟩) 1 1) 1 (intC [z]) (w.alloc (.cells #[.int .i64 z] 3)) :=
  Src.ofSlice _ Tryd.underlying36 ⟨w.heap.size, 0, none⟩ 1 1 (intC [z]) rfl (fun j u hj => by
    have : j = 0 := by
      have := (List.getElem?_eq_some_iff.1 hj).1
      simp [intC] at this
      exact this
    subst this
    have e : u = .int .i64 z := by simpa [intC] using hj.symm
    rw [e, Addr.add_none]
    exact cell_blk (alloc_new w _) 0 rfl) (fun v hv => by
    have e : v = .int .i64 z := by simpa [intC] using hv
    rw [e]
    rfl)
/-- How much is left of the line. -/
def leftN (g : Nat) (w : World) : Nat := match w.cell? ⟨g, 0, none⟩ with | some (.string t) => t.data.toList.length | _ => 0
theorem leftN_of {g : Nat} {w : World} {t : ByteArray} (h : w.heap[g]? = some (.cells #[.string t] 75 (0, 0))) : leftN g w = t.data.toList.length := by
  unfold leftN
  rw [cell_blk h 0 (v := .string t) rfl]
set_option maxRecDepth 100000 in
set_option maxHeartbeats 2000000 in
theorem hNumbers {w0 w : World} {g : Nat} {s : ByteArray} (hs : s.size ≤ 33554432) (hg : w.heap[g]? = some (.cells #[.string s] 75 (0, 0))) (V : Vars w0) (K0 : Kept (fun _ => False) w0 w) (hlow : w0.heap.size ≤ g) : Calls Tryd.prog 58 #[.pointer (some ⟨g, 0, none⟩)] w fun o w' => ∃ p k c, o = .returned (.slice p k c) ∧ NX w w' p k c (numsL s.data.toList) ∧ Kept (fun j => j = g) w w' := by
  have HH : Hid (Vars w0 ∧ Kept (fun _ => False) w0 w ∧ w0.heap.size ≤ g ∧ g < w.heap.size) := ⟨V, K0, hlow, block_lt hg⟩
  obtain ⟨R, hR⟩ : ∃ R, numsL s.data.toList = R := ⟨_, rfl⟩
  rw [hR]
  have S0 : Hid (w.heap[g]? = some (.cells #[.string s] 75 (0, 0)) ∧ NX w w none 0 0 [] ∧ Kept (fun j => j = g) w w ∧ [] ++ numsF s.data.toList.length s.data.toList = R ∧ 0 + s.data.toList.length ≤ 33554432) := ⟨hg, ⟨rfl, rfl, .inl ⟨rfl, rfl⟩⟩, Kept.refl _ _, hR, by rw [Array.length_toList]; have : s.data.size ≤ 33554432 := hs; omega⟩
  clear hR hg V K0 hs
  go_enter Tryd.func58, Tryd.ntmps58
  go_wp2_with fail
  go_loopw [3] (fun u3 wr => ∃ (t : ByteArray) (p : Option Addr) (k c : Nat) (zs : List Int), u3 = .slice p k c ∧ Hid (wr.heap[g]? = some (.cells #[.string t] 75 (0, 0)) ∧ NX w wr p k c zs ∧ Kept (fun j => j = g) w wr ∧ zs ++ numsF t.data.toList.length t.data.toList = R ∧ k + t.data.toList.length ≤ 33554432)) (fun _ wr => leftN g wr)
  case atStart => exact ⟨s, none, 0, 0, [], rfl, S0⟩
  case round =>
    obtain ⟨t, p, k, c, zs, rfl, S⟩ := hrel
    clear S0
    obtain ⟨wo, hwo⟩ : ∃ wo, wo = wr := ⟨_, rfl⟩
    rw [← hwo] at S ⊢
    clear hwo
    have c0 := cell_blk S.out.1 0 (v := .string t) rfl
    by_cases he : t.data.toList = []
    · have be : t.toList.isEmpty = true := by rw [Go.ByteArray.toList_eq, he]; rfl
      have F : Hid (NX w wo p k c R ∧ Kept (fun j => j = g) w wo) := by
        have q := S.out.2.2.2.1
        rw [he] at q
        have q : zs ++ [] = R := q
        rw [List.append_nil] at q
        rw [← q]
        exact ⟨S.out.2.1, S.out.2.2.1⟩
      clear S he
      go_wp2_with fail
      go_ret
      exact ⟨p, k, c, by first | rfl | simp, F.out⟩
    · have be : t.toList.isEmpty = false := by
        rw [Go.ByteArray.toList_eq]
        cases hz : t.data.toList with
        | nil => exact absurd hz he
        | cons x r => rfl
      have hl := (cutE_len 32 t.data.toList)
      have HL : Hid ((cutE 32 t.data.toList).2.length < t.data.toList.length) := hl.2.2 he
      obtain ⟨v, hv⟩ : ∃ v, atoiV (cutE 32 t.data.toList).1 = v := ⟨_, rfl⟩
      obtain ⟨b, hb⟩ : ∃ b, ofL (cutE 32 t.data.toList).2 = b := ⟨_, rfl⟩
      have CN : Hid (Calls Tryd.prog 53 #[.pointer (some ⟨g, 0, none⟩)] wo fun o w' => o = .returned (.int .i64 v) ∧ w'.heap[g]? = some (.cells #[.string b] 75 (0, 0)) ∧ Kept (fun j => j = g) wo w') := by
        rw [← hv, ← hb]
        exact hNumE (by have := S.out.2.2.2.2; rw [Array.length_toList] at this; have : t.size ≤ 33554432 := by show t.data.size ≤ _; omega
                        omega) S.out.1 HH.out.1 (HH.out.2.1.trans S.out.2.2.1 (fun j hj z => by subst z; have := HH.out.2.2.1; omega)) HH.out.2.2.1
      have NR : Hid (zs ++ [v] ++ numsF b.data.toList.length b.data.toList = R ∧ k + 1 + b.data.toList.length ≤ 33554432 ∧ b.data.toList.length < t.data.toList.length) := by
        rw [← hb, ofL_listE]
        refine ⟨?_, by have := S.out.2.2.2.2; have := HL.out; omega, HL.out⟩
        have q := S.out.2.2.2.1
        cases hn : t.data.toList.length with
        | zero => exact absurd (List.eq_nil_of_length_eq_zero hn) he
        | succ f =>
          rw [hn] at q
          unfold numsF at q
          rw [if_neg he, hv, numsF_more f (cutE 32 t.data.toList).2.length _ (by have := HL.out; omega) (Nat.le_refl _)] at q
          rw [← q, List.append_assoc]
          rfl
      clear hv hb hl he
      go_wp2_with fail
      refine CN.out.mono ?_
      rintro o w2 ⟨rfl, g2, K2⟩
      have A1 : Hid ((w2.alloc (.cells #[.int .i64 v] 3)).heap[g]? = some (.cells #[.string b] 75 (0, 0)) ∧ NX w (w2.alloc (.cells #[.int .i64 v] 3)) p k c zs ∧ Kept (fun j => j = g) w (w2.alloc (.cells #[.int .i64 v] 3))) := by
        have kk : Kept (fun j => j = g) wo (w2.alloc (.cells #[.int .i64 v] 3)) := K2.alloc _
        refine ⟨alloc_old _ g2, ⟨S.out.2.1.len, kk.owns S.out.2.1.row (fun j z q => ?_)⟩, S.out.2.2.1.trans kk (fun _ _ z => z)⟩
        rw [blockOf_own] at z
        have := (own_lt S.out.2.1.row j z).1
        have h2 := HH.out.2.2.2
        omega
      have SR : Hid (Src Tryd.prog 1 36 (.slice (some ⟨w2.heap.size, 0, none⟩) 1 1) 1 (intC [v]) (w2.alloc (.cells #[.int .i64 v] 3))) := src_int w2 v
      have LN : Hid (k + 1 ≤ maxLen ∧ ((k + 1) + (k + 1) / 4 + 192) * 8 ≤ 281474976710656) := by have := NR.out.2.1; unfold maxLen; exact ⟨by omega, by omega⟩
      clear g2 K2 CN c0
      go_wp2_with
        (first
          | (at_builtin; refine wpList_append_all _ rfl (.tmp 9) (.tmp 12) 36 3 36 _ 1 8 rfl Tryd.underlying36 Tryd.info3 rfl w.heap.size (.slice p k c) k (intC zs) rfl A1.out.2.1.row _ 1 (intC [v]) rfl SR.out LN.out.1 LN.out.2 A1.out.2.2.size ?_; intro p9 c9 w9 ho hg hn9)
          | fail)
      have N9 : Hid (w9.heap[g]? = some (.cells #[.string b] 75 (0, 0)) ∧ NX w w9 p9 (k + 1) c9 (zs ++ [v]) ∧ Kept (fun j => j = g) w w9) := by
        have KG : Kept (fun j => blockOf p = some j) (w2.alloc (.cells #[.int .i64 v] 3)) w9 := (Kept.refl (fun j => blockOf p = some j) _).grown hg.out (fun j _ z => by rw [blockOf_own] at z; exact z)
        refine ⟨grown_keep A1.out.2.1.row hg.out (by decide) A1.out.1, ⟨by rw [List.length_append, ← A1.out.2.1.len]; rfl, ?_⟩, A1.out.2.2.trans KG (fun j hj z => ?_)⟩
        · have e : intC (zs ++ [v]) = intC zs ++ intC [v] := by unfold intC; rw [List.map_append]
          rw [e]
          exact ho.out
        · have := (own_lt A1.out.2.1.row j z).1
          omega
      clear ho hg hn9 A1 SR LN
      go_roundw
      case rel => exact ⟨b, p9, k + 1, c9, zs ++ [v], rfl, N9.out.1, N9.out.2.1, N9.out.2.2, NR.out.1, NR.out.2.1⟩
      case measure =>
        have e1 := leftN_of N9.out.1
        have e2 := leftN_of S.out.1
        have := NR.out.2.2
        omega
end Go.Proofs.YtonfefhegghapaaDoor
