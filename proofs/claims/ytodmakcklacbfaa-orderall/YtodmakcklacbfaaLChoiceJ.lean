import Derived.Test.YtodmakcklacbfaaLGetsJ
import Derived.Test.YtodmakcklacbfaaLMath
import Derived.Lib.BitFns
import Derived.Test.YtodmakcklacbfaaChecked
import Derived.Lib.Walk
import Derived.BigQuiet
namespace Go.Proofs.Ytodmakcklacbfaa
open Go.RowKit 

theorem alike_sub {f : Fd} {d i : Nat} : f.alikeW i &&& d = f.alikeW i ↔ ∀ j, j < f.n → f.alikeB i j = true → d.testBit j = true := by
  rw [sub_iff]
  unfold Fd.alikeW
  constructor
  · intro h j h1 h2
    refine h j ?_
    rw [wrd_bit, decide_eq_true h1, h2]
    rfl
  · intro h j hj
    rw [wrd_bit, Bool.and_eq_true, decide_eq_true_iff] at hj
    exact h j hj.1 hj.2
/-- What answers a bool. -/
def RetB (Q : Bool → World → Prop) (o : Ending) (w : World) : Prop := ∃ r : Bool, o = .returned (.bool r) ∧ Q r w
theorem RetB.mk {Q : Bool → World → Prop} {o : Ending} {w : World} (r : Bool) (h : o = .returned (.bool r)) (q : Q r w) : RetB Q o w := ⟨r, h, q⟩
/-- A Get is left whose value no Put that is left has. -/
def Fd.Lost (f : Fd) (d : Nat) : Prop := ∃ i, i < f.n ∧ f.put i = false ∧ d.testBit i = false ∧ ∀ p, p < f.n → f.put p = true → f.val p = f.val i → d.testBit p = true
structure HopeQ (f : Fd) (d : Nat) (w : World) (r : Bool) (w' : World) : Prop where
  lost : r = true → f.Lost d
  k : Kept (fun _ => False) w w'
set_option maxRecDepth 100000 in
set_option maxHeartbeats 4000000 in
theorem isHopeless {w : World} {fb : Nat} {f : Fd} {ms : List Cm} {cp : Option Addr} {cc vb ab bb lb mb : Nat} (h : SF w fb f ms cp cc vb ab bb lb mb) (d : Nat) (hd : d < 2 ^ f.n) :
    Calls Try.prog 104 #[.pointer (some ⟨fb, 0, none⟩), .int .u32 (d : Int)] w (RetB (HopeQ f d w)) := by
  have H : Hid (SF w fb f ms cp cc vb ab bb lb mb ∧ d < 2 ^ f.n) := ⟨h, hd⟩
  have n24 := h.n24
  have d24 := lt32 hd n24
  have f0 := cell_blk h.blk 0 (v := .slice cp f.n cc) rfl
  have rm := h.cr.room
  have sm := h.cr.small
  unfold maxLen at sm
  obtain ⟨n, hn⟩ : ∃ n, n = f.n := ⟨_, rfl⟩
  rw [← hn] at f0 n24 rm
  have HN : Hid (n = f.n) := hn
  have K0 : Hid (Kept (fun _ => False) w w) := Kept.refl _ _
  clear h hd hn
  go_enter Try.func104, Try.ntmps104
  go_wp2_with fail
  go_loopw [5, 6, 7, 13] (fun _ _ _ u13 wr => ∃ (i : Nat), u13 = .int .i64 (i : Int) ∧ i ≤ n ∧ Hid (Kept (fun _ => False) w wr)) (fun _ _ _ u13 _ => n - (intOf u13).toNat)
  case atStart => exact ⟨0, rfl, Nat.zero_le _, K0⟩
  case round =>
    obtain ⟨i, rfl, hi, T⟩ := hrel
    clear K0
    by_cases hlt : i < n
    · have i1 : (i : Int) < (n : Int) := by omega
      have i0 : ¬ (i : Int) < 0 := by omega
      have sf := H.out.1.k0 T.out
      have cr := sf.cr
      rw [← HN.out] at cr
      obtain ⟨b, off, m, rfl, hm, c0, c1, c2, c3, c4, c5, c6, c7, c8, c9, c10, _⟩ := cr.at hlt
      obtain ⟨W, hW⟩ : ∃ W, W = wr.alloc (.cells m.cs 38) := ⟨_, rfl⟩
      have hW' : W = wr.alloc (.cells #[.int .i64 m.client, .int .i64 m.op, .bool m.put, .string m.key, .slice m.va m.vn m.vc, .int .i64 m.st, .int .i64 m.frm, .int .i64 m.to, .bool m.opn, .int .i64 m.tx, .int .i64 m.ty] 38) := hW
      obtain ⟨B, hB⟩ : ∃ B, B = wr.heap.size := ⟨_, rfl⟩
      have J : Hid (W.heap[B]? = some (.cells m.cs 38 (0, 0)) ∧ Kept (fun _ => False) w W ∧ i < f.n ∧ f.put i = m.put ∧ SF W fb f ms (some ⟨b, off, none⟩) cc vb ab bb lb mb) := by
        have K : Kept (fun _ => False) wr W := by rw [hW]; exact (Kept.refl _ _).alloc _
        refine ⟨by rw [hW, hB]; exact heap_alloc_new _ _, T.out.trans K (fun _ _ z => z.elim), by rw [← HN.out]; exact hlt, sf.put i m hm, sf.k0 K⟩
      clear sf cr hm hW
      have EW : Hid (W = wr.alloc (.cells #[.int .i64 m.client, .int .i64 m.op, .bool m.put, .string m.key, .slice m.va m.vn m.vc, .int .i64 m.st, .int .i64 m.frm, .int .i64 m.to, .bool m.opn, .int .i64 m.tx, .int .i64 m.ty] 38) ∧ B = wr.heap.size) := ⟨hW', hB⟩
      clear hB hW'
      go_upto_region 4 with fail
      rw [← EW.out.1, ← EW.out.2]
      clear c0 c1 c2 c3 c4 c5 c6 c7 c8 c9 c10
      have g2 := cell_blk J.out.1 2 (v := .bool m.put) rfl
      have f5 := cell_blk J.out.2.2.2.2.blk 5 (v := .slice (some ⟨lb, 0, none⟩) f.n f.n) rfl
      rw [← HN.out] at f5
      have a1 := J.out.2.2.2.2.alk i J.out.2.2.1
      obtain ⟨aw, haw⟩ : ∃ aw, aw = f.alikeW i := ⟨_, rfl⟩
      rw [← haw] at a1
      have aw24 : aw < 16777216 := by rw [haw]; exact lt32 (wrd_lt _ _) H.out.1.n24
      obtain ⟨t3, ht3⟩ : ∃ t3, t3 = decide (aw &&& d = aw) := ⟨_, rfl⟩
      have b3 : (bits .andNot .u32 (aw : Int) (d : Int) == 0) = t3 := by rw [ht3]; exact u32_andNot_nat aw d (by omega) (by omega)
      obtain ⟨q, hq⟩ : ∃ q : Nat, q = 2 ^ i := ⟨_, rfl⟩
      have p2 : (2 : Int) ^ i % 4294967296 = (q : Int) := by rw [hq]; exact pow_mod (by omega)
      obtain ⟨t1, ht1⟩ : ∃ t1, t1 = !d.testBit i := ⟨_, rfl⟩
      have b1 : (bits .and .u32 (d : Int) (q : Int) == 0) = t1 := by rw [hq, ht1]; exact and_pow d i (by omega) (by omega)
      obtain ⟨mp, hmp⟩ : ∃ mp, m.put = mp := ⟨_, rfl⟩
      rw [hmp] at g2
      have E : Hid (t1 = true → mp = false → t3 = true → f.Lost d) := by
        intro e1 e2 e3
        refine ⟨i, J.out.2.2.1, by rw [J.out.2.2.2.1, hmp, e2], ?_, fun p h1 h2 h3 => ?_⟩
        · rw [e1] at ht1
          cases z : d.testBit i
          · rfl
          · rw [z] at ht1; cases ht1
        · rw [e3] at ht3
          have ht3 := of_decide_eq_true ht3.symm
          rw [haw] at ht3
          refine alike_sub.1 ht3 p h1 ?_
          unfold Fd.alikeB
          rw [J.out.2.2.2.1, hmp, e2, h2, h3, decide_eq_true rfl]
          rfl
      clear hq ht1 haw ht3 hmp EW
      have KW : Hid (Kept (fun _ => False) w W) := J.out.2.1
      cases t1
      · go_wp2_with fail
        go_roundw
        case rel => exact ⟨i + 1, by go_num, by omega, KW⟩
        case measure => simp [intOf] <;> omega
      · cases mp
        · cases t3
          · go_wp2_with fail
            go_roundw
            case rel => exact ⟨i + 1, by go_num, by omega, KW⟩
            case measure => simp [intOf] <;> omega
          · go_wp2_with fail
            go_ret
            exact RetB.mk true rfl ⟨fun _ => by first | exact E.out | exact E.out rfl rfl rfl | exact E.out trivial trivial trivial, KW.out⟩
        · go_wp2_with fail
          go_roundw
          case rel => exact ⟨i + 1, by go_num, by omega, KW⟩
          case measure => simp [intOf] <;> omega
    · have i1 : ¬ (i : Int) < (n : Int) := by omega
      go_wp2_with fail
      go_ret
      exact RetB.mk false rfl ⟨fun z => (by cases z), T.out⟩
end Go.Proofs.Ytodmakcklacbfaa

namespace Go.Proofs.Ytodmakcklacbfaa

/-- How many bits. -/
def pcN (n x : Nat) : Nat := ((List.range n).filter fun j => x.testBit j).length
theorem pcN_add (n m x : Nat) : pcN (n + m) x = pcN n x + pcN m (x / 2 ^ n) := by
  unfold pcN
  rw [List.range_add, List.filter_append, List.length_append, List.filter_map, List.length_map]
  congr 2
  refine List.filter_congr fun j _ => ?_
  show x.testBit (n + j) = (x / 2 ^ n).testBit j
  rw [Nat.testBit_div_two_pow, Nat.add_comm]
theorem pcN_mod (n x : Nat) : pcN n x = pcN n (x % 2 ^ n) := by
  unfold pcN
  congr 1
  refine List.filter_congr fun j hj => ?_
  have hj := List.mem_range.1 hj
  rw [Nat.testBit_mod_two_pow, decide_eq_true hj, Bool.true_and]
theorem pcN_le (n x : Nat) : pcN n x ≤ n := by
  unfold pcN
  have := List.length_filter_le (fun j => x.testBit j) (List.range n)
  rw [List.length_range] at this
  exact this
theorem pc8 : ∀ n : Fin 256, Go.Lib.pop8 (n.val : Int) = ((pcN 8 n.val : Nat) : Int) := by decide +kernel
theorem pc8_of (b : Int) (h0 : 0 ≤ b) (h1 : b < 256) : Go.Lib.pop8 b = ((pcN 8 b.toNat : Nat) : Int) := by
  have := pc8 ⟨b.toNat, by omega⟩
  simp only [Int.toNat_of_nonneg h0] at this
  exact this
theorem pc24 (x : Nat) : pcN 24 x = pcN 8 (x % 256) + pcN 8 (x / 256 % 256) + pcN 8 (x / 65536) := by
  have h1 : pcN 24 x = pcN 8 x + pcN 16 (x / 2 ^ 8) := pcN_add 8 16 x
  have h2 : pcN 16 (x / 2 ^ 8) = pcN 8 (x / 2 ^ 8) + pcN 8 (x / 2 ^ 8 / 2 ^ 8) := pcN_add 8 8 _
  rw [h1, h2, pcN_mod 8 x, pcN_mod 8 (x / 2 ^ 8), Nat.div_div_eq_div_mul]
  have e : (2 : Nat) ^ 8 = 256 := rfl
  rw [e, show (256 * 256 : Nat) = 65536 from rfl, Nat.add_assoc]
end Go.Proofs.Ytodmakcklacbfaa

namespace Go.Proofs.Ytodmakcklacbfaa

theorem u32_low8 (a : Nat) (ha : a < 4294967296) : bits .and .u32 (a : Int) 255 = ((a % 256 : Nat) : Int) := by
  have o : (BitVec.ofInt 32 (a : Int)).toNat = a := by rw [BitVec.toNat_ofInt]; simp; omega
  show IntKind.u32.wrap ((BitVec.ofInt 32 (a : Int) &&& BitVec.ofInt 32 255).toNat : Int) = _
  have e : a &&& 255 = a % 256 := Nat.and_two_pow_sub_one_eq_mod a 8
  rw [BitVec.toNat_and, o, show (BitVec.ofInt 32 255).toNat = 255 from rfl, e, IntKind.wrap_u32]
  omega
set_option maxHeartbeats 4000000 in
set_option maxRecDepth 100000 in
theorem onesCount {x : Nat} (hx : x < 16777216) (w : World) : Calls Try.prog 115 #[.int .u32 (x : Int)] w fun o w' => o = .returned (.int .i64 ((pcN 24 x : Nat) : Int)) ∧ w'.heap = w.heap ∧ w'.os = w.os ∧ w'.output = w.output ∧ w'.tape = w.tape := by
  obtain ⟨a, ha⟩ : ∃ a : Nat, a = x / 65536 := ⟨_, rfl⟩
  obtain ⟨b, hb⟩ : ∃ b : Nat, b = x / 256 := ⟨_, rfl⟩
  obtain ⟨c, hc⟩ : ∃ c : Nat, c = x / 256 % 256 := ⟨_, rfl⟩
  obtain ⟨e, he⟩ : ∃ e : Nat, e = x % 256 := ⟨_, rfl⟩
  have s24 : (x : Int) / 16777216 = 0 := by omega
  have s16 : (x : Int) / 65536 = (a : Int) := by omega
  have s8 : (x : Int) / 256 = (b : Int) := by omega
  have m16 : bits .and .u32 (a : Int) 255 = (a : Int) := by rw [u32_low8 a (by omega)]; omega
  have m8 : bits .and .u32 (b : Int) 255 = (c : Int) := by rw [u32_low8 b (by omega)]; omega
  have m0 : bits .and .u32 (x : Int) 255 = (e : Int) := by rw [u32_low8 x (by omega), he]
  have la0 : (0 : Int) ≤ (a : Int) := by omega
  have la : (a : Int) ≤ 255 := by omega
  have lc0 : (0 : Int) ≤ (c : Int) := by omega
  have lc : (c : Int) ≤ 255 := by omega
  have le0 : (0 : Int) ≤ (e : Int) := by omega
  have le : (e : Int) ≤ 255 := by omega
  obtain ⟨pa, hpa⟩ : ∃ pa, pa = pcN 8 a := ⟨_, rfl⟩
  obtain ⟨pc, hpc⟩ : ∃ pc, pc = pcN 8 c := ⟨_, rfl⟩
  obtain ⟨pe, hpe⟩ : ∃ pe, pe = pcN 8 e := ⟨_, rfl⟩
  have p0 : Go.Lib.pop8 0 = 0 := by decide +kernel
  have qa : Go.Lib.pop8 (a : Int) = (pa : Int) := by rw [pc8_of _ la0 (by omega), hpa, Int.toNat_natCast]
  have qc : Go.Lib.pop8 (c : Int) = (pc : Int) := by rw [pc8_of _ lc0 (by omega), hpc, Int.toNat_natCast]
  have qe : Go.Lib.pop8 (e : Int) = (pe : Int) := by rw [pc8_of _ le0 (by omega), hpe, Int.toNat_natCast]
  have ba : pa ≤ 8 := by rw [hpa]; exact pcN_le _ _
  have bc : pc ≤ 8 := by rw [hpc]; exact pcN_le _ _
  have be : pe ≤ 8 := by rw [hpe]; exact pcN_le _ _
  have E : pcN 24 x = pa + pc + pe := by rw [pc24 x, hpa, hpc, hpe, ha, hc, he]; omega
  rw [E]
  clear ha hb hc he hpa hpc hpe E
  go_enter Try.func115, Try.ntmps115
  go_wp2
  go_region
  go_wp2
  go_ret
  exact ⟨by simp, rfl, rfl, rfl, rfl⟩
end Go.Proofs.Ytodmakcklacbfaa

namespace Go.Proofs.Ytodmakcklacbfaa
open Go.RowKit 

theorem wait_pc (f : Fd) (i : Nat) {m : Nat} (h : f.n ≤ m) : f.wait i = pcN m (f.behindW i) := by
  have e : ((List.range f.n).filter fun j => f.ahd i j).length = pcN f.n (f.behindW i) := by
    unfold pcN Fd.behindW
    congr 1
    refine List.filter_congr fun j hj => ?_
    rw [wrd_bit, decide_eq_true (List.mem_range.1 hj), Bool.true_and]
  unfold Fd.wait
  rw [e]
  obtain ⟨k, rfl⟩ : ∃ k, m = f.n + k := ⟨m - f.n, by omega⟩
  rw [pcN_add, Nat.div_eq_of_lt (show f.behindW i < 2 ^ f.n from wrd_lt _ _)]
  unfold pcN
  have : (List.range k).filter (fun j => (0 : Nat).testBit j) = [] := by
    rw [List.filter_eq_nil_iff]
    intro j _
    simp
  rw [this]
  rfl
theorem ones {x : Nat} (hx : x < 16777216) (w : World) : Calls Try.prog 115 #[.int .u32 (x : Int)] w fun o w' => o = .returned (.int .i64 ((pcN 24 x : Nat) : Int)) ∧ Kept (fun _ => False) w w' := by
  refine (onesCount hx w).mono ?_
  rintro o w' ⟨rfl, h1, h2, h3, h4⟩
  exact ⟨rfl, h2, h4, h3, by rw [h1]; exact Nat.le_refl _, fun k _ _ => by rw [h1]⟩
set_option maxRecDepth 100000 in
theorem waitFor {w : World} {fb : Nat} {f : Fd} {ms : List Cm} {cp : Option Addr} {cc vb ab bb lb mb : Nat} (h : SF w fb f ms cp cc vb ab bb lb mb) (i : Nat) (hi : i < f.n) :
    Calls Try.prog 113 #[.pointer (some ⟨fb, 0, none⟩), .int .i64 (i : Int)] w fun o w' => o = .returned (.int .i64 ((f.wait i : Nat) : Int)) ∧ Kept (fun _ => False) w w' := by
  have n24 := h.n24
  have f4 := cell_blk h.blk 4 (v := .slice (some ⟨bb, 0, none⟩) f.n f.n) rfl
  have b1 := h.beh i hi
  have CO : Hid (Calls Try.prog 115 #[.int .u32 ((f.behindW i : Nat) : Int)] w fun o w' => o = .returned (.int .i64 ((f.wait i : Nat) : Int)) ∧ Kept (fun _ => False) w w') := by
    have := ones (x := f.behindW i) (lt32 (wrd_lt _ _) n24) w
    rw [← wait_pc f i n24] at this
    exact this
  obtain ⟨n, hn⟩ : ∃ n, n = f.n := ⟨_, rfl⟩
  rw [← hn] at f4 n24 hi
  obtain ⟨bw, hbw⟩ : ∃ bw, bw = f.behindW i := ⟨_, rfl⟩
  rw [← hbw] at b1 CO
  obtain ⟨wt, hwt⟩ : ∃ wt, wt = f.wait i := ⟨_, rfl⟩
  rw [← hwt] at CO ⊢
  have i1 : (i : Int) < (n : Int) := by omega
  clear h hn hbw hwt
  go_enter Try.func113, Try.ntmps113
  go_wp2_with fail
  refine CO.out.mono ?_
  rintro o w2 ⟨rfl, K2⟩
  have G : Hid (Kept (fun _ => False) w w2) := K2
  clear K2
  go_wp2_with fail
  go_ret
  exact ⟨rfl, G.out⟩
end Go.Proofs.Ytodmakcklacbfaa

namespace Go.Proofs.Ytodmakcklacbfaa
open Go.RowKit 

def intsN (R : List Nat) : List Value := R.map fun i : Nat => Value.int .i64 (i : Int)
theorem intsN_append (R S : List Nat) : intsN (R ++ S) = intsN R ++ intsN S := by simp [intsN]
theorem intsN_get {R : List Nat} {j r : Nat} (h : R[j]? = some r) : (intsN R)[j]? = some (.int .i64 (r : Int)) := by
  unfold intsN
  rw [List.getElem?_map, h]
  rfl
/-- A list of numbers of one's own. -/
structure NRow (b0 : Nat) (w : World) (p : Option Addr) (k c : Nat) (R : List Nat) : Prop where
  len : R.length = k
  row : w.ownsRow b0 3 1 (.slice p k c) k (intsN R)
theorem NRow.k0 {b0 : Nat} {w w' : World} {p : Option Addr} {k c : Nat} {R : List Nat} (h : NRow b0 w p k c R) (K : Kept (fun _ => False) w w') : NRow b0 w' p k c R := ⟨h.len, K.owns h.row (fun _ _ z => z)⟩
theorem NRow.at {b0 : Nat} {w : World} {p : Option Addr} {k c : Nat} {R : List Nat} (h : NRow b0 w p k c R) {j : Nat} (hj : j < k) : ∃ g r, p = some ⟨g, 0, none⟩ ∧ R[j]? = some r ∧ w.cell? ⟨g, j, none⟩ = some (.int .i64 (r : Int)) := by
  rcases h.row.2 with ⟨_, hn⟩ | ⟨g, cap, cur, z, _⟩
  · omega
  · have z : Value.slice p k c = .slice (some ⟨g, 0, none⟩) k cap := z
    injection z with z1 _ z3
    subst z1
    subst z3
    have hj2 : j < R.length := by rw [h.len]; exact hj
    have hc := h.row.cells (g := g) rfl
    refine ⟨g, R[j], rfl, List.getElem?_eq_getElem hj2, ?_⟩
    have := hc j _ (intsN_get (List.getElem?_eq_getElem hj2))
    rw [Addr.add_none, Nat.zero_add] at this
    exact this
/-- Where the first of that value stands. -/
def AtP (f : Fd) (R : List Nat) (i : Nat) (a : Int) : Prop := (a = -1 ∧ ∀ r ∈ R, f.val r ≠ f.val i) ∨ ∃ (j r : Nat), a = (j : Int) ∧ R[j]? = some r ∧ f.val r = f.val i
set_option maxRecDepth 100000 in
theorem closure47 {w : World} {fb : Nat} {f : Fd} {ms : List Cm} {cp : Option Addr} {cc vb ab bb lb mb FB IB : Nat} (h : SF w fb f ms cp cc vb ab bb lb mb) (r i : Nat) (hr : r < f.n) (hi : i < f.n) (c1 : w.cell? ⟨FB, 0, none⟩ = some (.pointer (some ⟨fb, 0, none⟩))) (c2 : w.cell? ⟨IB, 0, none⟩ = some (.int .i64 (i : Int))) :
    Calls Try.prog 112 #[.int .i64 (r : Int), .pointer (some ⟨FB, 0, none⟩), .pointer (some ⟨IB, 0, none⟩)] w fun o w' => o = .returned (.bool (decide (f.val r = f.val i))) ∧ Kept (fun _ => False) w w' := by
  have f1 := cell_blk h.blk 1 (v := .slice (some ⟨vb, 0, none⟩) f.n f.n) rfl
  have v1 := h.val r hr
  have v2 := h.val i hi
  obtain ⟨n, hn⟩ : ∃ n, n = f.n := ⟨_, rfl⟩
  rw [← hn] at f1 hr hi
  obtain ⟨x, hx⟩ : ∃ x, x = f.val r := ⟨_, rfl⟩
  obtain ⟨y, hy⟩ : ∃ y, y = f.val i := ⟨_, rfl⟩
  rw [← hx] at v1 ⊢
  rw [← hy] at v2 ⊢
  have i1 : (i : Int) < (n : Int) := by omega
  have r1 : (r : Int) < (n : Int) := by omega
  have i0 : (0 : Int) ≤ (i : Int) := by omega
  have r0 : (0 : Int) ≤ (r : Int) := by omega
  clear h hn hx hy
  go_enter Try.func112, Try.ntmps112
  go_upto_region 1 with fail
  go_quiet (fail)
  go_wp2_with fail
  go_ret
  refine ⟨by first | rfl | simp, ?_⟩
  exact (Kept.refl _ _).drewN _
set_option maxRecDepth 100000 in
theorem indexFunc {w : World} {fb : Nat} {f : Fd} {ms : List Cm} {cp : Option Addr} {cc vb ab bb lb mb FB IB : Nat} (h : SF w fb f ms cp cc vb ab bb lb mb) (i : Nat) (hi : i < f.n) (c1 : w.cell? ⟨FB, 0, none⟩ = some (.pointer (some ⟨fb, 0, none⟩))) (c2 : w.cell? ⟨IB, 0, none⟩ = some (.int .i64 (i : Int))) {b0 : Nat} {p : Option Addr} {k c : Nat} {R : List Nat} (hR : NRow b0 w p k c R) (lt : ∀ r ∈ R, r < f.n) :
    Calls Try.prog 64 #[.slice p k c, .func (.func 112) #[] #[.pointer (some ⟨FB, 0, none⟩), .pointer (some ⟨IB, 0, none⟩)]] w fun o w' => ∃ a : Int, o = .returned (.int .i64 a) ∧ Hid (AtP f R i a ∧ Kept (fun _ => False) w w') := by
  have H : Hid (SF w fb f ms cp cc vb ab bb lb mb ∧ i < f.n ∧ w.cell? ⟨FB, 0, none⟩ = some (.pointer (some ⟨fb, 0, none⟩)) ∧ w.cell? ⟨IB, 0, none⟩ = some (.int .i64 (i : Int)) ∧ NRow b0 w p k c R ∧ ∀ r ∈ R, r < f.n) := ⟨h, hi, c1, c2, hR, lt⟩
  have rm := own_room hR.row
  unfold maxLen at rm
  obtain ⟨rm1, rm2⟩ := rm
  have S0 : Hid ((∀ r ∈ R.take 0, f.val r ≠ f.val i) ∧ Kept (fun _ => False) w w) := ⟨fun r hr => by simp at hr, Kept.refl _ _⟩
  clear h hi c1 c2 hR lt
  go_enter Try.func64, Try.ntmps64
  go_wp2_with fail
  go_loopw [5, 8] (fun _ u8 wr => ∃ (j : Nat), u8 = .int .i64 (j : Int) ∧ j ≤ k ∧ Hid ((∀ r ∈ R.take j, f.val r ≠ f.val i) ∧ Kept (fun _ => False) w wr)) (fun _ u8 _ => k - (intOf u8).toNat)
  case atStart => exact ⟨0, rfl, Nat.zero_le _, S0⟩
  case round =>
    obtain ⟨j, rfl, hj, S⟩ := hrel
    clear S0
    by_cases hlt : j < k
    · have j1 : (j : Int) < (k : Int) := by omega
      obtain ⟨g, r, rfl, hr, cr⟩ := (H.out.2.2.2.2.1.k0 S.out.2).at hlt
      obtain ⟨eq, heq⟩ : ∃ eq, eq = decide (f.val r = f.val i) := ⟨_, rfl⟩
      have CC : Hid (Calls Try.prog 112 #[.int .i64 (r : Int), .pointer (some ⟨FB, 0, none⟩), .pointer (some ⟨IB, 0, none⟩)] wr fun o w' => o = .returned (.bool eq) ∧ Kept (fun _ => False) wr w') := by
        rw [heq]
        exact closure47 (H.out.1.k0 S.out.2) r i (H.out.2.2.2.2.2 r (List.mem_of_getElem? hr)) H.out.2.1 (S.out.2.cell H.out.2.2.1 (fun z => z)) (S.out.2.cell H.out.2.2.2.1 (fun z => z))
      have HE : Hid (eq = decide (f.val r = f.val i) ∧ R[j]? = some r) := ⟨heq, hr⟩
      clear heq hr
      go_wp2_with fail
      refine CC.out.mono ?_
      rintro o w2 ⟨rfl, K2⟩
      have K3 : Hid (Kept (fun _ => False) w w2) := S.out.2.trans K2 (fun _ _ z => z.elim)
      clear K2 CC cr
      cases eq
      · have N : Hid (∀ r ∈ R.take (j + 1), f.val r ≠ f.val i) := by
          intro s hs
          rw [List.take_add_one, HE.out.2] at hs
          rcases List.mem_append.1 hs with z | z
          · exact S.out.1 s z
          · have z : s = r := by simpa using z
            rw [z]
            exact of_decide_eq_false HE.out.1.symm
        clear S
        go_wp2_with fail
        go_roundw
        case rel => exact ⟨j + 1, by go_num, by omega, N.out, K3.out⟩
        case measure => simp [intOf] <;> omega
      · have G : Hid (AtP f R i (j : Int)) := .inr ⟨j, r, rfl, HE.out.2, of_decide_eq_true HE.out.1.symm⟩
        clear S
        go_wp2_with fail
        go_ret
        exact ⟨(j : Int), rfl, G.out, K3.out⟩
    · have j1 : ¬ (j : Int) < (k : Int) := by omega
      have G : Hid (AtP f R i (-1) ∧ Kept (fun _ => False) w wr) := by
        refine ⟨.inl ⟨rfl, ?_⟩, S.out.2⟩
        have := S.out.1
        rw [List.take_of_length_le (by rw [H.out.2.2.2.2.1.len]; omega)] at this
        exact this
      clear S
      go_wp2_with fail
      go_ret
      exact ⟨-1, rfl, G⟩
end Go.Proofs.Ytodmakcklacbfaa
