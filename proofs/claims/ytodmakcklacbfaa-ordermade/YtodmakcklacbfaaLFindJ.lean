import Derived.Test.YtodmakcklacbfaaGen
import Derived.Test.YtodmakcklacbfaaLSpec
import Derived.Deep.CutBlock
import Derived.BigQuiet
import Derived.BigRegion
namespace Go.Proofs.Ytodmakcklacbfaa
open Go.RowKit 

/-- A call as it lies in memory. -/
structure Cm where
  client : Int
  op : Int
  put : Bool
  key : ByteArray
  va : Option Addr
  vn : Nat
  vc : Nat
  st : Int
  frm : Int
  to : Int
  opn : Bool
  tx : Int
  ty : Int
  val : List Nat
def Cm.cs (m : Cm) : Array Value := #[.int .i64 m.client, .int .i64 m.op, .bool m.put, .string m.key, .slice m.va m.vn m.vc, .int .i64 m.st, .int .i64 m.frm, .int .i64 m.to, .bool m.opn, .int .i64 m.tx, .int .i64 m.ty]
def Cm.cl (m : Cm) : Cl := ⟨m.put, m.opn, m.frm, m.to, m.st, m.val⟩
/-- A list of calls reads so. -/
structure CRd (w : World) (p : Option Addr) (n c : Nat) (ms : List Cm) : Prop where
  len : ms.length = n
  room : n ≤ c
  small : c ≤ maxLen
  cells : 0 < n → ∃ b off, p = some ⟨b, off, none⟩ ∧ ∀ i (h : i < ms.length) k v, ms[i].cs[k]? = some v → w.cell? ⟨b, off + i * 11 + k, none⟩ = some v
  rd : ∀ m ∈ ms, Reads w m.va m.vn m.vc m.val
theorem CRd.off {S : Nat → Prop} {w w' : World} {p : Option Addr} {n c : Nat} {ms : List Cm} (h : CRd w p n c ms) (K : Kept S w w') (hn : ∀ q v, w.cell? q = some v → ¬ S q.block) : CRd w' p n c ms := by
  refine ⟨h.len, h.room, h.small, fun h0 => ?_, fun m hm => ?_⟩
  · obtain ⟨b, off, e, hc⟩ := h.cells h0
    exact ⟨b, off, e, fun i hi k v hv => K.cell (hc i hi k v hv) (hn _ _ (hc i hi k v hv))⟩
  · have r := h.rd m hm
    refine ⟨r.length, r.room, r.small, r.bytes, fun h0 => ?_⟩
    obtain ⟨b, off, e, hc⟩ := r.cells h0
    exact ⟨b, off, e, fun i hi => K.cell (hc i hi) (hn _ _ (hc i hi))⟩
theorem CRd.k0 {w w' : World} {p : Option Addr} {n c : Nat} {ms : List Cm} (h : CRd w p n c ms) (K : Kept (fun _ => False) w w') : CRd w' p n c ms := h.off K (fun _ _ _ z => z)
/-- One of the calls. -/
theorem CRd.at {w : World} {p : Option Addr} {n c : Nat} {ms : List Cm} (h : CRd w p n c ms) {i : Nat} (hi : i < n) : ∃ b off m, p = some ⟨b, off, none⟩ ∧ ms[i]? = some m ∧ w.cell? ⟨b, off + i * 11, none⟩ = some (.int .i64 m.client) ∧ w.cell? ⟨b, off + i * 11 + 1, none⟩ = some (.int .i64 m.op) ∧ w.cell? ⟨b, off + i * 11 + 2, none⟩ = some (.bool m.put) ∧ w.cell? ⟨b, off + i * 11 + 3, none⟩ = some (.string m.key) ∧ w.cell? ⟨b, off + i * 11 + 4, none⟩ = some (.slice m.va m.vn m.vc) ∧ w.cell? ⟨b, off + i * 11 + 5, none⟩ = some (.int .i64 m.st) ∧ w.cell? ⟨b, off + i * 11 + 6, none⟩ = some (.int .i64 m.frm) ∧ w.cell? ⟨b, off + i * 11 + 7, none⟩ = some (.int .i64 m.to) ∧ w.cell? ⟨b, off + i * 11 + 8, none⟩ = some (.bool m.opn) ∧ w.cell? ⟨b, off + i * 11 + 9, none⟩ = some (.int .i64 m.tx) ∧ w.cell? ⟨b, off + i * 11 + 10, none⟩ = some (.int .i64 m.ty) ∧ Reads w m.va m.vn m.vc m.val := by
  obtain ⟨b, off, e, hc⟩ := h.cells (by omega)
  have hi2 : i < ms.length := by rw [h.len]; exact hi
  refine ⟨b, off, ms[i], e, List.getElem?_eq_getElem hi2, hc i hi2 0 _ rfl, hc i hi2 1 _ rfl, hc i hi2 2 _ rfl, hc i hi2 3 _ rfl, hc i hi2 4 _ rfl, hc i hi2 5 _ rfl, hc i hi2 6 _ rfl, hc i hi2 7 _ rfl, hc i hi2 8 _ rfl, hc i hi2 9 _ rfl, hc i hi2 10 _ rfl, h.rd _ (List.getElem_mem hi2)⟩
/-- A word of bits. -/
def wrd (p : Nat → Bool) : Nat → Nat
  | 0 => 0
  | n + 1 => if p n = true then add (wrd p n) n else wrd p n
theorem wrd_bit (p : Nat → Bool) : ∀ (n j : Nat), (wrd p n).testBit j = (decide (j < n) && p j)
  | 0, j => by simp [wrd]
  | n + 1, j => by
    unfold wrd
    by_cases h : p n = true
    · rw [if_pos h, add_mem, wrd_bit p n j]
      by_cases e : n = j
      · subst e
        simp [h]
      · rw [decide_eq_false e, Bool.or_false]
        congr 1
        rw [decide_eq_decide]
        omega
    · rw [if_neg h, wrd_bit p n j]
      by_cases e : n = j
      · subst e
        have : p n = false := by simpa using h
        simp [this]
      · congr 1
        rw [decide_eq_decide]
        omega
theorem add_lt {d i n : Nat} (hd : d < 2 ^ n) (hi : i < n) : add d i < 2 ^ n := by
  unfold add
  exact Nat.or_lt_two_pow hd (Nat.pow_lt_pow_right (by omega) hi)
theorem wrd_lt (p : Nat → Bool) : ∀ n, wrd p n < 2 ^ n
  | 0 => by simp [wrd]
  | n + 1 => by
    have ih := wrd_lt p n
    have h2 : wrd p n < 2 ^ (n + 1) := by rw [Nat.pow_succ]; omega
    unfold wrd
    split
    · exact add_lt h2 (by omega)
    · exact h2
theorem lt32 {a n : Nat} (h : a < 2 ^ n) (hn : n ≤ 24) : a < 16777216 := Nat.lt_of_lt_of_le h (Nat.pow_le_pow_right (by omega) hn)
theorem u32_nat (c : Nat) (hc : c < 4294967296) : (BitVec.ofInt 32 (c : Int)).toNat = c := by
  rw [BitVec.toNat_ofInt]; simp; omega
theorem u32_and_nat (a b : Nat) (ha : a < 4294967296) (hb : b < 4294967296) : bits .and .u32 (a : Int) (b : Int) = ((a &&& b : Nat) : Int) := by
  have hx : a &&& b < 2 ^ 32 := Nat.and_lt_two_pow a hb
  show IntKind.u32.wrap ((BitVec.ofInt 32 (a : Int) &&& BitVec.ofInt 32 (b : Int)).toNat : Int) = _
  rw [BitVec.toNat_and, u32_nat a ha, u32_nat b hb, IntKind.wrap_u32]
  omega
theorem u32_or_nat (a b : Nat) (ha : a < 4294967296) (hb : b < 4294967296) : bits .or .u32 (a : Int) (b : Int) = ((a ||| b : Nat) : Int) := by
  have hx : a ||| b < 2 ^ 32 := Nat.or_lt_two_pow ha hb
  show IntKind.u32.wrap ((BitVec.ofInt 32 (a : Int) ||| BitVec.ofInt 32 (b : Int)).toNat : Int) = _
  rw [BitVec.toNat_or, u32_nat a ha, u32_nat b hb, IntKind.wrap_u32]
  omega
theorem sub_iff (a b : Nat) : a &&& b = a ↔ ∀ j, a.testBit j = true → b.testBit j = true := by
  constructor
  · intro h j hj
    rw [← h, Nat.testBit_and, Bool.and_eq_true] at hj
    exact hj.2
  · intro h
    refine Nat.eq_of_testBit_eq fun j => ?_
    rw [Nat.testBit_and]
    cases q : a.testBit j
    · rfl
    · rw [h j q]; rfl
theorem u32_andNot_nat (a b : Nat) (ha : a < 4294967296) (hb : b < 4294967296) : (bits .andNot .u32 (a : Int) (b : Int) == 0) = decide (a &&& b = a) := by
  have e : bits .andNot .u32 (a : Int) (b : Int) = (((BitVec.ofInt 32 (a : Int) &&& ~~~ BitVec.ofInt 32 (b : Int)).toNat : Nat) : Int) := by
    show IntKind.u32.wrap ((BitVec.ofInt 32 (a : Int) &&& ~~~ BitVec.ofInt 32 (b : Int)).toNat : Int) = _
    rw [IntKind.wrap_u32]
    have := (BitVec.ofInt 32 (a : Int) &&& ~~~ BitVec.ofInt 32 (b : Int)).isLt
    omega
  obtain ⟨z, hz⟩ : ∃ z, z = (BitVec.ofInt 32 (a : Int) &&& ~~~ BitVec.ofInt 32 (b : Int)).toNat := ⟨_, rfl⟩
  have bit : ∀ j, z.testBit j = (a.testBit j && !b.testBit j) := by
    intro j
    rw [hz, BitVec.toNat_and, Nat.testBit_and, u32_nat a ha, BitVec.testBit_toNat, BitVec.getLsbD_not]
    have e2 : (BitVec.ofInt 32 (b : Int)).getLsbD j = b.testBit j := by rw [← BitVec.testBit_toNat, u32_nat b hb]
    rw [e2]
    by_cases hj : j < 32
    · rw [decide_eq_true hj, Bool.true_and]
    · have : a.testBit j = false := Nat.testBit_lt_two_pow (Nat.lt_of_lt_of_le ha (by show 2 ^ 32 ≤ 2 ^ j; exact Nat.pow_le_pow_right (by omega) (by omega)))
      rw [this]
      rfl
  rw [e, ← hz]
  have : ((z : Int) == 0) = decide (z = 0) := by
    by_cases h : z = 0
    · rw [h]; rfl
    · rw [decide_eq_false h]
      rw [beq_eq_false_iff_ne]
      omega
  rw [this, decide_eq_decide, sub_iff]
  constructor
  · intro h j hj
    have := bit j
    rw [h, hj] at this
    cases q : b.testBit j
    · rw [q] at this; simp at this
    · rfl
  · intro h
    refine Nat.eq_of_testBit_eq fun j => ?_
    rw [bit j, Nat.zero_testBit]
    cases q : a.testBit j
    · rfl
    · rw [h j q]; rfl
theorem pow_mod {i : Nat} (h : i < 24) : (2 : Int) ^ i % 4294967296 = ((2 ^ i : Nat) : Int) := by
  have h1 : 2 ^ i < 2 ^ 24 := Nat.pow_lt_pow_right (by omega) h
  have h2 : ((2 ^ i : Nat) : Int) = (2 : Int) ^ i := by simp
  rw [← h2]
  obtain ⟨q, hq⟩ : ∃ q : Nat, q = 2 ^ i := ⟨_, rfl⟩
  rw [← hq] at h1 ⊢
  omega
theorem and_pow (d i : Nat) (hd : d < 4294967296) (hi : i < 24) : (bits .and .u32 (d : Int) ((2 ^ i : Nat) : Int) == 0) = !d.testBit i := by
  have h1 : 2 ^ i < 2 ^ 24 := Nat.pow_lt_pow_right (by omega) hi
  rw [u32_and_nat d (2 ^ i) hd (by omega)]
  cases q : d.testBit i
  · have : d &&& 2 ^ i = 0 := by
      refine Nat.eq_of_testBit_eq fun j => ?_
      rw [Nat.testBit_and, Nat.testBit_two_pow, Nat.zero_testBit]
      by_cases e : i = j
      · subst e; rw [q]; rfl
      · rw [decide_eq_false e, Bool.and_false]
    rw [this]
    rfl
  · have : d &&& 2 ^ i ≠ 0 := fun z => by
      have := congrArg (fun x => x.testBit i) z
      rw [Nat.testBit_and, Nat.testBit_two_pow, q, Nat.zero_testBit] at this
      simp at this
    rw [Bool.not_true, beq_eq_false_iff_ne]
    omega
theorem or_pow (d i : Nat) (hd : d < 4294967296) (hi : i < 24) : bits .or .u32 (d : Int) ((2 ^ i : Nat) : Int) = ((add d i : Nat) : Int) := by
  have h1 : 2 ^ i < 2 ^ 24 := Nat.pow_lt_pow_right (by omega) hi
  exact u32_or_nat d (2 ^ i) hd (by omega)
end Go.Proofs.Ytodmakcklacbfaa

namespace Go.Proofs.Ytodmakcklacbfaa
open Go.RowKit 

/-- The words of a finder. -/
def Fd.aheadW (f : Fd) (i : Nat) : Nat := wrd (fun j => f.ahd j i) f.n
def Fd.behindW (f : Fd) (i : Nat) : Nat := wrd (fun j => f.ahd i j) f.n
def Fd.alikeB (f : Fd) (i j : Nat) : Bool := (f.put i != f.put j) && decide (f.val i = f.val j)
def Fd.alikeW (f : Fd) (i : Nat) : Nat := wrd (fun j => f.alikeB i j) f.n
def Fd.mustW (f : Fd) : Nat := wrd (fun j => !f.opn j) f.n
/-- A finder, but for its map. -/
structure SF (w : World) (fb : Nat) (f : Fd) (ms : List Cm) (cp : Option Addr) (cc vb ab bb lb mb : Nat) : Prop where
  blk : w.heap[fb]? = some (.cells #[.slice cp f.n cc, .slice (some ⟨vb, 0, none⟩) f.n f.n, .int .u32 ((f.mustW : Nat) : Int), .slice (some ⟨ab, 0, none⟩) f.n f.n, .slice (some ⟨bb, 0, none⟩) f.n f.n, .slice (some ⟨lb, 0, none⟩) f.n f.n, .map (some mb)] 88 (0, 0))
  cr : CRd w cp f.n cc ms
  n24 : f.n ≤ 24
  put : ∀ i m, ms[i]? = some m → f.put i = m.put
  opn : ∀ i m, ms[i]? = some m → f.opn i = (m.put && m.opn)
  val : ∀ i, i < f.n → w.cell? ⟨vb, i, none⟩ = some (.int .i64 (f.val i))
  ahd : ∀ i, i < f.n → w.cell? ⟨ab, i, none⟩ = some (.int .u32 ((f.aheadW i : Nat) : Int))
  beh : ∀ i, i < f.n → w.cell? ⟨bb, i, none⟩ = some (.int .u32 ((f.behindW i : Nat) : Int))
  alk : ∀ i, i < f.n → w.cell? ⟨lb, i, none⟩ = some (.int .u32 ((f.alikeW i : Nat) : Int))
theorem SF.off {S : Nat → Prop} {w w' : World} {fb : Nat} {f : Fd} {ms : List Cm} {cp : Option Addr} {cc vb ab bb lb mb : Nat} (h : SF w fb f ms cp cc vb ab bb lb mb) (K : Kept S w w') (hn : ∀ q v, w.cell? q = some v → ¬ S q.block) : SF w' fb f ms cp cc vb ab bb lb mb :=
  ⟨K.get h.blk (hn ⟨fb, 0, none⟩ _ (cell_blk h.blk 0 rfl)), h.cr.off K hn, h.n24, h.put, h.opn, fun i hi => K.cell (h.val i hi) (hn _ _ (h.val i hi)), fun i hi => K.cell (h.ahd i hi) (hn _ _ (h.ahd i hi)), fun i hi => K.cell (h.beh i hi) (hn _ _ (h.beh i hi)), fun i hi => K.cell (h.alk i hi) (hn _ _ (h.alk i hi))⟩
theorem SF.k0 {w w' : World} {fb : Nat} {f : Fd} {ms : List Cm} {cp : Option Addr} {cc vb ab bb lb mb : Nat} (h : SF w fb f ms cp cc vb ab bb lb mb) (K : Kept (fun _ => False) w w') : SF w' fb f ms cp cc vb ab bb lb mb := h.off K (fun _ _ _ z => z)
/-- mayFollow, as it is reckoned. -/
def Fd.mayB (f : Fd) (d : Nat) (v : Int) (i : Nat) : Bool := !d.testBit i && (f.put i || decide (f.val i = v)) && decide (∀ j, j < f.n → f.ahd j i = true → d.testBit j = true)
theorem mayB_iff {f : Fd} {d : Nat} {v : Int} {i : Nat} (hi : i < f.n) : f.mayB d v i = true ↔ f.May d v i := by
  unfold Fd.mayB Fd.May
  simp only [Bool.and_eq_true, Bool.not_eq_true', Bool.or_eq_true, decide_eq_true_eq]
  constructor
  · rintro ⟨⟨h1, h2⟩, h3⟩
    exact ⟨hi, h1, h2, h3⟩
  · rintro ⟨_, h1, h2, h3⟩
    exact ⟨⟨h1, h2⟩, h3⟩
set_option maxRecDepth 100000 in
theorem mayFollow0 {w : World} {fb : Nat} {f : Fd} {ms : List Cm} {cp : Option Addr} {cc vb ab bb lb mb : Nat} (h : SF w fb f ms cp cc vb ab bb lb mb) (d : Nat) (v : Int) (i : Nat) (hd : d < 16777216) (hi : i < f.n) :
    Calls Try.prog 89 #[.pointer (some ⟨fb, 0, none⟩), .int .u32 (d : Int), .int .i64 v, .int .i64 (i : Int)] w fun o w' => o = .returned (.bool (f.mayB d v i)) ∧ w' = w := by
  have n24 := h.n24
  have f0 := cell_blk h.blk 0 (v := .slice cp f.n cc) rfl
  have f1 := cell_blk h.blk 1 (v := .slice (some ⟨vb, 0, none⟩) f.n f.n) rfl
  have f3 := cell_blk h.blk 3 (v := .slice (some ⟨ab, 0, none⟩) f.n f.n) rfl
  obtain ⟨n, hn⟩ : ∃ n, n = f.n := ⟨_, rfl⟩
  rw [← hn] at f0 f1 f3 n24 hi
  have v1 := h.val i (by rw [← hn]; exact hi)
  have a1 := h.ahd i (by rw [← hn]; exact hi)
  have cr := h.cr
  rw [← hn] at cr
  have i1 : (i : Int) < (n : Int) := by omega
  have i0 : ¬ (i : Int) < 0 := by omega
  obtain ⟨b, off, m, rfl, hm, _, _, c2, _⟩ := cr.at hi
  have H : Hid (SF w fb f ms (some ⟨b, off, none⟩) cc vb ab bb lb mb ∧ n = f.n) := ⟨h, hn⟩
  clear h hn cr
  go_enter Try.func89, Try.ntmps89
  obtain ⟨q, hq⟩ : ∃ q : Nat, q = 2 ^ i := ⟨_, rfl⟩
  have p2 : (2 : Int) ^ i % 4294967296 = (q : Int) := by rw [hq]; exact pow_mod (by omega)
  obtain ⟨t1, ht1⟩ : ∃ t1, t1 = !d.testBit i := ⟨_, rfl⟩
  have b1 : (bits .and .u32 (d : Int) (q : Int) == 0) = t1 := by rw [hq, ht1]; exact and_pow d i (by omega) (by omega)
  obtain ⟨aw, haw⟩ : ∃ aw, aw = f.aheadW i := ⟨_, rfl⟩
  rw [← haw] at a1
  have aw24 : aw < 16777216 := by rw [haw]; exact lt32 (wrd_lt _ _) H.out.1.n24
  obtain ⟨t3, ht3⟩ : ∃ t3, t3 = decide (aw &&& d = aw) := ⟨_, rfl⟩
  have b3 : (bits .andNot .u32 (aw : Int) (d : Int) == 0) = t3 := by rw [ht3]; exact u32_andNot_nat aw d (by omega) (by omega)
  obtain ⟨t2, ht2⟩ : ∃ t2, t2 = decide (f.val i = v) := ⟨_, rfl⟩
  have b2 : (f.val i == v) = t2 := by rw [ht2]; rfl
  have E : Hid (f.mayB d v i = (t1 && (m.put || t2) && t3)) := by
    show f.mayB d v i = (t1 && (m.put || t2) && t3)
    have e0 := H.out.1.put i m hm
    have e3 : decide (∀ j, j < f.n → f.ahd j i = true → d.testBit j = true) = t3 := by
      rw [ht3, decide_eq_decide, sub_iff, haw]
      unfold Fd.aheadW
      constructor
      · intro h j hj
        rw [wrd_bit, Bool.and_eq_true, decide_eq_true_iff] at hj
        exact h j hj.1 hj.2
      · intro h j h1 h2
        refine h j ?_
        rw [wrd_bit, decide_eq_true h1, h2]
        rfl
    unfold Fd.mayB
    rw [e0, e3, ← ht1, ← ht2]
  clear hq ht1 haw ht3 ht2 hm
  cases t1
  · have E2 : f.mayB d v i = false := by rw [E.out]; rfl
    rw [E2]
    cases hp : m.put
    · rw [hp] at c2
      go_wp2_with fail
      go_ret
      exact ⟨by simp, rfl⟩
    · rw [hp] at c2
      go_wp2_with fail
      go_ret
      exact ⟨by simp, rfl⟩
  · cases hp : m.put
    · rw [hp] at c2 E
      cases t2
      · have E2 : f.mayB d v i = false := by rw [E.out]; rfl
        rw [E2]
        go_wp2_with fail
        go_ret
        exact ⟨by simp, rfl⟩
      · have E2 : f.mayB d v i = t3 := by rw [E.out]; simp
        rw [E2]
        go_wp2_with fail
        go_ret
        exact ⟨by simp, rfl⟩
    · rw [hp] at c2 E
      have E2 : f.mayB d v i = t3 := by rw [E.out]; simp
      rw [E2]
      go_wp2_with fail
      go_ret
      exact ⟨by simp, rfl⟩
end Go.Proofs.Ytodmakcklacbfaa
