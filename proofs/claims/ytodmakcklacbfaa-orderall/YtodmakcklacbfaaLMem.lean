import Derived.Test.YtodmakcklacbfaaGen
import Derived.Test.YtodmakcklacbfaaLSpec
namespace Go.Proofs.Ytodmakcklacbfaa
open Go.RowKit 

/-- A call as it lies in memory. -/
structure Cm where
  client : Int
  op : Int
  put : Bool
  key : ByteArray
  va : Option Addr
  vn : Nat
  vc : Nat
  st : Int
  frm : Int
  to : Int
  opn : Bool
  tx : Int
  ty : Int
  val : List Nat
def Cm.cs (m : Cm) : Array Value := #[.int .i64 m.client, .int .i64 m.op, .bool m.put, .string m.key, .slice m.va m.vn m.vc, .int .i64 m.st, .int .i64 m.frm, .int .i64 m.to, .bool m.opn, .int .i64 m.tx, .int .i64 m.ty]
def Cm.cl (m : Cm) : Cl := ⟨m.put, m.opn, m.frm, m.to, m.st, m.val⟩
/-- A list of calls reads so. -/
structure CRd (w : World) (p : Option Addr) (n c : Nat) (ms : List Cm) : Prop where
  len : ms.length = n
  room : n ≤ c
  small : c ≤ maxLen
  cells : 0 < n → ∃ b off, p = some ⟨b, off, none⟩ ∧ ∀ i (h : i < ms.length) k v, ms[i].cs[k]? = some v → w.cell? ⟨b, off + i * 11 + k, none⟩ = some v
  rd : ∀ m ∈ ms, Reads w m.va m.vn m.vc m.val
theorem CRd.off {S : Nat → Prop} {w w' : World} {p : Option Addr} {n c : Nat} {ms : List Cm} (h : CRd w p n c ms) (K : Kept S w w') (hn : ∀ q v, w.cell? q = some v → ¬ S q.block) : CRd w' p n c ms := by
  refine ⟨h.len, h.room, h.small, fun h0 => ?_, fun m hm => ?_⟩
  · obtain ⟨b, off, e, hc⟩ := h.cells h0
    exact ⟨b, off, e, fun i hi k v hv => K.cell (hc i hi k v hv) (hn _ _ (hc i hi k v hv))⟩
  · have r := h.rd m hm
    refine ⟨r.length, r.room, r.small, r.bytes, fun h0 => ?_⟩
    obtain ⟨b, off, e, hc⟩ := r.cells h0
    exact ⟨b, off, e, fun i hi => K.cell (hc i hi) (hn _ _ (hc i hi))⟩
theorem CRd.k0 {w w' : World} {p : Option Addr} {n c : Nat} {ms : List Cm} (h : CRd w p n c ms) (K : Kept (fun _ => False) w w') : CRd w' p n c ms := h.off K (fun _ _ _ z => z)
/-- One of the calls. -/
theorem CRd.at {w : World} {p : Option Addr} {n c : Nat} {ms : List Cm} (h : CRd w p n c ms) {i : Nat} (hi : i < n) : ∃ b off m, p = some ⟨b, off, none⟩ ∧ ms[i]? = some m ∧ w.cell? ⟨b, off + i * 11, none⟩ = some (.int .i64 m.client) ∧ w.cell? ⟨b, off + i * 11 + 1, none⟩ = some (.int .i64 m.op) ∧ w.cell? ⟨b, off + i * 11 + 2, none⟩ = some (.bool m.put) ∧ w.cell? ⟨b, off + i * 11 + 3, none⟩ = some (.string m.key) ∧ w.cell? ⟨b, off + i * 11 + 4, none⟩ = some (.slice m.va m.vn m.vc) ∧ w.cell? ⟨b, off + i * 11 + 5, none⟩ = some (.int .i64 m.st) ∧ w.cell? ⟨b, off + i * 11 + 6, none⟩ = some (.int .i64 m.frm) ∧ w.cell? ⟨b, off + i * 11 + 7, none⟩ = some (.int .i64 m.to) ∧ w.cell? ⟨b, off + i * 11 + 8, none⟩ = some (.bool m.opn) ∧ w.cell? ⟨b, off + i * 11 + 9, none⟩ = some (.int .i64 m.tx) ∧ w.cell? ⟨b, off + i * 11 + 10, none⟩ = some (.int .i64 m.ty) ∧ Reads w m.va m.vn m.vc m.val := by
  obtain ⟨b, off, e, hc⟩ := h.cells (by omega)
  have hi2 : i < ms.length := by rw [h.len]; exact hi
  refine ⟨b, off, ms[i], e, List.getElem?_eq_getElem hi2, hc i hi2 0 _ rfl, hc i hi2 1 _ rfl, hc i hi2 2 _ rfl, hc i hi2 3 _ rfl, hc i hi2 4 _ rfl, hc i hi2 5 _ rfl, hc i hi2 6 _ rfl, hc i hi2 7 _ rfl, hc i hi2 8 _ rfl, hc i hi2 9 _ rfl, hc i hi2 10 _ rfl, h.rd _ (List.getElem_mem hi2)⟩
/-- A word of bits. -/
def wrd (p : Nat → Bool) : Nat → Nat
  | 0 => 0
  | n + 1 => if p n = true then add (wrd p n) n else wrd p n
theorem wrd_bit (p : Nat → Bool) : ∀ (n j : Nat), (wrd p n).testBit j = (decide (j < n) && p j)
  | 0, j => by simp [wrd]
  | n + 1, j => by
    unfold wrd
    by_cases h : p n = true
    · rw [if_pos h, add_mem, wrd_bit p n j]
      by_cases e : n = j
      · subst e
        simp [h]
      · rw [decide_eq_false e, Bool.or_false]
        congr 1
        rw [decide_eq_decide]
        omega
    · rw [if_neg h, wrd_bit p n j]
      by_cases e : n = j
      · subst e
        have : p n = false := by simpa using h
        simp [this]
      · congr 1
        rw [decide_eq_decide]
        omega
theorem add_lt {d i n : Nat} (hd : d < 2 ^ n) (hi : i < n) : add d i < 2 ^ n := by
  unfold add
  exact Nat.or_lt_two_pow hd (Nat.pow_lt_pow_right (by omega) hi)
theorem wrd_lt (p : Nat → Bool) : ∀ n, wrd p n < 2 ^ n
  | 0 => by simp [wrd]
  | n + 1 => by
    have ih := wrd_lt p n
    have h2 : wrd p n < 2 ^ (n + 1) := by rw [Nat.pow_succ]; omega
    unfold wrd
    split
    · exact add_lt h2 (by omega)
    · exact h2
theorem lt32 {a n : Nat} (h : a < 2 ^ n) (hn : n ≤ 24) : a < 16777216 := Nat.lt_of_lt_of_le h (Nat.pow_le_pow_right (by omega) hn)
theorem u32_nat (c : Nat) (hc : c < 4294967296) : (BitVec.ofInt 32 (c : Int)).toNat = c := by
  rw [BitVec.toNat_ofInt]; simp; omega
theorem u32_and_nat (a b : Nat) (ha : a < 4294967296) (hb : b < 4294967296) : bits .and .u32 (a : Int) (b : Int) = ((a &&& b : Nat) : Int) := by
  have hx : a &&& b < 2 ^ 32 := Nat.and_lt_two_pow a hb
  show IntKind.u32.wrap ((BitVec.ofInt 32 (a : Int) &&& BitVec.ofInt 32 (b : Int)).toNat : Int) = _
  rw [BitVec.toNat_and, u32_nat a ha, u32_nat b hb, IntKind.wrap_u32]
  omega
theorem u32_or_nat (a b : Nat) (ha : a < 4294967296) (hb : b < 4294967296) : bits .or .u32 (a : Int) (b : Int) = ((a ||| b : Nat) : Int) := by
  have hx : a ||| b < 2 ^ 32 := Nat.or_lt_two_pow ha hb
  show IntKind.u32.wrap ((BitVec.ofInt 32 (a : Int) ||| BitVec.ofInt 32 (b : Int)).toNat : Int) = _
  rw [BitVec.toNat_or, u32_nat a ha, u32_nat b hb, IntKind.wrap_u32]
  omega
theorem sub_iff (a b : Nat) : a &&& b = a ↔ ∀ j, a.testBit j = true → b.testBit j = true := by
  constructor
  · intro h j hj
    rw [← h, Nat.testBit_and, Bool.and_eq_true] at hj
    exact hj.2
  · intro h
    refine Nat.eq_of_testBit_eq fun j => ?_
    rw [Nat.testBit_and]
    cases q : a.testBit j
    · rfl
    · rw [h j q]; rfl
theorem u32_andNot_nat (a b : Nat) (ha : a < 4294967296) (hb : b < 4294967296) : (bits .andNot .u32 (a : Int) (b : Int) == 0) = decide (a &&& b = a) := by
  have e : bits .andNot .u32 (a : Int) (b : Int) = (((BitVec.ofInt 32 (a : Int) &&& ~~~ BitVec.ofInt 32 (b : Int)).toNat : Nat) : Int) := by
    show IntKind.u32.wrap ((BitVec.ofInt 32 (a : Int) &&& ~~~ BitVec.ofInt 32 (b : Int)).toNat : Int) = _
    rw [IntKind.wrap_u32]
    have := (BitVec.ofInt 32 (a : Int) &&& ~~~ BitVec.ofInt 32 (b : Int)).isLt
    omega
  obtain ⟨z, hz⟩ : ∃ z, z = (BitVec.ofInt 32 (a : Int) &&& ~~~ BitVec.ofInt 32 (b : Int)).toNat := ⟨_, rfl⟩
  have bit : ∀ j, z.testBit j = (a.testBit j && !b.testBit j) := by
    intro j
    rw [hz, BitVec.toNat_and, Nat.testBit_and, u32_nat a ha, BitVec.testBit_toNat, BitVec.getLsbD_not]
    have e2 : (BitVec.ofInt 32 (b : Int)).getLsbD j = b.testBit j := by rw [← BitVec.testBit_toNat, u32_nat b hb]
    rw [e2]
    by_cases hj : j < 32
    · rw [decide_eq_true hj, Bool.true_and]
    · have : a.testBit j = false := Nat.testBit_lt_two_pow (Nat.lt_of_lt_of_le ha (by show 2 ^ 32 ≤ 2 ^ j; exact Nat.pow_le_pow_right (by omega) (by omega)))
      rw [this]
      rfl
  rw [e, ← hz]
  have : ((z : Int) == 0) = decide (z = 0) := by
    by_cases h : z = 0
    · rw [h]; rfl
    · rw [decide_eq_false h]
      rw [beq_eq_false_iff_ne]
      omega
  rw [this, decide_eq_decide, sub_iff]
  constructor
  · intro h j hj
    have := bit j
    rw [h, hj] at this
    cases q : b.testBit j
    · rw [q] at this; simp at this
    · rfl
  · intro h
    refine Nat.eq_of_testBit_eq fun j => ?_
    rw [bit j, Nat.zero_testBit]
    cases q : a.testBit j
    · rfl
    · rw [h j q]; rfl
theorem pow_mod {i : Nat} (h : i < 24) : (2 : Int) ^ i % 4294967296 = ((2 ^ i : Nat) : Int) := by
  have h1 : 2 ^ i < 2 ^ 24 := Nat.pow_lt_pow_right (by omega) h
  have h2 : ((2 ^ i : Nat) : Int) = (2 : Int) ^ i := by simp
  rw [← h2]
  obtain ⟨q, hq⟩ : ∃ q : Nat, q = 2 ^ i := ⟨_, rfl⟩
  rw [← hq] at h1 ⊢
  omega
theorem and_pow (d i : Nat) (hd : d < 4294967296) (hi : i < 24) : (bits .and .u32 (d : Int) ((2 ^ i : Nat) : Int) == 0) = !d.testBit i := by
  have h1 : 2 ^ i < 2 ^ 24 := Nat.pow_lt_pow_right (by omega) hi
  rw [u32_and_nat d (2 ^ i) hd (by omega)]
  cases q : d.testBit i
  · have : d &&& 2 ^ i = 0 := by
      refine Nat.eq_of_testBit_eq fun j => ?_
      rw [Nat.testBit_and, Nat.testBit_two_pow, Nat.zero_testBit]
      by_cases e : i = j
      · subst e; rw [q]; rfl
      · rw [decide_eq_false e, Bool.and_false]
    rw [this]
    rfl
  · have : d &&& 2 ^ i ≠ 0 := fun z => by
      have := congrArg (fun x => x.testBit i) z
      rw [Nat.testBit_and, Nat.testBit_two_pow, q, Nat.zero_testBit] at this
      simp at this
    rw [Bool.not_true, beq_eq_false_iff_ne]
    omega
theorem or_pow (d i : Nat) (hd : d < 4294967296) (hi : i < 24) : bits .or .u32 (d : Int) ((2 ^ i : Nat) : Int) = ((add d i : Nat) : Int) := by
  have h1 : 2 ^ i < 2 ^ 24 := Nat.pow_lt_pow_right (by omega) hi
  exact u32_or_nat d (2 ^ i) hd (by omega)
end Go.Proofs.Ytodmakcklacbfaa
