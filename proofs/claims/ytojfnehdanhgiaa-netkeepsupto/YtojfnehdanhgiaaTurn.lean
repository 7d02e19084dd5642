import Derived.Test.YtojfnehdanhgiaaCalls
namespace Go.Proofs.Ytojfnehdanhgiaa
open Go.RowKit

/-- One bit is turned. -/
def flip (l : List Nat) (p : Nat) : List Nat := if p / 8 < l.length then l.set (p / 8) (l.getD (p / 8) 0 ^^^ 2 ^ (p % 8)) else l
/-- The first k bits of a pattern are played. -/
def turnN (bit pat : Nat) (l : List Nat) : Nat → List Nat
  | 0 => l
  | k + 1 => if pat.testBit k = true then flip (turnN bit pat l k) (bit + k) else turnN bit pat l k
theorem flip_length (l : List Nat) (p : Nat) : (flip l p).length = l.length := by unfold flip; split <;> simp
theorem turnN_length (bit pat : Nat) (l : List Nat) : ∀ k, (turnN bit pat l k).length = l.length
  | 0 => rfl
  | k + 1 => by unfold turnN; split <;> simp [flip_length, turnN_length bit pat l k]
theorem two_pow_lt (p : Nat) : 2 ^ (p % 8) < 256 := by
  have h : p % 8 < 8 := Nat.mod_lt _ (by omega)
  exact Nat.lt_of_lt_of_le (Nat.pow_lt_pow_right (by omega) h) (by decide)
theorem flip_bytes (l : List Nat) (p : Nat) (h : ∀ c ∈ l, c < 256) : ∀ c ∈ flip l p, c < 256 := by
  unfold flip
  split
  · intro c hc
    rcases List.mem_or_eq_of_mem_set hc with q | q
    · exact h c q
    · rw [q]
      exact Nat.xor_lt_two_pow (n := 8) (getD_lt l h _) (two_pow_lt p)
  · exact h
theorem turnN_bytes (bit pat : Nat) (l : List Nat) (h : ∀ c ∈ l, c < 256) : ∀ k, ∀ c ∈ turnN bit pat l k, c < 256
  | 0 => h
  | k + 1 => by
    unfold turnN
    split
    · exact flip_bytes _ _ (turnN_bytes bit pat l h k)
    · exact turnN_bytes bit pat l h k
theorem u32_nat (a : Nat) (ha : a < 4294967296) : (BitVec.ofInt 32 (a : Int)).toNat = a := by
  simp; omega
theorem u32_and_nat (a b : Nat) (ha : a < 4294967296) (hb : b < 4294967296) : bits .and .u32 (a : Int) (b : Int) = ((a &&& b : Nat) : Int) := by
  have hx : a &&& b < 2 ^ 32 := Nat.and_lt_two_pow a hb
  show IntKind.u32.wrap ((BitVec.ofInt 32 (a : Int) &&& BitVec.ofInt 32 (b : Int)).toNat : Int) = _
  rw [BitVec.toNat_and, u32_nat a ha, u32_nat b hb, IntKind.wrap_u32]
  omega
theorem bit_val (pat i : Nat) (hp : pat < 4294967296) : bits .and .u32 ((pat : Int) / 2 ^ i) 1 = ((pat / 2 ^ i % 2 : Nat) : Int) := by
  have h1 : pat / 2 ^ i < 4294967296 := Nat.lt_of_le_of_lt (Nat.div_le_self _ _) hp
  have := u32_and_nat (pat / 2 ^ i) 1 h1 (by omega)
  rw [Nat.and_one_is_mod] at this
  rw [← this]
  simp
theorem bit_on (pat i : Nat) (hp : pat < 4294967296) (h : pat.testBit i = true) : bits .and .u32 ((pat : Int) / 2 ^ i) 1 = 1 := by
  rw [bit_val pat i hp]
  rw [Nat.testBit_eq_decide_div_mod_eq] at h
  have := of_decide_eq_true h
  omega
theorem bit_off (pat i : Nat) (hp : pat < 4294967296) (h : ¬ pat.testBit i = true) : bits .and .u32 ((pat : Int) / 2 ^ i) 1 = 0 := by
  rw [bit_val pat i hp]
  rw [Nat.testBit_eq_decide_div_mod_eq] at h
  have : ¬ pat / 2 ^ i % 2 = 1 := fun q => h (decide_eq_true q)
  omega
theorem byte_xor (v s : Nat) (hv : v < 256) (hs : s < 8) : bits .xor .u8 (v : Int) (2 ^ s % 256) = ((v ^^^ 2 ^ s : Nat) : Int) := by
  have h : 2 ^ s < 256 := Nat.lt_of_lt_of_le (Nat.pow_lt_pow_right (by omega) hs) (by decide)
  have e : ((2 : Int) ^ s % 256) = ((2 ^ s : Nat) : Int) := by
    obtain ⟨x, hx⟩ : ∃ x, 2 ^ s = x := ⟨_, rfl⟩
    rw [show ((2 : Int) ^ s) = ((2 ^ s : Nat) : Int) by simp, hx]
    rw [hx] at h
    omega
  rw [e]
  exact u8_xor_nat v (2 ^ s) hv h
theorem cellsOf_set (l : List Nat) (t x : Nat) : cellsOf (l.set t x) = (cellsOf l).set t (.int .u8 (x : Int)) := by
  unfold cellsOf
  rw [List.map_set]
/-- A store into an owned row of one-cell elements. -/
theorem owns_set {w : World} {base : Nat} {e : TypeId} {g n c : Nat} {xs : List Value} (h : w.ownsRow base e 1 (.slice (some ⟨g, 0, none⟩) n c) n xs) (i : Nat) (u : Value) :
    (w.setCell ⟨g, i, none⟩ u).ownsRow base e 1 (.slice (some ⟨g, 0, none⟩) n c) n (xs.set i u) := by
  refine ⟨by rw [List.length_set]; exact h.1, ?_⟩
  rcases h.2 with ⟨e0, _⟩ | ⟨g4, c4, cur, e4, hb, hg, hn, hm, hs, ht⟩
  · simp at e0
  · simp at e4
    obtain ⟨rfl, rfl⟩ := e4
    refine .inr ⟨g, c, cur.setIfInBounds i u, rfl, hb, set_heap hg i u, hn, hm, by simpa using hs, ?_⟩
    rw [Nat.mul_one] at ht ⊢
    rw [← ht, Array.toList_setIfInBounds, List.take_set]
/-- The bytes of an owned row, and that they may be written. -/
theorem own_byte {w : World} {base len c : Nat} {p : Option Addr} {l : List Nat} (h : w.ownsRow base 5 1 (.slice p len c) len (cellsOf l)) (hb : ∀ c ∈ l, c < 256) (h0 : 0 < len) :
    ∃ g, p = some ⟨g, 0, none⟩ ∧ ∀ j, j < len → w.cell? ⟨g, j, none⟩ = some (.int .u8 ((l.getD j 0 : Nat) : Int)) ∧ w.frozen? ⟨g, j, none⟩ = false := by
  rcases h.2 with ⟨e0, e1⟩ | ⟨g, cap, cur, e0, _, hg, _⟩
  · omega
  · simp at e0
    obtain ⟨rfl, rfl⟩ := e0
    obtain ⟨a, cap, e, r, _⟩ := owns_reads h hb
    simp at e
    obtain ⟨rfl, rfl⟩ := e
    obtain ⟨b, off, e, hc⟩ := r.cells h0
    simp at e
    obtain ⟨rfl, rfl⟩ := e
    exact ⟨g, rfl, fun j hj => ⟨by have := hc j hj; rw [Nat.zero_add] at this; exact this, soft_blk hg j⟩⟩
def turned (bit pat : Nat) (l : List Nat) : List Nat := turnN bit pat l 32
set_option maxRecDepth 100000 in
theorem turn_neg (a : Option Addr) (len cap : Nat) (bit : Int) (pat : Int) (w : World) (hb : bit < 0) :
    Calls Try.prog 54 #[.slice a len cap, .int .i64 bit, .int .u32 pat] w fun x w' => x = .returned (.tuple #[.slice none 0 0, .int .i64 1]) ∧ w' = w := by
  go_enter Try.func54, Try.ntmps54
  go_wp2_with fail
  go_ret2
  exact ⟨rfl, rfl⟩
set_option maxRecDepth 100000 in
theorem turn_ok (a : Option Addr) (len cap : Nat) (l : List Nat) (bit pat : Nat) (w : World) (r : Reads w a len cap l) (hs : len ≤ 140737488355328) (hb : bit < 9223372036854775808) (hp : pat < 4294967296) :
    Calls Try.prog 54 #[.slice a len cap, .int .i64 (bit : Int), .int .u32 (pat : Int)] w fun x w' => ∃ p c, x = .returned (.tuple #[.slice p len c, .int .i64 0]) ∧ w'.ownsRow w.heap.size 5 1 (.slice p len c) len (cellsOf (turned bit pat l)) ∧ Kept (fun _ => False) w w' := by
  have R : Hid (Reads w a len cap l ∧ len ≤ 140737488355328) := ⟨r, hs⟩
  have hn : ¬ (bit : Int) < 0 := by omega
  have hl := r.length
  clear r hs
  go_enter Try.func54, Try.ntmps54
  go_wp2_with fail
  refine (clone a len cap l w R.out.1 R.out.2).mono ?_
  rintro x w1 ⟨p, c, rfl, ho, K⟩
  obtain ⟨hrm, hcm⟩ := own_room ho
  have HO : Hid (w1.ownsRow w.heap.size 5 1 (.slice p len c) len (cellsOf l) ∧ Kept (fun _ => False) w w1) := ⟨ho, K⟩
  unfold maxLen at hcm
  clear ho K
  go_wp2_with fail
  go_loopw [15] (fun x wr => ∃ (i : Nat), x = .int .u64 (i : Int) ∧ i ≤ 32 ∧ Hid (wr.ownsRow w.heap.size 5 1 (.slice p len c) len (cellsOf (turnN bit pat l i)) ∧ Kept (fun _ => False) w wr)) (fun x _ => 32 - (intOf x).toNat)
  case atStart => exact ⟨0, rfl, Nat.zero_le _, HO.out⟩
  case round =>
    obtain ⟨i, rfl, hi, S⟩ := hrel
    by_cases hlt : i < 32
    · have i1 : (i : Int) < 32 := by omega
      obtain ⟨t, ht⟩ : ∃ t, t = (bit + i) / 8 := ⟨_, rfl⟩
      obtain ⟨s, hsr⟩ : ∃ s, s = (bit + i) % 8 := ⟨_, rfl⟩
      have ht' : ((bit : Int) + (i : Int)) / 8 = (t : Int) := by omega
      have hs' : ((bit : Int) + (i : Int)) % 8 = (s : Int) := by omega
      have hs8 : s < 8 := by omega
      have LN : Hid ((turnN bit pat l i).length = len) := (turnN_length bit pat l i).trans hl
      by_cases hbit : pat.testBit i = true
      · have e1 : bits .and .u32 ((pat : Int) / 2 ^ i) 1 = 1 := bit_on pat i hp hbit
        by_cases hin : t < len
        · obtain ⟨g, rfl, cur⟩ : ∃ g, p = some ⟨g, 0, none⟩ ∧ ∀ j, j < len → wr.cell? ⟨g, j, none⟩ = some (.int .u8 (((turnN bit pat l i).getD j 0 : Nat) : Int)) ∧ wr.frozen? ⟨g, j, none⟩ = false := by
            exact own_byte S.out.1 (turnN_bytes bit pat l R.out.1.bytes i) (by omega)
          obtain ⟨f1, f2⟩ := cur t hin
          obtain ⟨v, hv⟩ : ∃ v, v = (turnN bit pat l i).getD t 0 := ⟨_, rfl⟩
          rw [← hv] at f1
          have HV : Hid (v = (turnN bit pat l i).getD t 0 ∧ t = (bit + i) / 8 ∧ s = (bit + i) % 8) := ⟨hv, ht, hsr⟩
          have in1 : (t : Int) < (len : Int) := by omega
          clear hv ht hsr cur
          have FIN : Hid ((wr.setCell ⟨g, t, none⟩ (.int .u8 (bits .xor .u8 (v : Int) (2 ^ s % 256)))).ownsRow w.heap.size 5 1 (.slice (some ⟨g, 0, none⟩) len c) len (cellsOf (turnN bit pat l (i + 1))) ∧ Kept (fun _ => False) w (wr.setCell ⟨g, t, none⟩ (.int .u8 (bits .xor .u8 (v : Int) (2 ^ s % 256))))) := by
            refine ⟨?_, S.out.2.setCell (p := ⟨g, t, none⟩) (fun q => ?_) _⟩
            · have e : turnN bit pat l (i + 1) = (turnN bit pat l i).set t (v ^^^ 2 ^ s) := by
                show (if pat.testBit i = true then flip (turnN bit pat l i) (bit + i) else turnN bit pat l i) = _
                rw [if_pos hbit, flip, if_pos (by rw [LN.out, ← HV.out.2.1]; exact hin), HV.out.1, ← HV.out.2.1, ← HV.out.2.2]
              have vl : v < 256 := by rw [HV.out.1]; exact getD_lt _ (turnN_bytes bit pat l R.out.1.bytes i) _
              rw [e, byte_xor v s vl hs8, cellsOf_set]
              exact owns_set S.out.1 t _
            · have := (own_lt S.out.1 g rfl).1
              have q : g < w.heap.size := q
              omega
          go_wp2_with fail
          go_roundw
          case rel => exact ⟨i + 1, by go_num, by omega, FIN.out⟩
          case measure => simp [intOf]; omega
        · have in1 : ¬ (t : Int) < (len : Int) := by omega
          have FIN : Hid (turnN bit pat l (i + 1) = turnN bit pat l i) := by
            show (if pat.testBit i = true then flip (turnN bit pat l i) (bit + i) else turnN bit pat l i) = _
            rw [if_pos hbit, flip, if_neg (by rw [LN.out, ← ht]; exact hin)]
          clear ht hsr
          go_wp2_with fail
          go_roundw
          case rel => exact ⟨i + 1, by go_num, by omega, by rw [FIN.out]; exact S.out⟩
          case measure => simp [intOf]; omega
      · have e1 : bits .and .u32 ((pat : Int) / 2 ^ i) 1 = 0 := bit_off pat i hp hbit
        have FIN : Hid (turnN bit pat l (i + 1) = turnN bit pat l i) := by
          show (if pat.testBit i = true then flip (turnN bit pat l i) (bit + i) else turnN bit pat l i) = _
          rw [if_neg hbit]
        clear ht hsr
        go_wp2_with fail
        go_roundw
        case rel => exact ⟨i + 1, by go_num, by omega, by rw [FIN.out]; exact S.out⟩
        case measure => simp [intOf]; omega
    · have he : i = 32 := by omega
      subst he
      go_wp2_with fail
      go_ret2
      exact ⟨p, c, rfl, S.out⟩
end Go.Proofs.Ytojfnehdanhgiaa
