import Derived.Test.YtgfglbbfoadiaaaPutMore
namespace Go.Proofs.Ytgfglbbfoadiaaa
open Go.RowKit

def bulkOf (ops : List Opv) : Nat := (ops.map (fun o => 6 + o.len + o.s.size)).sum
theorem bulkOf_take (ops : List Opv) (i : Nat) (h : i < ops.length) : bulkOf (ops.take (i + 1)) = bulkOf (ops.take i) + (6 + ops[i].len + ops[i].s.size) := by
  unfold bulkOf
  rw [List.take_succ_eq_append_getElem h, List.map_append, List.sum_append]
  simp
theorem bulkOf_le (ops : List Opv) (i : Nat) : bulkOf (ops.take i) ≤ bulkOf ops := by
  have : bulkOf ops = bulkOf (ops.take i) + bulkOf (ops.drop i) := by
    unfold bulkOf
    rw [← List.sum_append, ← List.map_append, List.take_append_drop]
  omega
theorem HasOp.opOk {base : Nat} {w wr : World} {b off : Nat} {o : Opv} (h : HasOp w b off o) (hw : HasOp wr b off o) (hb : base = w.heap.size) (h1 : o.len ≤ 1048576) (h2 : o.s.size ≤ 1048576) : OpOk base wr o :=
  ⟨hw.ok, fun h0 p hp => by rw [hb]; exact h.ok.old h0 p hp, h1, h2⟩
/-- The book's own Op. -/
def endOp : Opv := ⟨6, 0, 0, none, 0, 0, [], ⟨#[]⟩⟩
theorem endOp_ok (base : Nat) (w : World) : OpOk base w endOp :=
  ⟨⟨by show (-9223372036854775808 : Int) ≤ 0; omega, by show (0 : Int) < _; omega, by show 0 < 256; omega, Reads.nil w⟩, fun h => absurd h (by show ¬ 0 < 0; omega), by show 0 ≤ _; omega, by show (ByteArray.mk #[]).size ≤ _; decide⟩

set_option maxRecDepth 100000 in
set_option maxHeartbeats 4000000 in
theorem writes_walk (a : Option Addr) (len cap : Nat) (ops : List Opv) (n : Int) (w : World) (hl : ops.length = len) (sc : Script w a ops) (hk : len ≤ 1048576) (hs : bulkOf ops ≤ 1048576) (hn : n < 9223372036854775808)
    (hb : ∀ i (h : i < ops.length), ops[i].len ≤ 1048576 ∧ ops[i].s.size ≤ 1048576) :
    Calls Try.prog 6 #[.slice a len cap, .int .i64 n] w fun x w' => x = .returned (.bool true) ∧ Below w.heap.size w w' := by
  have SC : Hid (Script w a ops) := sc
  have HL : Hid (ops.length = len) := hl
  have HB : Hid (∀ i (h : i < ops.length), ops[i].len ≤ 1048576 ∧ ops[i].s.size ≤ 1048576) := hb
  have HS : Hid (bulkOf ops ≤ 1048576) := hs
  clear sc hl hb hs
  go_enter Try.func6, Try.ntmps6
  go_wp2_with fail
  refine (newWriter w).mono ?_
  rintro x w1 ⟨rfl, hw1⟩
  have iw : IsW w1 w.heap.size 0 (.slice none 0 0) [] := by rw [hw1]; exact IsW.new w
  have s1 : w1.heap.size = w.heap.size + 1 := by rw [hw1]; simp
  have bl1 : Below w.heap.size w w1 := by rw [hw1]; exact (Below.refl _ _).alloc (Nat.le_refl _) _
  have I1 : Hid (IsW w1 w.heap.size 0 (.slice none 0 0) [] ∧ w1.heap.size = w.heap.size + 1 ∧ Below w.heap.size w w1) := ⟨iw, s1, bl1⟩
  clear iw s1 bl1 hw1
  go_wp2_with fail
  refine (newV w1).mono ?_
  rintro x w2 ⟨rfl, hw2⟩
  have k2 : Kept (fun _ => False) w1 w2 := by rw [hw2]; exact (Kept.refl _ w1).alloc _
  have iv : IsV w2 w1.heap.size 0 (.slice none 0 0) [] := by rw [hw2]; exact IsV.new w1
  have s2 : w2.heap.size = w1.heap.size + 1 := by rw [hw2]; simp
  have k3 : Kept (fun _ => False) w2 (w2.alloc (.cells #[.slice none 0 0, .slice none 0 0] 53)) := (Kept.refl _ w2).alloc _
  have ST : Hid (WS w.heap.size w (w2.alloc (.cells #[.slice none 0 0, .slice none 0 0] 53)) w.heap.size (.slice none 0 0) w1.heap.size (.slice none 0 0) w2.heap.size [] 0 []) := by
    have q := I1.out
    refine ⟨?_, iv.kept k3 (fun f => f) (fun _ _ f => f), ⟨⟨.slice none 0 0, .slice none 0 0, heap_alloc_new w2 _, World.ownsRow_nil _ _ _ _, World.ownsRow_nil _ _ _ _, fun j hj => by simp [Value.ownBlock] at hj⟩, fun k hk => absurd hk (by simp), by omega⟩, fun j hj => by simp [Value.ownBlock] at hj, fun j hj => by simp [Value.ownBlock] at hj, fun j hj => by simp [Value.ownBlock] at hj, Nat.le_refl _, by omega,
      fun j hj => by simp [Value.ownBlock] at hj, fun j hj => by simp [Value.ownBlock] at hj, ?_, by simp; omega⟩
    · have := (q.1.kept k2 (fun f => f) (fun _ _ f => f)).kept k3 (fun f => f) (fun _ _ f => f)
      simpa using this
    · exact (q.2.2.trans (k2.below (by omega) (fun _ f => f.elim))).trans (k3.below (by omega) (fun _ f => f.elim))
  clear k2 iv s2 k3 hw2 I1
  obtain ⟨B, hB⟩ : ∃ B, w.heap.size = B := ⟨_, rfl⟩
  obtain ⟨V, hV⟩ : ∃ V, w1.heap.size = V := ⟨_, rfl⟩
  rw [hV] at ST ⊢
  have BH : Hid (w.heap.size = B) := hB
  have ST2 : Hid (WS B w (w2.alloc (.cells #[.slice none 0 0, .slice none 0 0] 53)) B (.slice none 0 0) V (.slice none 0 0) w2.heap.size [] 0 []) := by rw [hB] at ST; exact ST
  rw [hB]
  clear ST hV hB
  go_wp2_with fail
  go_loopw [8] (fun x wr => ∃ (i : Nat) (v u : Value) (hs : List Held) (e : Int) (l : List Nat), x = .int .i64 (i : Int) ∧ i ≤ len ∧ Hid (WS B w wr B v V u w2.heap.size hs e l ∧ l.length ≤ 2 * bulkOf (ops.take i) ∧ hs.length ≤ 2 * i)) (fun x _ => len - (intOf x).toNat)
  case atStart => exact ⟨0, _, _, _, _, _, rfl, Nat.zero_le _, ST2.out, by simp, by simp⟩
  case round =>
    obtain ⟨i, v, u, hs, e, l, rfl, hi, Z⟩ := hrel
    obtain ⟨K, hK⟩ : ∃ K, w2.heap.size = K := ⟨_, rfl⟩
    rw [hK] at Z

    by_cases hlt : i < len
    · have hio : i < ops.length := by rw [HL.out]; exact hlt
      obtain ⟨b, off, rfl, hc⟩ := SC.out (by omega)
      have h := (hc i hio).below (by rw [BH.out]; exact Z.out.1.below)
      have hh := hc i hio
      have bt := bulkOf_take ops i hio
      have bl := bulkOf_le ops (i + 1)
      have hbi := HB.out i hio
      obtain ⟨o, ho⟩ : ∃ o, ops[i] = o := ⟨_, rfl⟩
      rw [ho] at h hh bt hbi
      have OK : Hid (OpOk B wr o) := hh.opOk h BH.out.symm hbi.1 hbi.2
      have BT : Hid (bulkOf (ops.take (i + 1)) = bulkOf (ops.take i) + (6 + o.len + o.s.size)) := bt
      have LB : Hid (l.length ≤ 8388608 ∧ hs.length ≤ 4194304) := by
        have := Z.out.2
        have := HS.out
        exact ⟨by omega, by omega⟩
      have c0 := h.c0
      have c1 := h.c1
      have c2 := h.c2
      have c3 := h.c3
      have c4 := h.c4
      have i1 : (i : Int) < (len : Int) := by omega
      clear hc h hh bt bl hbi ho hio
      rw [hK]
      clear hK
      go_wp2_with fail
      refine (lput_any B w wr B v V u K hs e l o Z.out.1 OK.out LB.out.1 (by have := LB.out.2; omega)).mono ?_
      rintro x w3 ⟨rfl, v2, u2, hs2, e2, l2, S2, b1, b2⟩
      have Z2 : Hid (WS B w w3 B v2 V u2 K hs2 e2 l2 ∧ l2.length ≤ 2 * bulkOf (ops.take (i + 1)) ∧ hs2.length ≤ 2 * (i + 1)) := ⟨S2, by rw [BT.out]; have := Z.out.2.1; omega, by have := Z.out.2.2; omega⟩
      clear S2 b1 b2
      go_wp2_with fail
      refine (kept_any B K hs2 w3 Z2.out.1.book (by have := Z2.out.2.2; omega)).mono ?_
      rintro x w4 ⟨rfl, rfl⟩
      go_wp2_with fail
      go_roundw
      case rel => exact ⟨i + 1, v2, u2, hs2, e2, l2, by go_num, by omega, Z2⟩
      case measure => simp [intOf]; omega
    · have hk' : len = i := by omega
      have LB : Hid (l.length ≤ 4194304 ∧ hs.length ≤ 2097152) := by
        have := Z.out.2
        have := bulkOf_le ops i
        have := HS.out
        exact ⟨by omega, by omega⟩
      subst hk'
      clear hlt hi
      rw [hK]
      clear hK
      go_wp2_with fail
      refine (sizeP n wr hn).mono ?_
      rintro x w3 ⟨rfl, rfl⟩
      obtain ⟨sv, hsv⟩ : ∃ s, szv n = s := ⟨_, rfl⟩
      obtain ⟨se, hse⟩ : ∃ s, sze n = s := ⟨_, rfl⟩
      have SV : Hid (szv n = sv ∧ sze n = se) := ⟨hsv, hse⟩
      rw [hsv, hse]
      clear hsv hse
      go_wp2_with fail
      refine (sizeR n w3 hn).mono ?_
      rintro x w4 ⟨rfl, k4⟩
      rw [SV.out.1, SV.out.2]
      have S4 : Hid (WS B w w4 B v V u K hs e l) := Z.out.1.quiet k4
      clear k4
      go_wp2_with fail
      refine (lput_any B w w4 B v V u K hs e l endOp S4.out (endOp_ok B w4) (by have := LB.out; omega) (by have := LB.out; omega)).mono ?_
      rintro x w5 ⟨rfl, v2, u2, hs2, e2, l2, S5', b1, b2⟩
      have S5 : Hid (WS B w w5 B v2 V u2 K hs2 e2 l2) := S5'
      have z6 : 6 + endOp.len + endOp.s.size = 6 := rfl
      rw [z6] at b1
      have LB2 : Hid (l2.length ≤ 4194320 ∧ hs2.length ≤ 2097160) := by have := LB.out; exact ⟨by omega, by omega⟩
      clear S5' b1 b2 z6
      go_wp2_with fail
      refine (lput_any B w w5 B v2 V u2 K hs2 e2 l2 endOp S5.out (endOp_ok B w5) (by have := LB2.out; omega) (by have := LB2.out; omega)).mono ?_
      rintro x w6 ⟨rfl, v3, u3, hs3, e3, l3, S6', b1, b2⟩
      have S6 : Hid (WS B w w6 B v3 V u3 K hs3 e3 l3) := S6'
      have LB3 : Hid (hs3.length ≤ 2097170) := by show _ ≤ _; have := LB2.out; omega
      clear S6' b1 b2
      go_wp2_with fail
      refine (kept_any B K hs3 w6 S6.out.book (by have := LB3.out; omega)).mono ?_
      rintro x w7 ⟨rfl, rfl⟩
      go_wp2_with fail
      go_ret
      exact ⟨by simp, by rw [BH.out]; exact S6.out.below⟩
end Go.Proofs.Ytgfglbbfoadiaaa
