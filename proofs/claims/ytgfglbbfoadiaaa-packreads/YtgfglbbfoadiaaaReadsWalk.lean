import Derived.Test.YtgfglbbfoadiaaaTakeLaw
import Derived.Test.YtgfglbbfoadiaaaPutMore
namespace Go.Proofs.Ytgfglbbfoadiaaa
open Go.RowKit

theorem wBool_nil (b : Bool) (w : World) : Calls Try.prog 38 #[.pointer none, .bool b] w fun x w' => x = .returned (.tuple #[]) ∧ w' = w := by
  cases b
  · go_enter Try.func38, Try.ntmps38
    go_wp2_with fail
    refine (wByte_nil 0 w).mono ?_
    rintro x w' ⟨rfl, rfl⟩
    go_wp2_with fail
    go_end0
    exact ⟨rfl, rfl⟩
  · go_enter Try.func38, Try.ntmps38
    go_wp2_with fail
    refine (wByte_nil 1 w).mono ?_
    rintro x w' ⟨rfl, rfl⟩
    go_wp2_with fail
    go_end0
    exact ⟨rfl, rfl⟩
theorem str_nil : str [] = ⟨#[]⟩ := rfl
set_option maxRecDepth 100000 in
set_option maxHeartbeats 1000000 in
theorem silent_any (w : World) : Calls Try.prog 31 #[] w fun x w' => x = .returned (.bool true) ∧ Kept (fun _ => False) w w' := by
  have K0 : Hid (Kept (fun _ => False) w (w.alloc (.cells #[.int .u8 1] 5))) := (Kept.refl _ w).alloc _
  go_enter Try.func31, Try.ntmps31
  go_wp2_with fail
  refine (wUint_nil (-1) w).mono ?_
  rintro x w1 ⟨rfl, rfl⟩
  go_wp2_with fail
  refine (wByte_nil 1 w1).mono ?_
  rintro x w2 ⟨rfl, rfl⟩
  go_wp2_with fail
  refine (wBool_nil true w2).mono ?_
  rintro x w3 ⟨rfl, rfl⟩
  go_wp2_with fail
  refine (wBytes_nil _ _).mono ?_
  rintro x w4 ⟨rfl, rfl⟩
  go_wp2_with fail
  refine (wText_nil _ _).mono ?_
  rintro x w5 ⟨rfl, rfl⟩
  go_wp2_with fail
  refine (rEnd_nil _).mono ?_
  rintro x w6 ⟨rfl, rfl⟩
  go_wp2_with fail
  refine (wErr_nil _).mono ?_
  rintro x w7 ⟨rfl, rfl⟩
  go_wp2_with fail
  refine (wData_nil _).mono ?_
  rintro x w8 ⟨rfl, rfl⟩
  go_wp2_with fail
  refine (rUint_nil 5 _).mono ?_
  rintro x w9 ⟨rfl, rfl⟩
  go_wp2_with fail
  refine (rByte_nil _).mono ?_
  rintro x wa ⟨rfl, rfl⟩
  go_wp2_with fail
  refine (rBool_nil _).mono ?_
  rintro x wb ⟨rfl, rfl⟩
  go_wp2_with fail
  refine (rBytes_nil 5 _).mono ?_
  rintro x wc ⟨p, c, rfl, kc⟩
  have KC : Hid (Kept (fun _ => False) w3 wc) := K0.out.trans kc (fun _ _ f => f)
  clear kc
  go_wp2_with fail
  refine (rText_nil 5 wc).mono ?_
  rintro x wd ⟨rfl, rfl⟩
  rw [str_nil]
  go_wp2_with fail
  refine (rErr_nil _).mono ?_
  rintro x we ⟨rfl, rfl⟩
  go_wp2_with fail
  refine (rAt_nil _).mono ?_
  rintro x wf ⟨rfl, rfl⟩
  go_wp2_with fail
  go_ret
  exact ⟨rfl, KC.out⟩

set_option maxRecDepth 100000 in
set_option maxHeartbeats 4000000 in
theorem reads_walk (a a2 : Option Addr) (len cap len2 cap2 : Nat) (dl : List Nat) (ops : List Opv) (w : World) (r : Reads w a len cap dl) (hl2 : ops.length = len2) (sc : Script w a2 ops) (hs : len ≤ 140737488351232) (hk : len2 ≤ 2199023255552) :
    Calls Try.prog 7 #[.slice a len cap, .slice a2 len2 cap2] w fun x w' => x = .returned (.bool true) ∧ Below w.heap.size w w' := by
  have RH : Hid (Reads w a len cap dl) := r
  have SC : Hid (Script w a2 ops) := sc
  have HL : Hid (ops.length = len2) := hl2
  have DL : Hid (dl.length = len) := r.length
  have DB : Hid (∀ d ∈ dl, d < 256) := r.bytes
  clear r sc hl2
  go_enter Try.func7, Try.ntmps7
  go_wp2_with fail
  refine (lent_any a len cap dl w RH.out (by omega)).mono ?_
  rintro x w1 ⟨p, c, rfl, ho, k1⟩
  have by77 : ∀ d ∈ dl ++ [77], d < 256 := fun d hd => by rcases List.mem_append.1 hd with q | q; exact DB.out d q; simp at q; omega
  have O1 : Hid (w1.ownsRow w.heap.size 5 1 (.slice p (len + 1) c) (len + 1) (cellsOf (dl ++ [77]))) := ho
  have oc := owns_cut ho DL.out
  have O2 : Hid (w1.ownsRow w.heap.size 5 1 (.slice p len c) len (cellsOf dl)) := oc
  have K1 : Hid (Kept (fun _ => False) w w1) := k1
  have R1 : Hid (Reads w1 p len c dl) := (own_slice2 oc DB.out).1
  have RD1 : Hid (Reads w1 a len cap dl) := RH.out.kept k1 (fun _ _ f => f)
  have B77 : Hid (∀ d ∈ dl ++ [77], d < 256) := by77
  have lc1 : len + 1 ≤ c := (own_slice2 ho by77).1.room
  have hcs := (own_slice2 ho by77).1.small
  unfold maxLen at hcs
  clear ho oc k1 by77
  go_wp2_with fail
  refine (newReaderB p len c dl w1 R1.out (by omega)).mono ?_
  rintro x w2 ⟨R, D, rfl, hR, hD, bD, ir, k2⟩
  have IR : Hid (IsR w2 R D 0 0 dl ∧ ByteBlk w2 D ∧ w1.heap.size ≤ R ∧ ∀ j, D = some j → w1.heap.size ≤ j) := ⟨ir, bD, hR, hD⟩
  have K2 : Hid (Kept (fun _ => False) w1 w2) := k2
  have RD2 : Hid (Reads w2 a len cap dl) := RD1.out.kept k2 (fun _ _ f => f)
  clear hR hD bD ir k2
  go_wp2_with fail
  refine (newQ a len cap dl w2 RD2.out (by omega)).mono ?_
  rintro x w3 ⟨Q, E, rfl, hQ, hE, bE, iq, k3⟩
  have IQ : Hid (IsQ w3 Q E 0 0 dl ∧ ByteBlk w3 E ∧ w2.heap.size ≤ Q ∧ ∀ j, E = some j → w2.heap.size ≤ j) := ⟨iq, bE, hQ, hE⟩
  have K3 : Hid (Kept (fun _ => False) w2 w3) := k3
  have RD3 : Hid (Reads w3 a len cap dl) := RD2.out.kept k3 (fun _ _ f => f)
  clear hQ hE bE iq k3
  go_wp2_with fail
  refine (lent_any a len cap dl w3 RD3.out (by omega)).mono ?_
  rintro x w4 ⟨p4, c4, rfl, ho4, k4⟩
  have K4 : Hid (Kept (fun _ => False) w3 w4) := k4
  have K14 : Hid (Kept (fun _ => False) w1 w4) := (K2.out.trans K3.out (fun _ _ f => f)).trans k4 (fun _ _ f => f)
  have RA : Hid (Reads w4 p4 (len + 1) c4 (dl ++ [77])) := (own_slice2 ho4 B77.out).1
  have RB : Hid (Reads w4 p (len + 1) c (dl ++ [77])) := (own_slice2 (K14.out.owns O1.out (fun _ _ f => f)) B77.out).1
  clear ho4 k4
  go_wp2_with fail
  refine (same_any p p4 (len + 1) c (len + 1) c4 _ _ w4 RB.out RA.out true (by simp)).mono ?_
  rintro x w5 ⟨rfl, rfl⟩
  have ST : Hid (RS w.heap.size w (w5.alloc (.cells #[.slice none 0 0, .slice none 0 0] 53)) R D Q E w5.heap.size [] 0 0 dl dl) := by
    have s1 := K1.out.size
    have s2 := K2.out.size
    have s3 := K3.out.size
    have s4 := K4.out.size
    have q1 := IR.out
    have q2 := IQ.out
    have kk : Kept (fun _ => False) w5 (w5.alloc (.cells #[.slice none 0 0, .slice none 0 0] 53)) := (Kept.refl _ w5).alloc _
    have k25 : Kept (fun _ => False) w2 (w5.alloc (.cells #[.slice none 0 0, .slice none 0 0] 53)) := (K3.out.trans K4.out (fun _ _ f => f)).trans kk (fun _ _ f => f)
    have k35 : Kept (fun _ => False) w3 (w5.alloc (.cells #[.slice none 0 0, .slice none 0 0] 53)) := K4.out.trans kk (fun _ _ f => f)
    refine ⟨q1.1.kept k25 (fun f => f) (fun _ _ f => f), q2.1.kept k35 (fun f => f) (fun _ _ f => f), ⟨fun _ => by simp, fun q => absurd rfl q, DB.out, Nat.zero_le _, by rw [DL.out]; omega⟩,
      ⟨⟨.slice none 0 0, .slice none 0 0, heap_alloc_new w5 _, World.ownsRow_nil _ _ _ _, World.ownsRow_nil _ _ _ _, fun j hj => by simp [Value.ownBlock] at hj⟩, fun k hk => absurd hk (by simp), by omega⟩,
      q1.2.1.kept k25 (fun _ _ f => f), q2.2.1.kept k35 (fun _ _ f => f), fun j _ f => by obtain ⟨x, hx, _⟩ := f; simp at hx, fun j _ f => by obtain ⟨x, hx, _⟩ := f; simp at hx, by omega, by omega, ?_, by simp; omega⟩
    exact ((K1.out.trans K14.out (fun _ _ f => f)).trans kk (fun _ _ f => f)).below (Nat.le_refl _) (fun _ f => f.elim)
  have O5 : Hid ((w5.alloc (.cells #[.slice none 0 0, .slice none 0 0] 53)).ownsRow w.heap.size 5 1 (.slice p len c) len (cellsOf dl)) := (K14.out.owns O2.out (fun _ _ f => f)).alloc _
  have FX : Hid (∀ j, (Value.slice p len c).ownBlock = some j → D ≠ some j ∧ E ≠ some j) := fun j hj => by
    have h1 := (O2.out.lt j hj).2
    have h2 := K2.out.size
    exact ⟨fun q => by have := IR.out.2.2.2 j q; omega, fun q => by have := IQ.out.2.2.2 j q; omega⟩
  obtain ⟨K, hK⟩ : ∃ K, w5.heap.size = K := ⟨_, rfl⟩
  rw [hK] at ST
  obtain ⟨w6, hw6⟩ : ∃ w6, w5.alloc (.cells #[.slice none 0 0, .slice none 0 0] 53) = w6 := ⟨_, rfl⟩
  rw [hw6] at ST O5
  go_wp2_with fail
  clear hw6 hK
  refine (hold_any w.heap.size K [] p len c dl w6 ST.out.book O5.out (fun j _ f => by obtain ⟨x, hx, _⟩ := f; simp at hx) (by omega) (by simp) ST.out.size).mono ?_
  rintro x w7 ⟨rfl, hq, hd, b7, k7, n7⟩
  have S7 : Hid (RS w.heap.size w w7 R D Q E K ([] ++ [⟨p, len, c, hq, hd⟩]) 0 0 dl dl) := ST.out.hold O5.out FX.out b7 k7 n7
  clear b7 k7 n7
  go_wp2_with fail
  go_loopw [9] (fun x wr => ∃ (i : Nat) (hs : List Held) (e : Int) (k : Nat) (l : List Nat), x = .int .i64 (i : Int) ∧ i ≤ len2 ∧ Hid (RS w.heap.size w wr R D Q E K hs e k l dl ∧ hs.length ≤ i + 1)) (fun x _ => len2 - (intOf x).toNat)
  case atStart => exact ⟨0, _, _, _, _, rfl, Nat.zero_le _, S7.out, by simp⟩
  case round =>
    obtain ⟨i, hs, e, k, l, rfl, hi, Z⟩ := hrel
    by_cases hlt : i < len2
    · have hio : i < ops.length := by rw [HL.out]; exact hlt
      obtain ⟨b, off, rfl, hc⟩ := SC.out (by omega)
      have h := (hc i hio).below Z.out.1.below
      obtain ⟨o, ho⟩ : ∃ o, ops[i] = o := ⟨_, rfl⟩
      rw [ho] at h
      have c0 := h.c0
      have c1 := h.c1
      have c2 := h.c2
      have c3 := h.c3
      have c4 := h.c4
      have i1 : (i : Int) < (len2 : Int) := by omega
      clear hc h ho hio
      go_wp2_with fail
      refine (take_law w.heap.size w wr R D Q E K hs e k l dl o Z.out.1 (by have := Z.out.2; omega)).mono ?_
      rintro x w8 ⟨rfl, hs2, e2, k2, l2, S2, b2⟩
      have Z2 : Hid (RS w.heap.size w w8 R D Q E K hs2 e2 k2 l2 dl ∧ hs2.length ≤ i + 1 + 1) := ⟨S2, by have := Z.out.2; omega⟩
      clear S2 b2
      go_wp2_with fail
      refine (kept_any w.heap.size K hs2 w8 Z2.out.1.book (by have := Z2.out.2; omega)).mono ?_
      rintro x w9 ⟨rfl, rfl⟩
      go_wp2_with fail
      go_roundw
      case rel => exact ⟨i + 1, hs2, e2, k2, l2, by go_num, by omega, Z2⟩
      case measure => simp [intOf]; omega
    · have hk' : len2 = i := by omega
      subst hk'
      clear hlt hi
      go_wp2_with fail
      refine (silent_any wr).mono ?_
      rintro x w8 ⟨rfl, k8⟩
      have Z2 : Hid (Below w.heap.size w w8) := Z.out.1.below.trans (k8.below Z.out.1.size (fun _ f => f.elim))
      clear k8
      go_wp2_with fail
      go_ret
      exact ⟨rfl, Z2.out⟩
end Go.Proofs.Ytgfglbbfoadiaaa
