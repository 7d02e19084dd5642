import Derived.Test.YtojepeefphbekaaGreatPRoomy
import Derived.Test.YtojepeefphbekaaGreatSameJ
import Derived.Test.YtojepeefphbekaaGreatPMayJ
namespace Go.Proofs.YtojepeefphbekaaGreat
open Go.RowKit 

theorem slice_up {w : World} {base : Nat} {a : Option Addr} {n cap : Nat} {xs : List Value} (h : w.ownsRow base 5 1 (.slice a (n + 1) cap) (n + 1) xs) (W : World) : (Instr.slice 38 (.slice a n cap) none (some (.int .i64 ((n + 1 : Nat) : Int))) none).run Tryz.prog W = .ok (.slice a (n + 1) cap) W := by
  rcases h.2 with ⟨e0, e1⟩ | ⟨g, cap', cur, e0, _, _, h1, h2, _⟩
  · omega
  · simp at e0
    obtain ⟨rfl, rfl⟩ := e0
    unfold maxLen at h2
    have h3 : n + 1 ≤ cap := by omega
    have h4 : ((n : Int) + 1) ≤ (cap : Int) := by omega
    simp [Instr.slice, Instr.sliceBounds, Instr.sliceBound, asIntOf, run_underlying Tryz.underlying38, h4]
    have h5 : (0 : Int) ≤ (n : Int) + 1 := by omega
    have h6 : ¬ cap = 0 := by omega
    rw [if_pos h5, if_neg h6, Addr.add_none]
set_option maxRecDepth 100000 in
set_option maxHeartbeats 8000000 in
/-- untouched. -/
theorem lUntouched (kd : Int) (key : ByteArray) (x y : Int) (fin has : Bool) (q : Option Addr) (n k : Nat) (a : Option Addr) (c : Nat) (l : List Nat) (b0 : Nat) (w : World) (ow : w.ownsRow b0 5 1 (.slice q (n + 1) k) (n + 1) (cellsOf (l ++ [90]))) (r : Reads w a n c l) (hn : n + 1 ≤ 140737488355328) :
    Calls Tryz.prog 73 #[.agg #[.int .i64 kd, .string key, .int .i64 x, .int .i64 y, .bool fin, .bool has, .slice q n k], .agg #[.int .i64 kd, .string key, .int .i64 x, .int .i64 y, .bool fin, .bool has, .slice a n c]] w fun o w' => o = .returned (.bool true) ∧ Kept (fun _ => False) w w' := by
  obtain ⟨W, hW⟩ : ∃ W, W = (w.alloc (.cells #[.int .i64 kd, .string key, .int .i64 x, .int .i64 y, .bool fin, .bool has, .slice q n k] 44)).alloc (.cells #[.int .i64 kd, .string key, .int .i64 x, .int .i64 y, .bool fin, .bool has, .slice a n c] 44) := ⟨_, rfl⟩
  have KZ : Kept (fun _ => False) w W := by rw [hW]; exact ((Kept.refl _ w).alloc _).alloc _
  obtain ⟨g, hg, hcell, hk⟩ : ∃ g, q = some ⟨g, 0, none⟩ ∧ w.cell? ⟨g, n, none⟩ = some (.int .u8 90) ∧ n + 1 ≤ k ∧ k ≤ maxLen := by
    have rm := own_room ow
    rcases ow.2 with ⟨_, e1⟩ | ⟨g, cap', cur, e0, _⟩
    · omega
    · have e0 : Value.slice q (n + 1) k = .slice (some ⟨g, 0, none⟩) (n + 1) cap' := e0
      injection e0 with z1 _ z3
      subst z1
      refine ⟨g, rfl, ?_, rm⟩
      have := ow.cells (g := g) rfl n (.int .u8 90) (by
        rw [cellsOf_snoc, List.getElem?_append_right (by rw [cellsOf_length, r.length]; exact Nat.le_refl _), cellsOf_length, r.length, Nat.sub_self]
        rfl)
      rw [Addr.add_none, Nat.zero_add] at this
      exact this
  have rq : Reads w q n k l := by
    refine ⟨r.length, by omega, hk.2, r.bytes, fun h0 => ⟨g, 0, hg, fun i hi => ?_⟩⟩
    have := ow.cells (g := g) (by rw [hg]; rfl) i (.int .u8 ((l.getD i 0 : Nat) : Int)) (by
      rw [cellsOf_snoc, List.getElem?_append_left (by rw [cellsOf_length, r.length]; exact hi)]
      unfold cellsOf
      rw [List.getElem?_map, List.getD_eq_getElem?_getD, List.getElem?_eq_getElem (by rw [r.length]; exact hi)]
      rfl)
    rw [Addr.add_none] at this
    exact this
  have H : Hid (W.heap[w.heap.size]? = some (.cells #[.int .i64 kd, .string key, .int .i64 x, .int .i64 y, .bool fin, .bool has, .slice q n k] 44 (0, 0)) ∧ W.heap[w.heap.size + 1]? = some (.cells #[.int .i64 kd, .string key, .int .i64 x, .int .i64 y, .bool fin, .bool has, .slice a n c] 44 (0, 0)) ∧ Kept (fun _ => False) w W ∧ Reads W a n c l ∧ Reads W q n k l) := by
    refine ⟨?_, ?_, KZ, r.kept KZ (fun _ _ z => z), rq.kept KZ (fun _ _ z => z)⟩
    · rw [hW]; exact two0 _ _ _
    · rw [hW]; exact two1 _ _ _
  have EW : Hid (W = (w.alloc (.cells #[.int .i64 kd, .string key, .int .i64 x, .int .i64 y, .bool fin, .bool has, .slice q n k] 44)).alloc (.cells #[.int .i64 kd, .string key, .int .i64 x, .int .i64 y, .bool fin, .bool has, .slice a n c] 44)) := hW
  have SL0 : ∀ V, (Instr.slice 38 (.slice q n k) none (some (.int .i64 ((n + 1 : Nat) : Int))) none).run Tryz.prog V = .ok (.slice q (n + 1) k) V := fun V => slice_up ow V
  obtain ⟨N, hN⟩ : ∃ N, N = n + 1 := ⟨_, rfl⟩
  rw [← hN] at SL0
  have wN : IntKind.i64.wrap ((n : Int) + 1) = (N : Int) := by rw [IntKind.wrap_i64]; omega
  have n1 : (n : Int) < (N : Int) := by omega
  have n0 : (0 : Int) ≤ (n : Int) := by omega
  subst hg
  have CC : Hid (w.cell? ⟨g, n, none⟩ = some (.int .u8 90)) := hcell
  have hk1 : N ≤ k := by omega
  have hk2 : k ≤ 2 ^ 63 - 1 := by have := hk.2; unfold maxLen at this; exact this
  have hnc : n ≤ c := r.room
  have hcm : c ≤ 2 ^ 63 - 1 := by have := r.small; unfold maxLen at this; exact this
  clear hW KZ ow r rq hn hcell hk hN
  go_enter Tryz.func73, Tryz.ntmps73
  go_upto_region 1 with fail
  rw [← EW.out]
  have t0 := cell_blk H.out.1 0 (v := .int .i64 kd) rfl
  have t1 := cell_blk H.out.1 1 (v := .string key) rfl
  have t2 := cell_blk H.out.1 2 (v := .int .i64 x) rfl
  have t3 := cell_blk H.out.1 3 (v := .int .i64 y) rfl
  have t4 := cell_blk H.out.1 4 (v := .bool fin) rfl
  have t5 := cell_blk H.out.1 5 (v := .bool has) rfl
  have t6 := cell_blk H.out.1 6 (v := .slice (some ⟨g, 0, none⟩) n k) rfl
  have s0 := cell_blk H.out.2.1 0 (v := .int .i64 kd) rfl
  have s1 := cell_blk H.out.2.1 1 (v := .string key) rfl
  have s2 := cell_blk H.out.2.1 2 (v := .int .i64 x) rfl
  have s3 := cell_blk H.out.2.1 3 (v := .int .i64 y) rfl
  have s4 := cell_blk H.out.2.1 4 (v := .bool fin) rfl
  have s5 := cell_blk H.out.2.1 5 (v := .bool has) rfl
  have s6 := cell_blk H.out.2.1 6 (v := .slice a n c) rfl
  go_wp2_with fail
  refine (sameEntry x y fin has l (some ⟨g, 0, none⟩) n k a n c W H.out.2.2.2.2.txt H.out.2.2.2.1.txt).mono ?_
  rintro o w2 ⟨rfl, K2⟩
  have P2 : Hid (Kept (fun _ => False) w w2) := H.out.2.2.1.and0 K2
  replace t6 := K2.cell t6 (fun z => z)
  have c9 := P2.out.cell CC.out (fun z => z)
  clear K2 t0 t1 t2 t3 t4 t5 s0 s1 s2 s3 s4 s5 s6
  go_wp2_with fail
  go_ret
  exact ⟨rfl, P2.out⟩
end Go.Proofs.YtojepeefphbekaaGreat

namespace Go.Proofs.YtojepeefphbekaaGreat
open Go.RowKit 

set_option maxRecDepth 100000 in
set_option maxHeartbeats 8000000 in
/-- does: Would. -/
theorem lDoesWould (P Q : Value) (ot uk : Int) (ukey : ByteArray) (ux uy : Int) (uf uh : Bool) (ua : Option Addr) (un uc : Nat) (key : ByteArray) (gx gy oN : Int) (l : List Nat) (w : World) (rd : Reads w ua un uc l) (hn : un + 1 ≤ 140737488355328) (r1 : Bool) (r2 : Int) (W1 : Hid (∀ V q k, Kept (fun _ => False) w V → Calls Tryz.prog 33 #[P, .agg #[.int .i64 uk, .string ukey, .int .i64 ux, .int .i64 uy, .bool uf, .bool uh, .slice q un k]] V fun o w' => o = .returned (.tuple #[.bool r1, .int .i64 r2]) ∧ Kept (fun _ => False) V w')) (W2 : Hid (∀ V, Kept (fun _ => False) w V → Calls Tryz.prog 72 #[Q, .agg #[.int .i64 uk, .string ukey, .int .i64 ux, .int .i64 uy, .bool uf, .bool uh, .slice ua un uc]] V fun o w' => o = .returned (.tuple #[.bool r1, .int .i64 r2]) ∧ Kept (fun _ => False) V w')) :
    Calls Tryz.prog 47 #[P, Q, .agg #[.int .i64 1, .int .i64 ot, .int .i64 uk, .string ukey, .int .i64 ux, .int .i64 uy, .bool uf, .bool uh, .slice ua un uc, .string key, .int .i64 gx, .int .i64 gy, .int .i64 oN]] w fun o w' => o = .returned (.bool true) ∧ Kept (fun _ => False) w w' := by
  obtain ⟨W, hW⟩ : ∃ W, W = w.alloc (.cells #[.int .i64 1, .int .i64 ot, .int .i64 uk, .string ukey, .int .i64 ux, .int .i64 uy, .bool uf, .bool uh, .slice ua un uc, .string key, .int .i64 gx, .int .i64 gy, .int .i64 oN] 78) := ⟨_, rfl⟩
  have KZ : Kept (fun _ => False) w W := by rw [hW]; exact k0_alloc _ _
  have H : Hid (W.heap[w.heap.size]? = some (.cells #[.int .i64 1, .int .i64 ot, .int .i64 uk, .string ukey, .int .i64 ux, .int .i64 uy, .bool uf, .bool uh, .slice ua un uc, .string key, .int .i64 gx, .int .i64 gy, .int .i64 oN] 78 (0, 0)) ∧ Kept (fun _ => False) w W ∧ Reads W ua un uc l ∧ un + 1 ≤ 140737488355328) := ⟨by rw [hW]; exact heap_alloc_new _ _, KZ, rd.kept KZ (fun _ _ z => z), hn⟩
  have EW : Hid (W = w.alloc (.cells #[.int .i64 1, .int .i64 ot, .int .i64 uk, .string ukey, .int .i64 ux, .int .i64 uy, .bool uf, .bool uh, .slice ua un uc, .string key, .int .i64 gx, .int .i64 gy, .int .i64 oN] 78)) := hW
  clear hW KZ rd hn
  go_enter Tryz.func47, Tryz.ntmps47
  go_upto_region 1 with fail
  rw [← EW.out]
  have o0 := cell_blk H.out.1 0 (v := .int .i64 1) rfl
  have o1 := cell_blk H.out.1 1 (v := .int .i64 ot) rfl
  have o2 := cell_blk H.out.1 2 (v := .int .i64 uk) rfl
  have o3 := cell_blk H.out.1 3 (v := .string ukey) rfl
  have o4 := cell_blk H.out.1 4 (v := .int .i64 ux) rfl
  have o5 := cell_blk H.out.1 5 (v := .int .i64 uy) rfl
  have o6 := cell_blk H.out.1 6 (v := .bool uf) rfl
  have o7 := cell_blk H.out.1 7 (v := .bool uh) rfl
  have o8 := cell_blk H.out.1 8 (v := .slice ua un uc) rfl
  have o9 := cell_blk H.out.1 9 (v := .string key) rfl
  have o10 := cell_blk H.out.1 10 (v := .int .i64 gx) rfl
  have o11 := cell_blk H.out.1 11 (v := .int .i64 gy) rfl
  have o12 := cell_blk H.out.1 12 (v := .int .i64 oN) rfl
  go_wp2_with fail
  refine (lRoomy uk ukey ux uy uf uh ua un uc l W H.out.2.2.1 H.out.2.2.2).mono ?_
  rintro o w1 ⟨q, k, rfl, Q1⟩
  obtain ⟨V, hV⟩ : ∃ V, V = w1.alloc (.cells #[.int .i64 uk, .string ukey, .int .i64 ux, .int .i64 uy, .bool uf, .bool uh, .slice q un k] 44) := ⟨_, rfl⟩
  obtain ⟨X, hX⟩ : ∃ X, X = w1.heap.size := ⟨_, rfl⟩
  have J : Hid (V.heap[X]? = some (.cells #[.int .i64 uk, .string ukey, .int .i64 ux, .int .i64 uy, .bool uf, .bool uh, .slice q un k] 44 (0, 0)) ∧ Kept (fun _ => False) w V ∧ V.heap[w.heap.size]? = some (.cells #[.int .i64 1, .int .i64 ot, .int .i64 uk, .string ukey, .int .i64 ux, .int .i64 uy, .bool uf, .bool uh, .slice ua un uc, .string key, .int .i64 gx, .int .i64 gy, .int .i64 oN] 78 (0, 0)) ∧ V.ownsRow w.heap.size 5 1 (.slice q (un + 1) k) (un + 1) (cellsOf (l ++ [90])) ∧ Reads V ua un uc l ∧ w.heap.size < X) := by
    have K : Kept (fun _ => False) w1 V := by rw [hV]; exact k0_alloc _ _
    have KA := Q1.out.2.and0 K
    have lt := block_lt H.out.1
    have sz := Q1.out.2.size
    exact ⟨by rw [hV, hX]; exact heap_alloc_new _ _, H.out.2.1.and0 KA, KA.get H.out.1 (fun z => z), owns_mono (K.owns Q1.out.1 (fun _ _ z => z)) H.out.2.1.size, H.out.2.2.1.kept KA (fun _ _ z => z), by omega⟩
  have EV : Hid (V = w1.alloc (.cells #[.int .i64 uk, .string ukey, .int .i64 ux, .int .i64 uy, .bool uf, .bool uh, .slice q un k] 44) ∧ X = w1.heap.size) := ⟨hV, hX⟩
  clear hV hX o0 o1 o2 o3 o4 o5 o6 o7 o8 o9 o10 o11 o12 Q1
  go_upto_region 2 with fail
  rw [← EV.out.1, ← EV.out.2]
  have o0 := cell_blk J.out.2.2.1 0 (v := .int .i64 1) rfl
  have o1 := cell_blk J.out.2.2.1 1 (v := .int .i64 ot) rfl
  have o2 := cell_blk J.out.2.2.1 2 (v := .int .i64 uk) rfl
  have o3 := cell_blk J.out.2.2.1 3 (v := .string ukey) rfl
  have o4 := cell_blk J.out.2.2.1 4 (v := .int .i64 ux) rfl
  have o5 := cell_blk J.out.2.2.1 5 (v := .int .i64 uy) rfl
  have o6 := cell_blk J.out.2.2.1 6 (v := .bool uf) rfl
  have o7 := cell_blk J.out.2.2.1 7 (v := .bool uh) rfl
  have o8 := cell_blk J.out.2.2.1 8 (v := .slice ua un uc) rfl
  have o9 := cell_blk J.out.2.2.1 9 (v := .string key) rfl
  have o10 := cell_blk J.out.2.2.1 10 (v := .int .i64 gx) rfl
  have o11 := cell_blk J.out.2.2.1 11 (v := .int .i64 gy) rfl
  have o12 := cell_blk J.out.2.2.1 12 (v := .int .i64 oN) rfl
  go_wp2_with fail
  refine (W2.out V J.out.2.1).mono ?_
  rintro o w2 ⟨rfl, K2⟩
  have P2 : Hid (Kept (fun _ => False) V w2) := K2
  clear K2 o0 o1 o2 o3 o4 o5 o6 o7 o8 o9 o10 o11 o12
  have u0 := cell_blk (P2.out.get J.out.1 (fun z => z)) 0 (v := .int .i64 uk) rfl
  have u1 := cell_blk (P2.out.get J.out.1 (fun z => z)) 1 (v := .string ukey) rfl
  have u2 := cell_blk (P2.out.get J.out.1 (fun z => z)) 2 (v := .int .i64 ux) rfl
  have u3 := cell_blk (P2.out.get J.out.1 (fun z => z)) 3 (v := .int .i64 uy) rfl
  have u4 := cell_blk (P2.out.get J.out.1 (fun z => z)) 4 (v := .bool uf) rfl
  have u5 := cell_blk (P2.out.get J.out.1 (fun z => z)) 5 (v := .bool uh) rfl
  have u6 := cell_blk (P2.out.get J.out.1 (fun z => z)) 6 (v := .slice q un k) rfl
  go_wp2_with fail
  refine (W1.out w2 q k (J.out.2.1.and0 P2.out)).mono ?_
  rintro o w3 ⟨rfl, K3⟩
  have P3 : Hid (Kept (fun _ => False) V w3) := P2.out.and0 K3
  clear K3 u0 u1 u2 u3 u4 u5 u6
  have u0 := cell_blk (P3.out.get J.out.1 (fun z => z)) 0 (v := .int .i64 uk) rfl
  have u1 := cell_blk (P3.out.get J.out.1 (fun z => z)) 1 (v := .string ukey) rfl
  have u2 := cell_blk (P3.out.get J.out.1 (fun z => z)) 2 (v := .int .i64 ux) rfl
  have u3 := cell_blk (P3.out.get J.out.1 (fun z => z)) 3 (v := .int .i64 uy) rfl
  have u4 := cell_blk (P3.out.get J.out.1 (fun z => z)) 4 (v := .bool uf) rfl
  have u5 := cell_blk (P3.out.get J.out.1 (fun z => z)) 5 (v := .bool uh) rfl
  have u6 := cell_blk (P3.out.get J.out.1 (fun z => z)) 6 (v := .slice q un k) rfl
  have o0 := cell_blk (P3.out.get J.out.2.2.1 (fun z => z)) 0 (v := .int .i64 1) rfl
  have o1 := cell_blk (P3.out.get J.out.2.2.1 (fun z => z)) 1 (v := .int .i64 ot) rfl
  have o2 := cell_blk (P3.out.get J.out.2.2.1 (fun z => z)) 2 (v := .int .i64 uk) rfl
  have o3 := cell_blk (P3.out.get J.out.2.2.1 (fun z => z)) 3 (v := .string ukey) rfl
  have o4 := cell_blk (P3.out.get J.out.2.2.1 (fun z => z)) 4 (v := .int .i64 ux) rfl
  have o5 := cell_blk (P3.out.get J.out.2.2.1 (fun z => z)) 5 (v := .int .i64 uy) rfl
  have o6 := cell_blk (P3.out.get J.out.2.2.1 (fun z => z)) 6 (v := .bool uf) rfl
  have o7 := cell_blk (P3.out.get J.out.2.2.1 (fun z => z)) 7 (v := .bool uh) rfl
  have o8 := cell_blk (P3.out.get J.out.2.2.1 (fun z => z)) 8 (v := .slice ua un uc) rfl
  have o9 := cell_blk (P3.out.get J.out.2.2.1 (fun z => z)) 9 (v := .string key) rfl
  have o10 := cell_blk (P3.out.get J.out.2.2.1 (fun z => z)) 10 (v := .int .i64 gx) rfl
  have o11 := cell_blk (P3.out.get J.out.2.2.1 (fun z => z)) 11 (v := .int .i64 gy) rfl
  have o12 := cell_blk (P3.out.get J.out.2.2.1 (fun z => z)) 12 (v := .int .i64 oN) rfl
  go_wp2_with fail
  refine (lUntouched uk ukey ux uy uf uh q un k ua uc l w.heap.size w3 (P3.out.owns J.out.2.2.2.1 (fun _ _ z => z)) (J.out.2.2.2.2.1.kept P3.out (fun _ _ z => z)) H.out.2.2.2).mono ?_
  rintro o w4 ⟨rfl, K4⟩
  go_wp2_with fail
  go_ret
  exact ⟨by simp, J.out.2.1.and0 (P3.out.and0 K4)⟩
/-- What is left behind an Apply on both, and the overwriting. -/
def DoesP (S2 S1 : World → World → Prop) (un : Nat) (l : List Nat) (w w' : World) : Prop := ∃ V V1 V2 q k, Kept (fun _ => False) w V ∧ V.ownsRow w.heap.size 5 1 (.slice q (un + 1) k) (un + 1) (cellsOf (l ++ [90])) ∧ S2 V V1 ∧ S1 V1 V2 ∧ Kept (fun b => b < w.heap.size) V V2 ∧ Kept (fun b => blockOf q = some b) V2 w'
set_option maxRecDepth 100000 in
set_option maxHeartbeats 8000000 in
/-- does: Apply. -/
theorem lDoesApply (P Q : Value) (ot uk : Int) (ukey : ByteArray) (ux uy : Int) (uf uh : Bool) (ua : Option Addr) (un uc : Nat) (key : ByteArray) (gx gy oN : Int) (l : List Nat) (w : World) (rd : Reads w ua un uc l) (hn : un + 1 ≤ 140737488355328) (r1 : Bool) (r2 : Int) (S2 S1 : World → World → Prop) (A2 : Hid (∀ V, Kept (fun _ => False) w V → Calls Tryz.prog 74 #[Q, .agg #[.int .i64 uk, .string ukey, .int .i64 ux, .int .i64 uy, .bool uf, .bool uh, .slice ua un uc]] V fun o w' => o = .returned (.tuple #[.bool r1, .int .i64 r2]) ∧ S2 V w' ∧ Kept (fun b => b < w.heap.size) V w' ∧ Reads w' ua un uc l)) (A1 : Hid (∀ V V1 q k, Kept (fun _ => False) w V → S2 V V1 → Kept (fun b => b < w.heap.size) V V1 → Reads V1 ua un uc l → V.ownsRow w.heap.size 5 1 (.slice q (un + 1) k) (un + 1) (cellsOf (l ++ [90])) → Calls Tryz.prog 27 #[P, .agg #[.int .i64 uk, .string ukey, .int .i64 ux, .int .i64 uy, .bool uf, .bool uh, .slice q un k]] V1 fun o w' => o = .returned (.tuple #[.bool r1, .int .i64 r2]) ∧ S1 V1 w' ∧ Kept (fun b => b < w.heap.size) V1 w' ∧ Reads w' ua un uc l)) :
    Calls Tryz.prog 47 #[P, Q, .agg #[.int .i64 0, .int .i64 ot, .int .i64 uk, .string ukey, .int .i64 ux, .int .i64 uy, .bool uf, .bool uh, .slice ua un uc, .string key, .int .i64 gx, .int .i64 gy, .int .i64 oN]] w fun o w' => o = .returned (.bool true) ∧ DoesP S2 S1 un l w w' := by
  obtain ⟨W, hW⟩ : ∃ W, W = w.alloc (.cells #[.int .i64 0, .int .i64 ot, .int .i64 uk, .string ukey, .int .i64 ux, .int .i64 uy, .bool uf, .bool uh, .slice ua un uc, .string key, .int .i64 gx, .int .i64 gy, .int .i64 oN] 78) := ⟨_, rfl⟩
  have KZ : Kept (fun _ => False) w W := by rw [hW]; exact k0_alloc _ _
  have H : Hid (W.heap[w.heap.size]? = some (.cells #[.int .i64 0, .int .i64 ot, .int .i64 uk, .string ukey, .int .i64 ux, .int .i64 uy, .bool uf, .bool uh, .slice ua un uc, .string key, .int .i64 gx, .int .i64 gy, .int .i64 oN] 78 (0, 0)) ∧ Kept (fun _ => False) w W ∧ Reads W ua un uc l ∧ un + 1 ≤ 140737488355328) := ⟨by rw [hW]; exact heap_alloc_new _ _, KZ, rd.kept KZ (fun _ _ z => z), hn⟩
  have EW : Hid (W = w.alloc (.cells #[.int .i64 0, .int .i64 ot, .int .i64 uk, .string ukey, .int .i64 ux, .int .i64 uy, .bool uf, .bool uh, .slice ua un uc, .string key, .int .i64 gx, .int .i64 gy, .int .i64 oN] 78)) := hW
  clear hW KZ rd hn
  go_enter Tryz.func47, Tryz.ntmps47
  go_upto_region 1 with fail
  rw [← EW.out]
  have o0 := cell_blk H.out.1 0 (v := .int .i64 0) rfl
  have o1 := cell_blk H.out.1 1 (v := .int .i64 ot) rfl
  have o2 := cell_blk H.out.1 2 (v := .int .i64 uk) rfl
  have o3 := cell_blk H.out.1 3 (v := .string ukey) rfl
  have o4 := cell_blk H.out.1 4 (v := .int .i64 ux) rfl
  have o5 := cell_blk H.out.1 5 (v := .int .i64 uy) rfl
  have o6 := cell_blk H.out.1 6 (v := .bool uf) rfl
  have o7 := cell_blk H.out.1 7 (v := .bool uh) rfl
  have o8 := cell_blk H.out.1 8 (v := .slice ua un uc) rfl
  have o9 := cell_blk H.out.1 9 (v := .string key) rfl
  have o10 := cell_blk H.out.1 10 (v := .int .i64 gx) rfl
  have o11 := cell_blk H.out.1 11 (v := .int .i64 gy) rfl
  have o12 := cell_blk H.out.1 12 (v := .int .i64 oN) rfl
  go_wp2_with fail
  refine (lRoomy uk ukey ux uy uf uh ua un uc l W H.out.2.2.1 H.out.2.2.2).mono ?_
  rintro o w1 ⟨q, k, rfl, Q1⟩
  obtain ⟨V, hV⟩ : ∃ V, V = w1.alloc (.cells #[.int .i64 uk, .string ukey, .int .i64 ux, .int .i64 uy, .bool uf, .bool uh, .slice q un k] 44) := ⟨_, rfl⟩
  obtain ⟨X, hX⟩ : ∃ X, X = w1.heap.size := ⟨_, rfl⟩
  have J : Hid (V.heap[X]? = some (.cells #[.int .i64 uk, .string ukey, .int .i64 ux, .int .i64 uy, .bool uf, .bool uh, .slice q un k] 44 (0, 0)) ∧ Kept (fun _ => False) w V ∧ V.heap[w.heap.size]? = some (.cells #[.int .i64 0, .int .i64 ot, .int .i64 uk, .string ukey, .int .i64 ux, .int .i64 uy, .bool uf, .bool uh, .slice ua un uc, .string key, .int .i64 gx, .int .i64 gy, .int .i64 oN] 78 (0, 0)) ∧ V.ownsRow w.heap.size 5 1 (.slice q (un + 1) k) (un + 1) (cellsOf (l ++ [90])) ∧ Reads V ua un uc l ∧ w.heap.size < X) := by
    have K : Kept (fun _ => False) w1 V := by rw [hV]; exact k0_alloc _ _
    have KA := Q1.out.2.and0 K
    have lt := block_lt H.out.1
    have sz := Q1.out.2.size
    exact ⟨by rw [hV, hX]; exact heap_alloc_new _ _, H.out.2.1.and0 KA, KA.get H.out.1 (fun z => z), owns_mono (K.owns Q1.out.1 (fun _ _ z => z)) H.out.2.1.size, H.out.2.2.1.kept KA (fun _ _ z => z), by omega⟩
  have EV : Hid (V = w1.alloc (.cells #[.int .i64 uk, .string ukey, .int .i64 ux, .int .i64 uy, .bool uf, .bool uh, .slice q un k] 44) ∧ X = w1.heap.size) := ⟨hV, hX⟩
  clear hV hX o0 o1 o2 o3 o4 o5 o6 o7 o8 o9 o10 o11 o12 Q1
  go_upto_region 2 with fail
  rw [← EV.out.1, ← EV.out.2]
  have o0 := cell_blk J.out.2.2.1 0 (v := .int .i64 0) rfl
  have o1 := cell_blk J.out.2.2.1 1 (v := .int .i64 ot) rfl
  have o2 := cell_blk J.out.2.2.1 2 (v := .int .i64 uk) rfl
  have o3 := cell_blk J.out.2.2.1 3 (v := .string ukey) rfl
  have o4 := cell_blk J.out.2.2.1 4 (v := .int .i64 ux) rfl
  have o5 := cell_blk J.out.2.2.1 5 (v := .int .i64 uy) rfl
  have o6 := cell_blk J.out.2.2.1 6 (v := .bool uf) rfl
  have o7 := cell_blk J.out.2.2.1 7 (v := .bool uh) rfl
  have o8 := cell_blk J.out.2.2.1 8 (v := .slice ua un uc) rfl
  have o9 := cell_blk J.out.2.2.1 9 (v := .string key) rfl
  have o10 := cell_blk J.out.2.2.1 10 (v := .int .i64 gx) rfl
  have o11 := cell_blk J.out.2.2.1 11 (v := .int .i64 gy) rfl
  have o12 := cell_blk J.out.2.2.1 12 (v := .int .i64 oN) rfl
  go_wp2_with fail
  refine (A2.out V J.out.2.1).mono ?_
  rintro o w2 ⟨rfl, S2', K2, R2⟩
  have P2 : Hid (S2 V w2 ∧ Kept (fun b => b < w.heap.size) V w2 ∧ Reads w2 ua un uc l) := ⟨S2', K2, R2⟩
  clear S2' K2 R2 o0 o1 o2 o3 o4 o5 o6 o7 o8 o9 o10 o11 o12
  have nX : Hid (¬ X < w.heap.size ∧ ¬ w.heap.size < w.heap.size) := ⟨by have := J.out.2.2.2.2.2; omega, Nat.lt_irrefl _⟩
  have u0 := cell_blk (P2.out.2.1.get J.out.1 nX.out.1) 0 (v := .int .i64 uk) rfl
  have u1 := cell_blk (P2.out.2.1.get J.out.1 nX.out.1) 1 (v := .string ukey) rfl
  have u2 := cell_blk (P2.out.2.1.get J.out.1 nX.out.1) 2 (v := .int .i64 ux) rfl
  have u3 := cell_blk (P2.out.2.1.get J.out.1 nX.out.1) 3 (v := .int .i64 uy) rfl
  have u4 := cell_blk (P2.out.2.1.get J.out.1 nX.out.1) 4 (v := .bool uf) rfl
  have u5 := cell_blk (P2.out.2.1.get J.out.1 nX.out.1) 5 (v := .bool uh) rfl
  have u6 := cell_blk (P2.out.2.1.get J.out.1 nX.out.1) 6 (v := .slice q un k) rfl
  go_wp2_with fail
  refine (A1.out V w2 q k J.out.2.1 P2.out.1 P2.out.2.1 P2.out.2.2 J.out.2.2.2.1).mono ?_
  rintro o w3 ⟨rfl, S1', K3, R3⟩
  have P3 : Hid (S1 w2 w3 ∧ Kept (fun b => b < w.heap.size) V w3 ∧ Reads w3 ua un uc l) := ⟨S1', P2.out.2.1.trans K3 (fun _ _ z => z), R3⟩
  clear S1' K3 R3 u0 u1 u2 u3 u4 u5 u6
  have u0 := cell_blk (P3.out.2.1.get J.out.1 nX.out.1) 0 (v := .int .i64 uk) rfl
  have u1 := cell_blk (P3.out.2.1.get J.out.1 nX.out.1) 1 (v := .string ukey) rfl
  have u2 := cell_blk (P3.out.2.1.get J.out.1 nX.out.1) 2 (v := .int .i64 ux) rfl
  have u3 := cell_blk (P3.out.2.1.get J.out.1 nX.out.1) 3 (v := .int .i64 uy) rfl
  have u4 := cell_blk (P3.out.2.1.get J.out.1 nX.out.1) 4 (v := .bool uf) rfl
  have u5 := cell_blk (P3.out.2.1.get J.out.1 nX.out.1) 5 (v := .bool uh) rfl
  have u6 := cell_blk (P3.out.2.1.get J.out.1 nX.out.1) 6 (v := .slice q un k) rfl
  have o0 := cell_blk (P3.out.2.1.get J.out.2.2.1 nX.out.2) 0 (v := .int .i64 0) rfl
  have o1 := cell_blk (P3.out.2.1.get J.out.2.2.1 nX.out.2) 1 (v := .int .i64 ot) rfl
  have o2 := cell_blk (P3.out.2.1.get J.out.2.2.1 nX.out.2) 2 (v := .int .i64 uk) rfl
  have o3 := cell_blk (P3.out.2.1.get J.out.2.2.1 nX.out.2) 3 (v := .string ukey) rfl
  have o4 := cell_blk (P3.out.2.1.get J.out.2.2.1 nX.out.2) 4 (v := .int .i64 ux) rfl
  have o5 := cell_blk (P3.out.2.1.get J.out.2.2.1 nX.out.2) 5 (v := .int .i64 uy) rfl
  have o6 := cell_blk (P3.out.2.1.get J.out.2.2.1 nX.out.2) 6 (v := .bool uf) rfl
  have o7 := cell_blk (P3.out.2.1.get J.out.2.2.1 nX.out.2) 7 (v := .bool uh) rfl
  have o8 := cell_blk (P3.out.2.1.get J.out.2.2.1 nX.out.2) 8 (v := .slice ua un uc) rfl
  have o9 := cell_blk (P3.out.2.1.get J.out.2.2.1 nX.out.2) 9 (v := .string key) rfl
  have o10 := cell_blk (P3.out.2.1.get J.out.2.2.1 nX.out.2) 10 (v := .int .i64 gx) rfl
  have o11 := cell_blk (P3.out.2.1.get J.out.2.2.1 nX.out.2) 11 (v := .int .i64 gy) rfl
  have o12 := cell_blk (P3.out.2.1.get J.out.2.2.1 nX.out.2) 12 (v := .int .i64 oN) rfl
  go_wp2_with fail
  have RW : Hid (w3.ownsRow w.heap.size 5 1 (.slice q (un + 1) k) (un + 1) (cellsOf (l ++ [90]))) := P3.out.2.1.owns J.out.2.2.2.1 (fun b hb z => by
    have := (own_lt J.out.2.2.2.1 b (by rw [← blockOf_own]; exact hb)).1
    have z : b < w.heap.size := z
    omega)
  refine (lUntouched uk ukey ux uy uf uh q un k ua uc l w.heap.size w3 RW.out P3.out.2.2 H.out.2.2.2).mono ?_
  rintro o w4 ⟨rfl, K4⟩
  obtain ⟨g, hg, hk⟩ : ∃ g, q = some ⟨g, 0, none⟩ ∧ un + 1 ≤ k ∧ k ≤ maxLen := by
    have rm := own_room RW.out
    rcases RW.out.2 with ⟨_, e1⟩ | ⟨g, cap', cur, e0, _⟩
    · omega
    · have e0 : Value.slice q (un + 1) k = .slice (some ⟨g, 0, none⟩) (un + 1) cap' := e0
      injection e0 with z1 _ z3
      exact ⟨g, z1, rm⟩
  subst hg
  have B4 : Hid (w4.heap[X]? = some (.cells #[.int .i64 uk, .string ukey, .int .i64 ux, .int .i64 uy, .bool uf, .bool uh, .slice (some ⟨g, 0, none⟩) un k] 44 (0, 0)) ∧ ¬ X = g) := by
    have b := K4.get (P3.out.2.1.get J.out.1 nX.out.1) (fun z => z)
    refine ⟨b, fun z => ?_⟩
    obtain ⟨c2, h2⟩ := own_type (K4.owns RW.out (fun _ _ z => z)) g rfl
    rw [← z, b] at h2
    simp at h2
  have T0 : Hid (∃ xs, w4.ownsRow w.heap.size 5 1 (.slice (some ⟨g, 0, none⟩) (un + 1) k) (un + 1) xs ∧ Kept (fun b => b = g) w3 w4) := ⟨_, K4.owns RW.out (fun _ _ z => z), K4.mono (fun _ _ z => z.elim)⟩
  have hk1 : un ≤ k := by omega
  have hk2 : k ≤ 2 ^ 63 - 1 := by have := hk.2; unfold maxLen at this; exact this
  have KX : Hid (∀ V, Kept (fun b => b = g) w4 V → V.heap[X]? = some (.cells #[.int .i64 uk, .string ukey, .int .i64 ux, .int .i64 uy, .bool uf, .bool uh, .slice (some ⟨g, 0, none⟩) un k] 44 (0, 0))) := fun V K => K.get B4.out.1 B4.out.2
  have u6' := cell_blk B4.out.1 6 (v := .slice (some ⟨g, 0, none⟩) un k) rfl
  have T1 : Hid (Kept (fun b => b = g) w4 w4) := Kept.refl _ _
  clear K4 u0 u1 u2 u3 u4 u5 u6 o0 o1 o2 o3 o4 o5 o6 o7 o8 o9 o10 o11 o12 hk
  go_wp2_with fail
  go_loopw [17, 82] (fun _ z wr => ∃ (i : Nat), z = .int .i64 (i : Int) ∧ i ≤ un ∧ Hid (∃ xs, wr.ownsRow w.heap.size 5 1 (.slice (some ⟨g, 0, none⟩) (un + 1) k) (un + 1) xs ∧ Kept (fun b => b = g) w3 wr) ∧ Hid (Kept (fun b => b = g) w4 wr)) (fun _ z _ => un - (intOf z).toNat)
  case atStart => exact ⟨0, rfl, Nat.zero_le _, T0, T1⟩
  case round =>
    obtain ⟨i, rfl, hi, T, T4⟩ := hrel
    obtain ⟨wq, hwq⟩ : ∃ wq, wq = wr := ⟨_, rfl⟩
    rw [← hwq] at T T4 ⊢
    clear hwq T0 T1 u6'
    by_cases hlt : i < un
    · have i1 : (i : Int) < (un : Int) := by omega
      obtain ⟨xs, ow, kp⟩ := T.out
      have u6 := cell_blk (KX.out wq T4.out) 6 (v := .slice (some ⟨g, 0, none⟩) un k) rfl
      have fz := ow.frozenAt i
      obtain ⟨v, hv⟩ : ∃ v, wq.cell? ⟨g, i, none⟩ = some v := by
        have hl := ow.1
        have hx : i < xs.length := by omega
        have := ow.cells (g := g) rfl i xs[i] (List.getElem?_eq_getElem hx)
        rw [Addr.add_none, Nat.zero_add] at this
        exact ⟨_, this⟩
      have T2 : Hid (∃ xs, (wq.setCell ⟨g, i, none⟩ (.int .u8 238)).ownsRow w.heap.size 5 1 (.slice (some ⟨g, 0, none⟩) (un + 1) k) (un + 1) xs ∧ Kept (fun b => b = g) w3 (wq.setCell ⟨g, i, none⟩ (.int .u8 238))) := ⟨_, (ow.stored _ _).1, kp.setCell (p := ⟨g, i, none⟩) (fun _ => rfl) _⟩
      have T3 : Hid (Kept (fun b => b = g) w4 (wq.setCell ⟨g, i, none⟩ (.int .u8 238))) := T4.out.setCell (p := ⟨g, i, none⟩) (fun _ => rfl) _
      clear ow kp T T4
      go_wp2_with fail
      go_roundw
      case rel => exact ⟨i + 1, by go_num, by omega, T2, T3⟩
      case measure => simp [intOf] <;> omega
    · have i1 : ¬ (i : Int) < (un : Int) := by omega
      have G : Hid (DoesP S2 S1 un l w wq) := by
        obtain ⟨xs, ow, kp⟩ := T.out
        exact ⟨V, w2, w3, some ⟨g, 0, none⟩, k, J.out.2.1, J.out.2.2.2.1, P2.out.1, P3.out.1, P3.out.2.1, kp.mono (fun b _ z => by have z : b = g := z; rw [z]; rfl)⟩
      clear T T4
      go_wp2_with fail
      go_ret
      exact ⟨by simp, G⟩
end Go.Proofs.YtojepeefphbekaaGreat
