import Derived.Test.YtbangbobfeflcaaDoorHSc
import Derived.Test.YtbangbobfeflcaaDoorLDc
import Derived.Deep.Cut
import Derived.BigQuiet
import Derived.Deep.RegionHeld3
import Derived.Deep.DeepCutAuto
namespace Go.Proofs.YtbangbobfeflcaaDoor
open Go.RowKit 

set_option maxRecDepth 100000 in
set_option maxHeartbeats 2000000 in
theorem hEqual {w : World} {kind client op st tx ty : Int} {put : Bool} {key : ByteArray} {va va' : Option Addr} {vn vc vc' : Nat} {val : List Nat} (R1 : Reads w va vn vc val) (R2 : Reads w va' vn vc' val) : Calls Tryd.prog 20 #[.agg #[.int .i64 kind, .int .i64 client, .int .i64 op, .bool put, .string key, .slice va vn vc, .int .i64 st, .int .i64 tx, .int .i64 ty], .agg #[.int .i64 kind, .int .i64 client, .int .i64 op, .bool put, .string key, .slice va' vn vc', .int .i64 st, .int .i64 tx, .int .i64 ty]] w fun o w' => o = .returned (.bool true) ∧ Kept (fun _ => False) w w' := by
  have C28 : Hid (∀ V, Kept (fun _ => False) w V → Calls Tryd.prog 25 #[.slice va vn vc, .slice va' vn vc'] V fun o w' => o = .returned (.bool true) ∧ Kept (fun _ => False) V w') := fun V K => by
    have q := hSame (Reads.kept K R1 (fun _ _ z => z)) (Reads.kept K R2 (fun _ _ z => z))
    rw [decide_eq_true rfl] at q
    exact q
  clear R1 R2
  have HA : Hid (Kept (fun _ => False) w ((w.alloc (.cells #[.int .i64 kind, .int .i64 client, .int .i64 op, .bool put, .string key, .slice va vn vc, .int .i64 st, .int .i64 tx, .int .i64 ty] 45)).alloc (.cells #[.int .i64 kind, .int .i64 client, .int .i64 op, .bool put, .string key, .slice va' vn vc', .int .i64 st, .int .i64 tx, .int .i64 ty] 45)) ∧ ((w.alloc (.cells #[.int .i64 kind, .int .i64 client, .int .i64 op, .bool put, .string key, .slice va vn vc, .int .i64 st, .int .i64 tx, .int .i64 ty] 45)).alloc (.cells #[.int .i64 kind, .int .i64 client, .int .i64 op, .bool put, .string key, .slice va' vn vc', .int .i64 st, .int .i64 tx, .int .i64 ty] 45)).heap[w.heap.size]? = some (.cells #[.int .i64 kind, .int .i64 client, .int .i64 op, .bool put, .string key, .slice va vn vc, .int .i64 st, .int .i64 tx, .int .i64 ty] 45 (0, 0)) ∧ ((w.alloc (.cells #[.int .i64 kind, .int .i64 client, .int .i64 op, .bool put, .string key, .slice va vn vc, .int .i64 st, .int .i64 tx, .int .i64 ty] 45)).alloc (.cells #[.int .i64 kind, .int .i64 client, .int .i64 op, .bool put, .string key, .slice va' vn vc', .int .i64 st, .int .i64 tx, .int .i64 ty] 45)).heap[w.heap.size + 1]? = some (.cells #[.int .i64 kind, .int .i64 client, .int .i64 op, .bool put, .string key, .slice va' vn vc', .int .i64 st, .int .i64 tx, .int .i64 ty] 45 (0, 0))) := ⟨((Kept.refl _ _).alloc _).alloc _, alloc_old _ (alloc_new _ _), by
    have q := alloc_new (w.alloc (.cells #[.int .i64 kind, .int .i64 client, .int .i64 op, .bool put, .string key, .slice va vn vc, .int .i64 st, .int .i64 tx, .int .i64 ty] 45)) (.cells #[.int .i64 kind, .int .i64 client, .int .i64 op, .bool put, .string key, .slice va' vn vc', .int .i64 st, .int .i64 tx, .int .i64 ty] 45)
    rw [alloc_size] at q
    exact q⟩
  go_enter Tryd.func20, Tryd.ntmps20
  go_wp2_with fail
  refine (C28.out _ HA.out.1).mono ?_
  rintro o w3 ⟨rfl, K3⟩
  have HB : Hid (Kept (fun _ => False) w w3) := HA.out.1.trans K3 (fun _ _ z => z)
  have b1 := K3.get HA.out.2.1 (fun z => z)
  have b2 := K3.get HA.out.2.2 (fun z => z)
  have c1 := cell_blk b1 6 (v := .int .i64 st) rfl
  have c2 := cell_blk b1 7 (v := .int .i64 tx) rfl
  have c3 := cell_blk b1 8 (v := .int .i64 ty) rfl
  have d1 := cell_blk b2 6 (v := .int .i64 st) rfl
  have d2 := cell_blk b2 7 (v := .int .i64 tx) rfl
  have d3 := cell_blk b2 8 (v := .int .i64 ty) rfl
  clear K3 HA C28 b1 b2
  go_wp2_with fail
  go_ret
  exact ⟨rfl, HB.out⟩
end Go.Proofs.YtbangbobfeflcaaDoor

namespace Go.Proofs.YtbangbobfeflcaaDoor
open Go.RowKit 

set_option maxRecDepth 100000 in
set_option maxHeartbeats 4000000 in
theorem hEvents {w : World} {p1 p2 : Option Addr} {n c1 c2 : Nat} {L1 L2 : List Ev} (h1 : ERd w p1 n c1 L1) (h2 : ERd w p2 n c2 L2) (e : L1.map Ev.core = L2.map Ev.core) : Calls Tryd.prog 8 #[.slice p1 n c1, .slice p2 n c2] w fun o w' => o = .returned (.bool true) ∧ Kept (fun _ => False) w w' := by
  have r1 := h1.room
  have s1 := h1.small
  have r2 := h2.room
  have s2 := h2.small
  unfold maxLen at s1 s2
  have H : Hid (ERd w p1 n c1 L1 ∧ ERd w p2 n c2 L2 ∧ L1.map Ev.core = L2.map Ev.core) := ⟨h1, h2, e⟩
  have S0 : Hid (Kept (fun _ => False) w w) := Kept.refl _ _
  clear h1 h2 e
  go_enter Tryd.func8, Tryd.ntmps8
  go_wp2_with fail
  go_loopw [5] (fun u5 wr => ∃ i : Nat, u5 = .int .i64 (i : Int) ∧ i ≤ n ∧ Hid (Kept (fun _ => False) w wr)) (fun u5 _ => n - (intOf u5).toNat)
  case atStart => exact ⟨0, rfl, Nat.zero_le _, S0⟩
  case round =>
    obtain ⟨i, rfl, hi, S⟩ := hrel
    clear S0
    obtain ⟨wo, hwo⟩ : ∃ wo, wo = wr := ⟨_, rfl⟩
    rw [← hwo] at S ⊢
    clear hwo
    by_cases hlt : i < n
    · have i1 : (i : Int) < (n : Int) := by omega
      obtain ⟨b, off, x, rfl, hx, a0, a1, a2, a3, a4, a5, a6, a7, a8, rx⟩ := (H.out.1.k0 S.out).at hlt
      obtain ⟨b2, off2, y, rfl, hy, d0, d1, d2, d3, d4, d5, d6, d7, d8, ry⟩ := (H.out.2.1.k0 S.out).at hlt
      have ec : x.core = y.core := core_at H.out.2.2 hx hy
      have e0 : y.kind = x.kind := (congrArg Ev.kind ec).symm
      have e1 : y.client = x.client := (congrArg Ev.client ec).symm
      have e2 : y.op = x.op := (congrArg Ev.op ec).symm
      have e3 : y.put = x.put := (congrArg Ev.put ec).symm
      have e4 : y.key = x.key := (congrArg Ev.key ec).symm
      have e5 : y.vn = x.vn := (congrArg Ev.vn ec).symm
      have e6 : y.st = x.st := (congrArg Ev.st ec).symm
      have e7 : y.tx = x.tx := (congrArg Ev.tx ec).symm
      have e8 : y.ty = x.ty := (congrArg Ev.ty ec).symm
      have ev : y.val = x.val := (congrArg Ev.val ec).symm
      rw [e0] at d0
      rw [e1] at d1
      rw [e2] at d2
      rw [e3] at d3
      rw [e4] at d4
      rw [e5] at d5
      rw [e6] at d6
      rw [e7] at d7
      rw [e8] at d8
      rw [e5, ev] at ry
      have C17 : Hid (∀ V, Kept (fun _ => False) wo V → Calls Tryd.prog 20 #[.agg #[.int .i64 x.kind, .int .i64 x.client, .int .i64 x.op, .bool x.put, .string x.key, .slice x.va x.vn x.vc, .int .i64 x.st, .int .i64 x.tx, .int .i64 x.ty], .agg #[.int .i64 x.kind, .int .i64 x.client, .int .i64 x.op, .bool x.put, .string x.key, .slice y.va x.vn y.vc, .int .i64 x.st, .int .i64 x.tx, .int .i64 x.ty]] V fun o w' => o = .returned (.bool true) ∧ Kept (fun _ => False) V w') := fun V KV => hEqual (Reads.kept KV rx (fun _ _ z => z)) (Reads.kept KV ry (fun _ _ z => z))
      have MK : Hid (∀ V, Kept (fun _ => False) wo V → V.cell? ⟨b, off + i * 9, none⟩ = some (.int .i64 x.kind) ∧ V.cell? ⟨b, off + i * 9 + 1, none⟩ = some (.int .i64 x.client) ∧ V.cell? ⟨b, off + i * 9 + 2, none⟩ = some (.int .i64 x.op) ∧ V.cell? ⟨b, off + i * 9 + 3, none⟩ = some (.bool x.put) ∧ V.cell? ⟨b, off + i * 9 + 4, none⟩ = some (.string x.key) ∧ V.cell? ⟨b, off + i * 9 + 5, none⟩ = some (.slice x.va x.vn x.vc) ∧ V.cell? ⟨b, off + i * 9 + 6, none⟩ = some (.int .i64 x.st) ∧ V.cell? ⟨b, off + i * 9 + 7, none⟩ = some (.int .i64 x.tx) ∧ V.cell? ⟨b, off + i * 9 + 8, none⟩ = some (.int .i64 x.ty) ∧ V.cell? ⟨b2, off2 + i * 9, none⟩ = some (.int .i64 x.kind) ∧ V.cell? ⟨b2, off2 + i * 9 + 1, none⟩ = some (.int .i64 x.client) ∧ V.cell? ⟨b2, off2 + i * 9 + 2, none⟩ = some (.int .i64 x.op) ∧ V.cell? ⟨b2, off2 + i * 9 + 3, none⟩ = some (.bool x.put) ∧ V.cell? ⟨b2, off2 + i * 9 + 4, none⟩ = some (.string x.key) ∧ V.cell? ⟨b2, off2 + i * 9 + 5, none⟩ = some (.slice y.va x.vn y.vc) ∧ V.cell? ⟨b2, off2 + i * 9 + 6, none⟩ = some (.int .i64 x.st) ∧ V.cell? ⟨b2, off2 + i * 9 + 7, none⟩ = some (.int .i64 x.tx) ∧ V.cell? ⟨b2, off2 + i * 9 + 8, none⟩ = some (.int .i64 x.ty)) := fun V K => ⟨K.cell a0 (fun z => z), K.cell a1 (fun z => z), K.cell a2 (fun z => z), K.cell a3 (fun z => z), K.cell a4 (fun z => z), K.cell a5 (fun z => z), K.cell a6 (fun z => z), K.cell a7 (fun z => z), K.cell a8 (fun z => z), K.cell d0 (fun z => z), K.cell d1 (fun z => z), K.cell d2 (fun z => z), K.cell d3 (fun z => z), K.cell d4 (fun z => z), K.cell d5 (fun z => z), K.cell d6 (fun z => z), K.cell d7 (fun z => z), K.cell d8 (fun z => z)⟩
      clear hx hy ec e0 e1 e2 e3 e4 e5 e6 e7 e8 ev rx ry
      obtain ⟨kd, cl, op, pt, ky, va, vn, vc, st, tx, ty, val⟩ := x
      simp only at a0 a1 a2 a3 a4 a5 a6 a7 a8 d0 d1 d2 d3 d4 d5 d6 d7 d8 C17 MK
      obtain ⟨va', hva⟩ : ∃ v, y.va = v := ⟨_, rfl⟩
      obtain ⟨vc', hvc⟩ : ∃ v, y.vc = v := ⟨_, rfl⟩
      rw [hva, hvc] at d5 C17 MK
      clear hva hvc y
      go_upto_region 6 with fail
      go_region_held3 (fun w' => w'.cell? ⟨b, off + i * 9, none⟩ = some (.int .i64 kd) ∧ w'.cell? ⟨b, off + i * 9 + 1, none⟩ = some (.int .i64 cl) ∧ w'.cell? ⟨b, off + i * 9 + 2, none⟩ = some (.int .i64 op) ∧ w'.cell? ⟨b, off + i * 9 + 3, none⟩ = some (.bool pt) ∧ w'.cell? ⟨b, off + i * 9 + 4, none⟩ = some (.string ky) ∧ w'.cell? ⟨b, off + i * 9 + 5, none⟩ = some (.slice va vn vc) ∧ w'.cell? ⟨b, off + i * 9 + 6, none⟩ = some (.int .i64 st) ∧ w'.cell? ⟨b, off + i * 9 + 7, none⟩ = some (.int .i64 tx) ∧ w'.cell? ⟨b, off + i * 9 + 8, none⟩ = some (.int .i64 ty) ∧ w'.cell? ⟨b2, off2 + i * 9, none⟩ = some (.int .i64 kd) ∧ w'.cell? ⟨b2, off2 + i * 9 + 1, none⟩ = some (.int .i64 cl) ∧ w'.cell? ⟨b2, off2 + i * 9 + 2, none⟩ = some (.int .i64 op) ∧ w'.cell? ⟨b2, off2 + i * 9 + 3, none⟩ = some (.bool pt) ∧ w'.cell? ⟨b2, off2 + i * 9 + 4, none⟩ = some (.string ky) ∧ w'.cell? ⟨b2, off2 + i * 9 + 5, none⟩ = some (.slice va' vn vc') ∧ w'.cell? ⟨b2, off2 + i * 9 + 6, none⟩ = some (.int .i64 st) ∧ w'.cell? ⟨b2, off2 + i * 9 + 7, none⟩ = some (.int .i64 tx) ∧ w'.cell? ⟨b2, off2 + i * 9 + 8, none⟩ = some (.int .i64 ty)) (go_keep)
        (first | (go_at_call 20; refine (C17.out _ ((Kept.refl _ _).drew)).mono ?_; rintro x w2 ⟨rfl, K2⟩; have K3 : Hid (Kept (fun _ => False) wo w2) := ((Kept.refl _ wo).drew).trans K2 (fun _ _ z => z); obtain ⟨q0, q1, q2, q3, q4, q5, q6, q7, q8, q9, q10, q11, q12, q13, q14, q15, q16, q17⟩ := MK.out w2 K3.out; clear K2) | fail)
      have NX : Hid (Kept (fun _ => False) w w2) := S.out.trans K3.out (fun _ _ z => z)
      clear q0 q1 q2 q3 q4 q5 q6 q7 q8 q9 q10 q11 q12 q13 q14 q15 q16 q17 a0 a1 a2 a3 a4 a5 a6 a7 a8 d0 d1 d2 d3 d4 d5 d6 d7 d8 K3 MK C17
      go_wp2_with fail
      go_roundw
      case rel => exact ⟨i + 1, by go_num, by omega, NX⟩
      case measure => simp [intOf] <;> omega
    · have i1 : ¬ (i : Int) < (n : Int) := by omega
      go_wp2_with fail
      go_ret
      exact ⟨by first | rfl | simp, S.out⟩
end Go.Proofs.YtbangbobfeflcaaDoor
