import Derived.Test.YtginpoofeliimaaHSame
namespace Go.Proofs.Ytginpoofeliimaa
open Go.RowKit 

theorem lit3 {w : World} {m1 m2 m3 : Cm} (r1 : Reads w m1.va m1.vn m1.vc m1.val) (r2 : Reads w m2.va m2.vn m2.vc m2.val) (r3 : Reads w m3.va m3.vn m3.vc m3.val) : CRd (w.alloc (.cells #[.int .i64 m1.client, .int .i64 m1.op, .bool m1.put, .string m1.key, .slice m1.va m1.vn m1.vc, .int .i64 m1.st, .int .i64 m1.frm, .int .i64 m1.to, .bool m1.opn, .int .i64 m1.tx, .int .i64 m1.ty, .int .i64 m2.client, .int .i64 m2.op, .bool m2.put, .string m2.key, .slice m2.va m2.vn m2.vc, .int .i64 m2.st, .int .i64 m2.frm, .int .i64 m2.to, .bool m2.opn, .int .i64 m2.tx, .int .i64 m2.ty, .int .i64 m3.client, .int .i64 m3.op, .bool m3.put, .string m3.key, .slice m3.va m3.vn m3.vc, .int .i64 m3.st, .int .i64 m3.frm, .int .i64 m3.to, .bool m3.opn, .int .i64 m3.tx, .int .i64 m3.ty] 33)) (some ⟨w.heap.size, 0, none⟩) 3 3 [m1, m2, m3] := by
  have K : Kept (fun _ => False) w (w.alloc (.cells #[.int .i64 m1.client, .int .i64 m1.op, .bool m1.put, .string m1.key, .slice m1.va m1.vn m1.vc, .int .i64 m1.st, .int .i64 m1.frm, .int .i64 m1.to, .bool m1.opn, .int .i64 m1.tx, .int .i64 m1.ty, .int .i64 m2.client, .int .i64 m2.op, .bool m2.put, .string m2.key, .slice m2.va m2.vn m2.vc, .int .i64 m2.st, .int .i64 m2.frm, .int .i64 m2.to, .bool m2.opn, .int .i64 m2.tx, .int .i64 m2.ty, .int .i64 m3.client, .int .i64 m3.op, .bool m3.put, .string m3.key, .slice m3.va m3.vn m3.vc, .int .i64 m3.st, .int .i64 m3.frm, .int .i64 m3.to, .bool m3.opn, .int .i64 m3.tx, .int .i64 m3.ty] 33)) := (Kept.refl _ _).alloc _
  refine CRow.rd (b0 := 0) ⟨rfl, ⟨rfl, .inr ⟨w.heap.size, 3, _, rfl, Nat.zero_le _, heap_alloc_new _ _, Nat.le_refl _, by unfold maxLen; omega, rfl, rfl⟩⟩⟩ (fun m hm => ?_)
  simp at hm
  rcases hm with rfl | rfl | rfl
  · exact Reads.kept K r1 (fun _ _ z => z)
  · exact Reads.kept K r2 (fun _ _ z => z)
  · exact Reads.kept K r3 (fun _ _ z => z)
theorem lit2 {w : World} {m1 m2 : Cm} (r1 : Reads w m1.va m1.vn m1.vc m1.val) (r2 : Reads w m2.va m2.vn m2.vc m2.val) : CRd (w.alloc (.cells #[.int .i64 m1.client, .int .i64 m1.op, .bool m1.put, .string m1.key, .slice m1.va m1.vn m1.vc, .int .i64 m1.st, .int .i64 m1.frm, .int .i64 m1.to, .bool m1.opn, .int .i64 m1.tx, .int .i64 m1.ty, .int .i64 m2.client, .int .i64 m2.op, .bool m2.put, .string m2.key, .slice m2.va m2.vn m2.vc, .int .i64 m2.st, .int .i64 m2.frm, .int .i64 m2.to, .bool m2.opn, .int .i64 m2.tx, .int .i64 m2.ty] 33)) (some ⟨w.heap.size, 0, none⟩) 2 2 [m1, m2] := by
  have K : Kept (fun _ => False) w (w.alloc (.cells #[.int .i64 m1.client, .int .i64 m1.op, .bool m1.put, .string m1.key, .slice m1.va m1.vn m1.vc, .int .i64 m1.st, .int .i64 m1.frm, .int .i64 m1.to, .bool m1.opn, .int .i64 m1.tx, .int .i64 m1.ty, .int .i64 m2.client, .int .i64 m2.op, .bool m2.put, .string m2.key, .slice m2.va m2.vn m2.vc, .int .i64 m2.st, .int .i64 m2.frm, .int .i64 m2.to, .bool m2.opn, .int .i64 m2.tx, .int .i64 m2.ty] 33)) := (Kept.refl _ _).alloc _
  refine CRow.rd (b0 := 0) ⟨rfl, ⟨rfl, .inr ⟨w.heap.size, 2, _, rfl, Nat.zero_le _, heap_alloc_new _ _, Nat.le_refl _, by unfold maxLen; omega, rfl, rfl⟩⟩⟩ (fun m hm => ?_)
  simp at hm
  rcases hm with rfl | rfl
  · exact Reads.kept K r1 (fun _ _ z => z)
  · exact Reads.kept K r2 (fun _ _ z => z)
theorem lit102 (w : World) : NRow 0 (w.alloc (.cells #[.int .i64 1, .int .i64 0, .int .i64 2] 3)) (some ⟨w.heap.size, 0, none⟩) 3 3 [1, 0, 2] :=
  ⟨rfl, ⟨rfl, .inr ⟨w.heap.size, 3, _, rfl, Nat.zero_le _, heap_alloc_new _ _, Nat.le_refl _, by unfold maxLen; omega, rfl, rfl⟩⟩⟩
theorem sb97 : sb ⟨#[97]⟩ = [97] := by rfl
theorem sb0 : sb ⟨#[]⟩ = [] := by rfl
theorem em97 : (ByteArray.mk #[97]).toList.isEmpty = false := by kernel_rfl
theorem em0 : (ByteArray.mk #[]).toList.isEmpty = true := by kernel_rfl
set_option maxRecDepth 100000 in
set_option maxHeartbeats 4000000 in
theorem taken (w : World) : Calls Try.prog 12 #[] w fun o w' => o = .returned (.bool true) ∧ Kept (fun _ => False) w w' := by
  go_enter Try.func12, Try.ntmps12
  go_wp2_with fail
  refine (putC ⟨#[97]⟩ 0 3 w (by decide)).mono ?_
  rintro o w1 ⟨m1, e1, Q1⟩
  unfold Cm.agg at e1
  subst e1
  go_wp2_with fail
  refine (getC ⟨#[]⟩ 1 2 w1 (by decide) true em0).mono ?_
  rintro o w2 ⟨m2, e2, Q2⟩
  unfold Cm.agg at e2
  subst e2
  go_wp2_with fail
  refine (getC ⟨#[97]⟩ 4 5 w2 (by decide) false em97).mono ?_
  rintro o w3 ⟨m3, e3, Q3⟩
  unfold Cm.agg at e3
  subst e3
  have C4 : Hid (CRd (w3.alloc (.cells #[.int .i64 m1.client, .int .i64 m1.op, .bool m1.put, .string m1.key, .slice m1.va m1.vn m1.vc, .int .i64 m1.st, .int .i64 m1.frm, .int .i64 m1.to, .bool m1.opn, .int .i64 m1.tx, .int .i64 m1.ty, .int .i64 m2.client, .int .i64 m2.op, .bool m2.put, .string m2.key, .slice m2.va m2.vn m2.vc, .int .i64 m2.st, .int .i64 m2.frm, .int .i64 m2.to, .bool m2.opn, .int .i64 m2.tx, .int .i64 m2.ty, .int .i64 m3.client, .int .i64 m3.op, .bool m3.put, .string m3.key, .slice m3.va m3.vn m3.vc, .int .i64 m3.st, .int .i64 m3.frm, .int .i64 m3.to, .bool m3.opn, .int .i64 m3.tx, .int .i64 m3.ty] 33)) (some ⟨w3.heap.size, 0, none⟩) 3 3 [m1, m2, m3] ∧ [m1, m2, m3].map Cm.cl = cl1 ∧ Kept (fun _ => False) w w3) := by
    refine ⟨lit3 (Reads.kept (Q2.k.trans Q3.k (fun _ _ z => z)) Q1.rd (fun _ _ z => z)) (Reads.kept Q3.k Q2.rd (fun _ _ z => z)) Q3.rd, ?_, (Q1.k.trans Q2.k (fun _ _ z => z)).trans Q3.k (fun _ _ z => z)⟩
    show [m1.cl, m2.cl, m3.cl] = cl1
    rw [Q1.cl, Q2.cl, Q3.cl]
    rfl
  clear Q1 Q2 Q3
  go_wp2_with fail
  refine (one C4.out.1 (by omega)).mono ?_
  rintro o w4 ⟨p4, k4, c4, ok, er, rfl, Q4⟩
  obtain ⟨R, os, nr⟩ := Q4.ans
  rw [C4.out.2.1] at os
  obtain ⟨rfl, rfl, rfl⟩ := taken1 os
  have T4 : Hid (NRow 0 w4 p4 k4 c4 [1, 0, 2] ∧ Kept (fun _ => False) w w4) := ⟨⟨nr.len, ⟨nr.row.1, nr.row.2.imp id (fun ⟨g, cap, cur, e1, e2, e3⟩ => ⟨g, cap, cur, e1, Nat.zero_le _, e3⟩)⟩⟩, (C4.out.2.2.alloc _).trans Q4.k (fun _ _ z => z)⟩
  clear nr os Q4 C4
  go_wp2_with fail
  refine (putC ⟨#[97]⟩ 0 1 w4 (by decide)).mono ?_
  rintro o w5 ⟨n1, e1, Q1⟩
  unfold Cm.agg at e1
  subst e1
  go_wp2_with fail
  refine (getC ⟨#[]⟩ 2 3 w5 (by decide) true em0).mono ?_
  rintro o w6 ⟨n2, e2, Q2⟩
  unfold Cm.agg at e2
  subst e2
  have C6 : Hid (CRd (w6.alloc (.cells #[.int .i64 n1.client, .int .i64 n1.op, .bool n1.put, .string n1.key, .slice n1.va n1.vn n1.vc, .int .i64 n1.st, .int .i64 n1.frm, .int .i64 n1.to, .bool n1.opn, .int .i64 n1.tx, .int .i64 n1.ty, .int .i64 n2.client, .int .i64 n2.op, .bool n2.put, .string n2.key, .slice n2.va n2.vn n2.vc, .int .i64 n2.st, .int .i64 n2.frm, .int .i64 n2.to, .bool n2.opn, .int .i64 n2.tx, .int .i64 n2.ty] 33)) (some ⟨w6.heap.size, 0, none⟩) 2 2 [n1, n2] ∧ [n1, n2].map Cm.cl = cl2 ∧ Kept (fun _ => False) w4 w6) := by
    refine ⟨lit2 (Reads.kept Q2.k Q1.rd (fun _ _ z => z)) Q2.rd, ?_, Q1.k.trans Q2.k (fun _ _ z => z)⟩
    show [n1.cl, n2.cl] = cl2
    rw [Q1.cl, Q2.cl]
    rfl
  clear Q1 Q2
  go_wp2_with fail
  refine (one C6.out.1 (by omega)).mono ?_
  rintro o w7 ⟨p7, k7, c7, ok7, er7, rfl, Q7⟩
  obtain ⟨R7, os, nr⟩ := Q7.ans
  rw [C6.out.2.1] at os
  obtain ⟨rfl, rfl, rfl⟩ := taken2 os
  have k70 : k7 = 0 := nr.len.symm
  subst k70
  have K47 : Kept (fun _ => False) w4 w7 := (C6.out.2.2.alloc _).trans Q7.k (fun _ _ z => z)
  have T7 : Hid (NRow 0 w7 p4 k4 c4 [1, 0, 2] ∧ Kept (fun _ => False) w w7) := ⟨T4.out.1.k0 K47, T4.out.2.trans K47 (fun _ _ z => z)⟩
  clear nr os Q7 C6 T4 K47
  go_wp2_with fail
  refine (sameInts (T7.out.1.k0 ((Kept.refl _ _).alloc _)) (lit102 w7)).mono ?_
  rintro o w8 ⟨rfl, K8⟩
  have K : Hid (Kept (fun _ => False) w w8) := (T7.out.2.alloc _).trans K8 (fun _ _ z => z)
  clear K8
  go_wp2_with fail
  go_ret
  exact ⟨by first | rfl | simp, K.out⟩
end Go.Proofs.Ytginpoofeliimaa
