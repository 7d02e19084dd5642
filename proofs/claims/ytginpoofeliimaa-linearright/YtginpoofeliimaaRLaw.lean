import Derived.Test.YtginpoofeliimaaRLiveW
import Derived.Test.YtginpoofeliimaaEWalk
namespace Go.Proofs.Ytginpoofeliimaa
open Go.RowKit 

set_option maxRecDepth 100000 in
set_option maxHeartbeats 4000000 in
theorem rightW {w : World} {a : Option Addr} {len cap : Nat} {ts : List Tn} (tr : TRd w a len cap ts) : Calls Try.prog 4 #[.slice a len cap] w fun o w' => o = .returned (.bool true) ∧ Kept (fun _ => False) w w' := by
  have H : Hid (TRd w a len cap ts) := tr
  clear tr
  go_enter Try.func4, Try.ntmps4
  go_wp2_with fail
  refine (lived H.out).mono ?_
  rintro o w1 ⟨p, k, c, rfl, Q⟩
  obtain ⟨ms, cr, ecl⟩ := Q.out.ok
  have C1 : Hid (CRd w1 p k c ms ∧ ms.map Cm.cl = livedC ts k ∧ k ≤ ts.length ∧ k ≤ 24 ∧ Kept (fun _ => False) w w1) := ⟨cr, ecl, Q.out.le, Q.out.few, Q.out.kept⟩
  clear Q cr ecl
  go_wp2_with fail
  refine (one C1.out.1 (by have := C1.out.2.2.2.1; omega)).mono ?_
  rintro o w2 ⟨q, k2, c2, ok, er, rfl, Q⟩
  obtain ⟨R, os, nr⟩ := Q.ans
  rw [C1.out.2.1] at os
  obtain ⟨rfl, rfl, eh⟩ := right_one C1.out.2.2.1 C1.out.2.2.2.1 os
  have C2 : Hid (CRd w2 p k c ms ∧ NRow w1.heap.size w2 q k2 c2 R ∧ EH (ms.map Cm.cl) R true ∧ Kept (fun _ => False) w w2) := ⟨C1.out.1.k0 Q.k, nr, by rw [C1.out.2.1]; exact eh, C1.out.2.2.2.2.trans Q.k (fun _ _ z => z)⟩
  clear nr os eh Q
  go_wp2_with fail
  refine (explains C2.out.1 C2.out.2.1 true C2.out.2.2.1 (by have := C1.out.2.2.2.1; omega)).mono ?_
  rintro o w3 ⟨rfl, K3⟩
  have C3 : Hid (Kept (fun _ => False) w w3) := C2.out.2.2.2.trans K3 (fun _ _ z => z)
  clear K3
  go_wp2_with fail
  refine (taken w3).mono ?_
  rintro o w4 ⟨rfl, K4⟩
  have C4 : Hid (Kept (fun _ => False) w w4) := C3.out.trans K4 (fun _ _ z => z)
  clear K4
  go_wp2_with fail
  go_ret
  exact ⟨by first | rfl | simp, C4.out⟩
end Go.Proofs.Ytginpoofeliimaa
