import Derived.Test.YtginpoofeliimaaDWalk
import Derived.Test.YtginpoofeliimaaEWalk
namespace Go.Proofs.Ytginpoofeliimaa
open Go.RowKit 

set_option maxRecDepth 100000 in
set_option maxHeartbeats 4000000 in
theorem firstW {w : World} {a : Option Addr} {len cap : Nat} {ds : List Dr} (tr : DRd w a len cap ds) : Calls Try.prog 5 #[.slice a len cap] w fun o w' => o = .returned (.bool true) ∧ Kept (fun _ => False) w w' := by
  have H : Hid (DRd w a len cap ds) := tr
  clear tr
  go_enter Try.func5, Try.ntmps5
  go_wp2_with fail
  refine (drafted (M := 5) H.out (by omega)).mono ?_
  rintro o w1 ⟨p, k, c, rfl, Q⟩
  obtain ⟨ms, cr, ecl⟩ := Q.out.ok
  have C1 : Hid (CRd w1 p k c ms ∧ (∀ x ∈ ms.map Cm.cl, x.bad = false) ∧ k ≤ 5 ∧ Kept (fun _ => False) w w1 ∧ (ms.map Cm.cl).length = k) := by
    refine ⟨cr, fun x hx => ?_, by have := Q.out.le; omega, Q.out.kept, by rw [List.length_map]; exact cr.len⟩
    rw [ecl] at hx
    obtain ⟨d, _, rfl⟩ := List.mem_map.1 hx
    exact draft_bad d
  clear Q cr ecl
  go_wp2_with fail
  refine (leastC (ex := fun c n v e b => explains c n v e b) C1.out.2.1 (by have := C1.out.2.2.1; omega) C1.out.2.2.2.2 k C1.out.1 (NRow.nil 0 w1) (fun r hr => absurd hr (by simp)) (by have := List.length_filter_le (fun j => !([] : List Nat).contains j) (List.range k); rw [List.length_range] at this; exact this) (by have := C1.out.2.2.1; omega)).mono ?_
  rintro o w2 ⟨q, k2, c2, is, rfl, Q2⟩
  obtain ⟨R, nr, lq⟩ := Q2.ans
  have C2 : Hid (CRd w2 p k c ms ∧ NRow 0 w2 q k2 c2 R ∧ LstQ (ms.map Cm.cl) [] R is ∧ Kept (fun _ => False) w w2) := ⟨C1.out.1.k0 Q2.kept, nr, lq, C1.out.2.2.2.1.trans Q2.kept (fun _ _ z => z)⟩
  clear Q2 nr lq
  go_wp2_with fail
  refine (one C2.out.1 (by have := C1.out.2.2.1; omega)).mono ?_
  rintro o w3 ⟨q3, k3, c3, ok, er, rfl, Q3⟩
  obtain ⟨R3, os, nr3⟩ := Q3.ans
  have fl : ((ms.map Cm.cl).filter Cl.part).length ≤ 24 := by
    have := List.length_filter_le Cl.part (ms.map Cm.cl)
    have := C1.out.2.2
    omega
  obtain ⟨rfl, rfl, rfl, run⟩ := C2.out.2.2.1.one C1.out.2.1 fl os
  have C3 : Hid (CRd w3 p k c ms ∧ NRow w2.heap.size w3 q3 k3 c3 R3 ∧ NRow 0 w3 q k2 c2 R3 ∧ Kept (fun _ => False) w w3 ∧ (ok = true → EH (ms.map Cm.cl) R3 true)) := by
    refine ⟨C2.out.1.k0 Q3.k, nr3, C2.out.2.1.k0 Q3.k, C2.out.2.2.2.trans Q3.k (fun _ _ z => z), fun z => ?_⟩
    have r := run z
    refine ⟨⟨fun _ => (explain_iff C1.out.2.1).1 r, fun _ => rfl⟩, fun i hi => ?_⟩
    obtain ⟨n, hn, en⟩ := List.getElem_of_mem hi
    obtain ⟨x, m⟩ := (xrun_iff.1 r).1 n i (by rw [List.getElem?_eq_getElem hn, en])
    exact (List.getElem?_eq_some_iff.1 m.1).1
  clear Q3 nr3 os run fl C2
  cases ok
  · go_wp2_with fail
    refine (sameInts C3.out.2.1 C3.out.2.2.1).mono ?_
    rintro o w4 ⟨rfl, K4⟩
    have C4 : Hid (Kept (fun _ => False) w w4) := C3.out.2.2.2.1.trans K4 (fun _ _ z => z)
    clear K4
    go_wp2_with fail
    refine (taken w4).mono ?_
    rintro o w5 ⟨rfl, K5⟩
    have C5 : Hid (Kept (fun _ => False) w w5) := C4.out.trans K5 (fun _ _ z => z)
    clear K5
    go_wp2_with fail
    go_ret
    exact ⟨by first | rfl | simp, C5.out⟩
  · go_wp2_with fail
    refine (sameInts C3.out.2.1 C3.out.2.2.1).mono ?_
    rintro o w4 ⟨rfl, K4⟩
    have C4 : Hid (Kept (fun _ => False) w w4 ∧ CRd w4 p k c ms ∧ NRow w2.heap.size w4 q3 k3 c3 R3) := ⟨C3.out.2.2.2.1.trans K4 (fun _ _ z => z), C3.out.1.k0 K4, C3.out.2.1.k0 K4⟩
    clear K4
    go_wp2_with fail
    refine (explains C4.out.2.1 C4.out.2.2 true (C3.out.2.2.2.2 (by first | rfl | trivial)) (by have := C1.out.2.2.1; omega)).mono ?_
    rintro o w6 ⟨rfl, K6⟩
    have C6 : Hid (Kept (fun _ => False) w w6) := C4.out.1.trans K6 (fun _ _ z => z)
    clear K6
    go_wp2_with fail
    refine (taken w6).mono ?_
    rintro o w5 ⟨rfl, K5⟩
    have C5 : Hid (Kept (fun _ => False) w w5) := C6.out.trans K5 (fun _ _ z => z)
    clear K5
    go_wp2_with fail
    go_ret
    exact ⟨by first | rfl | simp, C5.out⟩
end Go.Proofs.Ytginpoofeliimaa
