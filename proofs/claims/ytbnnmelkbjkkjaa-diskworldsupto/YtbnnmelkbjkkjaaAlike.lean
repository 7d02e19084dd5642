import Derived.Test.YtbnnmelkbjkkjaaSlots
import Derived.Test.YtbnnmelkbjkkjaaLasts
namespace Go.Proofs.Ytbnnmelkbjkkjaa
open Go.RowKit

theorem ab_bytes {base : Nat} {w : World} {B : Nat} {d : DK} (h : IsD base w B d) (j : Nat) : ∀ c ∈ d.ab.now j, c < 256 := by
  unfold AB.now
  split
  · exact redoL_bytes _ _ h.z0.bytes (good_bytes h.z0.good)
  · exact redoL_bytes _ _ h.z1.bytes (good_bytes h.z1.good)
set_option maxRecDepth 100000 in
set_option maxHeartbeats 4000000 in
theorem alike (b1 b2 B1 B2 : Nat) (d1 d2 : DK) (w : World) (h1 : IsD b1 w B1 d1) (h2 : IsD b2 w B2 d2) (l1 : d1.dead = false) (l2 : d2.dead = false) (ok1 : d1.ab.Ok) (ok2 : d2.ab.Ok) (e0 : d1.ab.now 0 = d2.ab.now 0) (e1 : d1.ab.now 1 = d2.ab.now 1) (ec : d1.cur = d2.cur) :
    Calls Try.prog 25 #[.pointer (some ⟨B1, 0, none⟩), .pointer (some ⟨B2, 0, none⟩)] w fun x w' => x = .returned (.bool true) ∧ Kept (fun _ => False) w w' := by
  have H : Hid (IsD b1 w B1 d1 ∧ IsD b2 w B2 d2 ∧ d1.dead = false ∧ d2.dead = false ∧ d1.ab.Ok ∧ d2.ab.Ok ∧ d1.ab.now 0 = d2.ab.now 0 ∧ d1.ab.now 1 = d2.ab.now 1 ∧ d1.cur = d2.cur) := ⟨h1, h2, l1, l2, ok1, ok2, e0, e1, ec⟩
  clear h1 h2 l1 l2 ok1 ok2 e0 e1 ec
  go_enter Try.func25, Try.ntmps25
  go_wp2_with fail
  refine (dSlots b1 B1 d1 w H.out.1 H.out.2.2.1 H.out.2.2.2.2.1).mono ?_
  rintro x w1 ⟨a0, n0, c0, a1, n1, c1, rfl, s1⟩
  have X1 : Hid (SlotsAre w w1 d1.ab a0 n0 c0 a1 n1 c1) := s1
  clear s1
  go_wp2_with fail
  obtain ⟨W1, hW1⟩ : ∃ W1, W1 = w1.alloc (.cells #[.slice a0 n0 c0, .slice a1 n1 c1] 32) := ⟨_, rfl⟩
  have Y1 : Hid (Kept (fun _ => False) w W1 ∧ Kept (fun _ => False) w1 W1 ∧ W1.heap[w1.heap.size]? = some (.cells #[.slice a0 n0 c0, .slice a1 n1 c1] 32 (0, 0))) := by
    have K : Kept (fun _ => False) w1 W1 := by rw [hW1]; exact alloc_kept0 _ _
    exact ⟨X1.out.kept.trans K (fun _ _ z => z), K, by rw [hW1]; exact alloc_new _ _⟩
  rw [← hW1]
  clear hW1
  refine (dSlots b2 B2 d2 W1 (H.out.2.1.kept0 Y1.out.1) H.out.2.2.2.1 H.out.2.2.2.2.2.1).mono ?_
  rintro x w2 ⟨p0, m0, k0, p1, m1, k1, rfl, s2⟩
  have X2 : Hid (SlotsAre W1 w2 d2.ab p0 m0 k0 p1 m1 k1) := s2
  clear s2
  obtain ⟨W2, hW2⟩ : ∃ W2, W2 = w2.alloc (.cells #[.slice p0 m0 k0, .slice p1 m1 k1] 32) := ⟨_, rfl⟩
  have EW : Hid (W2 = w2.alloc (.cells #[.slice p0 m0 k0, .slice p1 m1 k1] 32)) := hW2
  have K2 : Kept (fun _ => False) w2 W2 := by rw [hW2]; exact alloc_kept0 _ _
  have KA : Kept (fun _ => False) W1 W2 := X2.out.kept.trans K2 (fun _ _ z => z)
  have KB : Kept (fun _ => False) w1 W2 := Y1.out.2.1.trans KA (fun _ _ z => z)
  have hb1 := KA.get Y1.out.2.2 (fun z => z)
  have hb2 : W2.heap[w2.heap.size]? = some (.cells #[.slice p0 m0 k0, .slice p1 m1 k1] 32 (0, 0)) := by rw [hW2]; exact alloc_new _ _
  obtain ⟨t0, ht0⟩ : ∃ t0, t0 = str (d2.ab.now 0) := ⟨_, rfl⟩
  obtain ⟨t1, ht1⟩ : ∃ t1, t1 = str (d2.ab.now 1) := ⟨_, rfl⟩
  have s0 : (convert 22 9 (.slice a0 n0 c0)).run Try.prog W2 = .ok (.string t0) W2 := by
    have o := X1.out.o0
    rw [H.out.2.2.2.2.2.2.1] at o
    rw [ht0]
    exact own_string o (ab_bytes H.out.2.1 0) KB
  have s1 : (convert 22 9 (.slice a1 n1 c1)).run Try.prog W2 = .ok (.string t1) W2 := by
    have o := X1.out.o1
    rw [H.out.2.2.2.2.2.2.2.1] at o
    rw [ht1]
    exact own_string o (ab_bytes H.out.2.1 1) KB
  have s2 : (convert 22 9 (.slice p0 m0 k0)).run Try.prog W2 = .ok (.string t0) W2 := by
    rw [ht0]
    exact own_string X2.out.o0 (ab_bytes H.out.2.1 0) K2
  have s3 : (convert 22 9 (.slice p1 m1 k1)).run Try.prog W2 = .ok (.string t1) W2 := by
    rw [ht1]
    exact own_string X2.out.o1 (ab_bytes H.out.2.1 1) K2
  have g0 : W2.cell? ⟨w1.heap.size, 0, none⟩ = some (.slice a0 n0 c0) := cell_blk hb1 0 rfl
  have g1 : W2.cell? ⟨w1.heap.size, 1, none⟩ = some (.slice a1 n1 c1) := cell_blk hb1 1 rfl
  have g2 : W2.cell? ⟨w2.heap.size, 0, none⟩ = some (.slice p0 m0 k0) := cell_blk hb2 0 rfl
  have g3 : W2.cell? ⟨w2.heap.size, 1, none⟩ = some (.slice p1 m1 k1) := cell_blk hb2 1 rfl
  have KW : Hid (Kept (fun _ => False) w W2) := Y1.out.1.trans KA (fun _ _ z => z)
  rw [H.out.2.2.2.2.2.2.2.2]
  clear K2 KA KB hb1 hb2 ht0 ht1 hW2
  go_upto_region 3 with fail
  rw [← EW.out]
  go_wp2_with fail
  refine (dCurrent b1 B1 d1 W2 (H.out.1.kept0 KW.out)).mono ?_
  rintro x w3 ⟨rfl, rfl⟩
  rw [if_neg (show ¬ d1.dead = true by rw [H.out.2.2.1]; decide), H.out.2.2.2.2.2.2.2.2]
  go_wp2_with fail
  refine (dCurrent b2 B2 d2 w3 (H.out.2.1.kept0 KW.out)).mono ?_
  rintro x w4 ⟨rfl, rfl⟩
  rw [if_neg (show ¬ d2.dead = true by rw [H.out.2.2.2.1]; decide)]
  go_wp2_with fail
  go_ret
  exact ⟨by first | rfl | simp, KW.out⟩
end Go.Proofs.Ytbnnmelkbjkkjaa
