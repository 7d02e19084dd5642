import Derived.Test.YtbnnmelkbjkkjaaFour
import Derived.Test.YtbnnmelkbjkkjaaRead
import Derived.Laws.ResultCell
import Derived.Laws.Rows
import Derived.Test.YtbnnmelkbjkkjaaLastsJ
import Derived.Test.YtbnnmelkbjkkjaaActs
import Derived.Test.YtbnnmelkbjkkjaaCrash
namespace Go.Proofs.Ytbnnmelkbjkkjaa
open Go.RowKit

theorem results_row_tmp {P : Program} {fn : Func} {p u : Tmp} {ty : TypeId} (h : fn.results = #[.cell p ty, .tmp u]) (tmps : Array Value) (w : World) (g : Nat) (t : TypeId) (cs : Array Value) (fr : Nat × Nat) (d : TypeDesc)
    (hp : tmps.getD p undef = .pointer (some ⟨g, 0, none⟩)) (hg : w.heap[g]? = some (.cells cs t fr))
    (hu : P.underlying ty = some d) (hd : (match d with | .struct _ | .array _ _ => true | _ => false) = true) (hi : (P.info? ty).map (·.size) = some cs.size) :
    (results fn tmps).run P w = .ok (.tuple #[.agg cs, tmps.getD u undef]) w := by
  rw [results_cell_tmp h, hp]
  simp [asAddr, run_loadVar_row w g t ty cs fr d hg hu hd hi, Result.andThen]
theorem Try.info32 : (Try.prog.info? 32).map (·.size) = some 2 := by kernel_rfl
theorem enter41 (vs : Array Value) (w : World) : (callFunc 41 vs).run Try.prog w = .ok (.enter 41 vs) w := by kernel_rfl
/-- Both slots' bytes, as new memory. -/
structure SlotsAre (w w' : World) (A : AB) (a0 : Option Addr) (n0 c0 : Nat) (a1 : Option Addr) (n1 c1 : Nat) : Prop where
  o0 : w'.ownsRow w.heap.size 5 1 (.slice a0 n0 c0) n0 (cellsOf (A.now 0))
  o1 : w'.ownsRow w.heap.size 5 1 (.slice a1 n1 c1) n1 (cellsOf (A.now 1))
  ne : ∀ k, blockOf a0 = some k → blockOf a1 ≠ some k
  kept : Kept (fun _ => False) w w'
set_option maxRecDepth 100000 in
set_option maxHeartbeats 4000000 in
theorem dSlots (base B : Nat) (d : DK) (w : World) (h : IsD base w B d) (hd : d.dead = false) (ok : d.ab.Ok) :
    Calls Try.prog 26 #[.pointer (some ⟨B, 0, none⟩)] w fun x w' => ∃ a0 n0 c0 a1 n1 c1, x = .returned (.tuple #[.agg #[.slice a0 n0 c0, .slice a1 n1 c1], .int .i64 (d.cur : Int)]) ∧ SlotsAre w w' d.ab a0 n0 c0 a1 n1 c1 := by
  obtain ⟨W, hW⟩ : ∃ W, W = w.alloc (.cells #[.slice none 0 0, .slice none 0 0] 32) := ⟨_, rfl⟩
  have EW : Hid (W = w.alloc (.cells #[.slice none 0 0, .slice none 0 0] 32)) := hW
  have K : Kept (fun _ => False) w W := by rw [hW]; exact alloc_kept0 _ _
  have hB := block_lt h.blk
  have X : Hid (IsD base W B d ∧ d.ab.Ok ∧ Kept (fun _ => False) w W ∧ W.heap[w.heap.size]? = some (.cells #[.slice none 0 0, .slice none 0 0] 32 (0, 0)) ∧ B < w.heap.size) := ⟨h.kept0 K, ok, K, by rw [hW]; exact alloc_new _ _, hB⟩
  have c6 : w.cell? ⟨B, 6, none⟩ = some (.bool false) := by rw [← hd]; exact h.cell 6 rfl
  have nb1 : (⟨B, 4, none⟩ : Addr) ≠ ⟨w.heap.size, 0, none⟩ := fun z => by simp at z
  have nb2 : (⟨B, 4, none⟩ : Addr) ≠ ⟨w.heap.size, 1, none⟩ := fun z => by simp at z
  have nb3 : ¬ B = w.heap.size := by omega
  have nb4 : ¬ w.heap.size = B := by omega
  clear h hd ok hW K
  go_enter Try.func26, Try.ntmps26
  go_upto_region 3 with fail
  rw [← EW.out]
  have e4 : W.cell? ⟨B, 4, none⟩ = some (.int .i64 (d.cur : Int)) := X.out.1.cell 4 rfl
  have KD : Hid (Kept (fun _ => False) W W.drew) := (Kept.refl (fun _ => False) W).drew
  go_region_held3 (fun w' => w'.cell? ⟨B, 4, none⟩ = some (.int .i64 (d.cur : Int))) (first | go_keep)
    (first
      | (go_at_call 41; refine (now base B 2 d.s1 w1 X1.out.1.z1 (X1.out.1.cell 2 rfl) (X1.out.1.cell 3 rfl) X.out.2.1.w1).mono ?_; rintro x w2 ⟨a2, n2, k2, rfl, o2, K2⟩
         have X2 : Hid (w2.ownsRow w1.heap.size 5 1 (.slice a2 n2 k2) n2 (cellsOf (d.ab.now 1)) ∧ Kept (fun _ => False) w1 w2) := ⟨o2, K2⟩
         have h4 : w2.cell? ⟨B, 4, none⟩ = some (.int .i64 (d.cur : Int)) := (X1.out.1.kept0 K2).cell 4 rfl
         have g0 : w2.cell? ⟨w.heap.size, 0, none⟩ = some (.slice none 0 0) := cell_blk (K2.get X1.out.2.2.2 (fun z => z)) 0 rfl
         have g1 : w2.cell? ⟨w.heap.size, 1, none⟩ = some (.slice none 0 0) := cell_blk (K2.get X1.out.2.2.2 (fun z => z)) 1 rfl
         have gs0 : w2.frozen? ⟨w.heap.size, 0, none⟩ = false := soft_blk (K2.get X1.out.2.2.2 (fun z => z)) 0
         have gs1 : w2.frozen? ⟨w.heap.size, 1, none⟩ = false := soft_blk (K2.get X1.out.2.2.2 (fun z => z)) 1
         clear o2 K2)
      | (go_at_call 41; refine (now base B 0 d.s0 W.drew (X.out.1.kept0 KD.out).z0 ((X.out.1.kept0 KD.out).cell 0 rfl) ((X.out.1.kept0 KD.out).cell 1 rfl) X.out.2.1.w0).mono ?_; rintro x w1 ⟨a1, n1, k1, rfl, o1, K1⟩
         have X1 : Hid (IsD base w1 B d ∧ w1.ownsRow W.drew.heap.size 5 1 (.slice a1 n1 k1) n1 (cellsOf (d.ab.now 0)) ∧ Kept (fun _ => False) W w1 ∧ w1.heap[w.heap.size]? = some (.cells #[.slice none 0 0, .slice none 0 0] 32 (0, 0))) := ⟨(X.out.1.kept0 KD.out).kept0 K1, o1, KD.out.trans K1 (fun _ _ z => z), (KD.out.trans K1 (fun _ _ z => z)).get X.out.2.2.2.1 (fun z => z)⟩
         have f4 : w1.cell? ⟨B, 4, none⟩ = some (.int .i64 (d.cur : Int)) := X1.out.1.cell 4 rfl
         clear o1 K1)
      | fail)
  go_wp2_with fail
  have RB : ((w2.setCell ⟨w.heap.size, 0, none⟩ (.slice a1 n1 k1)).setCell ⟨w.heap.size, 1, none⟩ (.slice a2 n2 k2)).heap[w.heap.size]? = some (.cells #[.slice a1 n1 k1, .slice a2 n2 k2] 32 (0, 0)) := set_heap (set_heap (X2.out.2.get X1.out.2.2.2 (fun z => z)) 0 _) 1 _
  (try simp only [Exit.inBlock, Exit.then])
  refine bodyPost_ret (results_row_tmp rfl _ _ w.heap.size 32 _ (0, 0) _ rfl RB Try.underlying32 rfl Try.info32) rfl ?_
  refine ⟨a1, n1, k1, a2, n2, k2, rfl, ?_⟩
  have K2 := X2.out.2
  have KS : Kept (fun k => k = w.heap.size) w2 ((w2.setCell ⟨w.heap.size, 0, none⟩ (.slice a1 n1 k1)).setCell ⟨w.heap.size, 1, none⟩ (.slice a2 n2 k2)) := ((Kept.refl (fun k => k = w.heap.size) w2).setCell (p := ⟨w.heap.size, 0, none⟩) (fun _ => rfl) _).setCell (p := ⟨w.heap.size, 1, none⟩) (fun _ => rfl) _
  have hs : w.heap.size < W.heap.size := block_lt X.out.2.2.2.1
  have hs1 := X1.out.2.2.1.size
  have l1 : ∀ k, blockOf a1 = some k → W.heap.size ≤ k ∧ k < w1.heap.size := fun k hk => own_lt X1.out.2.1 k hk
  have l2 : ∀ k, blockOf a2 = some k → w1.heap.size ≤ k ∧ k < w2.heap.size := fun k hk => own_lt X2.out.1 k hk
  have O1 := KS.owns (K2.owns X1.out.2.1 (fun _ _ z => z)) (fun k hk z => by have z : k = w.heap.size := z; have := l1 k (by rw [← hk]; exact (blockOf_own ..).symm); omega)
  have O2 := KS.owns X2.out.1 (fun k hk z => by have z : k = w.heap.size := z; have := l2 k (by rw [← hk]; exact (blockOf_own ..).symm); omega)
  refine ⟨owns_mono O1 (by rw [drew_size]; omega), owns_mono O2 (by omega), fun k h1 h2 => ?_, ?_⟩
  · have := l1 k h1
    have := l2 k h2
    omega
  · exact ((X.out.2.2.1.trans X1.out.2.2.1 (fun _ _ z => z)).trans K2 (fun _ _ z => z)).trans KS (fun k hk z => by have z : k = w.heap.size := z; omega)
end Go.Proofs.Ytbnnmelkbjkkjaa

namespace Go.Proofs.Ytbnnmelkbjkkjaa
open Go.RowKit

theorem ab_bytes {base : Nat} {w : World} {B : Nat} {d : DK} (h : IsD base w B d) (j : Nat) : ∀ c ∈ d.ab.now j, c < 256 := by
  unfold AB.now
  split
  · exact redoL_bytes _ _ h.z0.bytes (good_bytes h.z0.good)
  · exact redoL_bytes _ _ h.z1.bytes (good_bytes h.z1.good)
set_option maxRecDepth 100000 in
set_option maxHeartbeats 4000000 in
theorem alike (b1 b2 B1 B2 : Nat) (d1 d2 : DK) (w : World) (h1 : IsD b1 w B1 d1) (h2 : IsD b2 w B2 d2) (l1 : d1.dead = false) (l2 : d2.dead = false) (ok1 : d1.ab.Ok) (ok2 : d2.ab.Ok) (e0 : d1.ab.now 0 = d2.ab.now 0) (e1 : d1.ab.now 1 = d2.ab.now 1) (ec : d1.cur = d2.cur) :
    Calls Try.prog 25 #[.pointer (some ⟨B1, 0, none⟩), .pointer (some ⟨B2, 0, none⟩)] w fun x w' => x = .returned (.bool true) ∧ Kept (fun _ => False) w w' := by
  have H : Hid (IsD b1 w B1 d1 ∧ IsD b2 w B2 d2 ∧ d1.dead = false ∧ d2.dead = false ∧ d1.ab.Ok ∧ d2.ab.Ok ∧ d1.ab.now 0 = d2.ab.now 0 ∧ d1.ab.now 1 = d2.ab.now 1 ∧ d1.cur = d2.cur) := ⟨h1, h2, l1, l2, ok1, ok2, e0, e1, ec⟩
  clear h1 h2 l1 l2 ok1 ok2 e0 e1 ec
  go_enter Try.func25, Try.ntmps25
  go_wp2_with fail
  refine (dSlots b1 B1 d1 w H.out.1 H.out.2.2.1 H.out.2.2.2.2.1).mono ?_
  rintro x w1 ⟨a0, n0, c0, a1, n1, c1, rfl, s1⟩
  have X1 : Hid (SlotsAre w w1 d1.ab a0 n0 c0 a1 n1 c1) := s1
  clear s1
  go_wp2_with fail
  obtain ⟨W1, hW1⟩ : ∃ W1, W1 = w1.alloc (.cells #[.slice a0 n0 c0, .slice a1 n1 c1] 32) := ⟨_, rfl⟩
  have Y1 : Hid (Kept (fun _ => False) w W1 ∧ Kept (fun _ => False) w1 W1 ∧ W1.heap[w1.heap.size]? = some (.cells #[.slice a0 n0 c0, .slice a1 n1 c1] 32 (0, 0))) := by
    have K : Kept (fun _ => False) w1 W1 := by rw [hW1]; exact alloc_kept0 _ _
    exact ⟨X1.out.kept.trans K (fun _ _ z => z), K, by rw [hW1]; exact alloc_new _ _⟩
  rw [← hW1]
  clear hW1
  refine (dSlots b2 B2 d2 W1 (H.out.2.1.kept0 Y1.out.1) H.out.2.2.2.1 H.out.2.2.2.2.2.1).mono ?_
  rintro x w2 ⟨p0, m0, k0, p1, m1, k1, rfl, s2⟩
  have X2 : Hid (SlotsAre W1 w2 d2.ab p0 m0 k0 p1 m1 k1) := s2
  clear s2
  obtain ⟨W2, hW2⟩ : ∃ W2, W2 = w2.alloc (.cells #[.slice p0 m0 k0, .slice p1 m1 k1] 32) := ⟨_, rfl⟩
  have EW : Hid (W2 = w2.alloc (.cells #[.slice p0 m0 k0, .slice p1 m1 k1] 32)) := hW2
  have K2 : Kept (fun _ => False) w2 W2 := by rw [hW2]; exact alloc_kept0 _ _
  have KA : Kept (fun _ => False) W1 W2 := X2.out.kept.trans K2 (fun _ _ z => z)
  have KB : Kept (fun _ => False) w1 W2 := Y1.out.2.1.trans KA (fun _ _ z => z)
  have hb1 := KA.get Y1.out.2.2 (fun z => z)
  have hb2 : W2.heap[w2.heap.size]? = some (.cells #[.slice p0 m0 k0, .slice p1 m1 k1] 32 (0, 0)) := by rw [hW2]; exact alloc_new _ _
  obtain ⟨t0, ht0⟩ : ∃ t0, t0 = str (d2.ab.now 0) := ⟨_, rfl⟩
  obtain ⟨t1, ht1⟩ : ∃ t1, t1 = str (d2.ab.now 1) := ⟨_, rfl⟩
  have s0 : (convert 22 9 (.slice a0 n0 c0)).run Try.prog W2 = .ok (.string t0) W2 := by
    have o := X1.out.o0
    rw [H.out.2.2.2.2.2.2.1] at o
    rw [ht0]
    exact own_string o (ab_bytes H.out.2.1 0) KB
  have s1 : (convert 22 9 (.slice a1 n1 c1)).run Try.prog W2 = .ok (.string t1) W2 := by
    have o := X1.out.o1
    rw [H.out.2.2.2.2.2.2.2.1] at o
    rw [ht1]
    exact own_string o (ab_bytes H.out.2.1 1) KB
  have s2 : (convert 22 9 (.slice p0 m0 k0)).run Try.prog W2 = .ok (.string t0) W2 := by
    rw [ht0]
    exact own_string X2.out.o0 (ab_bytes H.out.2.1 0) K2
  have s3 : (convert 22 9 (.slice p1 m1 k1)).run Try.prog W2 = .ok (.string t1) W2 := by
    rw [ht1]
    exact own_string X2.out.o1 (ab_bytes H.out.2.1 1) K2
  have g0 : W2.cell? ⟨w1.heap.size, 0, none⟩ = some (.slice a0 n0 c0) := cell_blk hb1 0 rfl
  have g1 : W2.cell? ⟨w1.heap.size, 1, none⟩ = some (.slice a1 n1 c1) := cell_blk hb1 1 rfl
  have g2 : W2.cell? ⟨w2.heap.size, 0, none⟩ = some (.slice p0 m0 k0) := cell_blk hb2 0 rfl
  have g3 : W2.cell? ⟨w2.heap.size, 1, none⟩ = some (.slice p1 m1 k1) := cell_blk hb2 1 rfl
  have KW : Hid (Kept (fun _ => False) w W2) := Y1.out.1.trans KA (fun _ _ z => z)
  rw [H.out.2.2.2.2.2.2.2.2]
  clear K2 KA KB hb1 hb2 ht0 ht1 hW2
  go_upto_region 3 with fail
  rw [← EW.out]
  go_wp2_with fail
  refine (dCurrent b1 B1 d1 W2 (H.out.1.kept0 KW.out)).mono ?_
  rintro x w3 ⟨rfl, rfl⟩
  rw [if_neg (show ¬ d1.dead = true by rw [H.out.2.2.1]; decide), H.out.2.2.2.2.2.2.2.2]
  go_wp2_with fail
  refine (dCurrent b2 B2 d2 w3 (H.out.2.1.kept0 KW.out)).mono ?_
  rintro x w4 ⟨rfl, rfl⟩
  rw [if_neg (show ¬ d2.dead = true by rw [H.out.2.2.2.1]; decide)]
  go_wp2_with fail
  go_ret
  exact ⟨by first | rfl | simp, KW.out⟩
end Go.Proofs.Ytbnnmelkbjkkjaa

namespace Go.Proofs.Ytbnnmelkbjkkjaa
open Go.RowKit

/-- The row that is written over: where it lies, and how long it is. -/
structure OV (w wr : World) (a : Option Addr) (c : Nat) : Prop where
  kept : Kept (fun k => blockOf a = some k) w wr
  row : 0 < c → ∃ g cs, a = some ⟨g, 0, none⟩ ∧ wr.heap[g]? = some (.cells cs 5 (0, 0)) ∧ cs.size = c
set_option maxRecDepth 100000 in
set_option maxHeartbeats 1000000 in
theorem over (base : Nat) (a : Option Addr) (n c : Nat) (xs : List Value) (w : World) (o : w.ownsRow base 5 1 (.slice a n c) n xs) :
    Calls Try.prog 27 #[.slice a n c] w fun x w' => x = .returned (.tuple #[]) ∧ Kept (fun k => blockOf a = some k) w w' := by
  have H : Hid (OV w w a c) := by
    refine ⟨Kept.refl _ _, fun h0 => ?_⟩
    rcases o.2 with ⟨e, _⟩ | ⟨g, cap, cur, e, hb, hg, hk, hm, hs, ht⟩
    · simp at e; omega
    · simp at e
      obtain ⟨rfl, _, rfl⟩ := e
      exact ⟨g, cur, rfl, hg, by omega⟩
  have hc : c ≤ maxLen ∧ n ≤ c := by
    rcases o.2 with ⟨e, _⟩ | ⟨g, cap, cur, e, hb, hg, hk, hm, hs, ht⟩
    · simp at e
      obtain ⟨_, rfl, rfl⟩ := e
      exact ⟨Nat.zero_le _, Nat.le_refl _⟩
    · simp at e
      obtain ⟨rfl, _, rfl⟩ := e
      exact ⟨hm, hk⟩
  obtain ⟨hc1, hc2⟩ := hc
  unfold maxLen at hc1
  clear o
  have b1 : (0 : Int) ≤ (c : Int) := by omega
  have b2 : (c : Int) ≤ (c : Int) := by omega
  go_enter Try.func27, Try.ntmps27
  go_wp2_with fail
  go_loopw [3] (fun x wr => ∃ i : Nat, x = .int .i64 (i : Int) ∧ i ≤ c ∧ Hid (OV w wr a c)) (fun x _ => c - (intOf x).toNat)
  case atStart => exact ⟨0, rfl, Nat.zero_le _, H.out⟩
  case round =>
    obtain ⟨i, rfl, hi, S⟩ := hrel
    by_cases hlt : i < c
    · have i1 : (i : Int) < (c : Int) := by omega
      obtain ⟨g, cs, rfl, hg, hs⟩ := S.out.row (by omega)
      obtain ⟨v, hv⟩ : ∃ v, cs[i]? = some v := ⟨_, Array.getElem?_eq_getElem (by omega)⟩
      have e1 : wr.cell? ⟨g, i, none⟩ = some v := cell_blk hg i hv
      have e2 : wr.frozen? ⟨g, i, none⟩ = false := soft_blk hg i
      have S2 : Hid (OV w (wr.setCell ⟨g, i, none⟩ (.int .u8 7)) (some ⟨g, 0, none⟩) c) := by
        refine ⟨S.out.kept.setCell (p := ⟨g, i, none⟩) (fun _ => rfl) _, fun _ => ⟨g, _, rfl, set_heap hg i _, by simp [hs]⟩⟩
      clear hg hs hv
      go_wp2_with fail
      go_roundw
      case rel => exact ⟨i + 1, by go_num, by omega, S2.out⟩
      case measure => simp [intOf]; omega
    · have i1 : ¬ (i : Int) < (c : Int) := by omega
      go_wp2_with fail
      go_end0
      exact ⟨rfl, S.out.kept⟩
end Go.Proofs.Ytbnnmelkbjkkjaa

namespace Go.Proofs.Ytbnnmelkbjkkjaa
open Go.RowKit

/-- Disks that have nothing to do with one another. -/
structure MD (w wr : World) (L : List (Nat × DK)) : Prop where
  is : ∀ x ∈ L, IsD w.heap.size wr x.1 x.2
  apart : L.Pairwise (fun x y => ∀ k, x.2.Uses x.1 k → ¬ y.2.Uses y.1 k)
  kept : Kept (fun _ => False) w wr
theorem MD.nil (w : World) : MD w w [] := ⟨fun x hx => by simp at hx, List.Pairwise.nil, Kept.refl _ _⟩
theorem MD.perm {w wr : World} {L L' : List (Nat × DK)} (h : MD w wr L) (p : L.Perm L') : MD w wr L' :=
  ⟨fun x hx => h.is x (p.mem_iff.2 hx), (p.pairwise_iff (fun {_ _} r k a b => r k b a)).1 h.apart, h.kept⟩
theorem MD.swap {w wr : World} {x y : Nat × DK} {L : List (Nat × DK)} (h : MD w wr (x :: y :: L)) : MD w wr (y :: x :: L) := h.perm (List.Perm.swap ..)
theorem MD.quiet {w wr w' : World} {L : List (Nat × DK)} (h : MD w wr L) (K : Kept (fun _ => False) wr w') : MD w w' L :=
  ⟨fun x hx => (h.is x hx).kept0 K, h.apart, h.kept.trans K (fun _ _ z => z)⟩
theorem MD.head {w wr : World} {B : Nat} {d : DK} {L : List (Nat × DK)} (h : MD w wr ((B, d) :: L)) : IsD w.heap.size wr B d := h.is (B, d) (by simp)
theorem MD.tail {w wr : World} {x : Nat × DK} {L : List (Nat × DK)} (h : MD w wr (x :: L)) : MD w wr L := ⟨fun y hy => h.is y (List.mem_cons_of_mem _ hy), (List.pairwise_cons.1 h.apart).2, h.kept⟩
theorem MD.hd {w wr : World} {B : Nat} {d : DK} {L : List (Nat × DK)} (h : MD w wr ((B, d) :: L)) : HD w wr B d.ab := ⟨⟨d, h.head, rfl⟩, h.kept, h.head.low⟩
theorem MD.step {w wr w' : World} {B : Nat} {d d' : DK} {L : List (Nat × DK)} (h : MD w wr ((B, d) :: L)) (i : IsD w.heap.size w' B d') (m : DM wr w' B d d') : MD w w' ((B, d') :: L) := by
  obtain ⟨q1, q2⟩ := List.pairwise_cons.1 h.apart
  refine ⟨fun x hx => ?_, List.pairwise_cons.2 ⟨fun y hy k h1 h2 => ?_, q2⟩, m.kept0 h.head (Nat.le_refl _) h.kept⟩
  · rcases List.mem_cons.1 hx with z | z
    · rw [z]; exact i
    · exact (h.tail.is x z).off m.kept (fun k hk z2 => q1 x z k z2.uses hk)
  · rcases m.near k h1 with z | z
    · exact q1 y hy k z h2
    · have := (h.tail.is y hy).lt h2
      omega
theorem MD.cons {w wr w' : World} {F : Nat} {df : DK} {L : List (Nat × DK)} (h : MD w wr L) (K : Kept (fun _ => False) wr w') (i : IsD w.heap.size w' F df) (hu : ∀ k, df.Uses F k → wr.heap.size ≤ k) : MD w w' ((F, df) :: L) := by
  refine ⟨fun x hx => ?_, List.pairwise_cons.2 ⟨fun y hy k h1 h2 => ?_, h.apart⟩, h.kept.trans K (fun _ _ z => z)⟩
  · rcases List.mem_cons.1 hx with z | z
    · rw [z]; exact i
    · exact (h.is x z).kept0 K
  · have := hu k h1
    have := (h.is y hy).lt h2
    omega
theorem mNew (w wr : World) (L : List (Nat × DK)) (h : MD w wr L) : Calls Try.prog 21 #[] wr fun x w' => x = .returned (.pointer (some ⟨wr.heap.size, 0, none⟩)) ∧ ∃ d, d.ab = A1 ∧ MD w w' ((wr.heap.size, d) :: L) := by
  refine (dNew wr).mono ?_
  rintro x w' ⟨rfl, d, h1, h2, h3, h4⟩
  exact ⟨rfl, d, h2, h.cons h3 (h1.mono h.kept.size) (fun k hk => by rw [h4 k hk]; exact Nat.le_refl _)⟩
theorem mAct (w wr : World) (B : Nat) (d : DK) (L : List (Nat × DK)) (o : Opv) (hk : 1 ≤ o.kind ∧ o.kind ≤ 4) (a : Option Addr) (n c : Nat) (l : List Nat) (h : MD w wr ((B, d) :: L)) (ok : d.ab.Ok) (r : Reads wr a n c l) (hn : n ≤ Lim) (hr : ∀ k, blockOf a = some k → k ≠ B) :
    Calls Try.prog 23 #[.pointer (some ⟨B, 0, none⟩), .agg o.cs, .slice a n c] wr fun x w' => x = .returned (.int .i64 (d.ab.act o.kind o.slot l).2) ∧ ∃ d', d'.ab = (d.ab.act o.kind o.slot l).1 ∧ MD w w' ((B, d') :: L) := by
  refine (gAct w.heap.size B d o hk a n c l wr h.head ok r hn hr).mono ?_
  rintro x w' ⟨rfl, d', i, m, e⟩
  exact ⟨rfl, d', e, h.step i m⟩
theorem mStop (w wr : World) (B : Nat) (d : DK) (L : List (Nat × DK)) (n : Int) (done : Bool) (h : MD w wr ((B, d) :: L)) (hd : d.dead = false) :
    Calls Try.prog 22 #[.pointer (some ⟨B, 0, none⟩), .int .i64 n, .bool done] wr fun x w' => x = .returned (.int .i64 0) ∧ ∃ d', d'.ab = { d.ab with named := if n < 0 then 0 else n, done := done } ∧ MD w w' ((B, d') :: L) := by
  refine (dStop w.heap.size B d n done wr h.head hd).mono ?_
  rintro x w' ⟨rfl, d', i, m, e⟩
  exact ⟨rfl, d', e, h.step i m⟩
theorem mCrash (w wr : World) (B : Nat) (d : DK) (L : List (Nat × DK)) (q : Option Addr) (n c : Nat) (cs : List Int) (h : MD w wr ((B, d) :: L)) (ok : d.ab.Ok) (r : IRd wr q n c cs) (hq : 0 < n → ∀ k, blockOf q = some k → k ≠ B) :
    Calls Try.prog 14 #[.pointer (some ⟨B, 0, none⟩), .slice q n c] wr fun x w' => ∃ F df, x = .returned (.pointer (some ⟨F, 0, none⟩)) ∧ df.ab = d.ab.crash cs ∧ MD w w' ((F, df) :: (B, { d with dead := true }) :: L) := by
  refine (dCrash w.heap.size B d q n c cs wr h.head ok r hq).mono ?_
  rintro x w' ⟨df, rfl, i1, i2, i3, K, hu⟩
  obtain ⟨q1, q2⟩ := List.pairwise_cons.1 h.apart
  have hB := block_lt h.head.blk
  refine ⟨_, df, rfl, i3, ⟨fun x hx => ?_, ?_, h.kept.trans K (fun k hk z => by have z : k = B := z; have := h.head.low; omega)⟩⟩
  · rcases List.mem_cons.1 hx with z | z
    · rw [z]; exact i2.mono h.kept.size
    · rcases List.mem_cons.1 z with z | z
      · rw [z]; exact i1
      · exact (h.tail.is x z).off K (fun k hk z2 => q1 x z k (.inl z2) hk)
  · refine List.pairwise_cons.2 ⟨fun y hy k h1 h2 => ?_, List.pairwise_cons.2 ⟨fun y hy k h1 h2 => q1 y hy k h1 h2, q2⟩⟩
    have a1 := hu k h1
    rcases List.mem_cons.1 hy with z | z
    · rw [z] at h2
      have : d.Uses B k := h2
      have := h.head.lt this
      omega
    · have := (h.tail.is y z).lt h2
      omega
end Go.Proofs.Ytbnnmelkbjkkjaa

namespace Go.Proofs.Ytbnnmelkbjkkjaa
open Go.RowKit

/-- The same disk, but for the stop. -/
def AB.twin (A : AB) (m : Int) (dn dd : Bool) : AB := { A with named := m, done := dn, dead := dd }
theorem put_twin (A : AB) (m : Int) (dn dd : Bool) (k : Int) (i : Nat) (l : List Nat) : (A.twin m dn dd).put k i l = (A.put k i l).twin m dn dd := by
  unfold AB.put AB.add AB.more AB.sync AB.switch AB.twin
  (repeat' split) <;> rfl
theorem twin_ok {A : AB} (h : A.Ok) {m : Int} (h0 : 0 ≤ m) (h1 : m < 9223372036854775808) (dn dd : Bool) : (A.twin m dn dd).Ok := ⟨h.w0, h.w1, h.n0, h.n1, h.acts, h0, h1⟩
theorem act_free {A : AB} (hl : A.dead = false) (hf : A.named = 0) {k s : Int} (hs : ¬ (¬ (s = 0 ∨ s = 1) ∨ (k = 2 ∧ s = (A.cur : Int)))) (l : List Nat) : A.act k s l = ((A.put k s.toNat l).counted, 0) := by
  rw [act_go hl hs (by rw [hf]; decide), tick_free hf]
theorem put_acts (A : AB) (k : Int) (i : Nat) (l : List Nat) : (A.put k i l).counted.acts = A.acts + 1 := by
  unfold AB.put AB.add AB.more AB.sync AB.switch AB.counted
  (repeat' split) <;> rfl
theorem twin_dead (A : AB) (m : Int) (dn : Bool) (k s : Int) (l : List Nat) : (A.twin m dn true).act k s l = (A.twin m dn true, 60) := act_dead rfl k s l
/-- A living pair: the slot is refused by both; or the act is the last and not done; or it is done. -/
theorem twin_live (A : AB) (hl : A.dead = false) (hf : A.named = 0) (many acts : Nat) (dn : Bool) (k s : Int) (l : List Nat) :
    (A.act k s l = (A, 61) ∧ (A.twin ((many - acts : Nat) : Int) dn false).act k s l = (A.twin ((many - acts : Nat) : Int) dn false, 61)) ∨
    (acts + 1 = many ∧ dn = false ∧ (A.twin ((many - acts : Nat) : Int) dn false).act k s l = (A.twin 0 dn true, 60)) ∨
    (acts + 1 = many ∧ dn = true ∧ ∃ A', A.act k s l = (A', 0) ∧ A'.acts = A.acts + 1 ∧ (A.twin ((many - acts : Nat) : Int) dn false).act k s l = (A'.twin 0 dn true, 60)) ∨
    (acts + 1 ≠ many ∧ ∃ A', A.act k s l = (A', 0) ∧ A'.acts = A.acts + 1 ∧ (A.twin ((many - acts : Nat) : Int) dn false).act k s l = (A'.twin ((many - (acts + 1) : Nat) : Int) dn false, 0)) := by
  by_cases hs : ¬ (s = 0 ∨ s = 1) ∨ (k = 2 ∧ s = (A.cur : Int))
  · exact .inl ⟨act_bad hl hs l, act_bad (A := A.twin ((many - acts : Nat) : Int) dn false) rfl hs l⟩
  · have e1 := act_free hl hf hs l
    by_cases hm : acts + 1 = many
    · have hN : (A.twin ((many - acts : Nat) : Int) dn false).named = 1 := by show ((many - acts : Nat) : Int) = 1; omega
      cases dn with
      | false => exact .inr (.inl ⟨hm, rfl, act_stopN (A := A.twin ((many - acts : Nat) : Int) false false) rfl hs hN rfl l⟩)
      | true =>
        refine .inr (.inr (.inl ⟨hm, rfl, _, e1, put_acts .., ?_⟩))
        rw [act_stopD (A := A.twin ((many - acts : Nat) : Int) true false) rfl hs hN rfl l]
        exact congrArg (fun z : AB => (z.counted, (60 : Int))) (put_twin A 0 true true k s.toNat l)
    · have hN : (A.twin ((many - acts : Nat) : Int) dn false).named ≠ 1 := by show ((many - acts : Nat) : Int) ≠ 1; omega
      refine .inr (.inr (.inr ⟨hm, _, e1, put_acts .., ?_⟩))
      rw [act_go (A := A.twin ((many - acts : Nat) : Int) dn false) rfl hs hN l]
      have et : (A.twin ((many - acts : Nat) : Int) dn false).tick = A.twin ((many - (acts + 1) : Nat) : Int) dn false := by
        show A.twin (if ((many - acts : Nat) : Int) - 1 < 0 then 0 else ((many - acts : Nat) : Int) - 1) dn false = _
        congr 1
        split <;> omega
      rw [et]
      exact congrArg (fun z : AB => (z.counted, (0 : Int))) (put_twin A _ dn false k s.toNat l)
theorem Small.act {A : AB} {s t : Nat} (h : Small A s t) (k sl : Int) (l : List Nat) : Small (A.act k sl l).1 (s + l.length) (t + 1) := by
  by_cases hs : ¬ (sl = 0 ∨ sl = 1) ∨ (k = 2 ∧ sl = (A.cur : Int))
  · rw [act_bad h.live hs]
    exact h.mono (by omega) (by omega)
  · rw [act_free h.live h.free hs]
    have h1 := h.add sl.toNat l
    have h2 := h.sync sl.toNat
    have h3 := h.switch sl.toNat
    rw [tick_free h.free] at h1 h2 h3
    show Small (A.put k sl.toNat l).counted _ _
    unfold AB.put
    split
    · exact h1
    · split
      · exact (h.more sl.toNat none).mono (by simp) (Nat.le_refl _)
      · split
        · exact h2.mono (by omega) (Nat.le_refl _)
        · exact h3.mono (by omega) (Nat.le_refl _)
end Go.Proofs.Ytbnnmelkbjkkjaa
