import Derived.Test.YtbnnmelkbjkkjaaBegun
namespace Go.Proofs.Ytbnnmelkbjkkjaa
open Go.RowKit

theorem hPending (w wr : World) (B : Nat) (A : AB) (h : HD w wr B A) (ok : A.Ok) : Calls Try.prog 13 #[.pointer (some ⟨B, 0, none⟩)] wr fun x w' => x = .returned (.int .i64 ((A.X0.length + A.X1.length : Nat) : Int)) ∧ Kept (fun _ => False) wr w' := by
  obtain ⟨d, h1, rfl⟩ := h.ex
  exact dPending w.heap.size B d wr h1 ok
theorem leftL_nil (l : List Nat) (cs : List Int) : (leftL l [] cs).1 = l := by simp [leftL, redoL]
/-- A slot that was synced is behind a crash what it was. -/
theorem synced_now (A : AB) (j : Nat) (hj : j < 2) (cs : List Int) : (((A.sync j).counted).crash cs).now j = ((A.sync j).counted).now j := by
  match j, hj with
  | 0, _ =>
    show redoL (leftL (redoL A.l0 A.X0) [] cs).1 [] = redoL (redoL A.l0 A.X0) []
    rw [leftL_nil]
  | 1, _ =>
    show redoL (leftL (redoL A.l1 A.X1) [] _).1 [] = redoL (redoL A.l1 A.X1) []
    rw [leftL_nil]
theorem nextC_le (cs : List Int) (m : Nat) : (nextC cs (m + 1)).1 ≤ m := by have := nextC_lt cs (m + 1) (by omega); omega
theorem leftL_length (l : List Nat) (xs : List (Option (List Nat))) (cs : List Int) : (leftL l xs cs).1.length ≤ l.length + weigh xs + weigh xs := by
  have h1 := redoL_length (xs.take (nextC cs (xs.length + 1)).1) l
  have h2 := weigh_take xs (nextC cs (xs.length + 1)).1
  unfold leftL
  split
  · rename_i x he
    have h3 := weigh_mem (List.mem_of_getElem? he)
    simp only [List.length_append, List.length_take]
    omega
  · simp only
    omega
theorem crash_ok {A : AB} {s t : Nat} (h : Small A s t) (hs : s ≤ Few) (cs : List Int) : (A.crash cs).Ok := by
  have h1 := h.wt
  have h2 := leftL_length A.l0 A.X0 cs
  have h3 := leftL_length A.l1 A.X1 (leftL A.l0 A.X0 cs).2
  unfold Few at hs
  have wn : weigh [] = 0 := rfl
  refine ⟨?_, ?_, by show 0 + 1 ≤ Lim; decide, by show 0 + 1 ≤ Lim; decide, by show 0 + 1 ≤ Lim; decide, by show (0 : Int) ≤ 0 ∧ (0 : Int) < 9223372036854775808; decide⟩
  · show (leftL A.l0 A.X0 cs).1.length + weigh [] ≤ Lim
    unfold Lim; omega
  · show (leftL A.l1 A.X1 (leftL A.l0 A.X0 cs).2).1.length + weigh [] ≤ Lim
    unfold Lim; omega
theorem now_bytes {w wr : World} {B : Nat} {A : AB} (h : HD w wr B A) (j : Nat) : ∀ c ∈ A.now j, c < 256 := by
  obtain ⟨d, h1, rfl⟩ := h.ex
  unfold AB.now
  split
  · exact redoL_bytes _ _ h1.z0.bytes (good_bytes h1.z0.good)
  · exact redoL_bytes _ _ h1.z1.bytes (good_bytes h1.z1.good)
theorem own_string {w : World} {base : Nat} {a : Option Addr} {n c : Nat} {l : List Nat} (h : w.ownsRow base 5 1 (.slice a n c) n (cellsOf l)) (hb : ∀ c ∈ l, c < 256) {w' : World} (K : Kept (fun _ => False) w w') : (convert 22 9 (.slice a n c)).run Try.prog w' = .ok (.string (str l)) w' := by
  obtain ⟨a', c', e, r, _⟩ := owns_reads h hb
  simp at e
  obtain ⟨rfl, rfl⟩ := e
  exact (r.kept' K (fun _ _ z => z)).string
theorem IRd.lt {w : World} {q : Option Addr} {n c : Nat} {cs : List Int} (r : IRd w q n c cs) (h0 : 0 < n) : ∀ k, blockOf q = some k → k < w.heap.size := fun k hk => by
  obtain ⟨b, off, e, hc⟩ := r.cells h0
  rw [e] at hk
  simp [blockOf] at hk
  subst hk
  have hx : b < w.heap.size := World.block_lt_of_cell? w _ (hc 0 (cs[0]'(by rw [r.length]; exact h0)) (List.getElem?_eq_getElem _))
  exact hx
theorem two_mod (x : Int) : ∃ j : Nat, j < 2 ∧ x % 2 = (j : Int) := ⟨(x % 2).toNat, by omega, by omega⟩
set_option maxRecDepth 100000 in
set_option maxHeartbeats 2000000 in
theorem diskLasts (q : Option Addr) (n cap : Nat) (O : List Opv) (slot : Int) (qc : Option Addr) (nc cc : Nat) (cs : List Int) (w : World) (hO : Script w q n cap O) (hn : n + 2 ≤ Few) (hs : sumN O ≤ Few) (rc : IRd w qc nc cc cs) :
    Calls Try.prog 4 #[.slice q n cap, .int .i64 slot, .slice qc nc cc] w fun x w' => x = .returned (.bool true) ∧ Kept (fun _ => False) w w' := by
  have H : Hid (Script w q n cap O ∧ n + 2 ≤ Few ∧ sumN O ≤ Few ∧ IRd w qc nc cc cs) := ⟨hO, hn, hs, rc⟩
  obtain ⟨j, hj, ej⟩ := two_mod slot
  have EJ : Hid (slot % ((2 : Nat) : Int) = (j : Int)) := ej
  clear hO hn hs rc ej
  go_enter Try.func4, Try.ntmps4
  go_wp2_with fail
  refine (begun q n cap O w H.out.1 (by have := H.out.2.1; omega) H.out.2.2.1).mono ?_
  rintro x w1 ⟨A, rfl, h1, s1⟩
  have X1 : Hid (HD w w1 w.heap.size A ∧ Small A (sumN O) n) := ⟨h1, s1⟩
  clear h1 s1
  go_wp2_with fail
  refine (head w1).mono ?_
  rintro x w2 ⟨rfl, K2⟩
  have X2 : Hid (HD w w2 w.heap.size A ∧ Small A (sumN O) n) := ⟨X1.out.1.quiet K2, X1.out.2⟩
  clear K2 X1
  go_wp2_with fail
  refine (mod slot 2 w2 (by omega) (by omega)).mono ?_
  rintro x w3 ⟨rfl, rfl⟩
  rw [EJ.out]
  go_wp2_with fail
  refine (hCurrent w w3 w.heap.size A X2.out.1).mono ?_
  rintro x w4 ⟨rfl, rfl⟩
  rw [if_neg (show ¬ A.dead = true by rw [X2.out.2.live]; decide)]
  go_wp2_with fail
  refine (hSync w w4 w.heap.size A j hj X2.out.1 X2.out.2.live (by rw [X2.out.2.free]; decide) (X2.out.2.ok H.out.2.2.1 (by have := H.out.2.1; omega))).mono ?_
  rintro x w5 ⟨rfl, h5⟩
  obtain ⟨A5, hA5⟩ : ∃ A5, A5 = (A.tick.sync j).counted := ⟨_, rfl⟩
  rw [← hA5] at h5
  have X5 : Hid (HD w w5 w.heap.size A5 ∧ Small A5 (sumN O) (n + 1) ∧ A5 = (A.sync j).counted ∧ A5.cur = A.cur) := by
    have e : A5 = (A.sync j).counted := by rw [hA5, tick_free X2.out.2.free]
    refine ⟨h5, by rw [hA5]; exact X2.out.2.sync j, e, ?_⟩
    rw [e]
    unfold AB.sync
    split <;> rfl
  clear h5 hA5 X2
  go_wp2_with fail
  refine (hRead w w5 w.heap.size A5 j hj X5.out.1 X5.out.2.1.live (X5.out.2.1.ok H.out.2.2.1 (by have := H.out.2.1; omega))).mono ?_
  rintro x w6 ⟨a6, n6, c6, rfl, o6, K6⟩
  have X6 : Hid (HD w w6 w.heap.size A5 ∧ w6.ownsRow w5.heap.size 5 1 (.slice a6 n6 c6) n6 (cellsOf (A5.now j)) ∧ w.heap.size < w5.heap.size) := by
    obtain ⟨d, i1, _⟩ := X5.out.1.ex
    exact ⟨X5.out.1.quiet K6, o6, block_lt i1.blk⟩
  clear o6 K6
  go_wp2_with fail
  refine (hCrash w w6 w.heap.size A5 qc nc cc cs X6.out.1 (X5.out.2.1.ok H.out.2.2.1 (by have := H.out.2.1; omega)) (H.out.2.2.2.kept0 X6.out.1.kept) (fun h0 k hk z => by have := H.out.2.2.2.lt h0 k hk; omega)).mono ?_
  rintro x w7 ⟨F, rfl, _, h7, _, K7⟩
  have X7 : Hid (HD w w7 F (A5.crash cs) ∧ w7.ownsRow w5.heap.size 5 1 (.slice a6 n6 c6) n6 (cellsOf (A5.now j)) ∧ (A5.crash cs).Ok ∧ (A5.crash cs).now j = A5.now j ∧ ∀ c ∈ A5.now j, c < 256) := by
    refine ⟨h7, K7.owns X6.out.2.1 (fun k hk z => ?_), crash_ok X5.out.2.1 H.out.2.2.1 cs, by rw [X5.out.2.2.1]; exact synced_now A j hj cs, now_bytes X6.out.1 j⟩
    have z : k = w.heap.size := z
    have := (own_lt X6.out.2.1 k (by rw [← hk]; exact (blockOf_own ..).symm)).1
    have := X6.out.2.2
    omega
  clear h7 K7
  go_wp2_with fail
  refine (hRead w w7 F (A5.crash cs) j hj X7.out.1 rfl X7.out.2.2.1).mono ?_
  rintro x w8 ⟨a8, n8, c8, rfl, o8, K8⟩
  have X8 : Hid (HD w w8 F (A5.crash cs)) := X7.out.1.quiet K8
  obtain ⟨ts, hts⟩ : ∃ ts, ts = str (A5.now j) := ⟨_, rfl⟩
  have st8 : (convert 22 9 (.slice a8 n8 c8)).run Try.prog w8 = .ok (.string ts) w8 := by
    rw [X7.out.2.2.2.1] at o8
    rw [hts]
    exact own_string o8 X7.out.2.2.2.2 (Kept.refl _ _)
  have st6 : (convert 22 9 (.slice a6 n6 c6)).run Try.prog w8 = .ok (.string ts) w8 := by
    rw [hts]
    exact own_string X7.out.2.1 X7.out.2.2.2.2 K8
  clear o8 K8 hts
  go_wp2_with fail
  refine (hCurrent w w8 F (A5.crash cs) X8.out).mono ?_
  rintro x w9 ⟨rfl, rfl⟩
  rw [show (if (A5.crash cs).dead = true then (0 : Int) else ((A5.crash cs).cur : Int)) = (A.cur : Int) from by rw [if_neg (show ¬ (A5.crash cs).dead = true from by show ¬ false = true; decide)]; exact congrArg _ X5.out.2.2.2]
  go_wp2_with fail
  refine (hPending w w9 F (A5.crash cs) X8.out X7.out.2.2.1).mono ?_
  rintro x w10 ⟨rfl, K10⟩
  rw [show ((((A5.crash cs).X0.length + (A5.crash cs).X1.length : Nat)) : Int) = 0 from rfl]
  have X10 : Hid (HD w w10 F (A5.crash cs)) := X8.out.quiet K10
  clear K10
  go_wp2_with fail
  refine (hDead w w10 F (A5.crash cs) X10.out).mono ?_
  rintro x w11 ⟨rfl, rfl⟩
  rw [show (A5.crash cs).dead = false from rfl]
  go_wp2_with fail
  go_ret
  exact ⟨by first | rfl | simp, X10.out.kept⟩
end Go.Proofs.Ytbnnmelkbjkkjaa
