import Derived.Test.YtbnnmelkbjkkjaaCrash
namespace Go.Proofs.Ytbnnmelkbjkkjaa
open Go.RowKit

theorem src_two (w : World) (u v : Nat) (hu : u < 256) (hv : v < 256) : Src Try.prog 1 22 (.slice (some ⟨w.heap.size, 0, none⟩) 2 2) 2 (cellsOf [u, v]) (w.alloc (.cells #[.int .u8 (u : Int), .int .u8 (v : Int)] 5)) := by
  have o := made_bytes (Nat.le_refl w.heap.size) [u, v] (by simp) #[.int .u8 (u : Int), .int .u8 (v : Int)] rfl (alloc_new w (.cells #[.int .u8 (u : Int), .int .u8 (v : Int)] 5))
  obtain ⟨a, c, e, r, _⟩ := owns_reads o (fun c hc => by simp at hc; rcases hc with z | z <;> omega)
  simp at e
  obtain ⟨rfl, rfl⟩ := e
  exact r.src
set_option maxRecDepth 100000 in
set_option maxHeartbeats 1000000 in
theorem wide (a : Option Addr) (n c : Nat) (l : List Nat) (w : World) (r : Reads w a n c l) (hn : n ≤ Lim) :
    Calls Try.prog 10 #[.slice a n c] w fun x w' => ∃ p k, x = .returned (.slice p n k) ∧ w'.ownsRow w.heap.size 5 1 (.slice p (n + 2) k) (n + 2) (cellsOf (l ++ [193, 194])) ∧ Kept (fun _ => False) w w' := by
  have H : Hid (Reads w a n c l ∧ n ≤ Lim ∧ n ≤ 140737488355328 ∧ n + 2 ≤ 140737488355328) := ⟨r, hn, by unfold Lim at hn; omega, by unfold Lim at hn; omega⟩
  clear r hn
  go_enter Try.func10, Try.ntmps10
  go_wp2_with
    (first
      | (at_builtin; refine wpList_append_bytes _ rfl (.tmp 7) (.tmp 8) rfl w.heap.size (.slice p1 n c1) n l rfl X1.out.1 (.slice (some ⟨w1.heap.size, 0, none⟩) 2 2) 2 [193, 194] rfl (src_two w1 193 194 (by decide) (by decide)) H.out.2.2.2 X1.out.2.2 ?_; intro p2 c2 w2 ho hg hn
         have X2 : Hid (w2.ownsRow w.heap.size 5 1 (.slice p2 (n + 2) c2) (n + 2) (cellsOf (l ++ [193, 194])) ∧ Kept (fun _ => False) w w2) := ⟨ho.out, (X1.out.2.1.alloc _).grown hg.out (fun k hk z => by have := (X1.out.1.lt k z).1; omega)⟩
         have slc : ∀ V : World, (Instr.slice 22 (.slice p2 (n + 2) c2) none (some (.int .i64 (n : Int))) none).run Try.prog V = .ok (.slice p2 n c2) V := slice_to ho.out n (by omega)
         clear ho hg hn)
      | (at_builtin; refine wpList_append_bytes _ rfl (.tmp 4) (.tmp 5) rfl w.heap.size (.slice none 0 0) 0 [] rfl (World.ownsRow_nil _ _ _ _) (.slice a n c) n l rfl H.out.1.src (by rw [Nat.zero_add]; exact H.out.2.2.1) (Nat.le_refl _) ?_; intro p1 c1 w1 ho hg hn
         rw [Nat.zero_add] at ho ⊢
         rw [List.nil_append] at ho
         have X1 : Hid ((w1.alloc (.cells #[.int .u8 193, .int .u8 194] 5)).ownsRow w.heap.size 5 1 (.slice p1 n c1) n (cellsOf l) ∧ Kept (fun _ => False) w w1 ∧ w.heap.size ≤ (w1.alloc (.cells #[.int .u8 193, .int .u8 194] 5)).heap.size) := by
           have K : Kept (fun _ => False) w w1 := (Kept.refl (fun _ => False) w).grown hg.out (fun k _ z => by simp [Value.ownBlock] at z)
           have K2 := alloc_kept0 w1 (.cells #[.int .u8 193, .int .u8 194] 5)
           exact ⟨K2.owns ho.out (fun _ _ z => z), K, Nat.le_trans K.size K2.size⟩
         clear ho hg hn)
      | fail)
  go_ret
  exact ⟨p2, c2, rfl, X2.out⟩
set_option maxRecDepth 100000 in
theorem mod (x : Int) (m : Nat) (w : World) (hm : 0 < m) (hb : m < 4611686018427387904) : Calls Try.prog 16 #[.int .i64 x, .int .i64 (m : Int)] w fun y w' => y = .returned (.int .i64 (x % (m : Int))) ∧ w' = w := by
  have m0 : ¬ ((m : Int) = 0) := by omega
  have t1 := Int.tmod_lt_of_pos x (show (0 : Int) < (m : Int) by omega)
  have t2 : -(m : Int) < x.tmod (m : Int) := by
    rcases Int.le_total 0 x with h1 | h1
    · have := Int.tmod_nonneg (m : Int) h1; omega
    · have := Int.tmod_lt_of_pos (-x) (show (0 : Int) < (m : Int) by omega)
      rw [Int.neg_tmod] at this
      omega
  obtain ⟨t, ht⟩ : ∃ t, x.tmod (m : Int) = t := ⟨_, rfl⟩
  have em : x % (m : Int) = if t < 0 then t + (m : Int) else t := by
    rw [← ht, Int.tmod_eq_emod]
    have e1 := Int.emod_nonneg x (show (m : Int) ≠ 0 by omega)
    have e2 := Int.emod_lt_of_pos x (show (0 : Int) < (m : Int) by omega)
    have e3 : ((m : Int).natAbs : Int) = (m : Int) := by omega
    by_cases h1 : 0 ≤ x ∨ (m : Int) ∣ x
    · rw [if_pos h1]
      rw [if_neg (by omega)]
      omega
    · rw [if_neg h1, e3, if_pos (by omega)]
      omega
  rw [ht] at t1 t2
  by_cases hneg : t < 0
  · rw [if_pos hneg] at em
    have wu : IntKind.i64.wrap (t + (m : Int)) = t + (m : Int) := by rw [IntKind.wrap_i64]; omega
    have E : Hid (x % (m : Int) = t + (m : Int)) := em
    clear em
    go_enter Try.func16, Try.ntmps16
    go_wp2_with fail
    go_ret
    exact ⟨by rw [E.out]; rfl, rfl⟩
  · rw [if_neg hneg] at em
    have E : Hid (x % (m : Int) = t) := em
    clear em
    go_enter Try.func16, Try.ntmps16
    go_wp2_with fail
    go_ret
    exact ⟨by rw [E.out]; rfl, rfl⟩
end Go.Proofs.Ytbnnmelkbjkkjaa
