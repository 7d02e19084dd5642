import Derived.Test.YthcnpijgfhinhaaSet
import Derived.RangeFuncNested
import Derived.RangeFuncBound
import Derived.RangeFuncCalls
import Derived.RangeFuncLeaves
import Derived.RangeFuncBox
import Derived.Shelf.Abstract
import Derived.Shelf.RegionOpen
import Derived.OwnWalkIn
import Derived.TacticsInMore
import Derived.LoopNIn
import Derived.LoopIn
import Derived.Maps.AppendAt
import Derived.Sort.QuietIn
namespace Go.Proofs.Ythcnpijgfhinhaa
open Go.RowKit Go.Shelf
attribute [local go_sem] Oper.semAt_some
theorem wide_fn (f : FuncId) : Fence.wide.fn f = True := rfl
attribute [local simp] wide_fn

theorem servers_in (n b : Nat) (x : Bool) (w : World) : CallsIn Fence.wide n Try.prog 35 #[.pointer (some ⟨b, 0, none⟩), .bool x] w fun e w' =>
    e = .returned (.func (.func 49) #[] #[.pointer (some ⟨w.heap.size, 0, none⟩), .pointer (some ⟨w.heap.size + 1, 0, none⟩)]) ∧ w' = (w.alloc (.cells #[.pointer (some ⟨b, 0, none⟩)] 26)).alloc (.cells #[.bool x] 4) := by
  refine callsIn_of_wp Try.func35 rfl trivial ?_ rfl
  simp only [Try.ntmps35, List.size_toArray, List.length_cons, List.length_nil, Nat.reduceAdd, Nat.reduceSub, Array.replicate_succ, Array.replicate_zero, List.push_toArray, List.append_toArray, List.nil_append, List.cons_append]
  gi_wp2
  go_ret
  exact ⟨rfl, rfl⟩

theorem IsS.drew {w : World} {b : Nat} {N K D : Int} {m : Nat → Bool} (h : IsS w b N K D m) : IsS w.drew b N K D m := ⟨h.blk, h.ok, h.low⟩
/-- The servers below k that are in (or are not), rising. -/
def pick (m : Nat → Bool) (x : Bool) (k : Nat) : List Int := ((List.range k).filter (fun i => m i == x)).map (fun (i : Nat) => (i : Int))
theorem pick_hit (m : Nat → Bool) (x : Bool) (k : Nat) (h : m k = x) : pick m x (k + 1) = pick m x k ++ [(k : Int)] := by
  unfold pick; rw [List.range_succ, List.filter_append, List.map_append]; simp [h]
theorem pick_miss (m : Nat → Bool) (x : Bool) (k : Nat) (h : ¬ m k = x) : pick m x (k + 1) = pick m x k := by
  unfold pick; rw [List.range_succ, List.filter_append, List.map_append]; simp [h]
theorem pick_prefix (m : Nat → Bool) (x : Bool) (k n : Nat) (h : k ≤ n) : pick m x k <+: pick m x n := by
  obtain ⟨d, rfl⟩ : ∃ d, n = k + d := ⟨n - k, by omega⟩
  clear h
  induction d with
  | zero => exact List.prefix_rfl
  | succ d ih =>
    refine ih.trans ?_
    by_cases e : m (k + d) = x
    · rw [show k + (d + 1) = (k + d) + 1 from rfl, pick_hit _ _ _ e]; exact List.prefix_append _ _
    · rw [show k + (d + 1) = (k + d) + 1 from rfl, pick_miss _ _ _ e]; exact List.prefix_rfl
theorem pick_lt (m : Nat → Bool) (x : Bool) (k n : Nat) (h : k < n) (e : m k = x) : (pick m x k).length < (pick m x n).length := by
  have := (pick_prefix m x (k + 1) n h).length_le
  rw [pick_hit _ _ _ e] at this
  simp at this
  omega
/-- What a round leaves as it was. -/
def KpB (T : Nat → Prop) (W W' : World) : Prop := ∀ k, T k → W'.heap[k]? = W.heap[k]?
/-- How a round ended. -/
def After (b B1 B2 : Nat) (P R : World → Prop) (W : World) (v : Bool) (W' : World) : Prop := (v = true → P W' ∧ KpB (fun k => k = b ∨ k = B1 ∨ k = B2) W W') ∧ (v = false → R W')
set_option maxRecDepth 100000 in
set_option maxHeartbeats 1000000 in
theorem iter_in (n : Nat) (hn : 1 ≤ n) (l b B1 B2 : Nat) (N K D : Int) (m : Nat → Bool) (x : Bool) (J Jx : List Int → World → Prop)
    (hY : ∀ pre y W, J pre W → pre.length < (pick m x N.toNat).length → YieldAt Fence.wide (n - 1) Try.prog l #[.int .i64 y] W fun e W' =>
      (e = .returned (.bool true) ∧ J (pre ++ [y]) W' ∧ KpB (fun k => k = b ∨ k = B1 ∨ k = B2) W W') ∨ (e = .returned (.bool false) ∧ Jx (pre ++ [y]) W'))
    (W : World) (h1 : Boxed W B1 26 (.pointer (some ⟨b, 0, none⟩))) (h2 : Boxed W B2 4 (.bool x)) (hS : IsS W b N K D m) (h0 : J [] W) (hJ : ∀ s (A : World), J s A → J s A.drew) (hJN : ∀ s (A : World) i, J s A → J s (A.drewN i)) :
    CallsIn Fence.wide n Try.prog 49 #[.func (.yield l) #[] #[], .pointer (some ⟨B1, 0, none⟩), .pointer (some ⟨B2, 0, none⟩)] W fun e W' => (∃ v, e = .returned v) ∧
      ((∃ ys, ys = pick m x N.toNat ∧ J ys W') ∨ (∃ pre, pre <+: pick m x N.toNat ∧ Jx pre W')) := by
  obtain ⟨n1, n2, n3, n4, n5⟩ := hS.ok
  refine callsIn_of_wp Try.func49 rfl trivial ?_ rfl
  simp only [Try.ntmps49, List.size_toArray, List.length_cons, List.length_nil, Nat.reduceAdd, Nat.reduceSub, Array.replicate_succ, Array.replicate_zero, List.push_toArray, List.append_toArray, List.nil_append, List.cons_append]
  have c1 := h1.cell
  have c0 := hS.cells.1
  have HS : Hid (IsS W b N K D m) := hS
  have H1 : Hid (Boxed W B1 26 (.pointer (some ⟨b, 0, none⟩))) := h1
  have H2 : Hid (Boxed W B2 4 (.bool x)) := h2
  clear hS h1 h2
  gi_wp2
  gi_loopw [4, 10] (fun _ i wr => ∃ k : Nat, (k : Int) ≤ N ∧ i = .int .i64 (k : Int) ∧ J (pick m x k) wr ∧ Boxed wr B1 26 (.pointer (some ⟨b, 0, none⟩)) ∧ Boxed wr B2 4 (.bool x) ∧ IsS wr b N K D m)
    (fun _ i _ => N.toNat - (intOf i).toNat)
  case atStart => exact ⟨0, by omega, rfl, h0, H1.out, H2.out, HS.out⟩
  case round =>
    obtain ⟨k, hk, rfl, hJs, g1, g2, gS⟩ := hrel
    have gc1 := g1.cell
    have gc2 := g2.cell
    have G1 : Hid (Boxed wr B1 26 (.pointer (some ⟨b, 0, none⟩))) := g1
    have G2 : Hid (Boxed wr B2 4 (.bool x)) := g2
    have GS : Hid (IsS wr b N K D m) := gS
    clear g1 g2 gS
    by_cases hlt : (k : Int) < N
    · have hm : memI m (k : Int) = m k := by unfold memI; simp
      by_cases e : m k = x
      · obtain ⟨fn, tmps, assign, body, hy, hR⟩ := hY _ (k : Int) wr.drew (hJ _ _ hJs) (pick_lt m x k N.toNat (by omega) e)
        have hmx : Try.prog.follows .mixedOrders = true := by kernel_rfl
        have HR : Hid (RoundIn Fence.wide (n - 1) Try.prog l fn tmps assign body wr.drew fun e W' => ∃ v, e = Ending.returned (Value.bool v) ∧ Hid (After b B1 B2 (J (pick m x k ++ [(k : Int)])) (Jx (pick m x k ++ [(k : Int)])) wr.drew v W')) := hR.mono (fun e W' h => by
          rcases h with ⟨rfl, h1, h2⟩ | ⟨rfl, h1⟩
          · exact ⟨true, rfl, ⟨fun _ => ⟨h1, h2⟩, fun q => (by cases q)⟩⟩
          · exact ⟨false, rfl, ⟨fun q => (by cases q), fun _ => h1⟩⟩)
        clear hR
        gi_wp2
        gi_region_with_o (first | (refine (callsIn_wide.2 (has (k : Int) wr.drew GS.out.drew)).mono ?_; rw [hm, e]; rintro e w' ⟨rfl, rfl⟩) | (refine HR.out.mono ?_; rintro e W3 ⟨v, rfl, hA⟩) | fail)
        all_goals
         cases v
         · gi_wp2
           refine bodyPost_ret (results_none rfl _ _ _) rfl ?_
           exact ⟨⟨_, rfl⟩, .inr ⟨_, by rw [← pick_hit m x k e]; exact pick_prefix m x _ _ (by omega), hA.out.2 rfl⟩⟩
         · gi_wp2
           go_roundw
           case rel =>
             obtain ⟨a1, a2⟩ := hA.out.1 rfl
             exact ⟨k + 1, by omega, by simp, by rw [pick_hit m x k e]; exact a1, (a2 B1 (by simp)).trans G1.out, (a2 B2 (by simp)).trans G2.out, (a2 b (by simp)).trans GS.out.blk, GS.out.ok, GS.out.low⟩
           case measure => simp [intOf]; omega
      · have hmx : Try.prog.follows .mixedOrders = true := by kernel_rfl
        have pm : Hid (pick m x (k + 1) = pick m x k) := pick_miss m x k e
        cases x
        · have e2 : m k = true := by cases q : m k <;> simp_all
          have hq : ∀ i, Calls Try.prog 13 #[.pointer (some ⟨b, 0, none⟩), .int .i64 (k : Int)] (wr.drewN i) fun x w' => x = .returned (.bool true) ∧ w' = wr.drewN i := fun i => by have := has (k : Int) (wr.drewN i) (GS.out.drewN i); rw [hm, e2] at this; exact this
          gi_wp2
          gi_quiet (first | (refine callsIn_wide.2 ?_; exact Calls.quiet_of_same (hq _)) | fail)
          all_goals
           gi_wp2
           go_roundw
           case rel => exact ⟨k + 1, by omega, by simp, by rw [pm.out]; exact hJN _ _ _ hJs, G1.out, G2.out, GS.out.drewN _⟩
           case measure => simp [intOf]; omega
        · have e2 : m k = false := by cases q : m k <;> simp_all
          have hq : ∀ i, Calls Try.prog 13 #[.pointer (some ⟨b, 0, none⟩), .int .i64 (k : Int)] (wr.drewN i) fun x w' => x = .returned (.bool false) ∧ w' = wr.drewN i := fun i => by have := has (k : Int) (wr.drewN i) (GS.out.drewN i); rw [hm, e2] at this; exact this
          gi_wp2
          gi_quiet (first | (refine callsIn_wide.2 ?_; exact Calls.quiet_of_same (hq _)) | fail)
          all_goals
           gi_wp2
           go_roundw
           case rel => exact ⟨k + 1, by omega, by simp, by rw [pm.out]; exact hJN _ _ _ hJs, G1.out, G2.out, GS.out.drewN _⟩
           case measure => simp [intOf]; omega
    · gi_wp2
      go_end0
      have hk' : k = N.toNat := by omega
      exact ⟨⟨_, rfl⟩, .inl (by rw [← hk']; first | exact hJs | exact ⟨_, rfl, hJs⟩)⟩
theorem iter_stops (n : Nat) (hn : 1 ≤ n) (b B1 B2 : Nat) (N K D : Int) (m : Nat → Bool) (x : Bool) (w : World) (h1 : Boxed w B1 26 (.pointer (some ⟨b, 0, none⟩))) (h2 : Boxed w B2 4 (.bool x)) (hS : IsS w b N K D m) :
    SeqStopsK Fence.wide n Try.prog 49 #[.pointer (some ⟨B1, 0, none⟩), .pointer (some ⟨B2, 0, none⟩)] (fun y : Int => #[Value.int .i64 y]) (KpB (fun k => k = b ∨ k = B1 ∨ k = B2)) (fun ys => ys = pick m x N.toNat) (fun pre => pre <+: pick m x N.toNat) (pick m x N.toNat).length w := fun l J Jx W hW hJ _ hY h0 =>
  iter_in n hn l b B1 B2 N K D m x J Jx hY W ((hW.block _ h1.lt).trans h1) ((hW.block _ h2.lt).trans h2) (hS.by hW) h0
    (fun s A hs => hJ s A A.drew none hs ⟨rfl, rfl, rfl, Nat.le_refl _, fun _ _ _ => rfl⟩ (fun _ e => by cases e))
    (fun s A i hs => hJ s A (A.drewN i) none hs ⟨rfl, rfl, rfl, Nat.le_refl _, fun _ _ _ => rfl⟩ (fun _ e => by cases e))
end Go.Proofs.Ythcnpijgfhinhaa
