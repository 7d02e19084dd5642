import Derived.Test.YteokeifkkhchmaaDoorMapG
import Derived.Deep.DeepCutAuto
import Derived.Deep.RegionLaw
import Derived.Deep.CutRange
import Derived.Deep.RegionHeldLaw
namespace Go.Proofs.YteokeifkkhchmaaDoor
open Go.RowKit 

theorem newI_ok (N K D : Int) (w : World) (h : okC N K D) : Calls Tryd.prog 4 #[.agg #[.int .i64 N, .int .i64 K, .int .i64 D]] w fun x w' => ∃ pb mb, w.heap.size ≤ pb ∧ w.heap.size ≤ mb ∧ x = .returned (.tuple #[.pointer (some ⟨pb, 0, none⟩), .int .i64 0]) ∧ IsP 57 (Value.int .i64) RI w' pb mb N (quo N K) (fun _ => none) ∧ Kept (fun _ => False) w w' := by
  have B1 : Hid (Below w.heap.size w (w.alloc (Obj.cells #[.int .i64 N, .int .i64 K, .int .i64 D] 23))) := (Below.refl _ _).alloc (Nat.le_refl _) _
  have HO : Hid (okC N K D) := h
  go_enter Tryd.func4, Tryd.ntmps4
  go_wp2_with fail
  refine (size_ok N K D _ h).mono ?_
  rintro e w1 ⟨rfl, b1⟩
  have c0 : w1.cell? ⟨w.heap.size, 0, none⟩ = some (.int .i64 N) := (b1.cell (by simp)).trans (by simp)
  have BB : Hid (Below w.heap.size w w1) := B1.out.trans (b1.mono (by simp))
  have mk := run_makeMap (P := Tryd.prog) 55 w1
  clear b1 B1 h
  go_wp2_with fail
  go_ret2
  have K1 : Kept (fun _ => False) (w1.alloc (.map #[] 0)) ((w1.alloc (.map #[] 0)).alloc (.cells #[.int .i64 N, .int .i64 (quo N K), .map (some w1.heap.size)] 57)) := k0_alloc _ _
  have t0 : TM 3 (Lit.int .i64) KF (Value.int .i64) RI (w1.alloc (.map #[] 0)) w1.heap.size 0 (fun _ => none) := TM.made w1
  have sz := BB.out.size
  refine ⟨w1.heap.size + 1, w1.heap.size, by omega, sz, rfl, ⟨two1 _ _ _, ?_, fun _ _ q => by simp at q, by have := HO.out.1; have := HO.out.2.1; omega, HO.out.2.2.1⟩, ((Kept.ofB BB.out).alloc _).alloc _⟩
  rw [cntM_none]
  exact t0.kept K1 (fun z => z)
theorem newI_not (N K D : Int) (w : World) (h : ¬ okC N K D) : Calls Tryd.prog 4 #[.agg #[.int .i64 N, .int .i64 K, .int .i64 D]] w fun x w' => x = .returned (.tuple #[.pointer none, .int .i64 40]) ∧ Kept (fun _ => False) w w' := by
  have B1 : Hid (Below w.heap.size w (w.alloc (Obj.cells #[.int .i64 N, .int .i64 K, .int .i64 D] 23))) := (Below.refl _ _).alloc (Nat.le_refl _) _
  go_enter Tryd.func4, Tryd.ntmps4
  go_wp2_with fail
  refine (size_not N K D _ h).mono ?_
  rintro e w1 ⟨rfl, b1⟩
  go_wp2_with fail
  go_ret2
  exact ⟨rfl, Kept.ofB (B1.out.trans (b1.mono (by simp)))⟩
theorem answerI_nil (s : Int) (v : Int) (w : World) : Calls Tryd.prog 7 #[.pointer none, .int .i64 s, (Value.int .i64) v] w fun x w' => x = .returned (.tuple #[.bool false, .int .i64 0]) ∧ w' = w := by
  go_enter Tryd.func7, Tryd.ntmps7
  go_wp2_with fail
  go_ret2
  exact ⟨rfl, rfl⟩
theorem answerI_off {pb mb : Nat} {N Q : Int} {M : Int → Option Int} (s : Int) (v : Int) (w : World) (h : IsP 57 (Value.int .i64) RI w pb mb N Q M) (hs : s < 0 ∨ N ≤ s) : Calls Tryd.prog 7 #[.pointer (some ⟨pb, 0, none⟩), .int .i64 s, (Value.int .i64) v] w fun x w' => x = .returned (.tuple #[.bool false, .int .i64 51]) ∧ w' = w := by
  have c0 := cell_blk h.blk 0 (v := .int .i64 N) rfl
  clear h
  by_cases h1 : s < 0
  · go_enter Tryd.func7, Tryd.ntmps7
    go_wp2_with fail
    go_ret2
    exact ⟨rfl, rfl⟩
  · have h2 : N ≤ s := by omega
    go_enter Tryd.func7, Tryd.ntmps7
    go_wp2_with fail
    go_ret2
    exact ⟨rfl, rfl⟩
theorem answerI_in {pb mb : Nat} {N Q : Int} {M : Int → Option Int} (s : Int) (v : Int) (w : World) (h : IsP 57 (Value.int .i64) RI w pb mb N Q M) (h0 : 0 ≤ s) (h1 : s < N) : Calls Tryd.prog 7 #[.pointer (some ⟨pb, 0, none⟩), .int .i64 s, (Value.int .i64) v] w fun x w' => x = .returned (.tuple #[.bool (!(M s).isSome), .int .i64 0]) ∧ IsP 57 (Value.int .i64) RI w' pb mb N Q (upd M s v) ∧ Kept (fun j => j = mb) w w' := by
  have kf : KF s := by have := h.ok; unfold KF; omega
  have c0 := cell_blk h.blk 0 (v := .int .i64 N) rfl
  have c2 := cell_blk h.blk 2 (v := .map (some mb)) rfl
  have lk := h.tm.look2 intsK kf
  obtain ⟨a, ha⟩ : ∃ a, a = (M s).getD 0 := ⟨_, rfl⟩
  obtain ⟨b, hb⟩ : ∃ b, b = (M s).isSome := ⟨_, rfl⟩
  rw [← ha, ← hb] at lk
  rw [← hb]
  have H : Hid (IsP 57 (Value.int .i64) RI w pb mb N Q M ∧ KF s ∧ 0 ≤ s ∧ s < N) := ⟨h, kf, h0, h1⟩
  have h0' : ¬ s < 0 := by omega
  have h1' : ¬ N ≤ s := by omega
  have CN : Hid (cntM M N.toNat < maxLen) := by
    show cntM M N.toNat < maxLen
    have := cntM_le M N.toNat
    have := h.ok
    unfold maxLen
    omega
  clear h kf ha hb h0 h1
  go_enter Tryd.func7, Tryd.ntmps7
  go_wp2_with
    (first
      | (at_mapUpdate; refine wpList_put intsK _ rfl _ _ _ rfl mb (cntM M N.toNat) M rfl H.out.1.tm CN.out s H.out.2.1 v rfl rfl ?_; intro w2 ht hk)
      | fail)
  go_ret2
  exact ⟨rfl, H.out.1.put s v H.out.2.2.1 H.out.2.2.2 ht.out hk.out, hk.out⟩
theorem getI_nil (s : Int) (w : World) : Calls Tryd.prog 16 #[.pointer none, .int .i64 s] w fun x w' => x = .returned (.tuple #[.int .i64 0, .bool false]) ∧ w' = w := by
  go_enter Tryd.func16, Tryd.ntmps16
  go_wp2_with fail
  go_ret2
  exact ⟨rfl, rfl⟩
theorem getI {pb mb : Nat} {N Q : Int} {M : Int → Option Int} (s : Int) (w : World) (h : IsP 57 (Value.int .i64) RI w pb mb N Q M) (kf : KF s) : Calls Tryd.prog 16 #[.pointer (some ⟨pb, 0, none⟩), .int .i64 s] w fun x w' => x = .returned (.tuple #[(Value.int .i64) ((M s).getD 0), .bool (M s).isSome]) ∧ w' = w := by
  have c2 := cell_blk h.blk 2 (v := .map (some mb)) rfl
  have lk := h.tm.look2 intsK kf
  obtain ⟨a, ha⟩ : ∃ a, a = (M s).getD 0 := ⟨_, rfl⟩
  obtain ⟨b, hb⟩ : ∃ b, b = (M s).isSome := ⟨_, rfl⟩
  rw [← ha, ← hb] at lk
  rw [← ha, ← hb]
  clear h kf ha hb
  go_enter Tryd.func16, Tryd.ntmps16
  go_wp2_with fail
  go_ret2
  exact ⟨rfl, rfl⟩
theorem metI_nil (w : World) : Calls Tryd.prog 12 #[.pointer none] w fun x w' => x = .returned (.bool false) ∧ ∃ k, w' = w.drewN k := by
  go_enter Tryd.func12, Tryd.ntmps12
  go_upto_region 1 with fail
  go_quiet (fail)
  go_wp2_with fail
  go_ret
  exact ⟨rfl, nq, rfl⟩
theorem metI {pb mb : Nat} {N Q : Int} {M : Int → Option Int} (w : World) (h : IsP 57 (Value.int .i64) RI w pb mb N Q M) : Calls Tryd.prog 12 #[.pointer (some ⟨pb, 0, none⟩)] w fun x w' => x = .returned (.bool (decide (Q ≤ (cntM M N.toNat : Int)))) ∧ ∃ k, w' = w.drewN k := by
  obtain ⟨c, hc⟩ : ∃ c, c = cntM M N.toNat := ⟨_, rfl⟩
  have LN : Hid (∀ W : World, W.heap = w.heap → ∀ ty, (Builtin.len_ #[55] ty #[.map (some mb)]).run Tryd.prog W = .ok (.int .i64 (c : Int)) W) := by
    intro W hW ty
    rw [hc]
    exact TM.len intsK (by obtain ⟨D, ⟨es, clock, hb, r⟩, s⟩ := h.tm; exact ⟨D, ⟨es, clock, by rw [hW]; exact hb, r⟩, s⟩) ty
  have c1 := cell_blk h.blk 1 (v := .int .i64 Q) rfl
  have c2 := cell_blk h.blk 2 (v := .map (some mb)) rfl
  rw [← hc]
  have l1 := LN.out w rfl
  have l2 := LN.out w.drew rfl
  clear h hc
  go_enter Tryd.func12, Tryd.ntmps12
  go_upto_region 1 with fail
  go_region_held3 (fun w' => w'.cell? ⟨pb, 1, none⟩ = some (.int .i64 Q) ∧ w'.cell? ⟨pb, 2, none⟩ = some (.map (some mb)) ∧ ∀ ty, (Builtin.len_ #[55] ty #[.map (some mb)]).run Tryd.prog w' = .ok (.int .i64 (c : Int)) w') (first | exact ⟨c1, c2, l2⟩ | go_keep) (fail)
  all_goals go_wp2_with fail
  all_goals go_ret
  all_goals exact ⟨rfl, 1, rfl⟩
theorem lenI_nil (w : World) : Calls Tryd.prog 11 #[.pointer none] w fun x w' => x = .returned (.int .i64 0) ∧ w' = w := by
  go_enter Tryd.func11, Tryd.ntmps11
  go_wp2_with fail
  go_ret
  exact ⟨rfl, rfl⟩
theorem lenI {pb mb : Nat} {N Q : Int} {M : Int → Option Int} (w : World) (h : IsP 57 (Value.int .i64) RI w pb mb N Q M) : Calls Tryd.prog 11 #[.pointer (some ⟨pb, 0, none⟩)] w fun x w' => x = .returned (.int .i64 (cntM M N.toNat : Int)) ∧ w' = w := by
  have c2 := cell_blk h.blk 2 (v := .map (some mb)) rfl
  have l2 : ∀ ty, (Builtin.len_ #[55] ty #[.map (some mb)]).run Tryd.prog w = .ok (.int .i64 (cntM M N.toNat : Int)) w := fun ty => TM.len intsK h.tm ty
  clear h
  go_enter Tryd.func11, Tryd.ntmps11
  go_wp2_with fail
  go_ret
  exact ⟨rfl, rfl⟩
end Go.Proofs.YteokeifkkhchmaaDoor
