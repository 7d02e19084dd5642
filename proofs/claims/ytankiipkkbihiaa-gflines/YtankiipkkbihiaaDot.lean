import Derived.Test.YtankiipkkbihiaaAppend
namespace Go.Proofs.Ytankiipkkbihiaa
open Go.RowKit

namespace Gf
/-- The sum of the first k products. -/
def dot (P : Nat) (f h : Nat → Nat) : Nat → Nat
  | 0 => 0
  | k + 1 => dot P f h k ^^^ mul P (f k) (h k)
theorem dot_lt {P : Nat} (g : Good P) (f h : Nat → Nat) : ∀ k, dot P f h k < 256
  | 0 => by show 0 < 256; omega
  | k + 1 => xor_lt _ _ (dot_lt g f h k) (g.mul_lt _ _)
theorem dot_add {P : Nat} (g : Good P) (c : Nat) (f h e : Nat → Nat) (hf : ∀ i, f i < 256) : ∀ k, (∀ i, i < k → e i = f i ^^^ mul P c (h i)) → dot P e h k = dot P f h k ^^^ mul P c (dot P h h k)
  | 0, _ => by show 0 = 0 ^^^ mul P c 0; rw [mul_zero]; rfl
  | k + 1, he => by
    show dot P e h k ^^^ mul P (e k) (h k) = (dot P f h k ^^^ mul P (f k) (h k)) ^^^ mul P c (dot P h h k ^^^ mul P (h k) (h k))
    have lx : mul P c (h k) < 256 := g.mul_lt _ _
    rw [dot_add g c f h e hf k (fun i hi => he i (by omega)), he k (by omega), mul_comm P (f k ^^^ mul P c (h k)) (h k), g.mul_xor (h k) _ _ (hf k) lx, g.mul_xor c _ _ (dot_lt g h h k) (g.mul_lt _ _),
      mul_comm P (h k) (f k), mul_comm P (h k) (mul P c (h k)), g.mul_assoc c (h k) (h k)]
    ac_rfl
theorem dot_congr (P : Nat) (f f' h h' : Nat → Nat) : ∀ k, (∀ i, i < k → f i = f' i ∧ h i = h' i) → dot P f h k = dot P f' h' k
  | 0, _ => rfl
  | k + 1, e => by
    show dot P f h k ^^^ mul P (f k) (h k) = dot P f' h' k ^^^ mul P (f' k) (h' k)
    rw [dot_congr P f f' h h' k (fun i hi => e i (by omega)), (e k (by omega)).1, (e k (by omega)).2]
end Gf

set_option maxRecDepth 100000 in
set_option maxHeartbeats 800000 in
theorem dot_some (P B b1 o1 cap1 b2 o2 cap2 n : Nat) (f1 f2 : Nat → Nat) (w : World) (g : Gf.Good P) (f : IsF P B w) (l1 : ∀ i, f1 i < 256) (l2 : ∀ i, f2 i < 256) (hm : n ≤ maxLen)
    (c1 : ∀ i, i < n → w.cell? ⟨b1, o1 + i, none⟩ = some (.int .u8 ((f1 i : Nat) : Int))) (c2 : ∀ i, i < n → w.cell? ⟨b2, o2 + i, none⟩ = some (.int .u8 ((f2 i : Nat) : Int))) :
    Calls Try.prog 11 #[.pointer (some ⟨B, 0, none⟩), .slice (some ⟨b1, o1, none⟩) n cap1, .slice (some ⟨b2, o2, none⟩) n cap2] w fun e w' => e = .returned (.tuple #[.int .u8 ((Gf.dot P f1 f2 n : Nat) : Int), .int .i64 0]) ∧ Qt w w' := by
  unfold maxLen at hm
  have C1 : Hid (∀ i, i < n → w.cell? ⟨b1, o1 + i, none⟩ = some (.int .u8 ((f1 i : Nat) : Int))) := c1
  have C2 : Hid (∀ i, i < n → w.cell? ⟨b2, o2 + i, none⟩ = some (.int .u8 ((f2 i : Nat) : Int))) := c2
  have L1 : Hid (∀ i, f1 i < 256) := l1
  have L2 : Hid (∀ i, f2 i < 256) := l2
  clear c1 c2 l1 l2
  go_enter Try.func11, Try.ntmps11
  go_wp2
  go_loopw [8, 19] (fun s i wr => ∃ k : Nat, k ≤ n ∧ i = .int .i64 k ∧ s = .int .u8 ((Gf.dot P f1 f2 k : Nat) : Int) ∧ Qt w wr) (fun _ i _ => n - (intOf i).toNat)
  case atStart => exact ⟨0, by omega, rfl, rfl, Qt.refl _⟩
  case round =>
    obtain ⟨k, hk, rfl, rfl, q⟩ := hrel
    by_cases hlt : k < n
    · have d1 : wr.cell? ⟨b1, o1 + k, none⟩ = some (.int .u8 ((f1 k : Nat) : Int)) := by rw [q.cell]; exact C1.out k hlt
      have d2 : wr.cell? ⟨b2, o2 + k, none⟩ = some (.int .u8 ((f2 k : Nat) : Int)) := by rw [q.cell]; exact C2.out k hlt
      have fr := q.isF f
      have lx := L1.out k
      have ly := L2.out k
      have ls := Gf.dot_lt g f1 f2 k
      have V : Hid (Gf.dot P f1 f2 (k + 1) = Gf.dot P f1 f2 k ^^^ Gf.mul P (f1 k) (f2 k)) := rfl
      generalize f1 k = x at *
      generalize f2 k = y at *
      generalize Gf.dot P f1 f2 k = s at *
      obtain ⟨m, hm'⟩ : ∃ m, Gf.mul P x y = m := ⟨_, rfl⟩
      rw [hm'] at V
      have lm : m < 256 := hm' ▸ g.mul_lt x y
      have M : Hid (∀ n, Calls Try.prog 10 #[.pointer (some ⟨B, 0, none⟩), .int .u8 (x : Int), .int .u8 (y : Int)] (wr.drewN n) fun e w' => e = .returned (.int .u8 (m : Int)) ∧ ∃ q, w' = (wr.drewN n).drewN q) := fun n =>
        mul_n P B x y m (wr.drewN n) g (Qt.isF (Qt.drewN wr n) fr) lx ly hm'
      have A : Hid (∀ n, Calls Try.prog 8 #[.int .u8 (s : Int), .int .u8 (m : Int)] (wr.drewN n) fun e w' => e = .returned (.int .u8 ((s ^^^ m : Nat) : Int)) ∧ w' = wr.drewN n) := fun n => add_any s m (wr.drewN n) ls lm
      clear hm'
      go_wp2
      go_quiet (first | (go_at_call 10; exact Calls.quiet_of (M.out _)) | (go_at_call 8; exact Calls.quiet_of_same (A.out _)) | fail)
      go_wp2
      go_roundw
      case rel => exact ⟨k + 1, by omega, by go_num, by rw [V.out], q.trans (Qt.drewN _ _)⟩
      case measure => simp [intOf]; omega
    · have hk' : n = k := by omega
      subst hk'
      go_wp2
      go_ret2
      exact ⟨rfl, q⟩

set_option maxHeartbeats 400000 in
theorem dot_none (B cap1 cap2 : Nat) (a1 a2 : Option Addr) (w : World) :
    Calls Try.prog 11 #[.pointer (some ⟨B, 0, none⟩), .slice a1 0 cap1, .slice a2 0 cap2] w fun e w' => e = .returned (.tuple #[.int .u8 ((0 : Nat) : Int), .int .i64 0]) ∧ Qt w w' := by
  go_enter Try.func11, Try.ntmps11
  go_wp2
  refine wp_loop_rounds 1 ?_
  rw [rounds_succ]
  go_wp2
  go_ret2
  exact ⟨rfl, Qt.refl _⟩

theorem dot_any (P B n cap1 cap2 v : Nat) (a1 a2 : Option Addr) (l1 l2 : List Nat) (w : World) (g : Gf.Good P) (f : IsF P B w) (r1 : Reads w a1 n cap1 l1) (r2 : Reads w a2 n cap2 l2) (hv : Gf.dot P (l1.getD · 0) (l2.getD · 0) n = v) :
    Calls Try.prog 11 #[.pointer (some ⟨B, 0, none⟩), .slice a1 n cap1, .slice a2 n cap2] w fun e w' => e = .returned (.tuple #[.int .u8 (v : Int), .int .i64 0]) ∧ Qt w w' := by
  subst hv
  by_cases h : 0 < n
  · obtain ⟨b1, o1, rfl, c1⟩ := r1.cells h
    obtain ⟨b2, o2, rfl, c2⟩ := r2.cells h
    exact dot_some P B b1 o1 cap1 b2 o2 cap2 n _ _ w g f (getD_lt l1 r1.bytes) (getD_lt l2 r2.bytes) (Nat.le_trans r1.room r1.small) c1 c2
  · have h0 : n = 0 := by omega
    subst h0
    exact dot_none B cap1 cap2 a1 a2 w
end Go.Proofs.Ytankiipkkbihiaa
