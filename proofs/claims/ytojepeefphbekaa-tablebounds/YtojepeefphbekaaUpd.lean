import Derived.Test.YtojepeefphbekaaAdd
namespace Go.Proofs.Ytojepeefphbekaa
open Go.RowKit

theorem k0_of {w w' : World} (B : Below w.heap.size w w') : Kept (fun _ => False) w w' := ⟨B.os, B.tape, B.output, B.size, fun k hk _ => B.block k hk⟩
theorem k0_alloc (w : World) (o : Obj) : Kept (fun _ => False) w (w.alloc o) := (Kept.refl _ w).alloc o
theorem Kept.and0 {S : Nat → Prop} {a b c : World} (h : Kept S a b) (k : Kept (fun _ => False) b c) : Kept S a c := h.trans k (fun _ _ z => z.elim)
/-- An update. -/
structure Upd where
  kind : Int
  key : ByteArray
  x : Int
  y : Int
  fin : Bool
  has : Bool
  a : Option Addr
  n : Nat
  c : Nat
def Upd.val (u : Upd) : Value := .agg #[.int .i64 u.kind, .string u.key, .int .i64 u.x, .int .i64 u.y, .bool u.fin, .bool u.has, .slice u.a u.n u.c]
def keyB (k : ByteArray) : Bool := decide (1 ≤ k.size ∧ k.size ≤ 64)
def Upd.fits (u : Upd) : Bool := if u.kind = 1 then !u.fin && !u.has else if u.kind = 2 then !u.fin && !u.has && ((u.n : Int) == 0) else if u.kind = 3 then u.has || (u.fin && ((u.n : Int) == 0)) else false
def Upd.brings (u : Upd) : Bool := decide (u.kind = 1) || u.has
def Upd.final (u : Upd) : Bool := decide (u.kind = 2) || u.fin
def Upd.may (u : Upd) : Bool := keyB u.key && (isZero u.x u.y || isProper u.x u.y) && !isZero u.x u.y && decide (u.n ≤ 65540) && u.fits
theorem isKey (k : ByteArray) (w : World) : Calls Try.prog 41 #[.string k] w fun x w' => x = .returned (.bool (keyB k)) ∧ w' = w := by
  unfold keyB
  go_enter Try.func41, Try.ntmps41
  by_cases h : (1 : Int) ≤ (k.size : Int)
  · by_cases h2 : (k.size : Int) ≤ 64
    · go_wp2_with fail
      go_ret
      exact ⟨by simp; omega, rfl⟩
    · go_wp2_with fail
      go_ret
      exact ⟨by simp; omega, rfl⟩
  · go_wp2_with fail
    go_ret
    exact ⟨by simp; omega, rfl⟩
theorem brings (u : Upd) (w : World) : Calls Try.prog 45 #[u.val] w fun x w' => x = .returned (.bool u.brings) ∧ Kept (fun _ => False) w w' := by
  obtain ⟨kd, key, x, y, fin, has, a, n, c⟩ := u
  unfold Upd.brings Upd.val
  dsimp only
  go_enter Try.func45, Try.ntmps45
  by_cases h : kd = 1
  · go_wp2_with fail
    go_ret
    exact ⟨by simp [h], k0_alloc _ _⟩
  · go_wp2_with fail
    go_ret
    exact ⟨by simp [h], k0_alloc _ _⟩
theorem finalizes (u : Upd) (w : World) : Calls Try.prog 46 #[u.val] w fun x w' => x = .returned (.bool u.final) ∧ Kept (fun _ => False) w w' := by
  obtain ⟨kd, key, x, y, fin, has, a, n, c⟩ := u
  unfold Upd.final Upd.val
  dsimp only
  go_enter Try.func46, Try.ntmps46
  by_cases h : kd = 2
  · go_wp2_with fail
    go_ret
    exact ⟨by simp [h], k0_alloc _ _⟩
  · go_wp2_with fail
    go_ret
    exact ⟨by simp [h], k0_alloc _ _⟩
theorem fits1 (key : ByteArray) (x y : Int) (fin has : Bool) (a : Option Addr) (n c : Nat) (w : World) : Calls Try.prog 44 #[.agg #[.int .i64 1, .string key, .int .i64 x, .int .i64 y, .bool fin, .bool has, .slice a n c]] w fun z w' => z = .returned (.bool (!fin && !has)) ∧ Kept (fun _ => False) w w' := by
  have KZ : Hid (∀ o1 o2, Kept (fun _ => False) w ((w.alloc o1).alloc o2)) := fun _ _ => ((Kept.refl _ w).alloc _).alloc _
  go_enter Try.func44, Try.ntmps44
  cases fin
  · go_wp2_with fail
    go_ret
    exact ⟨by simp, KZ.out _ _⟩
  · go_wp2_with fail
    go_ret
    exact ⟨by simp, KZ.out _ _⟩
theorem fits2 (key : ByteArray) (x y : Int) (fin has : Bool) (a : Option Addr) (n c : Nat) (w : World) : Calls Try.prog 44 #[.agg #[.int .i64 2, .string key, .int .i64 x, .int .i64 y, .bool fin, .bool has, .slice a n c]] w fun z w' => z = .returned (.bool (!fin && !has && ((n : Int) == 0))) ∧ Kept (fun _ => False) w w' := by
  have KZ : Hid (∀ o1 o2, Kept (fun _ => False) w ((w.alloc o1).alloc o2)) := fun _ _ => ((Kept.refl _ w).alloc _).alloc _
  go_enter Try.func44, Try.ntmps44
  cases fin
  · cases has
    · go_wp2_with fail
      go_ret
      exact ⟨by simp, KZ.out _ _⟩
    · go_wp2_with fail
      go_ret
      exact ⟨by simp, KZ.out _ _⟩
  · go_wp2_with fail
    go_ret
    exact ⟨by simp, KZ.out _ _⟩
theorem fits3 (key : ByteArray) (x y : Int) (fin has : Bool) (a : Option Addr) (n c : Nat) (w : World) : Calls Try.prog 44 #[.agg #[.int .i64 3, .string key, .int .i64 x, .int .i64 y, .bool fin, .bool has, .slice a n c]] w fun z w' => z = .returned (.bool (has || (fin && ((n : Int) == 0)))) ∧ Kept (fun _ => False) w w' := by
  have KZ : Hid (∀ o1 o2, Kept (fun _ => False) w ((w.alloc o1).alloc o2)) := fun _ _ => ((Kept.refl _ w).alloc _).alloc _
  go_enter Try.func44, Try.ntmps44
  cases has
  · cases fin
    · go_wp2_with fail
      go_ret
      exact ⟨by simp, KZ.out _ _⟩
    · go_wp2_with fail
      go_ret
      exact ⟨by simp, KZ.out _ _⟩
  · go_wp2_with fail
    go_ret
    exact ⟨by simp, KZ.out _ _⟩
theorem fits0 (kd : Int) (key : ByteArray) (x y : Int) (fin has : Bool) (a : Option Addr) (n c : Nat) (w : World) (h1 : ¬ kd = 1) (h2 : ¬ kd = 2) (h3 : ¬ kd = 3) : Calls Try.prog 44 #[.agg #[.int .i64 kd, .string key, .int .i64 x, .int .i64 y, .bool fin, .bool has, .slice a n c]] w fun z w' => z = .returned (.bool false) ∧ Kept (fun _ => False) w w' := by
  have KZ : Hid (∀ o1 o2, Kept (fun _ => False) w ((w.alloc o1).alloc o2)) := fun _ _ => ((Kept.refl _ w).alloc _).alloc _
  go_enter Try.func44, Try.ntmps44
  go_wp2_with fail
  go_ret
  exact ⟨by simp, KZ.out _ _⟩
theorem fitsKind (u : Upd) (w : World) : Calls Try.prog 44 #[u.val] w fun x w' => x = .returned (.bool u.fits) ∧ Kept (fun _ => False) w w' := by
  obtain ⟨kd, key, x, y, fin, has, a, n, c⟩ := u
  unfold Upd.fits Upd.val
  dsimp only
  by_cases h1 : kd = 1
  · rw [if_pos h1]
    subst h1
    exact fits1 key x y fin has a n c w
  · rw [if_neg h1]
    by_cases h2 : kd = 2
    · rw [if_pos h2]
      subst h2
      exact fits2 key x y fin has a n c w
    · rw [if_neg h2]
      by_cases h3 : kd = 3
      · rw [if_pos h3]
        subst h3
        exact fits3 key x y fin has a n c w
      · rw [if_neg h3]
        exact fits0 kd key x y fin has a n c w h1 h2 h3
end Go.Proofs.Ytojepeefphbekaa
