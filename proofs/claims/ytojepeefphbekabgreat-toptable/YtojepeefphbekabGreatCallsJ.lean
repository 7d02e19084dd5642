import Derived.Shelf.SlGeneric
import Derived.Shelf.SlSortCmp.WholeK
import Derived.Test.YtojepeefphbekabGreatProg
import Derived.Test.YtojepeefphbekabGreatChecked
import Derived.WalkKit
import Derived.WalkSpells
import Derived.WalkLawsBesides
import Derived.Deep.QuietTactic
import Derived.Deep.RegionHeld3
import Derived.Deep.LoopGhost
import Derived.BigQuiet
import Derived.Below
import Derived.Laws.Rows
import Derived.Laws.ResultCell
/-
  slices.SortFunc at lists of tags and of entries, laid at this dump.
-/
namespace Go.Proofs
open Go.Shelf
def Tryz.sortTag_ren : Go.Shelf.Ren := ⟨fun | 6 => 57 | 15 => 64 | 14 => 69 | 28 => 83 | 29 => 84 | 20 => 93 | 21 => 94 | 22 => 95 | 23 => 96 | 24 => 97 | 25 => 98 | 26 => 99 | 27 => 100 | 46 => 111 | 47 => 103 | 48 => 104 | 49 => 112 | 50 => 113 | 57 => 117 | n => n, fun | 22 => 79 | 24 => 31 | 25 => 85 | 3 => 3 | 39 => 111 | 0 => 0 | 53 => 130 | 55 => 132 | 4 => 4 | 46 => 122 | 45 => 121 | 50 => 127 | 5 => 5 | 9 => 9 | 66 => 143 | 70 => 147 | 76 => 154 | 77 => 155 | n => n, fun | n => n⟩
set_option maxRecDepth 100000 in
theorem Tryz.sortTag : Go.Proofs.SlLaysF0.n6 Tryz.prog Tryz.sortTag_ren := {
  mixed := by kernel_rfl
  f6 := ⟨Tryz.f57.name, by decide, Tryz.func57.trans (congrArg some (by kernel_rfl))⟩
  f14 := ⟨Tryz.f69.name, by decide, Tryz.func69.trans (congrArg some (by kernel_rfl))⟩
  f15 := Tryz.func64.trans (congrArg some (by kernel_rfl))
  f20 := ⟨Tryz.f93.name, by decide, Tryz.func93.trans (congrArg some (by kernel_rfl))⟩
  f21 := ⟨Tryz.f94.name, by decide, Tryz.func94.trans (congrArg some (by kernel_rfl))⟩
  f22 := ⟨Tryz.f95.name, by decide, Tryz.func95.trans (congrArg some (by kernel_rfl))⟩
  f23 := ⟨Tryz.f96.name, by decide, Tryz.func96.trans (congrArg some (by kernel_rfl))⟩
  f24 := ⟨Tryz.f97.name, by decide, Tryz.func97.trans (congrArg some (by kernel_rfl))⟩
  f25 := ⟨Tryz.f98.name, by decide, Tryz.func98.trans (congrArg some (by kernel_rfl))⟩
  f26 := ⟨Tryz.f99.name, by decide, Tryz.func99.trans (congrArg some (by kernel_rfl))⟩
  f27 := ⟨Tryz.f100.name, by decide, Tryz.func100.trans (congrArg some (by kernel_rfl))⟩
  f28 := Tryz.func83.trans (congrArg some (by kernel_rfl))
  f29 := Tryz.func84.trans (congrArg some (by kernel_rfl))
  f46 := ⟨Tryz.f111.name, by decide, Tryz.func111.trans (congrArg some (by kernel_rfl))⟩
  f47 := Tryz.func103.trans (congrArg some (by kernel_rfl))
  f48 := Tryz.func104.trans (congrArg some (by kernel_rfl))
  f49 := ⟨Tryz.f112.name, by decide, Tryz.func112.trans (congrArg some (by kernel_rfl))⟩
  f50 := ⟨Tryz.f113.name, by decide, Tryz.func113.trans (congrArg some (by kernel_rfl))⟩
  f57 := ⟨Tryz.f117.name, by decide, Tryz.func117.trans (congrArg some (by kernel_rfl))⟩
  t0 := Tryz.underlying0
  a0 := Tryz.isAgg0
  z0 := Tryz.sizeOf0
  v0 := Tryz.zeroValue0
  t3 := Tryz.underlying3
  a3 := Tryz.isAgg3
  z3 := Tryz.sizeOf3
  v3 := Tryz.zeroValue3
  t4 := Tryz.underlying4
  a4 := Tryz.isAgg4
  z4 := Tryz.sizeOf4
  v4 := Tryz.zeroValue4
  t5 := Tryz.underlying5
  a5 := Tryz.isAgg5
  z5 := Tryz.sizeOf5
  v5 := Tryz.zeroValue5
  t9 := Tryz.underlying9
  a9 := Tryz.isAgg9
  z9 := Tryz.sizeOf9
  v9 := Tryz.zeroValue9
  t22 := Tryz.underlying79
  a22 := Tryz.isAgg79
  z22 := Tryz.sizeOf79
  v22 := Tryz.zeroValue79
  t25 := Tryz.underlying85
  a25 := Tryz.isAgg85
  z25 := Tryz.sizeOf85
  v25 := Tryz.zeroValue85
  t39 := Tryz.underlying111
  a39 := Tryz.isAgg111
  z39 := Tryz.sizeOf111
  v39 := Tryz.zeroValue111
  t45 := Tryz.underlying121
  a45 := Tryz.isAgg121
  z45 := Tryz.sizeOf121
  v45 := Tryz.zeroValue121
  t46 := Tryz.underlying122
  a46 := Tryz.isAgg122
  z46 := Tryz.sizeOf122
  v46 := Tryz.zeroValue122
  t50 := Tryz.underlying127
  a50 := Tryz.isAgg127
  z50 := Tryz.sizeOf127
  v50 := Tryz.zeroValue127
  t53 := Tryz.underlying130
  a53 := Tryz.isAgg130
  z53 := Tryz.sizeOf130
  v53 := Tryz.zeroValue130
  t55 := Tryz.underlying132
  a55 := Tryz.isAgg132
  z55 := Tryz.sizeOf132
  v55 := Tryz.zeroValue132
  t66 := Tryz.underlying143
  a66 := Tryz.isAgg143
  z66 := Tryz.sizeOf143
  v66 := Tryz.zeroValue143
  t70 := Tryz.underlying147
  a70 := Tryz.isAgg147
  z70 := Tryz.sizeOf147
  v70 := Tryz.zeroValue147
  t76 := Tryz.underlying154
  a76 := Tryz.isAgg154
  z76 := Tryz.sizeOf154
  v76 := Tryz.zeroValue154
  t77 := Tryz.underlying155
  a77 := Tryz.isAgg155
  z77 := Tryz.sizeOf155
  v77 := Tryz.zeroValue155 }
def Tryz.sortEnt_ren : Go.Shelf.Ren := ⟨fun | 6 => 50 | 15 => 64 | 14 => 65 | 28 => 83 | 29 => 84 | 20 => 85 | 21 => 86 | 22 => 87 | 23 => 88 | 24 => 89 | 25 => 90 | 26 => 91 | 27 => 92 | 46 => 108 | 47 => 103 | 48 => 104 | 49 => 109 | 50 => 110 | 57 => 116 | n => n, fun | 22 => 48 | 24 => 34 | 25 => 98 | 3 => 3 | 39 => 111 | 0 => 0 | 53 => 130 | 55 => 132 | 4 => 4 | 46 => 122 | 45 => 121 | 50 => 127 | 5 => 5 | 9 => 9 | 66 => 143 | 70 => 147 | 76 => 154 | 77 => 155 | n => n, fun | n => n⟩
set_option maxRecDepth 100000 in
theorem Tryz.sortEnt : Go.Proofs.SlLaysF0.n6 Tryz.prog Tryz.sortEnt_ren := {
  mixed := by kernel_rfl
  f6 := ⟨Tryz.f50.name, by decide, Tryz.func50.trans (congrArg some (by kernel_rfl))⟩
  f14 := ⟨Tryz.f65.name, by decide, Tryz.func65.trans (congrArg some (by kernel_rfl))⟩
  f15 := Tryz.func64.trans (congrArg some (by kernel_rfl))
  f20 := ⟨Tryz.f85.name, by decide, Tryz.func85.trans (congrArg some (by kernel_rfl))⟩
  f21 := ⟨Tryz.f86.name, by decide, Tryz.func86.trans (congrArg some (by kernel_rfl))⟩
  f22 := ⟨Tryz.f87.name, by decide, Tryz.func87.trans (congrArg some (by kernel_rfl))⟩
  f23 := ⟨Tryz.f88.name, by decide, Tryz.func88.trans (congrArg some (by kernel_rfl))⟩
  f24 := ⟨Tryz.f89.name, by decide, Tryz.func89.trans (congrArg some (by kernel_rfl))⟩
  f25 := ⟨Tryz.f90.name, by decide, Tryz.func90.trans (congrArg some (by kernel_rfl))⟩
  f26 := ⟨Tryz.f91.name, by decide, Tryz.func91.trans (congrArg some (by kernel_rfl))⟩
  f27 := ⟨Tryz.f92.name, by decide, Tryz.func92.trans (congrArg some (by kernel_rfl))⟩
  f28 := Tryz.func83.trans (congrArg some (by kernel_rfl))
  f29 := Tryz.func84.trans (congrArg some (by kernel_rfl))
  f46 := ⟨Tryz.f108.name, by decide, Tryz.func108.trans (congrArg some (by kernel_rfl))⟩
  f47 := Tryz.func103.trans (congrArg some (by kernel_rfl))
  f48 := Tryz.func104.trans (congrArg some (by kernel_rfl))
  f49 := ⟨Tryz.f109.name, by decide, Tryz.func109.trans (congrArg some (by kernel_rfl))⟩
  f50 := ⟨Tryz.f110.name, by decide, Tryz.func110.trans (congrArg some (by kernel_rfl))⟩
  f57 := ⟨Tryz.f116.name, by decide, Tryz.func116.trans (congrArg some (by kernel_rfl))⟩
  t0 := Tryz.underlying0
  a0 := Tryz.isAgg0
  z0 := Tryz.sizeOf0
  v0 := Tryz.zeroValue0
  t3 := Tryz.underlying3
  a3 := Tryz.isAgg3
  z3 := Tryz.sizeOf3
  v3 := Tryz.zeroValue3
  t4 := Tryz.underlying4
  a4 := Tryz.isAgg4
  z4 := Tryz.sizeOf4
  v4 := Tryz.zeroValue4
  t5 := Tryz.underlying5
  a5 := Tryz.isAgg5
  z5 := Tryz.sizeOf5
  v5 := Tryz.zeroValue5
  t9 := Tryz.underlying9
  a9 := Tryz.isAgg9
  z9 := Tryz.sizeOf9
  v9 := Tryz.zeroValue9
  t22 := Tryz.underlying48
  a22 := Tryz.isAgg48
  z22 := Tryz.sizeOf48
  v22 := Tryz.zeroValue48
  t25 := Tryz.underlying98
  a25 := Tryz.isAgg98
  z25 := Tryz.sizeOf98
  v25 := Tryz.zeroValue98
  t39 := Tryz.underlying111
  a39 := Tryz.isAgg111
  z39 := Tryz.sizeOf111
  v39 := Tryz.zeroValue111
  t45 := Tryz.underlying121
  a45 := Tryz.isAgg121
  z45 := Tryz.sizeOf121
  v45 := Tryz.zeroValue121
  t46 := Tryz.underlying122
  a46 := Tryz.isAgg122
  z46 := Tryz.sizeOf122
  v46 := Tryz.zeroValue122
  t50 := Tryz.underlying127
  a50 := Tryz.isAgg127
  z50 := Tryz.sizeOf127
  v50 := Tryz.zeroValue127
  t53 := Tryz.underlying130
  a53 := Tryz.isAgg130
  z53 := Tryz.sizeOf130
  v53 := Tryz.zeroValue130
  t55 := Tryz.underlying132
  a55 := Tryz.isAgg132
  z55 := Tryz.sizeOf132
  v55 := Tryz.zeroValue132
  t66 := Tryz.underlying143
  a66 := Tryz.isAgg143
  z66 := Tryz.sizeOf143
  v66 := Tryz.zeroValue143
  t70 := Tryz.underlying147
  a70 := Tryz.isAgg147
  z70 := Tryz.sizeOf147
  v70 := Tryz.zeroValue147
  t76 := Tryz.underlying154
  a76 := Tryz.isAgg154
  z76 := Tryz.sizeOf154
  v76 := Tryz.zeroValue154
  t77 := Tryz.underlying155
  a77 := Tryz.isAgg155
  z77 := Tryz.sizeOf155
  v77 := Tryz.zeroValue155 }
end Go.Proofs

namespace Go.Proofs.YtojepeefphbekabGreat
open Go.RowKit

/-- How two numbers are ordered. -/
def icmp (a b : Int) : Int := if a < b then -1 else if b < a then 1 else 0
/-- How two tags are ordered. -/
def orI (a b : Int) : Int := if a = 0 then b else a
def tcmp (a b c d : Int) : Int := orI (icmp a c) (icmp b d)

theorem cmp64 (a b : Int) (w : World) : Calls Tryz.prog 54 #[.int .i64 a, .int .i64 b] w fun x w' => x = .returned (.int .i64 (icmp a b)) ∧ w' = w := by
  unfold icmp
  go_enter Tryz.func54, Tryz.ntmps54
  by_cases h : a < b
  · go_wp2_with (go_in)
    go_ret
    exact ⟨by simp, rfl⟩
  · by_cases h2 : b < a
    · go_wp2_with (go_in)
      go_ret
      exact ⟨by simp, rfl⟩
    · go_wp2_with (go_in)
      go_ret
      exact ⟨by simp, rfl⟩
theorem cmpInt (a b : Int) (w : World) : Calls Tryz.prog 55 #[.int .i64 a, .int .i64 b] w fun x w' => x = .returned (.int .i64 (icmp a b)) ∧ w' = w := by
  unfold icmp
  go_enter Tryz.func55, Tryz.ntmps55
  by_cases h : a < b
  · go_wp2_with (go_in)
    go_ret
    exact ⟨by simp, rfl⟩
  · by_cases h2 : b < a
    · go_wp2_with (go_in)
      go_ret
      exact ⟨by simp, rfl⟩
    · go_wp2_with (go_in)
      go_ret
      exact ⟨by simp, rfl⟩
theorem or2 (a b : Int) (B cap : Nat) (w : World) (h0 : w.cell? ⟨B, 0, none⟩ = some (.int .i64 a)) (h1 : w.cell? ⟨B, 1, none⟩ = some (.int .i64 b)) :
    Calls Tryz.prog 53 #[.slice (some ⟨B, 0, none⟩) 2 cap] w fun x w' => x = .returned (.int .i64 (orI a b)) ∧ w' = w := by
  unfold orI
  go_enter Tryz.func53, Tryz.ntmps53
  go_wp2_with fail
  go_loop [5, 8] (fun _ x => (x = .int .i64 0) ∨ (x = .int .i64 1 ∧ a = 0) ∨ (x = .int .i64 2 ∧ a = 0 ∧ b = 0)) (fun _ x => 2 - (intOf x).toNat)
  case atStart => exact .inl rfl
  case round =>
    rcases hrel with rfl | ⟨rfl, rfl⟩ | ⟨rfl, rfl, rfl⟩
    · by_cases h : a = 0
      · subst h
        go_wp2_with fail
        go_round
        case rel => simp
        case measure => simp [intOf]
      · go_wp2_with fail
        go_ret
        exact ⟨by simp, rfl⟩
    · by_cases h : b = 0
      · subst h
        go_wp2_with fail
        go_round
        case rel => simp
        case measure => simp [intOf]
      · go_wp2_with fail
        go_ret
        exact ⟨by simp, rfl⟩
    · go_wp2_with fail
      go_ret
      exact ⟨by simp, rfl⟩
/-- A tag that lies in a block of its own. -/
structure TagAt (w : World) (b : Nat) (x y : Int) : Prop where
  blk : w.heap[b]? = some (.cells #[.int .i64 x, .int .i64 y] 31 (0, 0))
theorem heap_set {w : World} {B : Nat} {cs : Array Value} {t : TypeId} {fr : Nat × Nat} (h : w.heap[B]? = some (.cells cs t fr)) (i : Nat) (u : Value) : (w.setCell ⟨B, i, none⟩ u).heap[B]? = some (.cells (cs.setIfInBounds i u) t fr) := by
  simp only [World.setCell, Array.getElem?_modify]
  rw [h]; rfl
theorem TagAt.lt {w : World} {b : Nat} {x y : Int} (h : TagAt w b x y) : b < w.heap.size := (Array.getElem?_eq_some_iff.1 h.blk).1
theorem TagAt.new (w : World) (x y : Int) : TagAt (w.alloc (.cells #[.int .i64 x, .int .i64 y] 31)) w.heap.size x y := ⟨heap_alloc_new w _⟩
theorem TagAt.alloc {w : World} {b : Nat} {x y : Int} (h : TagAt w b x y) (o : Obj) : TagAt (w.alloc o) b x y := ⟨(Below.heap_alloc w o b h.lt).trans h.blk⟩
theorem TagAt.below {w w' : World} {b N : Nat} {x y : Int} (h : TagAt w b x y) (B : Below N w w') (hN : b < N) : TagAt w' b x y := ⟨(B.block b hN).trans h.blk⟩
theorem TagAt.by {w w' : World} {b : Nat} {x y : Int} (h : TagAt w b x y) (B : Below w.heap.size w w') : TagAt w' b x y := h.below B h.lt
theorem TagAt.drew {w : World} {b : Nat} {x y : Int} (h : TagAt w b x y) : TagAt w.drew b x y := ⟨h.blk⟩
theorem TagAt.drewN {w : World} {b : Nat} {x y : Int} (h : TagAt w b x y) (n : Nat) : TagAt (w.drewN n) b x y := ⟨h.blk⟩
theorem TagAt.set0 {w : World} {b : Nat} {x y : Int} (h : TagAt w b x y) (p : Int) : TagAt (w.setCell ⟨b, 0, none⟩ (.int .i64 p)) b p y := ⟨heap_set h.blk 0 _⟩
theorem TagAt.set1 {w : World} {b : Nat} {x y : Int} (h : TagAt w b x y) (q : Int) : TagAt (w.setCell ⟨b, 1, none⟩ (.int .i64 q)) b x q := ⟨heap_set h.blk 1 _⟩
theorem TagAt.other {w : World} {b : Nat} {x y : Int} (h : TagAt w b x y) {k i : Nat} (u : Value) (hk : b ≠ k) : TagAt (w.setCell ⟨k, i, none⟩ u) b x y := ⟨(Below.heap_setCell w ⟨k, i, none⟩ u b hk).trans h.blk⟩
theorem TagAt.facts {w : World} {b : Nat} {x y : Int} (h : TagAt w b x y) : w.cell? ⟨b, 0, none⟩ = some (.int .i64 x) ∧ w.cell? ⟨b, 1, none⟩ = some (.int .i64 y) ∧ w.frozen? ⟨b, 0, none⟩ = false ∧ w.frozen? ⟨b, 1, none⟩ = false := by
  refine ⟨?_, ?_, ?_, ?_⟩
  · rw [cell_of_row w b 0 _ 31 (0, 0) h.blk]; rfl
  · rw [cell_of_row w b 1 _ 31 (0, 0) h.blk]; rfl
  · simp [World.frozen?, h.blk]
  · simp [World.frozen?, h.blk]
theorem compare (a b c d : Int) (w : World) : Calls Tryz.prog 39 #[.agg #[.int .i64 a, .int .i64 b], .agg #[.int .i64 c, .int .i64 d]] w fun x w' => x = .returned (.int .i64 (tcmp a b c d)) ∧ Below w.heap.size w w' := by
  unfold tcmp
  have B1 : Hid (Below w.heap.size w ((w.alloc (Obj.cells #[.int .i64 a, .int .i64 b] 31)).alloc (Obj.cells #[.int .i64 c, .int .i64 d] 31))) := ((Below.refl _ _).alloc (Nat.le_refl _) _).alloc (by simp) _
  go_enter Tryz.func39, Tryz.ntmps39
  go_wp2_with fail
  have g0 : ((w.alloc (Obj.cells #[.int .i64 a, .int .i64 b] 31)).alloc (Obj.cells #[.int .i64 c, .int .i64 d] 31)).cell? ⟨w.heap.size, 0, none⟩ = some (.int .i64 a) := by simp
  have g1 : ((w.alloc (Obj.cells #[.int .i64 a, .int .i64 b] 31)).alloc (Obj.cells #[.int .i64 c, .int .i64 d] 31)).cell? ⟨w.heap.size, 1, none⟩ = some (.int .i64 b) := by simp
  have g2 : ((w.alloc (Obj.cells #[.int .i64 a, .int .i64 b] 31)).alloc (Obj.cells #[.int .i64 c, .int .i64 d] 31)).cell? ⟨w.heap.size + 1, 0, none⟩ = some (.int .i64 c) := by simp
  have g3 : ((w.alloc (Obj.cells #[.int .i64 a, .int .i64 b] 31)).alloc (Obj.cells #[.int .i64 c, .int .i64 d] 31)).cell? ⟨w.heap.size + 1, 1, none⟩ = some (.int .i64 d) := by simp
  have sz : ((w.alloc (Obj.cells #[.int .i64 a, .int .i64 b] 31)).alloc (Obj.cells #[.int .i64 c, .int .i64 d] 31)).heap.size = w.heap.size + 2 := by simp
  generalize (w.alloc (Obj.cells #[.int .i64 a, .int .i64 b] 31)).alloc (Obj.cells #[.int .i64 c, .int .i64 d] 31) = w1 at g0 g1 g2 g3 sz B1 ⊢
  go_region_held3 (fun w' => w'.cell? ⟨w.heap.size, 0, none⟩ = some (.int .i64 a) ∧ w'.cell? ⟨w.heap.size, 1, none⟩ = some (.int .i64 b) ∧ w'.cell? ⟨w.heap.size + 1, 0, none⟩ = some (.int .i64 c) ∧ w'.cell? ⟨w.heap.size + 1, 1, none⟩ = some (.int .i64 d))
    (go_keep) (first | (go_at_call 54; refine (cmp64 _ _ _).mono ?_; rintro x w2 ⟨rfl, rfl⟩) | (go_at_call 55; refine (cmpInt _ _ _).mono ?_; rintro x w2 ⟨rfl, rfl⟩) | (go_at_call 53; refine (or2 (icmp a c) (icmp b d) _ _ _ (by rw [← sz]; simp) (by rw [← sz]; simp)).mono ?_; rintro x w2 ⟨rfl, rfl⟩) | fail)
  go_wp2_with fail
  go_ret
  exact ⟨rfl, (B1.out.alloc (by omega) _).drew⟩
/-- May a tag be, and is it not the initial one? -/
def isProper (a b : Int) : Bool := decide (1 ≤ a ∧ a ≤ 4611686018427387903 ∧ 1 ≤ b ∧ b ≤ 65535)
def isZero (a b : Int) : Bool := decide (a = 0 ∧ b = 0)
def isClientB (n : Int) : Bool := decide (1 ≤ n ∧ n ≤ 65535)
theorem isClient (n : Int) (w : World) : Calls Tryz.prog 66 #[.int .i64 n] w fun x w' => x = .returned (.bool (isClientB n)) ∧ w' = w := by
  unfold isClientB
  go_enter Tryz.func66, Tryz.ntmps66
  by_cases h : 1 ≤ n
  · by_cases h2 : n ≤ 65535
    · go_wp2_with fail
      go_ret
      exact ⟨by simp [h, h2], rfl⟩
    · go_wp2_with fail
      go_ret
      exact ⟨by simp [h2], rfl⟩
  · go_wp2_with fail
    go_ret
    exact ⟨by simp; omega, rfl⟩
theorem zero (a b : Int) (w : World) : Calls Tryz.prog 37 #[.agg #[.int .i64 a, .int .i64 b]] w fun x w' => x = .returned (.bool (isZero a b)) ∧ Below w.heap.size w w' := by
  unfold isZero
  go_enter Tryz.func37, Tryz.ntmps37
  by_cases h : a = 0
  · by_cases h2 : b = 0
    · go_wp2_with fail
      go_ret
      exact ⟨by simp [h, h2], (Below.refl _ _).alloc (Nat.le_refl _) _⟩
    · go_wp2_with fail
      go_ret
      exact ⟨by simp [h, h2], (Below.refl _ _).alloc (Nat.le_refl _) _⟩
  · go_wp2_with fail
    go_ret
    exact ⟨by simp [h], (Below.refl _ _).alloc (Nat.le_refl _) _⟩
theorem proper (a b : Int) (w : World) : Calls Tryz.prog 52 #[.agg #[.int .i64 a, .int .i64 b]] w fun x w' => x = .returned (.bool (isProper a b)) ∧ Below w.heap.size w w' := by
  have bel := (Below.refl w.heap.size w).alloc (Nat.le_refl _) (Obj.cells #[.int .i64 a, .int .i64 b] 31)
  have BH : Hid (Below w.heap.size w (w.alloc (Obj.cells #[.int .i64 a, .int .i64 b] 31))) := bel
  clear bel
  unfold isProper
  go_enter Tryz.func52, Tryz.ntmps52
  by_cases h : 1 ≤ a
  · by_cases h2 : a ≤ 4611686018427387903
    · go_wp2_with (first | (go_at_call 66; refine (isClient _ _).mono ?_; rintro x w1 ⟨rfl, rfl⟩) | fail)
      go_ret
      exact ⟨by simp [isClientB, h, h2], BH.out⟩
    · go_wp2_with fail
      go_ret
      exact ⟨by simp; omega, BH.out⟩
  · go_wp2_with fail
    go_ret
    exact ⟨by simp; omega, BH.out⟩
theorem valid (a b : Int) (w : World) : Calls Tryz.prog 36 #[.agg #[.int .i64 a, .int .i64 b]] w fun x w' => x = .returned (.bool (isZero a b || isProper a b)) ∧ Below w.heap.size w w' := by
  have B0 : Hid (Below w.heap.size w (w.alloc (Obj.cells #[.int .i64 a, .int .i64 b] 31))) := (Below.refl w.heap.size w).alloc (Nat.le_refl _) _
  go_enter Tryz.func36, Tryz.ntmps36
  go_wp2_with fail
  refine (zero a b _).mono ?_
  rintro x w1 ⟨rfl, B1'⟩
  have B1 : Hid (Below _ _ _) := B1'
  clear B1'
  have c0 : w1.cell? ⟨w.heap.size, 0, none⟩ = some (.int .i64 a) := (B1.out.cell (by simp)).trans (by simp)
  have c1 : w1.cell? ⟨w.heap.size, 1, none⟩ = some (.int .i64 b) := (B1.out.cell (by simp)).trans (by simp)
  have B1 : Hid (Below w.heap.size w w1) := B0.out.trans (B1.out.mono (by simp))
  cases h : isZero a b
  · go_wp2_with fail
    refine (proper a b _).mono ?_
    rintro x w2 ⟨rfl, B2⟩
    have B2 : Hid (Below w.heap.size w w2) := B1.out.trans (B2.mono B1.out.size)
    go_wp2_with fail
    go_ret
    exact ⟨by simp [h], B2.out⟩
  · go_wp2_with fail
    go_ret
    exact ⟨by simp [h], B1.out⟩

/-- The counter that Next tries first, and the one that it takes. -/
def nextFirst (a u : Int) : Int := if a ≤ u + 1 then u + 1 else a
def nextCount (a b u k : Int) : Int := if tcmp (nextFirst a u) k a b ≤ 0 then nextFirst a u + 1 else nextFirst a u
def nextT (a b u k : Int) : Int × Int × Int :=
  if (isZero a b || isProper a b) = false then (0, 0, 22)
  else if u < 0 ∨ 4611686018427387903 < u ∨ isClientB k = false then (0, 0, 1)
  else if 4611686018427387903 < nextCount a b u k then (0, 0, 48)
  else (nextCount a b u k, k, 0)
theorem Tryz.info31 : (Tryz.prog.info? 31).map (·.size) = some 2 := by kernel_rfl
theorem results_tag {fn : Func} {p : Tmp} (h : fn.results = #[.cell p 31]) (tmps : Array Value) (w : World) (b : Nat) (x y : Int) (hp : tmps.getD p undef = .pointer (some ⟨b, 0, none⟩)) (T : TagAt w b x y) :
    (results fn tmps).run Tryz.prog w = .ok (.agg #[.int .i64 x, .int .i64 y]) w :=
  results_cell_row h tmps w b 31 _ (0, 0) _ hp T.blk Tryz.underlying31 rfl Tryz.info31
theorem results_tag_tmp {fn : Func} {p u : Tmp} (h : fn.results = #[.cell p 31, .tmp u]) (tmps : Array Value) (w : World) (b : Nat) (x y : Int) (hp : tmps.getD p undef = .pointer (some ⟨b, 0, none⟩)) (T : TagAt w b x y) :
    (results fn tmps).run Tryz.prog w = .ok (.tuple #[.agg #[.int .i64 x, .int .i64 y], tmps.getD u undef]) w := by
  rw [results_cell_tmp h, hp]
  simp [asAddr, run_loadVar_row w b 31 31 _ (0, 0) _ T.blk Tryz.underlying31 rfl Tryz.info31]
end Go.Proofs.YtojepeefphbekabGreat
