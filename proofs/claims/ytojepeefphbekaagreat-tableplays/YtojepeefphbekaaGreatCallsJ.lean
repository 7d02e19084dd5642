import Derived.Shelf.SlGeneric
import Derived.Shelf.SlSortCmp.WholeK
import Derived.Test.YtojepeefphbekaaGreatProg
import Derived.Test.YtojepeefphbekaaGreatChecked
import Derived.WalkKit
import Derived.WalkSpells
import Derived.WalkLawsBesides
import Derived.Deep.QuietTactic
import Derived.Deep.RegionHeld3
import Derived.Deep.LoopGhost
import Derived.BigQuiet
import Derived.Below
import Derived.Laws.Rows
import Derived.Laws.ResultCell
/-
  slices.SortFunc at lists of tags and of entries, laid at this dump.
-/
namespace Go.Proofs
open Go.Shelf
def Tryz.sortTag_ren : Go.Shelf.Ren := ⟨fun | 6 => 86 | 15 => 62 | 14 => 112 | 28 => 99 | 29 => 100 | 20 => 133 | 21 => 134 | 22 => 135 | 23 => 136 | 24 => 137 | 25 => 138 | 26 => 139 | 27 => 140 | 46 => 146 | 47 => 116 | 48 => 117 | 49 => 147 | 50 => 148 | 57 => 151 | n => n, fun | 22 => 117 | 24 => 37 | 25 => 124 | 3 => 3 | 39 => 122 | 0 => 0 | 53 => 155 | 55 => 157 | 4 => 4 | 46 => 147 | 45 => 146 | 50 => 152 | 5 => 5 | 9 => 9 | 66 => 169 | 70 => 173 | 76 => 188 | 77 => 189 | n => n, fun | n => n⟩
set_option maxRecDepth 100000 in
theorem Tryz.sortTag : Go.Proofs.SlLaysF0.n6 Tryz.prog Tryz.sortTag_ren := {
  mixed := by kernel_rfl
  f6 := ⟨Tryz.f86.name, by decide, Tryz.func86.trans (congrArg some (by kernel_rfl))⟩
  f14 := ⟨Tryz.f112.name, by decide, Tryz.func112.trans (congrArg some (by kernel_rfl))⟩
  f15 := Tryz.func62.trans (congrArg some (by kernel_rfl))
  f20 := ⟨Tryz.f133.name, by decide, Tryz.func133.trans (congrArg some (by kernel_rfl))⟩
  f21 := ⟨Tryz.f134.name, by decide, Tryz.func134.trans (congrArg some (by kernel_rfl))⟩
  f22 := ⟨Tryz.f135.name, by decide, Tryz.func135.trans (congrArg some (by kernel_rfl))⟩
  f23 := ⟨Tryz.f136.name, by decide, Tryz.func136.trans (congrArg some (by kernel_rfl))⟩
  f24 := ⟨Tryz.f137.name, by decide, Tryz.func137.trans (congrArg some (by kernel_rfl))⟩
  f25 := ⟨Tryz.f138.name, by decide, Tryz.func138.trans (congrArg some (by kernel_rfl))⟩
  f26 := ⟨Tryz.f139.name, by decide, Tryz.func139.trans (congrArg some (by kernel_rfl))⟩
  f27 := ⟨Tryz.f140.name, by decide, Tryz.func140.trans (congrArg some (by kernel_rfl))⟩
  f28 := Tryz.func99.trans (congrArg some (by kernel_rfl))
  f29 := Tryz.func100.trans (congrArg some (by kernel_rfl))
  f46 := ⟨Tryz.f146.name, by decide, Tryz.func146.trans (congrArg some (by kernel_rfl))⟩
  f47 := Tryz.func116.trans (congrArg some (by kernel_rfl))
  f48 := Tryz.func117.trans (congrArg some (by kernel_rfl))
  f49 := ⟨Tryz.f147.name, by decide, Tryz.func147.trans (congrArg some (by kernel_rfl))⟩
  f50 := ⟨Tryz.f148.name, by decide, Tryz.func148.trans (congrArg some (by kernel_rfl))⟩
  f57 := ⟨Tryz.f151.name, by decide, Tryz.func151.trans (congrArg some (by kernel_rfl))⟩
  t0 := Tryz.underlying0
  a0 := Tryz.isAgg0
  z0 := Tryz.sizeOf0
  v0 := Tryz.zeroValue0
  t3 := Tryz.underlying3
  a3 := Tryz.isAgg3
  z3 := Tryz.sizeOf3
  v3 := Tryz.zeroValue3
  t4 := Tryz.underlying4
  a4 := Tryz.isAgg4
  z4 := Tryz.sizeOf4
  v4 := Tryz.zeroValue4
  t5 := Tryz.underlying5
  a5 := Tryz.isAgg5
  z5 := Tryz.sizeOf5
  v5 := Tryz.zeroValue5
  t9 := Tryz.underlying9
  a9 := Tryz.isAgg9
  z9 := Tryz.sizeOf9
  v9 := Tryz.zeroValue9
  t22 := Tryz.underlying117
  a22 := Tryz.isAgg117
  z22 := Tryz.sizeOf117
  v22 := Tryz.zeroValue117
  t25 := Tryz.underlying124
  a25 := Tryz.isAgg124
  z25 := Tryz.sizeOf124
  v25 := Tryz.zeroValue124
  t39 := Tryz.underlying122
  a39 := Tryz.isAgg122
  z39 := Tryz.sizeOf122
  v39 := Tryz.zeroValue122
  t45 := Tryz.underlying146
  a45 := Tryz.isAgg146
  z45 := Tryz.sizeOf146
  v45 := Tryz.zeroValue146
  t46 := Tryz.underlying147
  a46 := Tryz.isAgg147
  z46 := Tryz.sizeOf147
  v46 := Tryz.zeroValue147
  t50 := Tryz.underlying152
  a50 := Tryz.isAgg152
  z50 := Tryz.sizeOf152
  v50 := Tryz.zeroValue152
  t53 := Tryz.underlying155
  a53 := Tryz.isAgg155
  z53 := Tryz.sizeOf155
  v53 := Tryz.zeroValue155
  t55 := Tryz.underlying157
  a55 := Tryz.isAgg157
  z55 := Tryz.sizeOf157
  v55 := Tryz.zeroValue157
  t66 := Tryz.underlying169
  a66 := Tryz.isAgg169
  z66 := Tryz.sizeOf169
  v66 := Tryz.zeroValue169
  t70 := Tryz.underlying173
  a70 := Tryz.isAgg173
  z70 := Tryz.sizeOf173
  v70 := Tryz.zeroValue173
  t76 := Tryz.underlying188
  a76 := Tryz.isAgg188
  z76 := Tryz.sizeOf188
  v76 := Tryz.zeroValue188
  t77 := Tryz.underlying189
  a77 := Tryz.isAgg189
  z77 := Tryz.sizeOf189
  v77 := Tryz.zeroValue189 }
def Tryz.sortEnt_ren : Go.Shelf.Ren := ⟨fun | 6 => 63 | 15 => 62 | 14 => 101 | 28 => 99 | 29 => 100 | 20 => 121 | 21 => 122 | 22 => 123 | 23 => 124 | 24 => 125 | 25 => 126 | 26 => 127 | 27 => 128 | 46 => 142 | 47 => 116 | 48 => 117 | 49 => 143 | 50 => 144 | 57 => 149 | n => n, fun | 22 => 33 | 24 => 40 | 25 => 125 | 3 => 3 | 39 => 122 | 0 => 0 | 53 => 155 | 55 => 157 | 4 => 4 | 46 => 147 | 45 => 146 | 50 => 152 | 5 => 5 | 9 => 9 | 66 => 169 | 70 => 173 | 76 => 188 | 77 => 189 | n => n, fun | n => n⟩
set_option maxRecDepth 100000 in
theorem Tryz.sortEnt : Go.Proofs.SlLaysF0.n6 Tryz.prog Tryz.sortEnt_ren := {
  mixed := by kernel_rfl
  f6 := ⟨Tryz.f63.name, by decide, Tryz.func63.trans (congrArg some (by kernel_rfl))⟩
  f14 := ⟨Tryz.f101.name, by decide, Tryz.func101.trans (congrArg some (by kernel_rfl))⟩
  f15 := Tryz.func62.trans (congrArg some (by kernel_rfl))
  f20 := ⟨Tryz.f121.name, by decide, Tryz.func121.trans (congrArg some (by kernel_rfl))⟩
  f21 := ⟨Tryz.f122.name, by decide, Tryz.func122.trans (congrArg some (by kernel_rfl))⟩
  f22 := ⟨Tryz.f123.name, by decide, Tryz.func123.trans (congrArg some (by kernel_rfl))⟩
  f23 := ⟨Tryz.f124.name, by decide, Tryz.func124.trans (congrArg some (by kernel_rfl))⟩
  f24 := ⟨Tryz.f125.name, by decide, Tryz.func125.trans (congrArg some (by kernel_rfl))⟩
  f25 := ⟨Tryz.f126.name, by decide, Tryz.func126.trans (congrArg some (by kernel_rfl))⟩
  f26 := ⟨Tryz.f127.name, by decide, Tryz.func127.trans (congrArg some (by kernel_rfl))⟩
  f27 := ⟨Tryz.f128.name, by decide, Tryz.func128.trans (congrArg some (by kernel_rfl))⟩
  f28 := Tryz.func99.trans (congrArg some (by kernel_rfl))
  f29 := Tryz.func100.trans (congrArg some (by kernel_rfl))
  f46 := ⟨Tryz.f142.name, by decide, Tryz.func142.trans (congrArg some (by kernel_rfl))⟩
  f47 := Tryz.func116.trans (congrArg some (by kernel_rfl))
  f48 := Tryz.func117.trans (congrArg some (by kernel_rfl))
  f49 := ⟨Tryz.f143.name, by decide, Tryz.func143.trans (congrArg some (by kernel_rfl))⟩
  f50 := ⟨Tryz.f144.name, by decide, Tryz.func144.trans (congrArg some (by kernel_rfl))⟩
  f57 := ⟨Tryz.f149.name, by decide, Tryz.func149.trans (congrArg some (by kernel_rfl))⟩
  t0 := Tryz.underlying0
  a0 := Tryz.isAgg0
  z0 := Tryz.sizeOf0
  v0 := Tryz.zeroValue0
  t3 := Tryz.underlying3
  a3 := Tryz.isAgg3
  z3 := Tryz.sizeOf3
  v3 := Tryz.zeroValue3
  t4 := Tryz.underlying4
  a4 := Tryz.isAgg4
  z4 := Tryz.sizeOf4
  v4 := Tryz.zeroValue4
  t5 := Tryz.underlying5
  a5 := Tryz.isAgg5
  z5 := Tryz.sizeOf5
  v5 := Tryz.zeroValue5
  t9 := Tryz.underlying9
  a9 := Tryz.isAgg9
  z9 := Tryz.sizeOf9
  v9 := Tryz.zeroValue9
  t22 := Tryz.underlying33
  a22 := Tryz.isAgg33
  z22 := Tryz.sizeOf33
  v22 := Tryz.zeroValue33
  t25 := Tryz.underlying125
  a25 := Tryz.isAgg125
  z25 := Tryz.sizeOf125
  v25 := Tryz.zeroValue125
  t39 := Tryz.underlying122
  a39 := Tryz.isAgg122
  z39 := Tryz.sizeOf122
  v39 := Tryz.zeroValue122
  t45 := Tryz.underlying146
  a45 := Tryz.isAgg146
  z45 := Tryz.sizeOf146
  v45 := Tryz.zeroValue146
  t46 := Tryz.underlying147
  a46 := Tryz.isAgg147
  z46 := Tryz.sizeOf147
  v46 := Tryz.zeroValue147
  t50 := Tryz.underlying152
  a50 := Tryz.isAgg152
  z50 := Tryz.sizeOf152
  v50 := Tryz.zeroValue152
  t53 := Tryz.underlying155
  a53 := Tryz.isAgg155
  z53 := Tryz.sizeOf155
  v53 := Tryz.zeroValue155
  t55 := Tryz.underlying157
  a55 := Tryz.isAgg157
  z55 := Tryz.sizeOf157
  v55 := Tryz.zeroValue157
  t66 := Tryz.underlying169
  a66 := Tryz.isAgg169
  z66 := Tryz.sizeOf169
  v66 := Tryz.zeroValue169
  t70 := Tryz.underlying173
  a70 := Tryz.isAgg173
  z70 := Tryz.sizeOf173
  v70 := Tryz.zeroValue173
  t76 := Tryz.underlying188
  a76 := Tryz.isAgg188
  z76 := Tryz.sizeOf188
  v76 := Tryz.zeroValue188
  t77 := Tryz.underlying189
  a77 := Tryz.isAgg189
  z77 := Tryz.sizeOf189
  v77 := Tryz.zeroValue189 }
end Go.Proofs

namespace Go.Proofs.YtojepeefphbekaaGreat
open Go.RowKit

/-- How two numbers are ordered. -/
def icmp (a b : Int) : Int := if a < b then -1 else if b < a then 1 else 0
/-- How two tags are ordered. -/
def orI (a b : Int) : Int := if a = 0 then b else a
def tcmp (a b c d : Int) : Int := orI (icmp a c) (icmp b d)

theorem cmp64 (a b : Int) (w : World) : Calls Tryz.prog 103 #[.int .i64 a, .int .i64 b] w fun x w' => x = .returned (.int .i64 (icmp a b)) ∧ w' = w := by
  unfold icmp
  go_enter Tryz.func103, Tryz.ntmps103
  by_cases h : a < b
  · go_wp2_with (go_in)
    go_ret
    exact ⟨by simp, rfl⟩
  · by_cases h2 : b < a
    · go_wp2_with (go_in)
      go_ret
      exact ⟨by simp, rfl⟩
    · go_wp2_with (go_in)
      go_ret
      exact ⟨by simp, rfl⟩
theorem cmpInt (a b : Int) (w : World) : Calls Tryz.prog 104 #[.int .i64 a, .int .i64 b] w fun x w' => x = .returned (.int .i64 (icmp a b)) ∧ w' = w := by
  unfold icmp
  go_enter Tryz.func104, Tryz.ntmps104
  by_cases h : a < b
  · go_wp2_with (go_in)
    go_ret
    exact ⟨by simp, rfl⟩
  · by_cases h2 : b < a
    · go_wp2_with (go_in)
      go_ret
      exact ⟨by simp, rfl⟩
    · go_wp2_with (go_in)
      go_ret
      exact ⟨by simp, rfl⟩
theorem or2 (a b : Int) (B cap : Nat) (w : World) (h0 : w.cell? ⟨B, 0, none⟩ = some (.int .i64 a)) (h1 : w.cell? ⟨B, 1, none⟩ = some (.int .i64 b)) :
    Calls Tryz.prog 102 #[.slice (some ⟨B, 0, none⟩) 2 cap] w fun x w' => x = .returned (.int .i64 (orI a b)) ∧ w' = w := by
  unfold orI
  go_enter Tryz.func102, Tryz.ntmps102
  go_wp2_with fail
  go_loop [5, 8] (fun _ x => (x = .int .i64 0) ∨ (x = .int .i64 1 ∧ a = 0) ∨ (x = .int .i64 2 ∧ a = 0 ∧ b = 0)) (fun _ x => 2 - (intOf x).toNat)
  case atStart => exact .inl rfl
  case round =>
    rcases hrel with rfl | ⟨rfl, rfl⟩ | ⟨rfl, rfl, rfl⟩
    · by_cases h : a = 0
      · subst h
        go_wp2_with fail
        go_round
        case rel => simp
        case measure => simp [intOf]
      · go_wp2_with fail
        go_ret
        exact ⟨by simp, rfl⟩
    · by_cases h : b = 0
      · subst h
        go_wp2_with fail
        go_round
        case rel => simp
        case measure => simp [intOf]
      · go_wp2_with fail
        go_ret
        exact ⟨by simp, rfl⟩
    · go_wp2_with fail
      go_ret
      exact ⟨by simp, rfl⟩
/-- A tag that lies in a block of its own. -/
structure TagAt (w : World) (b : Nat) (x y : Int) : Prop where
  blk : w.heap[b]? = some (.cells #[.int .i64 x, .int .i64 y] 37 (0, 0))
theorem heap_set {w : World} {B : Nat} {cs : Array Value} {t : TypeId} {fr : Nat × Nat} (h : w.heap[B]? = some (.cells cs t fr)) (i : Nat) (u : Value) : (w.setCell ⟨B, i, none⟩ u).heap[B]? = some (.cells (cs.setIfInBounds i u) t fr) := by
  simp only [World.setCell, Array.getElem?_modify]
  rw [h]; rfl
theorem TagAt.lt {w : World} {b : Nat} {x y : Int} (h : TagAt w b x y) : b < w.heap.size := (Array.getElem?_eq_some_iff.1 h.blk).1
theorem TagAt.new (w : World) (x y : Int) : TagAt (w.alloc (.cells #[.int .i64 x, .int .i64 y] 37)) w.heap.size x y := ⟨heap_alloc_new w _⟩
theorem TagAt.alloc {w : World} {b : Nat} {x y : Int} (h : TagAt w b x y) (o : Obj) : TagAt (w.alloc o) b x y := ⟨(Below.heap_alloc w o b h.lt).trans h.blk⟩
theorem TagAt.below {w w' : World} {b N : Nat} {x y : Int} (h : TagAt w b x y) (B : Below N w w') (hN : b < N) : TagAt w' b x y := ⟨(B.block b hN).trans h.blk⟩
theorem TagAt.by {w w' : World} {b : Nat} {x y : Int} (h : TagAt w b x y) (B : Below w.heap.size w w') : TagAt w' b x y := h.below B h.lt
theorem TagAt.drew {w : World} {b : Nat} {x y : Int} (h : TagAt w b x y) : TagAt w.drew b x y := ⟨h.blk⟩
theorem TagAt.drewN {w : World} {b : Nat} {x y : Int} (h : TagAt w b x y) (n : Nat) : TagAt (w.drewN n) b x y := ⟨h.blk⟩
theorem TagAt.set0 {w : World} {b : Nat} {x y : Int} (h : TagAt w b x y) (p : Int) : TagAt (w.setCell ⟨b, 0, none⟩ (.int .i64 p)) b p y := ⟨heap_set h.blk 0 _⟩
theorem TagAt.set1 {w : World} {b : Nat} {x y : Int} (h : TagAt w b x y) (q : Int) : TagAt (w.setCell ⟨b, 1, none⟩ (.int .i64 q)) b x q := ⟨heap_set h.blk 1 _⟩
theorem TagAt.other {w : World} {b : Nat} {x y : Int} (h : TagAt w b x y) {k i : Nat} (u : Value) (hk : b ≠ k) : TagAt (w.setCell ⟨k, i, none⟩ u) b x y := ⟨(Below.heap_setCell w ⟨k, i, none⟩ u b hk).trans h.blk⟩
theorem TagAt.facts {w : World} {b : Nat} {x y : Int} (h : TagAt w b x y) : w.cell? ⟨b, 0, none⟩ = some (.int .i64 x) ∧ w.cell? ⟨b, 1, none⟩ = some (.int .i64 y) ∧ w.frozen? ⟨b, 0, none⟩ = false ∧ w.frozen? ⟨b, 1, none⟩ = false := by
  refine ⟨?_, ?_, ?_, ?_⟩
  · rw [cell_of_row w b 0 _ 37 (0, 0) h.blk]; rfl
  · rw [cell_of_row w b 1 _ 37 (0, 0) h.blk]; rfl
  · simp [World.frozen?, h.blk]
  · simp [World.frozen?, h.blk]
theorem compare (a b c d : Int) (w : World) : Calls Tryz.prog 65 #[.agg #[.int .i64 a, .int .i64 b], .agg #[.int .i64 c, .int .i64 d]] w fun x w' => x = .returned (.int .i64 (tcmp a b c d)) ∧ Below w.heap.size w w' := by
  unfold tcmp
  have B1 : Hid (Below w.heap.size w ((w.alloc (Obj.cells #[.int .i64 a, .int .i64 b] 37)).alloc (Obj.cells #[.int .i64 c, .int .i64 d] 37))) := ((Below.refl _ _).alloc (Nat.le_refl _) _).alloc (by simp) _
  go_enter Tryz.func65, Tryz.ntmps65
  go_wp2_with fail
  have g0 : ((w.alloc (Obj.cells #[.int .i64 a, .int .i64 b] 37)).alloc (Obj.cells #[.int .i64 c, .int .i64 d] 37)).cell? ⟨w.heap.size, 0, none⟩ = some (.int .i64 a) := by simp
  have g1 : ((w.alloc (Obj.cells #[.int .i64 a, .int .i64 b] 37)).alloc (Obj.cells #[.int .i64 c, .int .i64 d] 37)).cell? ⟨w.heap.size, 1, none⟩ = some (.int .i64 b) := by simp
  have g2 : ((w.alloc (Obj.cells #[.int .i64 a, .int .i64 b] 37)).alloc (Obj.cells #[.int .i64 c, .int .i64 d] 37)).cell? ⟨w.heap.size + 1, 0, none⟩ = some (.int .i64 c) := by simp
  have g3 : ((w.alloc (Obj.cells #[.int .i64 a, .int .i64 b] 37)).alloc (Obj.cells #[.int .i64 c, .int .i64 d] 37)).cell? ⟨w.heap.size + 1, 1, none⟩ = some (.int .i64 d) := by simp
  have sz : ((w.alloc (Obj.cells #[.int .i64 a, .int .i64 b] 37)).alloc (Obj.cells #[.int .i64 c, .int .i64 d] 37)).heap.size = w.heap.size + 2 := by simp
  generalize (w.alloc (Obj.cells #[.int .i64 a, .int .i64 b] 37)).alloc (Obj.cells #[.int .i64 c, .int .i64 d] 37) = w1 at g0 g1 g2 g3 sz B1 ⊢
  go_region_held3 (fun w' => w'.cell? ⟨w.heap.size, 0, none⟩ = some (.int .i64 a) ∧ w'.cell? ⟨w.heap.size, 1, none⟩ = some (.int .i64 b) ∧ w'.cell? ⟨w.heap.size + 1, 0, none⟩ = some (.int .i64 c) ∧ w'.cell? ⟨w.heap.size + 1, 1, none⟩ = some (.int .i64 d))
    (go_keep) (first | (go_at_call 103; refine (cmp64 _ _ _).mono ?_; rintro x w2 ⟨rfl, rfl⟩) | (go_at_call 104; refine (cmpInt _ _ _).mono ?_; rintro x w2 ⟨rfl, rfl⟩) | (go_at_call 102; refine (or2 (icmp a c) (icmp b d) _ _ _ (by rw [← sz]; simp) (by rw [← sz]; simp)).mono ?_; rintro x w2 ⟨rfl, rfl⟩) | fail)
  go_wp2_with fail
  go_ret
  exact ⟨rfl, (B1.out.alloc (by omega) _).drew⟩
/-- May a tag be, and is it not the initial one? -/
def isProper (a b : Int) : Bool := decide (1 ≤ a ∧ a ≤ 4611686018427387903 ∧ 1 ≤ b ∧ b ≤ 65535)
def isZero (a b : Int) : Bool := decide (a = 0 ∧ b = 0)
def isClientB (n : Int) : Bool := decide (1 ≤ n ∧ n ≤ 65535)
theorem isClient (n : Int) (w : World) : Calls Tryz.prog 111 #[.int .i64 n] w fun x w' => x = .returned (.bool (isClientB n)) ∧ w' = w := by
  unfold isClientB
  go_enter Tryz.func111, Tryz.ntmps111
  by_cases h : 1 ≤ n
  · by_cases h2 : n ≤ 65535
    · go_wp2_with fail
      go_ret
      exact ⟨by simp [h, h2], rfl⟩
    · go_wp2_with fail
      go_ret
      exact ⟨by simp [h2], rfl⟩
  · go_wp2_with fail
    go_ret
    exact ⟨by simp; omega, rfl⟩
theorem zero (a b : Int) (w : World) : Calls Tryz.prog 80 #[.agg #[.int .i64 a, .int .i64 b]] w fun x w' => x = .returned (.bool (isZero a b)) ∧ Below w.heap.size w w' := by
  unfold isZero
  go_enter Tryz.func80, Tryz.ntmps80
  by_cases h : a = 0
  · by_cases h2 : b = 0
    · go_wp2_with fail
      go_ret
      exact ⟨by simp [h, h2], (Below.refl _ _).alloc (Nat.le_refl _) _⟩
    · go_wp2_with fail
      go_ret
      exact ⟨by simp [h, h2], (Below.refl _ _).alloc (Nat.le_refl _) _⟩
  · go_wp2_with fail
    go_ret
    exact ⟨by simp [h], (Below.refl _ _).alloc (Nat.le_refl _) _⟩
theorem proper (a b : Int) (w : World) : Calls Tryz.prog 84 #[.agg #[.int .i64 a, .int .i64 b]] w fun x w' => x = .returned (.bool (isProper a b)) ∧ Below w.heap.size w w' := by
  have bel := (Below.refl w.heap.size w).alloc (Nat.le_refl _) (Obj.cells #[.int .i64 a, .int .i64 b] 37)
  have BH : Hid (Below w.heap.size w (w.alloc (Obj.cells #[.int .i64 a, .int .i64 b] 37))) := bel
  clear bel
  unfold isProper
  go_enter Tryz.func84, Tryz.ntmps84
  by_cases h : 1 ≤ a
  · by_cases h2 : a ≤ 4611686018427387903
    · go_wp2_with (first | (go_at_call 111; refine (isClient _ _).mono ?_; rintro x w1 ⟨rfl, rfl⟩) | fail)
      go_ret
      exact ⟨by simp [isClientB, h, h2], BH.out⟩
    · go_wp2_with fail
      go_ret
      exact ⟨by simp; omega, BH.out⟩
  · go_wp2_with fail
    go_ret
    exact ⟨by simp; omega, BH.out⟩
theorem valid (a b : Int) (w : World) : Calls Tryz.prog 79 #[.agg #[.int .i64 a, .int .i64 b]] w fun x w' => x = .returned (.bool (isZero a b || isProper a b)) ∧ Below w.heap.size w w' := by
  have B0 : Hid (Below w.heap.size w (w.alloc (Obj.cells #[.int .i64 a, .int .i64 b] 37))) := (Below.refl w.heap.size w).alloc (Nat.le_refl _) _
  go_enter Tryz.func79, Tryz.ntmps79
  go_wp2_with fail
  refine (zero a b _).mono ?_
  rintro x w1 ⟨rfl, B1'⟩
  have B1 : Hid (Below _ _ _) := B1'
  clear B1'
  have c0 : w1.cell? ⟨w.heap.size, 0, none⟩ = some (.int .i64 a) := (B1.out.cell (by simp)).trans (by simp)
  have c1 : w1.cell? ⟨w.heap.size, 1, none⟩ = some (.int .i64 b) := (B1.out.cell (by simp)).trans (by simp)
  have B1 : Hid (Below w.heap.size w w1) := B0.out.trans (B1.out.mono (by simp))
  cases h : isZero a b
  · go_wp2_with fail
    refine (proper a b _).mono ?_
    rintro x w2 ⟨rfl, B2⟩
    have B2 : Hid (Below w.heap.size w w2) := B1.out.trans (B2.mono B1.out.size)
    go_wp2_with fail
    go_ret
    exact ⟨by simp [h], B2.out⟩
  · go_wp2_with fail
    go_ret
    exact ⟨by simp [h], B1.out⟩

/-- The counter that Next tries first, and the one that it takes. -/
def nextFirst (a u : Int) : Int := if a ≤ u + 1 then u + 1 else a
def nextCount (a b u k : Int) : Int := if tcmp (nextFirst a u) k a b ≤ 0 then nextFirst a u + 1 else nextFirst a u
def nextT (a b u k : Int) : Int × Int × Int :=
  if (isZero a b || isProper a b) = false then (0, 0, 41)
  else if u < 0 ∨ 4611686018427387903 < u ∨ isClientB k = false then (0, 0, 1)
  else if 4611686018427387903 < nextCount a b u k then (0, 0, 33)
  else (nextCount a b u k, k, 0)
theorem Tryz.info37 : (Tryz.prog.info? 37).map (·.size) = some 2 := by kernel_rfl
theorem results_tag {fn : Func} {p : Tmp} (h : fn.results = #[.cell p 37]) (tmps : Array Value) (w : World) (b : Nat) (x y : Int) (hp : tmps.getD p undef = .pointer (some ⟨b, 0, none⟩)) (T : TagAt w b x y) :
    (results fn tmps).run Tryz.prog w = .ok (.agg #[.int .i64 x, .int .i64 y]) w :=
  results_cell_row h tmps w b 37 _ (0, 0) _ hp T.blk Tryz.underlying37 rfl Tryz.info37
theorem results_tag_tmp {fn : Func} {p u : Tmp} (h : fn.results = #[.cell p 37, .tmp u]) (tmps : Array Value) (w : World) (b : Nat) (x y : Int) (hp : tmps.getD p undef = .pointer (some ⟨b, 0, none⟩)) (T : TagAt w b x y) :
    (results fn tmps).run Tryz.prog w = .ok (.tuple #[.agg #[.int .i64 x, .int .i64 y], tmps.getD u undef]) w := by
  rw [results_cell_tmp h, hp]
  simp [asAddr, run_loadVar_row w b 37 37 _ (0, 0) _ T.blk Tryz.underlying37 rfl Tryz.info37]
end Go.Proofs.YtojepeefphbekaaGreat
