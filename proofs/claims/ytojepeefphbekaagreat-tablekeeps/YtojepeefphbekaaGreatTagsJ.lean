import Derived.Test.YtojepeefphbekaaGreatChecked
import Derived.WalkKit
import Derived.WalkSpells
import Derived.WalkLawsBesides
import Derived.Deep.QuietTactic
import Derived.Deep.RegionHeld3
import Derived.Deep.LoopGhost
import Derived.BigQuiet
import Derived.Below
import Derived.Laws.Rows
import Derived.Laws.ResultCell
import Derived.Deep.DeepCutAuto
import Derived.Laws.AppendOwn
import Derived.Deep.DeepAppendWide
import Derived.OwnWalk
namespace Go.Proofs.YtojepeefphbekaaGreat
open Go.RowKit

/-- How two numbers are ordered. -/
def icmp (a b : Int) : Int := if a < b then -1 else if b < a then 1 else 0
/-- How two tags are ordered. -/
def orI (a b : Int) : Int := if a = 0 then b else a
def tcmp (a b c d : Int) : Int := orI (icmp a c) (icmp b d)

theorem cmp64 (a b : Int) (w : World) : Calls Tryz.prog 103 #[.int .i64 a, .int .i64 b] w fun x w' => x = .returned (.int .i64 (icmp a b)) ∧ w' = w := by
  unfold icmp
  go_enter Tryz.func103, Tryz.ntmps103
  by_cases h : a < b
  · go_wp2_with (go_in)
    go_ret
    exact ⟨by simp, rfl⟩
  · by_cases h2 : b < a
    · go_wp2_with (go_in)
      go_ret
      exact ⟨by simp, rfl⟩
    · go_wp2_with (go_in)
      go_ret
      exact ⟨by simp, rfl⟩
theorem cmpInt (a b : Int) (w : World) : Calls Tryz.prog 104 #[.int .i64 a, .int .i64 b] w fun x w' => x = .returned (.int .i64 (icmp a b)) ∧ w' = w := by
  unfold icmp
  go_enter Tryz.func104, Tryz.ntmps104
  by_cases h : a < b
  · go_wp2_with (go_in)
    go_ret
    exact ⟨by simp, rfl⟩
  · by_cases h2 : b < a
    · go_wp2_with (go_in)
      go_ret
      exact ⟨by simp, rfl⟩
    · go_wp2_with (go_in)
      go_ret
      exact ⟨by simp, rfl⟩
theorem or2 (a b : Int) (B cap : Nat) (w : World) (h0 : w.cell? ⟨B, 0, none⟩ = some (.int .i64 a)) (h1 : w.cell? ⟨B, 1, none⟩ = some (.int .i64 b)) :
    Calls Tryz.prog 102 #[.slice (some ⟨B, 0, none⟩) 2 cap] w fun x w' => x = .returned (.int .i64 (orI a b)) ∧ w' = w := by
  unfold orI
  go_enter Tryz.func102, Tryz.ntmps102
  go_wp2_with fail
  go_loop [5, 8] (fun _ x => (x = .int .i64 0) ∨ (x = .int .i64 1 ∧ a = 0) ∨ (x = .int .i64 2 ∧ a = 0 ∧ b = 0)) (fun _ x => 2 - (intOf x).toNat)
  case atStart => exact .inl rfl
  case round =>
    rcases hrel with rfl | ⟨rfl, rfl⟩ | ⟨rfl, rfl, rfl⟩
    · by_cases h : a = 0
      · subst h
        go_wp2_with fail
        go_round
        case rel => simp
        case measure => simp [intOf]
      · go_wp2_with fail
        go_ret
        exact ⟨by simp, rfl⟩
    · by_cases h : b = 0
      · subst h
        go_wp2_with fail
        go_round
        case rel => simp
        case measure => simp [intOf]
      · go_wp2_with fail
        go_ret
        exact ⟨by simp, rfl⟩
    · go_wp2_with fail
      go_ret
      exact ⟨by simp, rfl⟩
/-- A tag that lies in a block of its own. -/
structure TagAt (w : World) (b : Nat) (x y : Int) : Prop where
  blk : w.heap[b]? = some (.cells #[.int .i64 x, .int .i64 y] 37 (0, 0))
theorem heap_set {w : World} {B : Nat} {cs : Array Value} {t : TypeId} {fr : Nat × Nat} (h : w.heap[B]? = some (.cells cs t fr)) (i : Nat) (u : Value) : (w.setCell ⟨B, i, none⟩ u).heap[B]? = some (.cells (cs.setIfInBounds i u) t fr) := by
  simp only [World.setCell, Array.getElem?_modify]
  rw [h]; rfl
theorem TagAt.lt {w : World} {b : Nat} {x y : Int} (h : TagAt w b x y) : b < w.heap.size := (Array.getElem?_eq_some_iff.1 h.blk).1
theorem TagAt.new (w : World) (x y : Int) : TagAt (w.alloc (.cells #[.int .i64 x, .int .i64 y] 37)) w.heap.size x y := ⟨heap_alloc_new w _⟩
theorem TagAt.alloc {w : World} {b : Nat} {x y : Int} (h : TagAt w b x y) (o : Obj) : TagAt (w.alloc o) b x y := ⟨(Below.heap_alloc w o b h.lt).trans h.blk⟩
theorem TagAt.below {w w' : World} {b N : Nat} {x y : Int} (h : TagAt w b x y) (B : Below N w w') (hN : b < N) : TagAt w' b x y := ⟨(B.block b hN).trans h.blk⟩
theorem TagAt.by {w w' : World} {b : Nat} {x y : Int} (h : TagAt w b x y) (B : Below w.heap.size w w') : TagAt w' b x y := h.below B h.lt
theorem TagAt.drew {w : World} {b : Nat} {x y : Int} (h : TagAt w b x y) : TagAt w.drew b x y := ⟨h.blk⟩
theorem TagAt.drewN {w : World} {b : Nat} {x y : Int} (h : TagAt w b x y) (n : Nat) : TagAt (w.drewN n) b x y := ⟨h.blk⟩
theorem TagAt.set0 {w : World} {b : Nat} {x y : Int} (h : TagAt w b x y) (p : Int) : TagAt (w.setCell ⟨b, 0, none⟩ (.int .i64 p)) b p y := ⟨heap_set h.blk 0 _⟩
theorem TagAt.set1 {w : World} {b : Nat} {x y : Int} (h : TagAt w b x y) (q : Int) : TagAt (w.setCell ⟨b, 1, none⟩ (.int .i64 q)) b x q := ⟨heap_set h.blk 1 _⟩
theorem TagAt.other {w : World} {b : Nat} {x y : Int} (h : TagAt w b x y) {k i : Nat} (u : Value) (hk : b ≠ k) : TagAt (w.setCell ⟨k, i, none⟩ u) b x y := ⟨(Below.heap_setCell w ⟨k, i, none⟩ u b hk).trans h.blk⟩
theorem TagAt.facts {w : World} {b : Nat} {x y : Int} (h : TagAt w b x y) : w.cell? ⟨b, 0, none⟩ = some (.int .i64 x) ∧ w.cell? ⟨b, 1, none⟩ = some (.int .i64 y) ∧ w.frozen? ⟨b, 0, none⟩ = false ∧ w.frozen? ⟨b, 1, none⟩ = false := by
  refine ⟨?_, ?_, ?_, ?_⟩
  · rw [cell_of_row w b 0 _ 37 (0, 0) h.blk]; rfl
  · rw [cell_of_row w b 1 _ 37 (0, 0) h.blk]; rfl
  · simp [World.frozen?, h.blk]
  · simp [World.frozen?, h.blk]
theorem compare (a b c d : Int) (w : World) : Calls Tryz.prog 65 #[.agg #[.int .i64 a, .int .i64 b], .agg #[.int .i64 c, .int .i64 d]] w fun x w' => x = .returned (.int .i64 (tcmp a b c d)) ∧ Below w.heap.size w w' := by
  unfold tcmp
  have B1 : Hid (Below w.heap.size w ((w.alloc (Obj.cells #[.int .i64 a, .int .i64 b] 37)).alloc (Obj.cells #[.int .i64 c, .int .i64 d] 37))) := ((Below.refl _ _).alloc (Nat.le_refl _) _).alloc (by simp) _
  go_enter Tryz.func65, Tryz.ntmps65
  go_wp2_with fail
  have g0 : ((w.alloc (Obj.cells #[.int .i64 a, .int .i64 b] 37)).alloc (Obj.cells #[.int .i64 c, .int .i64 d] 37)).cell? ⟨w.heap.size, 0, none⟩ = some (.int .i64 a) := by simp
  have g1 : ((w.alloc (Obj.cells #[.int .i64 a, .int .i64 b] 37)).alloc (Obj.cells #[.int .i64 c, .int .i64 d] 37)).cell? ⟨w.heap.size, 1, none⟩ = some (.int .i64 b) := by simp
  have g2 : ((w.alloc (Obj.cells #[.int .i64 a, .int .i64 b] 37)).alloc (Obj.cells #[.int .i64 c, .int .i64 d] 37)).cell? ⟨w.heap.size + 1, 0, none⟩ = some (.int .i64 c) := by simp
  have g3 : ((w.alloc (Obj.cells #[.int .i64 a, .int .i64 b] 37)).alloc (Obj.cells #[.int .i64 c, .int .i64 d] 37)).cell? ⟨w.heap.size + 1, 1, none⟩ = some (.int .i64 d) := by simp
  have sz : ((w.alloc (Obj.cells #[.int .i64 a, .int .i64 b] 37)).alloc (Obj.cells #[.int .i64 c, .int .i64 d] 37)).heap.size = w.heap.size + 2 := by simp
  generalize (w.alloc (Obj.cells #[.int .i64 a, .int .i64 b] 37)).alloc (Obj.cells #[.int .i64 c, .int .i64 d] 37) = w1 at g0 g1 g2 g3 sz B1 ⊢
  go_region_held3 (fun w' => w'.cell? ⟨w.heap.size, 0, none⟩ = some (.int .i64 a) ∧ w'.cell? ⟨w.heap.size, 1, none⟩ = some (.int .i64 b) ∧ w'.cell? ⟨w.heap.size + 1, 0, none⟩ = some (.int .i64 c) ∧ w'.cell? ⟨w.heap.size + 1, 1, none⟩ = some (.int .i64 d))
    (go_keep) (first | (go_at_call 103; refine (cmp64 _ _ _).mono ?_; rintro x w2 ⟨rfl, rfl⟩) | (go_at_call 104; refine (cmpInt _ _ _).mono ?_; rintro x w2 ⟨rfl, rfl⟩) | (go_at_call 102; refine (or2 (icmp a c) (icmp b d) _ _ _ (by rw [← sz]; simp) (by rw [← sz]; simp)).mono ?_; rintro x w2 ⟨rfl, rfl⟩) | fail)
  go_wp2_with fail
  go_ret
  exact ⟨rfl, (B1.out.alloc (by omega) _).drew⟩
/-- May a tag be, and is it not the initial one? -/
def isProper (a b : Int) : Bool := decide (1 ≤ a ∧ a ≤ 4611686018427387903 ∧ 1 ≤ b ∧ b ≤ 65535)
def isZero (a b : Int) : Bool := decide (a = 0 ∧ b = 0)
def isClientB (n : Int) : Bool := decide (1 ≤ n ∧ n ≤ 65535)
theorem isClient (n : Int) (w : World) : Calls Tryz.prog 111 #[.int .i64 n] w fun x w' => x = .returned (.bool (isClientB n)) ∧ w' = w := by
  unfold isClientB
  go_enter Tryz.func111, Tryz.ntmps111
  by_cases h : 1 ≤ n
  · by_cases h2 : n ≤ 65535
    · go_wp2_with fail
      go_ret
      exact ⟨by simp [h, h2], rfl⟩
    · go_wp2_with fail
      go_ret
      exact ⟨by simp [h2], rfl⟩
  · go_wp2_with fail
    go_ret
    exact ⟨by simp; omega, rfl⟩
theorem zero (a b : Int) (w : World) : Calls Tryz.prog 80 #[.agg #[.int .i64 a, .int .i64 b]] w fun x w' => x = .returned (.bool (isZero a b)) ∧ Below w.heap.size w w' := by
  unfold isZero
  go_enter Tryz.func80, Tryz.ntmps80
  by_cases h : a = 0
  · by_cases h2 : b = 0
    · go_wp2_with fail
      go_ret
      exact ⟨by simp [h, h2], (Below.refl _ _).alloc (Nat.le_refl _) _⟩
    · go_wp2_with fail
      go_ret
      exact ⟨by simp [h, h2], (Below.refl _ _).alloc (Nat.le_refl _) _⟩
  · go_wp2_with fail
    go_ret
    exact ⟨by simp [h], (Below.refl _ _).alloc (Nat.le_refl _) _⟩
theorem proper (a b : Int) (w : World) : Calls Tryz.prog 84 #[.agg #[.int .i64 a, .int .i64 b]] w fun x w' => x = .returned (.bool (isProper a b)) ∧ Below w.heap.size w w' := by
  have bel := (Below.refl w.heap.size w).alloc (Nat.le_refl _) (Obj.cells #[.int .i64 a, .int .i64 b] 37)
  have BH : Hid (Below w.heap.size w (w.alloc (Obj.cells #[.int .i64 a, .int .i64 b] 37))) := bel
  clear bel
  unfold isProper
  go_enter Tryz.func84, Tryz.ntmps84
  by_cases h : 1 ≤ a
  · by_cases h2 : a ≤ 4611686018427387903
    · go_wp2_with (first | (go_at_call 111; refine (isClient _ _).mono ?_; rintro x w1 ⟨rfl, rfl⟩) | fail)
      go_ret
      exact ⟨by simp [isClientB, h, h2], BH.out⟩
    · go_wp2_with fail
      go_ret
      exact ⟨by simp; omega, BH.out⟩
  · go_wp2_with fail
    go_ret
    exact ⟨by simp; omega, BH.out⟩
theorem valid (a b : Int) (w : World) : Calls Tryz.prog 79 #[.agg #[.int .i64 a, .int .i64 b]] w fun x w' => x = .returned (.bool (isZero a b || isProper a b)) ∧ Below w.heap.size w w' := by
  have B0 : Hid (Below w.heap.size w (w.alloc (Obj.cells #[.int .i64 a, .int .i64 b] 37))) := (Below.refl w.heap.size w).alloc (Nat.le_refl _) _
  go_enter Tryz.func79, Tryz.ntmps79
  go_wp2_with fail
  refine (zero a b _).mono ?_
  rintro x w1 ⟨rfl, B1'⟩
  have B1 : Hid (Below _ _ _) := B1'
  clear B1'
  have c0 : w1.cell? ⟨w.heap.size, 0, none⟩ = some (.int .i64 a) := (B1.out.cell (by simp)).trans (by simp)
  have c1 : w1.cell? ⟨w.heap.size, 1, none⟩ = some (.int .i64 b) := (B1.out.cell (by simp)).trans (by simp)
  have B1 : Hid (Below w.heap.size w w1) := B0.out.trans (B1.out.mono (by simp))
  cases h : isZero a b
  · go_wp2_with fail
    refine (proper a b _).mono ?_
    rintro x w2 ⟨rfl, B2⟩
    have B2 : Hid (Below w.heap.size w w2) := B1.out.trans (B2.mono B1.out.size)
    go_wp2_with fail
    go_ret
    exact ⟨by simp [h], B2.out⟩
  · go_wp2_with fail
    go_ret
    exact ⟨by simp [h], B1.out⟩

/-- The counter that Next tries first, and the one that it takes. -/
def nextFirst (a u : Int) : Int := if a ≤ u + 1 then u + 1 else a
def nextCount (a b u k : Int) : Int := if tcmp (nextFirst a u) k a b ≤ 0 then nextFirst a u + 1 else nextFirst a u
def nextT (a b u k : Int) : Int × Int × Int :=
  if (isZero a b || isProper a b) = false then (0, 0, 41)
  else if u < 0 ∨ 4611686018427387903 < u ∨ isClientB k = false then (0, 0, 1)
  else if 4611686018427387903 < nextCount a b u k then (0, 0, 33)
  else (nextCount a b u k, k, 0)
theorem Tryz.info37 : (Tryz.prog.info? 37).map (·.size) = some 2 := by kernel_rfl
theorem results_tag {fn : Func} {p : Tmp} (h : fn.results = #[.cell p 37]) (tmps : Array Value) (w : World) (b : Nat) (x y : Int) (hp : tmps.getD p undef = .pointer (some ⟨b, 0, none⟩)) (T : TagAt w b x y) :
    (results fn tmps).run Tryz.prog w = .ok (.agg #[.int .i64 x, .int .i64 y]) w :=
  results_cell_row h tmps w b 37 _ (0, 0) _ hp T.blk Tryz.underlying37 rfl Tryz.info37
theorem results_tag_tmp {fn : Func} {p u : Tmp} (h : fn.results = #[.cell p 37, .tmp u]) (tmps : Array Value) (w : World) (b : Nat) (x y : Int) (hp : tmps.getD p undef = .pointer (some ⟨b, 0, none⟩)) (T : TagAt w b x y) :
    (results fn tmps).run Tryz.prog w = .ok (.tuple #[.agg #[.int .i64 x, .int .i64 y], tmps.getD u undef]) w := by
  rw [results_cell_tmp h, hp]
  simp [asAddr, run_loadVar_row w b 37 37 _ (0, 0) _ T.blk Tryz.underlying37 rfl Tryz.info37]
end Go.Proofs.YtojepeefphbekaaGreat

namespace Go.Proofs.YtojepeefphbekaaGreat
open Go.RowKit

/-- The slice reads as these tags. -/
structure TReads (w : World) (a : Option Addr) (len cap : Nat) (l : List (Int × Int)) : Prop where
  length : l.length = len
  room : len ≤ cap
  small : cap ≤ maxLen
  fit : ∀ t ∈ l, (-9223372036854775808 ≤ t.1 ∧ t.1 < 9223372036854775808) ∧ (-9223372036854775808 ≤ t.2 ∧ t.2 < 9223372036854775808)
  cells : 0 < len → ∃ b off, a = some ⟨b, off, none⟩ ∧ ∀ i, i < len → w.cell? ⟨b, off + i * 2, none⟩ = some (.int .i64 (l.getD i (0, 0)).1) ∧ w.cell? ⟨b, off + i * 2 + 1, none⟩ = some (.int .i64 (l.getD i (0, 0)).2)
/-- The greatest. -/
def maxFrom (m : Int × Int) : List (Int × Int) → Int × Int
  | [] => m
  | t :: r => maxFrom (if 0 < tcmp t.1 t.2 m.1 m.2 then t else m) r
def maxT : List (Int × Int) → Int × Int
  | [] => (0, 0)
  | t :: r => maxFrom t r
theorem maxFrom_snoc (r : List (Int × Int)) : ∀ (m x : Int × Int), maxFrom m (r ++ [x]) = if 0 < tcmp x.1 x.2 (maxFrom m r).1 (maxFrom m r).2 then x else maxFrom m r := by
  induction r with
  | nil => intro m x; rfl
  | cons t r ih => intro m x; exact ih _ x
theorem maxT_take (l : List (Int × Int)) (i : Nat) (h1 : 1 ≤ i) (hi : i < l.length) : maxT (l.take (i + 1)) = if 0 < tcmp (l.getD i (0, 0)).1 (l.getD i (0, 0)).2 (maxT (l.take i)).1 (maxT (l.take i)).2 then l.getD i (0, 0) else maxT (l.take i) := by
  rw [List.take_succ_eq_append_getElem hi]
  have e : l.getD i (0, 0) = l[i] := by rw [List.getD_eq_getElem?_getD, List.getElem?_eq_getElem hi]; rfl
  rw [e]
  cases l with
  | nil => simp at hi
  | cons t r =>
    obtain ⟨j, rfl⟩ : ∃ j, i = j + 1 := ⟨i - 1, by omega⟩
    rw [List.take_succ_cons, List.cons_append]
    exact maxFrom_snoc _ _ _
end Go.Proofs.YtojepeefphbekaaGreat

namespace Go.Proofs.YtojepeefphbekaaGreat
open Go.RowKit

/-- Three halves of 2^47 bytes: what grows for them stays under 2^48. -/
theorem wide16 {n : Nat} (h : n * 16 ≤ 211106232532992) : (n + n / 4 + 192) * 16 ≤ 281474976710656 := by omega
def tcells (l : List (Int × Int)) : List Value := l.flatMap fun t => [.int .i64 t.1, .int .i64 t.2]
theorem tcells_append (l m : List (Int × Int)) : tcells (l ++ m) = tcells l ++ tcells m := by simp [tcells]
theorem tcells_length (l : List (Int × Int)) : (tcells l).length = l.length * 2 := by
  induction l with
  | nil => rfl
  | cons t r ih => simp only [tcells, List.flatMap_cons, List.length_append, List.length_cons, List.length_nil] at ih ⊢; omega
theorem tcells_one (l : List (Int × Int)) : ∀ u ∈ tcells l, u.oneCell' = true := fun u hu => by
  obtain ⟨t, _, h⟩ := List.mem_flatMap.1 hu
  simp at h
  rcases h with rfl | rfl <;> rfl
theorem tcells_get (l : List (Int × Int)) : ∀ i, i < l.length → (tcells l)[i * 2]? = some (.int .i64 (l.getD i (0, 0)).1) ∧ (tcells l)[i * 2 + 1]? = some (.int .i64 (l.getD i (0, 0)).2) := by
  induction l with
  | nil => intro i h; simp at h
  | cons t r ih =>
    intro i h
    have e : tcells (t :: r) = .int .i64 t.1 :: .int .i64 t.2 :: tcells r := rfl
    rw [e]
    cases i with
    | zero => exact ⟨rfl, rfl⟩
    | succ i =>
      obtain ⟨h1, h2⟩ := ih i (by simpa using h)
      have e1 : (i + 1) * 2 = i * 2 + 1 + 1 := by omega
      rw [e1]
      exact ⟨h1, h2⟩
/-- All numbers are of their kind. -/
def Fit (l : List (Int × Int)) : Prop := ∀ t ∈ l, (-9223372036854775808 ≤ t.1 ∧ t.1 < 9223372036854775808) ∧ (-9223372036854775808 ≤ t.2 ∧ t.2 < 9223372036854775808)
theorem owns_treads {w : World} {base k : Nat} {v : Value} {l : List (Int × Int)} (h : w.ownsRow base 37 2 v k (tcells l)) (hf : Fit l) :
    ∃ a cap, v = .slice a k cap ∧ TReads w a k cap l ∧ ∀ p, a = some p → base ≤ p.block := by
  have hl : l.length = k := by have := h.1; rw [tcells_length] at this; omega
  rcases h.2 with ⟨rfl, rfl⟩ | ⟨g, cap, cur, rfl, hb, hg, hk, hm, hs, ht⟩
  · exact ⟨none, 0, rfl, ⟨hl, Nat.le_refl _, by unfold maxLen; omega, hf, fun h0 => absurd h0 (by omega)⟩, fun _ q => by cases q⟩
  · refine ⟨_, cap, rfl, ⟨hl, hk, hm, hf, fun _ => ⟨g, 0, rfl, fun i hi => ?_⟩⟩, fun p q => by cases q; exact hb⟩
    obtain ⟨e0, e1⟩ := tcells_get l i (by omega)
    rw [← ht, List.getElem?_take_of_lt (by omega)] at e0 e1
    refine ⟨?_, ?_⟩
    · rw [cell_of_row w g _ cur 37 (0, 0) hg, Nat.zero_add]
      simpa using e0
    · rw [cell_of_row w g _ cur 37 (0, 0) hg, Nat.zero_add]
      simpa using e1
theorem TReads.by {w w' : World} {a : Option Addr} {len cap : Nat} {l : List (Int × Int)} (r : TReads w a len cap l) (B : Below w.heap.size w w') : TReads w' a len cap l := ⟨r.length, r.room, r.small, r.fit, fun h => by
  obtain ⟨b, off, e, hc⟩ := r.cells h
  refine ⟨b, off, e, fun i hi => ?_⟩
  obtain ⟨q0, q1⟩ := hc i hi
  have lb : b < w.heap.size := World.block_lt_of_cell? w _ q0
  exact ⟨(B.cell lb).trans q0, (B.cell lb).trans q1⟩⟩
theorem Tryz.info37b : (Tryz.prog.info? 37).map (fun i => (i.zero, i.size, i.bytes)) = some (some (.agg #[.int .i64 0, .int .i64 0]), 2, 16) := by kernel_rfl
/-- append of one tag, at the operation. -/
theorem wpList_append_tag {ops : Array Oper} {rest : List Oper} {o : Oper} {a : Act} {Q : Exit → Act → World → Prop} (w : World) (hgd : o.guard = none) (s x : Operand)
    (ho : o.op = .call { callee := .builtin .append, args := #[s, x], argTypes := #[117, 117] })
    (base : Nat) (v : Value) (n : Nat) (l : List (Int × Int)) (hs : a.eval s = v) (hown : w.ownsRow base 37 2 v n (tcells l))
    (b : Nat) (t : Int × Int) (hx : a.eval x = .slice (some ⟨b, 0, none⟩) 1 1) (h0 : w.cell? ⟨b, 0, none⟩ = some (.int .i64 t.1)) (h1 : w.cell? ⟨b, 1, none⟩ = some (.int .i64 t.2))
    (hbytes : (n + 1) * 16 ≤ 211106232532992) (hbase : base ≤ w.heap.size)
    (h : ∀ g c w', Hid (w'.ownsRow base 37 2 (.slice (some ⟨g, 0, none⟩) (n + 1) c) (n + 1) (tcells (l ++ [t]))) → Hid (w.grownBy w' v.ownBlock) → Hid (base ≤ g ∧ n + 1 ≤ c ∧ c ≤ maxLen) → wpList Tryz.prog ops Q rest (a.put o.dst (.slice (some ⟨g, 0, none⟩) (n + 1) c)) w') : wpList Tryz.prog ops Q (o :: rest) a w := by
  obtain ⟨i, hi, hz, hsize, hby⟩ := info_parts Tryz.info37b
  have add0 : ∀ j, (⟨b, 0, none⟩ : Addr).add j = ⟨b, j, none⟩ := fun j => by unfold Addr.add; split <;> simp_all
  refine wpList_append_own_wide w hgd s x 117 ho base 37 i (.agg #[.int .i64 0, .int .i64 0]) 2 16 Tryz.underlying117 hi hz hsize hby rfl (by omega) v n (tcells l) hs hown ⟨b, 0, none⟩ 1 1 (tcells [t]) hx rfl (fun j u hj => ?_) (tcells_one _) (by unfold maxLen; omega) (wide16 hbytes) hbase (fun v' w' h2 h3 _ => ?_)
  · rw [add0]
    have : tcells [t] = [.int .i64 t.1, .int .i64 t.2] := rfl
    rw [this] at hj
    match j, hj with
    | 0, hj => simp at hj; subst hj; exact h0
    | 1, hj => simp at hj; subst hj; exact h1
    | j + 2, hj => simp at hj
  · rw [← tcells_append] at h2
    obtain ⟨g, c, rfl, hh⟩ : ∃ g c, v' = .slice (some ⟨g, 0, none⟩) (n + 1) c ∧ base ≤ g ∧ n + 1 ≤ c ∧ c ≤ maxLen := by
      rcases h2.2 with ⟨rfl, e⟩ | ⟨g, cap, cur, rfl, hb, _, hc, hm, _⟩
      · omega
      · exact ⟨_, _, rfl, hb, hc, hm⟩
    exact h g c w' h2 h3 hh
theorem Below.grew {w wr w' : World} {v : Value} {n : Nat} {xs : List Value} (B : Below w.heap.size w wr) (o : wr.ownsRow w.heap.size 37 2 v n xs) (g : wr.grownBy w' v.ownBlock) : Below w.heap.size w w' :=
  B.grown g B.size (fun k e => (o.lt k e).1)
theorem below_drewN (w : World) (k : Nat) : Below w.heap.size w (w.drewN k) := ⟨rfl, rfl, rfl, Nat.le_refl _, fun _ _ => rfl⟩
theorem getD_at (l : List (Int × Int)) (i : Nat) (h : i < l.length) : l.getD i (0, 0) = l[i] := by
  rw [List.getD_eq_getElem?_getD, List.getElem?_eq_getElem h]; rfl
theorem take_next (l m : List (Int × Int)) (i : Nat) (h1 : i < l.length) (h2 : i < m.length) (h : l.take i = m.take i) (he : l.getD i (0, 0) = m.getD i (0, 0)) : l.take (i + 1) = m.take (i + 1) := by
  rw [List.take_succ_eq_append_getElem h1, List.take_succ_eq_append_getElem h2, h, ← getD_at l i h1, ← getD_at m i h2, he]
end Go.Proofs.YtojepeefphbekaaGreat
