import Derived.Test.YtbnnmelkbjkkjaaLastsJ
import Derived.Test.YtbnnmelkbjkkjaaHead
namespace Go.Proofs.Ytbnnmelkbjkkjaa
open Go.RowKit

/-- A disk known whole, beside blocks that are none of its own. -/
structure HX (w wr : World) (B : Nat) (A : AB) (S : Nat → Prop) : Prop where
  ex : ∃ d, IsD w.heap.size wr B d ∧ d.ab = A ∧ ∀ k, S k → k < wr.heap.size ∧ ¬ d.Uses B k
  kept : Kept (fun _ => False) w wr
  low : w.heap.size ≤ B
theorem HX.hd {w wr : World} {B : Nat} {A : AB} {S : Nat → Prop} (h : HX w wr B A S) : HD w wr B A := by
  obtain ⟨d, h1, h2, _⟩ := h.ex
  exact ⟨⟨d, h1, h2⟩, h.kept, h.low⟩
theorem HX.quiet {w wr w' : World} {B : Nat} {A : AB} {S : Nat → Prop} (h : HX w wr B A S) (K : Kept (fun _ => False) wr w') : HX w w' B A S := by
  obtain ⟨d, h1, h2, h3⟩ := h.ex
  exact ⟨⟨d, h1.kept0 K, h2, fun k hk => ⟨by have := (h3 k hk).1; have := K.size; omega, (h3 k hk).2⟩⟩, h.kept.trans K (fun _ _ z => z), h.low⟩
/-- The blocks beside it are written, or new ones are laid beside it. -/
theorem HX.beside {w wr w' : World} {B : Nat} {A : AB} {S S' : Nat → Prop} (h : HX w wr B A S) (K : Kept S wr w') (hS : ∀ k, S k → w.heap.size ≤ k) (hn : ∀ k, S' k → k < w'.heap.size ∧ (S k ∨ wr.heap.size ≤ k)) : HX w w' B A S' := by
  obtain ⟨d, h1, h2, h3⟩ := h.ex
  refine ⟨⟨d, h1.off K (fun k hk z => (h3 k z).2 hk), h2, fun k hk => ⟨(hn k hk).1, fun z => ?_⟩⟩, h.kept.trans K (fun k hk z => by have := hS k z; omega), h.low⟩
  rcases (hn k hk).2 with q | q
  · exact (h3 k q).2 z
  · have := h1.lt z; omega
theorem HX.of {w wr : World} {B : Nat} {A : AB} (h : HD w wr B A) : HX w wr B A (fun _ => False) := by
  obtain ⟨d, h1, h2⟩ := h.ex
  exact ⟨⟨d, h1, h2, fun _ z => z.elim⟩, h.kept, h.low⟩
theorem HX.step {w wr w' : World} {B : Nat} {d d' : DK} {S : Nat → Prop} (h1 : IsD w.heap.size wr B d) (K : Kept (fun _ => False) w wr) (h3 : ∀ k, S k → k < wr.heap.size ∧ ¬ d.Uses B k) (i : IsD w.heap.size w' B d') (m : DM wr w' B d d') : HX w w' B d'.ab S ∧ Kept (fun k => ¬ S k) wr w' := by
  refine ⟨⟨⟨d', i, rfl, fun k hk => ⟨by have := (h3 k hk).1; have := m.kept.size; omega, fun z => ?_⟩⟩, m.kept0 h1 (Nat.le_refl _) K, i.low⟩, m.kept.mono (fun k _ z q => (h3 k q).2 z.uses)⟩
  rcases m.near k z with q | q
  · exact (h3 k hk).2 q
  · have := (h3 k hk).1; omega
theorem xAppend (w wr : World) (B : Nat) (A : AB) (S : Nat → Prop) (i : Nat) (hi : i < 2) (a : Option Addr) (n c : Nat) (l : List Nat) (h : HX w wr B A S) (hd : A.dead = false) (hN : A.named ≠ 1) (ok : A.Ok) (r : Reads wr a n c l) (hn : n ≤ Lim) (hr : ∀ k, blockOf a = some k → k ≠ B) :
    Calls Try.prog 12 #[.pointer (some ⟨B, 0, none⟩), .int .i64 (i : Int), .slice a n c] wr fun x w' => x = .returned (.int .i64 0) ∧ HX w w' B (A.tick.add i l).counted S ∧ Kept (fun k => ¬ S k) wr w' := by
  obtain ⟨d, h1, rfl, h3⟩ := h.ex
  match i, hi with
  | 0, _ =>
    refine (dAppend_0 w.heap.size B d a n c wr l h1 hd hN ok r hn hr).mono ?_
    rintro x w' ⟨rfl, d', q1, q2, q3⟩
    exact ⟨rfl, by rw [← q3]; exact HX.step h1 h.kept h3 q1 q2⟩
  | 1, _ =>
    refine (dAppend_1 w.heap.size B d a n c wr l h1 hd hN ok r hn hr).mono ?_
    rintro x w' ⟨rfl, d', q1, q2, q3⟩
    exact ⟨rfl, by rw [← q3]; exact HX.step h1 h.kept h3 q1 q2⟩
theorem xCrash (w wr : World) (B : Nat) (A : AB) (S : Nat → Prop) (q : Option Addr) (n c : Nat) (cs : List Int) (h : HX w wr B A S) (ok : A.Ok) (r : IRd wr q n c cs) (hq : 0 < n → ∀ k, blockOf q = some k → k ≠ B) :
    Calls Try.prog 14 #[.pointer (some ⟨B, 0, none⟩), .slice q n c] wr fun x w' => ∃ F, x = .returned (.pointer (some ⟨F, 0, none⟩)) ∧ HX w w' B A.killed S ∧ HD w w' F (A.crash cs) ∧ Kept (fun k => k = B) wr w' := by
  obtain ⟨d, h1, rfl, h3⟩ := h.ex
  refine (dCrash w.heap.size B d q n c cs wr h1 ok r hq).mono ?_
  rintro x w' ⟨df, rfl, i1, i2, i3, K, _⟩
  have K0 : Kept (fun _ => False) w w' := h.kept.trans K (fun k hk z => by have z : k = B := z; have := h.low; omega)
  exact ⟨_, rfl, ⟨⟨_, i1, rfl, fun k hk => ⟨by have := (h3 k hk).1; have := K.size; omega, fun z => (h3 k hk).2 z⟩⟩, K0, h.low⟩, ⟨⟨df, i2.mono h.kept.size, i3⟩, K0, h.kept.size⟩, K⟩
theorem hLoad (w wr : World) (a0 : Option Addr) (n0 c0 : Nat) (l0 : List Nat) (a1 : Option Addr) (n1 c1 : Nat) (l1 : List Nat) (cur : Nat) (K : Kept (fun _ => False) w wr) (r0 : Reads wr a0 n0 c0 l0) (r1 : Reads wr a1 n1 c1 l1) (h0 : n0 ≤ Lim) (h1 : n1 ≤ Lim) (hc : cur < 2) :
    Calls Try.prog 9 #[.agg #[.slice a0 n0 c0, .slice a1 n1 c1], .int .i64 (cur : Int)] wr fun x w' => ∃ B, x = .returned (.tuple #[.pointer (some ⟨B, 0, none⟩), .int .i64 0]) ∧ HD w w' B ⟨l0, [], l1, [], cur, 0, false, 0, false⟩ ∧ Kept (fun _ => False) wr w' := by
  refine (dLoad a0 n0 c0 l0 a1 n1 c1 l1 cur wr r0 r1 h0 h1 hc).mono ?_
  rintro x w' ⟨df, rfl, i1, i2, K2, _⟩
  exact ⟨_, rfl, ⟨⟨df, i1.mono K.size, i2⟩, K.trans K2 (fun _ _ z => z), by have := K.size; omega⟩, K2⟩
end Go.Proofs.Ytbnnmelkbjkkjaa

namespace Go.Proofs.Ytbnnmelkbjkkjaa
open Go.RowKit

/-- Two disks side by side. -/
structure TD (w wr : World) (B1 : Nat) (A1 : AB) (B2 : Nat) (A2 : AB) : Prop where
  ex : ∃ d1 d2, IsD w.heap.size wr B1 d1 ∧ d1.ab = A1 ∧ IsD w.heap.size wr B2 d2 ∧ d2.ab = A2 ∧ ∀ k, d1.Uses B1 k → ¬ d2.Uses B2 k
  kept : Kept (fun _ => False) w wr
theorem TD.swap {w wr : World} {B1 : Nat} {A1 : AB} {B2 : Nat} {A2 : AB} (h : TD w wr B1 A1 B2 A2) : TD w wr B2 A2 B1 A1 := by
  obtain ⟨d1, d2, i1, e1, i2, e2, a⟩ := h.ex
  exact ⟨⟨d2, d1, i2, e2, i1, e1, fun k h2 h1 => a k h1 h2⟩, h.kept⟩
theorem TD.left {w wr : World} {B1 : Nat} {A1 : AB} {B2 : Nat} {A2 : AB} (h : TD w wr B1 A1 B2 A2) : HD w wr B1 A1 := by
  obtain ⟨d1, d2, i1, e1, _⟩ := h.ex
  exact ⟨⟨d1, i1, e1⟩, h.kept, i1.low⟩
theorem TD.quiet {w wr w' : World} {B1 : Nat} {A1 : AB} {B2 : Nat} {A2 : AB} (h : TD w wr B1 A1 B2 A2) (K : Kept (fun _ => False) wr w') : TD w w' B1 A1 B2 A2 := by
  obtain ⟨d1, d2, i1, e1, i2, e2, a⟩ := h.ex
  exact ⟨⟨d1, d2, i1.kept0 K, e1, i2.kept0 K, e2, a⟩, h.kept.trans K (fun _ _ z => z)⟩
/-- The first of them moved. -/
theorem TD.step {w wr w' : World} {B1 B2 : Nat} {d1 d1' d2 : DK} (i1 : IsD w.heap.size wr B1 d1) (i2 : IsD w.heap.size wr B2 d2) (a : ∀ k, d1.Uses B1 k → ¬ d2.Uses B2 k) (K : Kept (fun _ => False) w wr) (i1' : IsD w.heap.size w' B1 d1') (m : DM wr w' B1 d1 d1') : TD w w' B1 d1'.ab B2 d2.ab := by
  refine ⟨⟨d1', d2, i1', rfl, i2.off m.kept (fun k hk z => a k z.uses hk), rfl, fun k hk z => ?_⟩, m.kept0 i1 (Nat.le_refl _) K⟩
  rcases m.near k hk with q | q
  · exact a k q z
  · have := i2.lt z; omega
/-- A new disk beside one. -/
theorem TD.beside {w wr w' : World} {B1 F : Nat} {d1 df : DK} (i1 : IsD w.heap.size w' B1 d1) (h1 : ∀ k, d1.Uses B1 k → k < wr.heap.size) (i2 : IsD w.heap.size w' F df) (h2 : ∀ k, df.Uses F k → wr.heap.size ≤ k) (K : Kept (fun _ => False) w w') : TD w w' B1 d1.ab F df.ab :=
  ⟨⟨d1, df, i1, rfl, i2, rfl, fun k q1 q2 => by have := h1 k q1; have := h2 k q2; omega⟩, K⟩
/-- What one of the four acts answers, and what it makes of a living disk that no Stop has named. -/
def AB.doit (A : AB) (kind slot : Int) (l : List Nat) : AB × Int :=
  if A.dead = true then (A, 60)
  else if slot = 0 ∨ slot = 1 then
    (if kind = 1 then ((A.tick.add slot.toNat l).counted, 0)
     else if kind = 2 then (if slot = (A.cur : Int) then (A, 61) else ((A.tick.more slot.toNat none).counted, 0))
     else if kind = 3 then ((A.tick.sync slot.toNat).counted, 0)
     else ((A.tick.switch slot.toNat).counted, 0))
  else (A, 61)
end Go.Proofs.Ytbnnmelkbjkkjaa

namespace Go.Proofs.Ytbnnmelkbjkkjaa
open Go.RowKit

theorem max_named (n : Int) : ∃ m : Int, (if (0 : Int) > n then (0 : Int) else n) = m ∧ (if n < 0 then (0 : Int) else n) = m := ⟨if n < 0 then 0 else n, by split <;> first | rfl | omega, rfl⟩
set_option maxRecDepth 100000 in
theorem dStopM (base B : Nat) (d : DK) (n m : Int) (e1 : (if (0 : Int) > n then (0 : Int) else n) = m) (done : Bool) (w : World) (h : IsD base w B d) (hd : d.dead = false) :
    Calls Try.prog 22 #[.pointer (some ⟨B, 0, none⟩), .int .i64 n, .bool done] w fun x w' => x = .returned (.int .i64 0) ∧ ∃ d', IsD base w' B d' ∧ DM w w' B d d' ∧ d'.ab = { d.ab with named := m, done := done } := by
  have c6 : w.cell? ⟨B, 6, none⟩ = some (.bool false) := by rw [← hd]; exact h.cell 6 rfl
  have c7 : w.cell? ⟨B, 7, none⟩ = some (.int .i64 d.named) := h.cell 7 rfl
  have c8 : w.cell? ⟨B, 8, none⟩ = some (.bool d.done) := h.cell 8 rfl
  have s7 := h.soft 7
  have s8 := h.soft 8
  obtain ⟨p1, p2⟩ := h.put (d' := { d with named := m }) 7 (.int .i64 m) rfl rfl rfl h.two
  obtain ⟨q1, q2⟩ := p1.put (d' := { d with named := m, done := done }) 8 (.bool done) rfl rfl rfl h.two
  have W2 : Hid (IsD base ((w.setCell ⟨B, 7, none⟩ (.int .i64 m)).setCell ⟨B, 8, none⟩ (.bool done)) B { d with named := m, done := done } ∧ DM w ((w.setCell ⟨B, 7, none⟩ (.int .i64 m)).setCell ⟨B, 8, none⟩ (.bool done)) B d { d with named := m, done := done }) := ⟨q1, p2.trans q2⟩
  clear h hd p1 p2 q1 q2
  go_enter Try.func22, Try.ntmps22
  go_wp2_with fail
  go_ret
  exact ⟨rfl, _, W2.out.1, W2.out.2, rfl⟩
/-- Stop. -/
theorem dStop (base B : Nat) (d : DK) (n : Int) (done : Bool) (w : World) (h : IsD base w B d) (hd : d.dead = false) :
    Calls Try.prog 22 #[.pointer (some ⟨B, 0, none⟩), .int .i64 n, .bool done] w fun x w' => x = .returned (.int .i64 0) ∧ ∃ d', IsD base w' B d' ∧ DM w w' B d d' ∧ d'.ab = { d.ab with named := if n < 0 then 0 else n, done := done } := by
  obtain ⟨m, e1, e2⟩ := max_named n
  rw [e2]
  exact dStopM base B d n m e1 done w h hd
set_option maxRecDepth 100000 in
theorem dStop_dead (base B : Nat) (d : DK) (n : Int) (done : Bool) (w : World) (h : IsD base w B d) (hd : d.dead = true) :
    Calls Try.prog 22 #[.pointer (some ⟨B, 0, none⟩), .int .i64 n, .bool done] w fun x w' => x = .returned (.int .i64 60) ∧ w' = w := by
  have c6 : w.cell? ⟨B, 6, none⟩ = some (.bool true) := by rw [← hd]; exact h.cell 6 rfl
  clear h hd
  go_enter Try.func22, Try.ntmps22
  go_wp2_with fail
  go_ret
  exact ⟨rfl, rfl⟩
end Go.Proofs.Ytbnnmelkbjkkjaa
