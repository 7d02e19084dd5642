import Derived.Test.YtbnnmelkbjkkjaaHead
namespace Go.Proofs.Ytbnnmelkbjkkjaa
open Go.RowKit

theorem max_named (n : Int) : ∃ m : Int, (if (0 : Int) > n then (0 : Int) else n) = m ∧ (if n < 0 then (0 : Int) else n) = m := ⟨if n < 0 then 0 else n, by split <;> first | rfl | omega, rfl⟩
set_option maxRecDepth 100000 in
theorem dStopM (base B : Nat) (d : DK) (n m : Int) (e1 : (if (0 : Int) > n then (0 : Int) else n) = m) (done : Bool) (w : World) (h : IsD base w B d) (hd : d.dead = false) :
    Calls Try.prog 22 #[.pointer (some ⟨B, 0, none⟩), .int .i64 n, .bool done] w fun x w' => x = .returned (.int .i64 0) ∧ ∃ d', IsD base w' B d' ∧ DM w w' B d d' ∧ d'.ab = { d.ab with named := m, done := done } := by
  have c6 : w.cell? ⟨B, 6, none⟩ = some (.bool false) := by rw [← hd]; exact h.cell 6 rfl
  have c7 : w.cell? ⟨B, 7, none⟩ = some (.int .i64 d.named) := h.cell 7 rfl
  have c8 : w.cell? ⟨B, 8, none⟩ = some (.bool d.done) := h.cell 8 rfl
  have s7 := h.soft 7
  have s8 := h.soft 8
  obtain ⟨p1, p2⟩ := h.put (d' := { d with named := m }) 7 (.int .i64 m) rfl rfl rfl h.two
  obtain ⟨q1, q2⟩ := p1.put (d' := { d with named := m, done := done }) 8 (.bool done) rfl rfl rfl h.two
  have W2 : Hid (IsD base ((w.setCell ⟨B, 7, none⟩ (.int .i64 m)).setCell ⟨B, 8, none⟩ (.bool done)) B { d with named := m, done := done } ∧ DM w ((w.setCell ⟨B, 7, none⟩ (.int .i64 m)).setCell ⟨B, 8, none⟩ (.bool done)) B d { d with named := m, done := done }) := ⟨q1, p2.trans q2⟩
  clear h hd p1 p2 q1 q2
  go_enter Try.func22, Try.ntmps22
  go_wp2_with fail
  go_ret
  exact ⟨rfl, _, W2.out.1, W2.out.2, rfl⟩
/-- Stop. -/
theorem dStop (base B : Nat) (d : DK) (n : Int) (done : Bool) (w : World) (h : IsD base w B d) (hd : d.dead = false) :
    Calls Try.prog 22 #[.pointer (some ⟨B, 0, none⟩), .int .i64 n, .bool done] w fun x w' => x = .returned (.int .i64 0) ∧ ∃ d', IsD base w' B d' ∧ DM w w' B d d' ∧ d'.ab = { d.ab with named := if n < 0 then 0 else n, done := done } := by
  obtain ⟨m, e1, e2⟩ := max_named n
  rw [e2]
  exact dStopM base B d n m e1 done w h hd
set_option maxRecDepth 100000 in
theorem dStop_dead (base B : Nat) (d : DK) (n : Int) (done : Bool) (w : World) (h : IsD base w B d) (hd : d.dead = true) :
    Calls Try.prog 22 #[.pointer (some ⟨B, 0, none⟩), .int .i64 n, .bool done] w fun x w' => x = .returned (.int .i64 60) ∧ w' = w := by
  have c6 : w.cell? ⟨B, 6, none⟩ = some (.bool true) := by rw [← hd]; exact h.cell 6 rfl
  clear h hd
  go_enter Try.func22, Try.ntmps22
  go_wp2_with fail
  go_ret
  exact ⟨rfl, rfl⟩
end Go.Proofs.Ytbnnmelkbjkkjaa
