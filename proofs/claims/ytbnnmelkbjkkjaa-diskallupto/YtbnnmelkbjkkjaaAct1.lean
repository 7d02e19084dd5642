import Derived.Test.YtbnnmelkbjkkjaaAct
namespace Go.Proofs.Ytbnnmelkbjkkjaa
open Go.RowKit

def AB.stopped (A : AB) : AB := { A with dead := true, named := 0 }
set_option maxRecDepth 100000 in
set_option maxHeartbeats 1000000 in
theorem stopN38 (base B : Nat) (d : DK) (D1 D2 D3 : Nat) (w : World) (h : IsD base w B d) (hd : d.dead = false) (hN : d.named = 1) (hdn : d.done = false) :
    Calls Try.prog 37 #[.pointer (some ⟨B, 0, none⟩), .func (.func 38) #[] #[.pointer (some ⟨D1, 0, none⟩), .pointer (some ⟨D2, 0, none⟩), .pointer (some ⟨D3, 0, none⟩)]] w fun x w' => x = .returned (.int .i64 60) ∧ ∃ d', IsD base w' B d' ∧ DM w w' B d d' ∧ d'.ab = d.ab.stopped := by
  have c6 : w.cell? ⟨B, 6, none⟩ = some (.bool false) := by rw [← hd]; exact h.cell 6 rfl
  have c7 : w.cell? ⟨B, 7, none⟩ = some (.int .i64 1) := by rw [← hN]; exact h.cell 7 rfl
  have c8 : w.cell? ⟨B, 8, none⟩ = some (.bool false) := by rw [← hdn]; exact h.cell 8 rfl
  have s6 := h.soft 6
  have s7 := h.soft 7
  obtain ⟨p1, p2⟩ := h.put (d' := { d with dead := true }) 6 (.bool true) rfl rfl rfl h.two
  obtain ⟨q1, q2⟩ := p1.put (d' := { d with dead := true, named := 0 }) 7 (.int .i64 0) rfl rfl rfl h.two
  have W2 : Hid (IsD base ((w.setCell ⟨B, 6, none⟩ (.bool true)).setCell ⟨B, 7, none⟩ (.int .i64 0)) B { d with dead := true, named := 0 } ∧ DM w ((w.setCell ⟨B, 6, none⟩ (.bool true)).setCell ⟨B, 7, none⟩ (.int .i64 0)) B d { d with dead := true, named := 0 }) := ⟨q1, p2.trans q2⟩
  clear h hd hN hdn p1 p2 q1 q2
  go_enter Try.func37, Try.ntmps37
  go_wp2_with fail
  go_ret
  exact ⟨rfl, _, W2.out.1, W2.out.2, rfl⟩
set_option maxRecDepth 100000 in
set_option maxHeartbeats 1000000 in
theorem stopD38 (base B : Nat) (d : DK) (D1 D2 D3 : Nat) (w : World) (T : AB → AB) (h : IsD base w B d) (hd : d.dead = false) (hN : d.named = 1) (hdn : d.done = true) (ok : d.ab.Ok) (hT : ∀ A : AB, (T A).acts = A.acts ∧ (T A).dead = A.dead)
    (hdo : ∀ w1 d1, IsD base w1 B d1 → DM w w1 B d d1 → d1.ab = d.ab.stopped → Kept (fun k => k = B) w w1 → d1.Foot B = d.Foot B → Calls Try.prog 38 #[.pointer (some ⟨D1, 0, none⟩), .pointer (some ⟨D2, 0, none⟩), .pointer (some ⟨D3, 0, none⟩)] w1 fun x w' => x = .returned (.tuple #[]) ∧ ∃ d', IsD base w' B d' ∧ DM w1 w' B d1 d' ∧ d'.ab = T d1.ab) :
    Calls Try.prog 37 #[.pointer (some ⟨B, 0, none⟩), .func (.func 38) #[] #[.pointer (some ⟨D1, 0, none⟩), .pointer (some ⟨D2, 0, none⟩), .pointer (some ⟨D3, 0, none⟩)]] w fun x w' => x = .returned (.int .i64 60) ∧ ∃ d', IsD base w' B d' ∧ DM w w' B d d' ∧ d'.ab = (T d.ab.stopped).counted := by
  have c6 : w.cell? ⟨B, 6, none⟩ = some (.bool false) := by rw [← hd]; exact h.cell 6 rfl
  have c7 : w.cell? ⟨B, 7, none⟩ = some (.int .i64 1) := by rw [← hN]; exact h.cell 7 rfl
  have c8 : w.cell? ⟨B, 8, none⟩ = some (.bool true) := by rw [← hdn]; exact h.cell 8 rfl
  have s6 := h.soft 6
  have s7 := h.soft 7
  obtain ⟨p1, p2⟩ := h.put (d' := { d with dead := true }) 6 (.bool true) rfl rfl rfl h.two
  obtain ⟨q1, q2⟩ := p1.put (d' := { d with dead := true, named := 0 }) 7 (.int .i64 0) rfl rfl rfl h.two
  have W2 : Hid (IsD base ((w.setCell ⟨B, 6, none⟩ (.bool true)).setCell ⟨B, 7, none⟩ (.int .i64 0)) B { d with dead := true, named := 0 } ∧ DM w ((w.setCell ⟨B, 6, none⟩ (.bool true)).setCell ⟨B, 7, none⟩ (.int .i64 0)) B d { d with dead := true, named := 0 }) := ⟨q1, p2.trans q2⟩
  have KB : Kept (fun k => k = B) w ((w.setCell ⟨B, 6, none⟩ (.bool true)).setCell ⟨B, 7, none⟩ (.int .i64 0)) := ((Kept.refl (fun k => k = B) w).setCell (p := ⟨B, 6, none⟩) (fun _ => rfl) _).setCell (p := ⟨B, 7, none⟩) (fun _ => rfl) _
  have DO : Hid (Calls Try.prog 38 #[.pointer (some ⟨D1, 0, none⟩), .pointer (some ⟨D2, 0, none⟩), .pointer (some ⟨D3, 0, none⟩)] ((w.setCell ⟨B, 6, none⟩ (.bool true)).setCell ⟨B, 7, none⟩ (.int .i64 0)) fun x w' => x = .returned (.tuple #[]) ∧ ∃ d', IsD base w' B d' ∧ DM w w' B d d' ∧ d'.ab = T d.ab.stopped) := by
    refine (hdo _ _ W2.out.1 W2.out.2 rfl KB rfl).mono ?_
    rintro x w' ⟨rfl, d', a1, a2, a3⟩
    exact ⟨rfl, d', a1, W2.out.2.trans a2, a3⟩
  have HT : Hid ((T d.ab.stopped).acts = d.acts ∧ (T d.ab.stopped).dead = true) := ⟨(hT _).1, (hT _).2⟩
  have ha : d.acts < 1099511627776 := by have := ok.acts; unfold Lim at this; show d.ab.acts < _; omega
  clear h hd hN hdn ok hT hdo p1 p2 q1 q2 W2 KB
  go_enter Try.func37, Try.ntmps37
  go_wp2_with fail
  refine DO.out.mono ?_
  rintro x w3 ⟨rfl, d3, a1, a2, a3⟩
  have Z3 : Hid (IsD base w3 B d3 ∧ DM w w3 B d d3 ∧ d3.ab = T d.ab.stopped) := ⟨a1, a2, a3⟩
  have b5 : w3.cell? ⟨B, 5, none⟩ = some (.int .i64 (d.acts : Int)) := by
    have q : d3.acts = d.acts := by have := congrArg AB.acts a3; exact this.trans HT.out.1
    rw [← q]; exact a1.cell 5 rfl
  have b6 : w3.cell? ⟨B, 6, none⟩ = some (.bool true) := by
    have q : d3.dead = true := by have := congrArg AB.dead a3; exact this.trans HT.out.2
    rw [← q]; exact a1.cell 6 rfl
  have s5 := a1.soft 5
  have wA : IntKind.i64.wrap ((d.acts : Int) + 1) = (d.acts : Int) + 1 := by rw [IntKind.wrap_i64]; omega
  clear a1 a2 a3
  go_wp2_with fail
  go_ret
  have q : d3.acts = d.acts := by have := congrArg AB.acts Z3.out.2.2; exact this.trans HT.out.1
  obtain ⟨m1, m2⟩ := Z3.out.1.put (d' := { d3 with acts := d3.acts + 1 }) 5 (.int .i64 ((d.acts : Int) + 1)) rfl rfl (by simp [DK.cells, q]) Z3.out.1.two
  refine ⟨rfl, _, m1, Z3.out.2.1.trans m2, ?_⟩
  rw [← Z3.out.2.2]
  rfl
set_option maxRecDepth 100000 in
set_option maxHeartbeats 1000000 in
theorem stopN42 (base B : Nat) (d : DK) (D1 D2 : Nat) (w : World) (h : IsD base w B d) (hd : d.dead = false) (hN : d.named = 1) (hdn : d.done = false) :
    Calls Try.prog 37 #[.pointer (some ⟨B, 0, none⟩), .func (.func 42) #[] #[.pointer (some ⟨D1, 0, none⟩), .pointer (some ⟨D2, 0, none⟩)]] w fun x w' => x = .returned (.int .i64 60) ∧ ∃ d', IsD base w' B d' ∧ DM w w' B d d' ∧ d'.ab = d.ab.stopped := by
  have c6 : w.cell? ⟨B, 6, none⟩ = some (.bool false) := by rw [← hd]; exact h.cell 6 rfl
  have c7 : w.cell? ⟨B, 7, none⟩ = some (.int .i64 1) := by rw [← hN]; exact h.cell 7 rfl
  have c8 : w.cell? ⟨B, 8, none⟩ = some (.bool false) := by rw [← hdn]; exact h.cell 8 rfl
  have s6 := h.soft 6
  have s7 := h.soft 7
  obtain ⟨p1, p2⟩ := h.put (d' := { d with dead := true }) 6 (.bool true) rfl rfl rfl h.two
  obtain ⟨q1, q2⟩ := p1.put (d' := { d with dead := true, named := 0 }) 7 (.int .i64 0) rfl rfl rfl h.two
  have W2 : Hid (IsD base ((w.setCell ⟨B, 6, none⟩ (.bool true)).setCell ⟨B, 7, none⟩ (.int .i64 0)) B { d with dead := true, named := 0 } ∧ DM w ((w.setCell ⟨B, 6, none⟩ (.bool true)).setCell ⟨B, 7, none⟩ (.int .i64 0)) B d { d with dead := true, named := 0 }) := ⟨q1, p2.trans q2⟩
  clear h hd hN hdn p1 p2 q1 q2
  go_enter Try.func37, Try.ntmps37
  go_wp2_with fail
  go_ret
  exact ⟨rfl, _, W2.out.1, W2.out.2, rfl⟩
set_option maxRecDepth 100000 in
set_option maxHeartbeats 1000000 in
theorem stopD42 (base B : Nat) (d : DK) (D1 D2 : Nat) (w : World) (T : AB → AB) (h : IsD base w B d) (hd : d.dead = false) (hN : d.named = 1) (hdn : d.done = true) (ok : d.ab.Ok) (hT : ∀ A : AB, (T A).acts = A.acts ∧ (T A).dead = A.dead)
    (hdo : ∀ w1 d1, IsD base w1 B d1 → DM w w1 B d d1 → d1.ab = d.ab.stopped → Kept (fun k => k = B) w w1 → d1.Foot B = d.Foot B → Calls Try.prog 42 #[.pointer (some ⟨D1, 0, none⟩), .pointer (some ⟨D2, 0, none⟩)] w1 fun x w' => x = .returned (.tuple #[]) ∧ ∃ d', IsD base w' B d' ∧ DM w1 w' B d1 d' ∧ d'.ab = T d1.ab) :
    Calls Try.prog 37 #[.pointer (some ⟨B, 0, none⟩), .func (.func 42) #[] #[.pointer (some ⟨D1, 0, none⟩), .pointer (some ⟨D2, 0, none⟩)]] w fun x w' => x = .returned (.int .i64 60) ∧ ∃ d', IsD base w' B d' ∧ DM w w' B d d' ∧ d'.ab = (T d.ab.stopped).counted := by
  have c6 : w.cell? ⟨B, 6, none⟩ = some (.bool false) := by rw [← hd]; exact h.cell 6 rfl
  have c7 : w.cell? ⟨B, 7, none⟩ = some (.int .i64 1) := by rw [← hN]; exact h.cell 7 rfl
  have c8 : w.cell? ⟨B, 8, none⟩ = some (.bool true) := by rw [← hdn]; exact h.cell 8 rfl
  have s6 := h.soft 6
  have s7 := h.soft 7
  obtain ⟨p1, p2⟩ := h.put (d' := { d with dead := true }) 6 (.bool true) rfl rfl rfl h.two
  obtain ⟨q1, q2⟩ := p1.put (d' := { d with dead := true, named := 0 }) 7 (.int .i64 0) rfl rfl rfl h.two
  have W2 : Hid (IsD base ((w.setCell ⟨B, 6, none⟩ (.bool true)).setCell ⟨B, 7, none⟩ (.int .i64 0)) B { d with dead := true, named := 0 } ∧ DM w ((w.setCell ⟨B, 6, none⟩ (.bool true)).setCell ⟨B, 7, none⟩ (.int .i64 0)) B d { d with dead := true, named := 0 }) := ⟨q1, p2.trans q2⟩
  have KB : Kept (fun k => k = B) w ((w.setCell ⟨B, 6, none⟩ (.bool true)).setCell ⟨B, 7, none⟩ (.int .i64 0)) := ((Kept.refl (fun k => k = B) w).setCell (p := ⟨B, 6, none⟩) (fun _ => rfl) _).setCell (p := ⟨B, 7, none⟩) (fun _ => rfl) _
  have DO : Hid (Calls Try.prog 42 #[.pointer (some ⟨D1, 0, none⟩), .pointer (some ⟨D2, 0, none⟩)] ((w.setCell ⟨B, 6, none⟩ (.bool true)).setCell ⟨B, 7, none⟩ (.int .i64 0)) fun x w' => x = .returned (.tuple #[]) ∧ ∃ d', IsD base w' B d' ∧ DM w w' B d d' ∧ d'.ab = T d.ab.stopped) := by
    refine (hdo _ _ W2.out.1 W2.out.2 rfl KB rfl).mono ?_
    rintro x w' ⟨rfl, d', a1, a2, a3⟩
    exact ⟨rfl, d', a1, W2.out.2.trans a2, a3⟩
  have HT : Hid ((T d.ab.stopped).acts = d.acts ∧ (T d.ab.stopped).dead = true) := ⟨(hT _).1, (hT _).2⟩
  have ha : d.acts < 1099511627776 := by have := ok.acts; unfold Lim at this; show d.ab.acts < _; omega
  clear h hd hN hdn ok hT hdo p1 p2 q1 q2 W2 KB
  go_enter Try.func37, Try.ntmps37
  go_wp2_with fail
  refine DO.out.mono ?_
  rintro x w3 ⟨rfl, d3, a1, a2, a3⟩
  have Z3 : Hid (IsD base w3 B d3 ∧ DM w w3 B d d3 ∧ d3.ab = T d.ab.stopped) := ⟨a1, a2, a3⟩
  have b5 : w3.cell? ⟨B, 5, none⟩ = some (.int .i64 (d.acts : Int)) := by
    have q : d3.acts = d.acts := by have := congrArg AB.acts a3; exact this.trans HT.out.1
    rw [← q]; exact a1.cell 5 rfl
  have b6 : w3.cell? ⟨B, 6, none⟩ = some (.bool true) := by
    have q : d3.dead = true := by have := congrArg AB.dead a3; exact this.trans HT.out.2
    rw [← q]; exact a1.cell 6 rfl
  have s5 := a1.soft 5
  have wA : IntKind.i64.wrap ((d.acts : Int) + 1) = (d.acts : Int) + 1 := by rw [IntKind.wrap_i64]; omega
  clear a1 a2 a3
  go_wp2_with fail
  go_ret
  have q : d3.acts = d.acts := by have := congrArg AB.acts Z3.out.2.2; exact this.trans HT.out.1
  obtain ⟨m1, m2⟩ := Z3.out.1.put (d' := { d3 with acts := d3.acts + 1 }) 5 (.int .i64 ((d.acts : Int) + 1)) rfl rfl (by simp [DK.cells, q]) Z3.out.1.two
  refine ⟨rfl, _, m1, Z3.out.2.1.trans m2, ?_⟩
  rw [← Z3.out.2.2]
  rfl
set_option maxRecDepth 100000 in
set_option maxHeartbeats 1000000 in
theorem stopN44 (base B : Nat) (d : DK) (D1 D2 : Nat) (w : World) (h : IsD base w B d) (hd : d.dead = false) (hN : d.named = 1) (hdn : d.done = false) :
    Calls Try.prog 37 #[.pointer (some ⟨B, 0, none⟩), .func (.func 44) #[] #[.pointer (some ⟨D2, 0, none⟩), .pointer (some ⟨D1, 0, none⟩)]] w fun x w' => x = .returned (.int .i64 60) ∧ ∃ d', IsD base w' B d' ∧ DM w w' B d d' ∧ d'.ab = d.ab.stopped := by
  have c6 : w.cell? ⟨B, 6, none⟩ = some (.bool false) := by rw [← hd]; exact h.cell 6 rfl
  have c7 : w.cell? ⟨B, 7, none⟩ = some (.int .i64 1) := by rw [← hN]; exact h.cell 7 rfl
  have c8 : w.cell? ⟨B, 8, none⟩ = some (.bool false) := by rw [← hdn]; exact h.cell 8 rfl
  have s6 := h.soft 6
  have s7 := h.soft 7
  obtain ⟨p1, p2⟩ := h.put (d' := { d with dead := true }) 6 (.bool true) rfl rfl rfl h.two
  obtain ⟨q1, q2⟩ := p1.put (d' := { d with dead := true, named := 0 }) 7 (.int .i64 0) rfl rfl rfl h.two
  have W2 : Hid (IsD base ((w.setCell ⟨B, 6, none⟩ (.bool true)).setCell ⟨B, 7, none⟩ (.int .i64 0)) B { d with dead := true, named := 0 } ∧ DM w ((w.setCell ⟨B, 6, none⟩ (.bool true)).setCell ⟨B, 7, none⟩ (.int .i64 0)) B d { d with dead := true, named := 0 }) := ⟨q1, p2.trans q2⟩
  clear h hd hN hdn p1 p2 q1 q2
  go_enter Try.func37, Try.ntmps37
  go_wp2_with fail
  go_ret
  exact ⟨rfl, _, W2.out.1, W2.out.2, rfl⟩
set_option maxRecDepth 100000 in
set_option maxHeartbeats 1000000 in
theorem stopD44 (base B : Nat) (d : DK) (D1 D2 : Nat) (w : World) (T : AB → AB) (h : IsD base w B d) (hd : d.dead = false) (hN : d.named = 1) (hdn : d.done = true) (ok : d.ab.Ok) (hT : ∀ A : AB, (T A).acts = A.acts ∧ (T A).dead = A.dead)
    (hdo : ∀ w1 d1, IsD base w1 B d1 → DM w w1 B d d1 → d1.ab = d.ab.stopped → Kept (fun k => k = B) w w1 → d1.Foot B = d.Foot B → Calls Try.prog 44 #[.pointer (some ⟨D2, 0, none⟩), .pointer (some ⟨D1, 0, none⟩)] w1 fun x w' => x = .returned (.tuple #[]) ∧ ∃ d', IsD base w' B d' ∧ DM w1 w' B d1 d' ∧ d'.ab = T d1.ab) :
    Calls Try.prog 37 #[.pointer (some ⟨B, 0, none⟩), .func (.func 44) #[] #[.pointer (some ⟨D2, 0, none⟩), .pointer (some ⟨D1, 0, none⟩)]] w fun x w' => x = .returned (.int .i64 60) ∧ ∃ d', IsD base w' B d' ∧ DM w w' B d d' ∧ d'.ab = (T d.ab.stopped).counted := by
  have c6 : w.cell? ⟨B, 6, none⟩ = some (.bool false) := by rw [← hd]; exact h.cell 6 rfl
  have c7 : w.cell? ⟨B, 7, none⟩ = some (.int .i64 1) := by rw [← hN]; exact h.cell 7 rfl
  have c8 : w.cell? ⟨B, 8, none⟩ = some (.bool true) := by rw [← hdn]; exact h.cell 8 rfl
  have s6 := h.soft 6
  have s7 := h.soft 7
  obtain ⟨p1, p2⟩ := h.put (d' := { d with dead := true }) 6 (.bool true) rfl rfl rfl h.two
  obtain ⟨q1, q2⟩ := p1.put (d' := { d with dead := true, named := 0 }) 7 (.int .i64 0) rfl rfl rfl h.two
  have W2 : Hid (IsD base ((w.setCell ⟨B, 6, none⟩ (.bool true)).setCell ⟨B, 7, none⟩ (.int .i64 0)) B { d with dead := true, named := 0 } ∧ DM w ((w.setCell ⟨B, 6, none⟩ (.bool true)).setCell ⟨B, 7, none⟩ (.int .i64 0)) B d { d with dead := true, named := 0 }) := ⟨q1, p2.trans q2⟩
  have KB : Kept (fun k => k = B) w ((w.setCell ⟨B, 6, none⟩ (.bool true)).setCell ⟨B, 7, none⟩ (.int .i64 0)) := ((Kept.refl (fun k => k = B) w).setCell (p := ⟨B, 6, none⟩) (fun _ => rfl) _).setCell (p := ⟨B, 7, none⟩) (fun _ => rfl) _
  have DO : Hid (Calls Try.prog 44 #[.pointer (some ⟨D2, 0, none⟩), .pointer (some ⟨D1, 0, none⟩)] ((w.setCell ⟨B, 6, none⟩ (.bool true)).setCell ⟨B, 7, none⟩ (.int .i64 0)) fun x w' => x = .returned (.tuple #[]) ∧ ∃ d', IsD base w' B d' ∧ DM w w' B d d' ∧ d'.ab = T d.ab.stopped) := by
    refine (hdo _ _ W2.out.1 W2.out.2 rfl KB rfl).mono ?_
    rintro x w' ⟨rfl, d', a1, a2, a3⟩
    exact ⟨rfl, d', a1, W2.out.2.trans a2, a3⟩
  have HT : Hid ((T d.ab.stopped).acts = d.acts ∧ (T d.ab.stopped).dead = true) := ⟨(hT _).1, (hT _).2⟩
  have ha : d.acts < 1099511627776 := by have := ok.acts; unfold Lim at this; show d.ab.acts < _; omega
  clear h hd hN hdn ok hT hdo p1 p2 q1 q2 W2 KB
  go_enter Try.func37, Try.ntmps37
  go_wp2_with fail
  refine DO.out.mono ?_
  rintro x w3 ⟨rfl, d3, a1, a2, a3⟩
  have Z3 : Hid (IsD base w3 B d3 ∧ DM w w3 B d d3 ∧ d3.ab = T d.ab.stopped) := ⟨a1, a2, a3⟩
  have b5 : w3.cell? ⟨B, 5, none⟩ = some (.int .i64 (d.acts : Int)) := by
    have q : d3.acts = d.acts := by have := congrArg AB.acts a3; exact this.trans HT.out.1
    rw [← q]; exact a1.cell 5 rfl
  have b6 : w3.cell? ⟨B, 6, none⟩ = some (.bool true) := by
    have q : d3.dead = true := by have := congrArg AB.dead a3; exact this.trans HT.out.2
    rw [← q]; exact a1.cell 6 rfl
  have s5 := a1.soft 5
  have wA : IntKind.i64.wrap ((d.acts : Int) + 1) = (d.acts : Int) + 1 := by rw [IntKind.wrap_i64]; omega
  clear a1 a2 a3
  go_wp2_with fail
  go_ret
  have q : d3.acts = d.acts := by have := congrArg AB.acts Z3.out.2.2; exact this.trans HT.out.1
  obtain ⟨m1, m2⟩ := Z3.out.1.put (d' := { d3 with acts := d3.acts + 1 }) 5 (.int .i64 ((d.acts : Int) + 1)) rfl rfl (by simp [DK.cells, q]) Z3.out.1.two
  refine ⟨rfl, _, m1, Z3.out.2.1.trans m2, ?_⟩
  rw [← Z3.out.2.2]
  rfl
set_option maxRecDepth 100000 in
set_option maxHeartbeats 1000000 in
theorem stopN45 (base B : Nat) (d : DK) (D1 D2 : Nat) (w : World) (h : IsD base w B d) (hd : d.dead = false) (hN : d.named = 1) (hdn : d.done = false) :
    Calls Try.prog 37 #[.pointer (some ⟨B, 0, none⟩), .func (.func 45) #[] #[.pointer (some ⟨D1, 0, none⟩), .pointer (some ⟨D2, 0, none⟩)]] w fun x w' => x = .returned (.int .i64 60) ∧ ∃ d', IsD base w' B d' ∧ DM w w' B d d' ∧ d'.ab = d.ab.stopped := by
  have c6 : w.cell? ⟨B, 6, none⟩ = some (.bool false) := by rw [← hd]; exact h.cell 6 rfl
  have c7 : w.cell? ⟨B, 7, none⟩ = some (.int .i64 1) := by rw [← hN]; exact h.cell 7 rfl
  have c8 : w.cell? ⟨B, 8, none⟩ = some (.bool false) := by rw [← hdn]; exact h.cell 8 rfl
  have s6 := h.soft 6
  have s7 := h.soft 7
  obtain ⟨p1, p2⟩ := h.put (d' := { d with dead := true }) 6 (.bool true) rfl rfl rfl h.two
  obtain ⟨q1, q2⟩ := p1.put (d' := { d with dead := true, named := 0 }) 7 (.int .i64 0) rfl rfl rfl h.two
  have W2 : Hid (IsD base ((w.setCell ⟨B, 6, none⟩ (.bool true)).setCell ⟨B, 7, none⟩ (.int .i64 0)) B { d with dead := true, named := 0 } ∧ DM w ((w.setCell ⟨B, 6, none⟩ (.bool true)).setCell ⟨B, 7, none⟩ (.int .i64 0)) B d { d with dead := true, named := 0 }) := ⟨q1, p2.trans q2⟩
  clear h hd hN hdn p1 p2 q1 q2
  go_enter Try.func37, Try.ntmps37
  go_wp2_with fail
  go_ret
  exact ⟨rfl, _, W2.out.1, W2.out.2, rfl⟩
set_option maxRecDepth 100000 in
set_option maxHeartbeats 1000000 in
theorem stopD45 (base B : Nat) (d : DK) (D1 D2 : Nat) (w : World) (T : AB → AB) (h : IsD base w B d) (hd : d.dead = false) (hN : d.named = 1) (hdn : d.done = true) (ok : d.ab.Ok) (hT : ∀ A : AB, (T A).acts = A.acts ∧ (T A).dead = A.dead)
    (hdo : ∀ w1 d1, IsD base w1 B d1 → DM w w1 B d d1 → d1.ab = d.ab.stopped → Kept (fun k => k = B) w w1 → d1.Foot B = d.Foot B → Calls Try.prog 45 #[.pointer (some ⟨D1, 0, none⟩), .pointer (some ⟨D2, 0, none⟩)] w1 fun x w' => x = .returned (.tuple #[]) ∧ ∃ d', IsD base w' B d' ∧ DM w1 w' B d1 d' ∧ d'.ab = T d1.ab) :
    Calls Try.prog 37 #[.pointer (some ⟨B, 0, none⟩), .func (.func 45) #[] #[.pointer (some ⟨D1, 0, none⟩), .pointer (some ⟨D2, 0, none⟩)]] w fun x w' => x = .returned (.int .i64 60) ∧ ∃ d', IsD base w' B d' ∧ DM w w' B d d' ∧ d'.ab = (T d.ab.stopped).counted := by
  have c6 : w.cell? ⟨B, 6, none⟩ = some (.bool false) := by rw [← hd]; exact h.cell 6 rfl
  have c7 : w.cell? ⟨B, 7, none⟩ = some (.int .i64 1) := by rw [← hN]; exact h.cell 7 rfl
  have c8 : w.cell? ⟨B, 8, none⟩ = some (.bool true) := by rw [← hdn]; exact h.cell 8 rfl
  have s6 := h.soft 6
  have s7 := h.soft 7
  obtain ⟨p1, p2⟩ := h.put (d' := { d with dead := true }) 6 (.bool true) rfl rfl rfl h.two
  obtain ⟨q1, q2⟩ := p1.put (d' := { d with dead := true, named := 0 }) 7 (.int .i64 0) rfl rfl rfl h.two
  have W2 : Hid (IsD base ((w.setCell ⟨B, 6, none⟩ (.bool true)).setCell ⟨B, 7, none⟩ (.int .i64 0)) B { d with dead := true, named := 0 } ∧ DM w ((w.setCell ⟨B, 6, none⟩ (.bool true)).setCell ⟨B, 7, none⟩ (.int .i64 0)) B d { d with dead := true, named := 0 }) := ⟨q1, p2.trans q2⟩
  have KB : Kept (fun k => k = B) w ((w.setCell ⟨B, 6, none⟩ (.bool true)).setCell ⟨B, 7, none⟩ (.int .i64 0)) := ((Kept.refl (fun k => k = B) w).setCell (p := ⟨B, 6, none⟩) (fun _ => rfl) _).setCell (p := ⟨B, 7, none⟩) (fun _ => rfl) _
  have DO : Hid (Calls Try.prog 45 #[.pointer (some ⟨D1, 0, none⟩), .pointer (some ⟨D2, 0, none⟩)] ((w.setCell ⟨B, 6, none⟩ (.bool true)).setCell ⟨B, 7, none⟩ (.int .i64 0)) fun x w' => x = .returned (.tuple #[]) ∧ ∃ d', IsD base w' B d' ∧ DM w w' B d d' ∧ d'.ab = T d.ab.stopped) := by
    refine (hdo _ _ W2.out.1 W2.out.2 rfl KB rfl).mono ?_
    rintro x w' ⟨rfl, d', a1, a2, a3⟩
    exact ⟨rfl, d', a1, W2.out.2.trans a2, a3⟩
  have HT : Hid ((T d.ab.stopped).acts = d.acts ∧ (T d.ab.stopped).dead = true) := ⟨(hT _).1, (hT _).2⟩
  have ha : d.acts < 1099511627776 := by have := ok.acts; unfold Lim at this; show d.ab.acts < _; omega
  clear h hd hN hdn ok hT hdo p1 p2 q1 q2 W2 KB
  go_enter Try.func37, Try.ntmps37
  go_wp2_with fail
  refine DO.out.mono ?_
  rintro x w3 ⟨rfl, d3, a1, a2, a3⟩
  have Z3 : Hid (IsD base w3 B d3 ∧ DM w w3 B d d3 ∧ d3.ab = T d.ab.stopped) := ⟨a1, a2, a3⟩
  have b5 : w3.cell? ⟨B, 5, none⟩ = some (.int .i64 (d.acts : Int)) := by
    have q : d3.acts = d.acts := by have := congrArg AB.acts a3; exact this.trans HT.out.1
    rw [← q]; exact a1.cell 5 rfl
  have b6 : w3.cell? ⟨B, 6, none⟩ = some (.bool true) := by
    have q : d3.dead = true := by have := congrArg AB.dead a3; exact this.trans HT.out.2
    rw [← q]; exact a1.cell 6 rfl
  have s5 := a1.soft 5
  have wA : IntKind.i64.wrap ((d.acts : Int) + 1) = (d.acts : Int) + 1 := by rw [IntKind.wrap_i64]; omega
  clear a1 a2 a3
  go_wp2_with fail
  go_ret
  have q : d3.acts = d.acts := by have := congrArg AB.acts Z3.out.2.2; exact this.trans HT.out.1
  obtain ⟨m1, m2⟩ := Z3.out.1.put (d' := { d3 with acts := d3.acts + 1 }) 5 (.int .i64 ((d.acts : Int) + 1)) rfl rfl (by simp [DK.cells, q]) Z3.out.1.two
  refine ⟨rfl, _, m1, Z3.out.2.1.trans m2, ?_⟩
  rw [← Z3.out.2.2]
  rfl
end Go.Proofs.Ytbnnmelkbjkkjaa
