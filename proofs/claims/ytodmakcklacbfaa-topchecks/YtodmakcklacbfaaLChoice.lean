import Derived.Test.YtodmakcklacbfaaLWaitJ
namespace Go.Proofs.Ytodmakcklacbfaa
open Go.RowKit 

def intsN (R : List Nat) : List Value := R.map fun i : Nat => Value.int .i64 (i : Int)
theorem intsN_append (R S : List Nat) : intsN (R ++ S) = intsN R ++ intsN S := by simp [intsN]
theorem intsN_get {R : List Nat} {j r : Nat} (h : R[j]? = some r) : (intsN R)[j]? = some (.int .i64 (r : Int)) := by
  unfold intsN
  rw [List.getElem?_map, h]
  rfl
/-- A list of numbers of one's own. -/
structure NRow (b0 : Nat) (w : World) (p : Option Addr) (k c : Nat) (R : List Nat) : Prop where
  len : R.length = k
  row : w.ownsRow b0 3 1 (.slice p k c) k (intsN R)
theorem NRow.k0 {b0 : Nat} {w w' : World} {p : Option Addr} {k c : Nat} {R : List Nat} (h : NRow b0 w p k c R) (K : Kept (fun _ => False) w w') : NRow b0 w' p k c R := ⟨h.len, K.owns h.row (fun _ _ z => z)⟩
theorem NRow.at {b0 : Nat} {w : World} {p : Option Addr} {k c : Nat} {R : List Nat} (h : NRow b0 w p k c R) {j : Nat} (hj : j < k) : ∃ g r, p = some ⟨g, 0, none⟩ ∧ R[j]? = some r ∧ w.cell? ⟨g, j, none⟩ = some (.int .i64 (r : Int)) := by
  rcases h.row.2 with ⟨_, hn⟩ | ⟨g, cap, cur, z, _⟩
  · omega
  · have z : Value.slice p k c = .slice (some ⟨g, 0, none⟩) k cap := z
    injection z with z1 _ z3
    subst z1
    subst z3
    have hj2 : j < R.length := by rw [h.len]; exact hj
    have hc := h.row.cells (g := g) rfl
    refine ⟨g, R[j], rfl, List.getElem?_eq_getElem hj2, ?_⟩
    have := hc j _ (intsN_get (List.getElem?_eq_getElem hj2))
    rw [Addr.add_none, Nat.zero_add] at this
    exact this
/-- Where the first of that value stands. -/
def AtP (f : Fd) (R : List Nat) (i : Nat) (a : Int) : Prop := (a = -1 ∧ ∀ r ∈ R, f.val r ≠ f.val i) ∨ ∃ (j r : Nat), a = (j : Int) ∧ R[j]? = some r ∧ f.val r = f.val i
set_option maxRecDepth 100000 in
theorem closure47 {w : World} {fb : Nat} {f : Fd} {ms : List Cm} {cp : Option Addr} {cc vb ab bb lb mb FB IB : Nat} (h : SF w fb f ms cp cc vb ab bb lb mb) (r i : Nat) (hr : r < f.n) (hi : i < f.n) (c1 : w.cell? ⟨FB, 0, none⟩ = some (.pointer (some ⟨fb, 0, none⟩))) (c2 : w.cell? ⟨IB, 0, none⟩ = some (.int .i64 (i : Int))) :
    Calls Try.prog 112 #[.int .i64 (r : Int), .pointer (some ⟨FB, 0, none⟩), .pointer (some ⟨IB, 0, none⟩)] w fun o w' => o = .returned (.bool (decide (f.val r = f.val i))) ∧ Kept (fun _ => False) w w' := by
  have f1 := cell_blk h.blk 1 (v := .slice (some ⟨vb, 0, none⟩) f.n f.n) rfl
  have v1 := h.val r hr
  have v2 := h.val i hi
  obtain ⟨n, hn⟩ : ∃ n, n = f.n := ⟨_, rfl⟩
  rw [← hn] at f1 hr hi
  obtain ⟨x, hx⟩ : ∃ x, x = f.val r := ⟨_, rfl⟩
  obtain ⟨y, hy⟩ : ∃ y, y = f.val i := ⟨_, rfl⟩
  rw [← hx] at v1 ⊢
  rw [← hy] at v2 ⊢
  have i1 : (i : Int) < (n : Int) := by omega
  have r1 : (r : Int) < (n : Int) := by omega
  have i0 : (0 : Int) ≤ (i : Int) := by omega
  have r0 : (0 : Int) ≤ (r : Int) := by omega
  clear h hn hx hy
  go_enter Try.func112, Try.ntmps112
  go_upto_region 1 with fail
  go_quiet (fail)
  go_wp2_with fail
  go_ret
  refine ⟨by first | rfl | simp, ?_⟩
  exact (Kept.refl _ _).drewN _
set_option maxRecDepth 100000 in
theorem indexFunc {w : World} {fb : Nat} {f : Fd} {ms : List Cm} {cp : Option Addr} {cc vb ab bb lb mb FB IB : Nat} (h : SF w fb f ms cp cc vb ab bb lb mb) (i : Nat) (hi : i < f.n) (c1 : w.cell? ⟨FB, 0, none⟩ = some (.pointer (some ⟨fb, 0, none⟩))) (c2 : w.cell? ⟨IB, 0, none⟩ = some (.int .i64 (i : Int))) {b0 : Nat} {p : Option Addr} {k c : Nat} {R : List Nat} (hR : NRow b0 w p k c R) (lt : ∀ r ∈ R, r < f.n) :
    Calls Try.prog 64 #[.slice p k c, .func (.func 112) #[] #[.pointer (some ⟨FB, 0, none⟩), .pointer (some ⟨IB, 0, none⟩)]] w fun o w' => ∃ a : Int, o = .returned (.int .i64 a) ∧ Hid (AtP f R i a ∧ Kept (fun _ => False) w w') := by
  have H : Hid (SF w fb f ms cp cc vb ab bb lb mb ∧ i < f.n ∧ w.cell? ⟨FB, 0, none⟩ = some (.pointer (some ⟨fb, 0, none⟩)) ∧ w.cell? ⟨IB, 0, none⟩ = some (.int .i64 (i : Int)) ∧ NRow b0 w p k c R ∧ ∀ r ∈ R, r < f.n) := ⟨h, hi, c1, c2, hR, lt⟩
  have rm := own_room hR.row
  unfold maxLen at rm
  obtain ⟨rm1, rm2⟩ := rm
  have S0 : Hid ((∀ r ∈ R.take 0, f.val r ≠ f.val i) ∧ Kept (fun _ => False) w w) := ⟨fun r hr => by simp at hr, Kept.refl _ _⟩
  clear h hi c1 c2 hR lt
  go_enter Try.func64, Try.ntmps64
  go_wp2_with fail
  go_loopw [5, 8] (fun _ u8 wr => ∃ (j : Nat), u8 = .int .i64 (j : Int) ∧ j ≤ k ∧ Hid ((∀ r ∈ R.take j, f.val r ≠ f.val i) ∧ Kept (fun _ => False) w wr)) (fun _ u8 _ => k - (intOf u8).toNat)
  case atStart => exact ⟨0, rfl, Nat.zero_le _, S0⟩
  case round =>
    obtain ⟨j, rfl, hj, S⟩ := hrel
    clear S0
    by_cases hlt : j < k
    · have j1 : (j : Int) < (k : Int) := by omega
      obtain ⟨g, r, rfl, hr, cr⟩ := (H.out.2.2.2.2.1.k0 S.out.2).at hlt
      obtain ⟨eq, heq⟩ : ∃ eq, eq = decide (f.val r = f.val i) := ⟨_, rfl⟩
      have CC : Hid (Calls Try.prog 112 #[.int .i64 (r : Int), .pointer (some ⟨FB, 0, none⟩), .pointer (some ⟨IB, 0, none⟩)] wr fun o w' => o = .returned (.bool eq) ∧ Kept (fun _ => False) wr w') := by
        rw [heq]
        exact closure47 (H.out.1.k0 S.out.2) r i (H.out.2.2.2.2.2 r (List.mem_of_getElem? hr)) H.out.2.1 (S.out.2.cell H.out.2.2.1 (fun z => z)) (S.out.2.cell H.out.2.2.2.1 (fun z => z))
      have HE : Hid (eq = decide (f.val r = f.val i) ∧ R[j]? = some r) := ⟨heq, hr⟩
      clear heq hr
      go_wp2_with fail
      refine CC.out.mono ?_
      rintro o w2 ⟨rfl, K2⟩
      have K3 : Hid (Kept (fun _ => False) w w2) := S.out.2.trans K2 (fun _ _ z => z.elim)
      clear K2 CC cr
      cases eq
      · have N : Hid (∀ r ∈ R.take (j + 1), f.val r ≠ f.val i) := by
          intro s hs
          rw [List.take_add_one, HE.out.2] at hs
          rcases List.mem_append.1 hs with z | z
          · exact S.out.1 s z
          · have z : s = r := by simpa using z
            rw [z]
            exact of_decide_eq_false HE.out.1.symm
        clear S
        go_wp2_with fail
        go_roundw
        case rel => exact ⟨j + 1, by go_num, by omega, N.out, K3.out⟩
        case measure => simp [intOf] <;> omega
      · have G : Hid (AtP f R i (j : Int)) := .inr ⟨j, r, rfl, HE.out.2, of_decide_eq_true HE.out.1.symm⟩
        clear S
        go_wp2_with fail
        go_ret
        exact ⟨(j : Int), rfl, G.out, K3.out⟩
    · have j1 : ¬ (j : Int) < (k : Int) := by omega
      have G : Hid (AtP f R i (-1) ∧ Kept (fun _ => False) w wr) := by
        refine ⟨.inl ⟨rfl, ?_⟩, S.out.2⟩
        have := S.out.1
        rw [List.take_of_length_le (by rw [H.out.2.2.2.2.1.len]; omega)] at this
        exact this
      clear S
      go_wp2_with fail
      go_ret
      exact ⟨-1, rfl, G⟩
end Go.Proofs.Ytodmakcklacbfaa
