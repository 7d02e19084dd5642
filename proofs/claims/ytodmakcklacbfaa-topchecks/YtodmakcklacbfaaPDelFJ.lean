import Derived.Test.YtodmakcklacbfaaPMap
import Derived.Lib.SliceRun
namespace Go.Proofs.Ytodmakcklacbfaa
open Go.RowKit Go.Shelf Go.Lib Go.Sort

set_option maxRecDepth 100000 in
/-- Is a call open? -/
theorem closure67 {w : World} {p : Option Addr} {n c : Nat} {ms : List Cm} (h : CRd w p n c ms) {CB : Nat} (c1 : w.cell? ⟨CB, 0, none⟩ = some (.slice p n c)) {i : Nat} {m : Cm} (hi : ms[i]? = some m) :
    Calls Try.prog 67 #[.int .i64 (i : Int), .pointer (some ⟨CB, 0, none⟩)] w fun o w' => o = .returned (.bool m.opn) ∧ Kept (fun _ => False) w w' := by
  have hin : i < n := by rw [← h.len]; exact (List.getElem?_eq_some_iff.1 hi).1
  have rm := h.room
  have sm := h.small
  unfold maxLen at sm
  obtain ⟨b, off, m2, rfl, hm2, _, _, _, _, _, _, _, _, d1, _⟩ := h.at hin
  rw [hi] at hm2
  have hm2 := Option.some.inj hm2
  subst hm2
  have i1 : (i : Int) < (n : Int) := by omega
  have i0 : (0 : Int) ≤ (i : Int) := by omega
  clear h hi
  go_enter Try.func67, Try.ntmps67
  go_wp2_with fail
  go_ret
  exact ⟨rfl, by first | exact Kept.refl _ _ | exact (Kept.refl _ _).drew | exact (Kept.refl _ _).drewN _⟩
set_option maxRecDepth 100000 in
set_option maxHeartbeats 4000000 in
theorem index67 {w : World} {q : Option Addr} {k kc : Nat} {R : List Int} (ir : IRd w q k kc R) {CB : Nat} (P : Int → Bool) (CC : ∀ x ∈ R, ∀ V, Kept (fun _ => False) w V → Calls Try.prog 67 #[.int .i64 x, .pointer (some ⟨CB, 0, none⟩)] V fun o w' => o = .returned (.bool (P x)) ∧ Kept (fun _ => False) V w') :
    Calls Try.prog 64 #[.slice q k kc, .func (.func 67) #[] #[.pointer (some ⟨CB, 0, none⟩)]] w fun o w' => ∃ a : Int, o = .returned (.int .i64 a) ∧ Hid (FirstAt P R a ∧ Kept (fun _ => False) w w') := by
  have rk := ir.room
  have sk := ir.small
  unfold maxLen at sk
  have H : Hid (IRd w q k kc R ∧ ∀ x ∈ R, ∀ V, Kept (fun _ => False) w V → Calls Try.prog 67 #[.int .i64 x, .pointer (some ⟨CB, 0, none⟩)] V fun o w' => o = .returned (.bool (P x)) ∧ Kept (fun _ => False) V w') := ⟨ir, CC⟩
  have S0 : Hid ((∀ y ∈ R.take 0, P y = false) ∧ Kept (fun _ => False) w w) := ⟨fun r hr => by simp at hr, Kept.refl _ _⟩
  clear ir CC
  go_enter Try.func64, Try.ntmps64
  go_wp2_with fail
  go_loopw [5, 8] (fun _ u8 wr => ∃ (j : Nat), u8 = .int .i64 (j : Int) ∧ j ≤ k ∧ Hid ((∀ y ∈ R.take j, P y = false) ∧ Kept (fun _ => False) w wr)) (fun _ u8 _ => k - (intOf u8).toNat)
  case atStart => exact ⟨0, rfl, Nat.zero_le _, S0⟩
  case round =>
    obtain ⟨j, rfl, hj, S⟩ := hrel
    clear S0
    by_cases hlt : j < k
    · have j1 : (j : Int) < (k : Int) := by omega
      obtain ⟨g, off, r, rfl, hr, cr⟩ := (H.out.1.k0 S.out.2).at hlt
      obtain ⟨eq, heq⟩ : ∃ eq, P r = eq := ⟨_, rfl⟩
      have CC : Hid (Calls Try.prog 67 #[.int .i64 r, .pointer (some ⟨CB, 0, none⟩)] wr fun o w' => o = .returned (.bool eq) ∧ Kept (fun _ => False) wr w') := by
        rw [← heq]
        exact H.out.2 r (List.mem_of_getElem? hr) wr S.out.2
      have HE : Hid (P r = eq ∧ R[j]? = some r) := ⟨heq, hr⟩
      clear heq hr
      go_wp2_with fail
      refine CC.out.mono ?_
      rintro o w2 ⟨rfl, K2⟩
      have K3 : Hid (Kept (fun _ => False) w w2) := S.out.2.trans K2 (fun _ _ z => z.elim)
      clear K2 CC cr
      cases eq
      · have N : Hid (∀ y ∈ R.take (j + 1), P y = false) := by
          intro s hs
          rw [List.take_add_one, HE.out.2] at hs
          rcases List.mem_append.1 hs with z | z
          · exact S.out.1 s z
          · have z : s = r := by simpa using z
            rw [z]
            exact HE.out.1
        clear S
        go_wp2_with fail
        go_roundw
        case rel => exact ⟨j + 1, by go_num, by omega, N.out, K3.out⟩
        case measure => simp [intOf] <;> omega
      · have G : Hid (FirstAt P R (j : Int)) := .inr ⟨j, r, rfl, HE.out.2, HE.out.1, S.out.1⟩
        clear S
        go_wp2_with fail
        go_ret
        exact ⟨(j : Int), rfl, G.out, K3.out⟩
    · have j1 : ¬ (j : Int) < (k : Int) := by omega
      have G : Hid (FirstAt P R (-1) ∧ Kept (fun _ => False) w wr) := by
        refine ⟨.inl ⟨rfl, ?_⟩, S.out.2⟩
        have := S.out.1
        rw [List.take_of_length_le (by rw [H.out.1.len]; omega)] at this
        exact this
      clear S
      go_wp2_with fail
      go_ret
      exact ⟨-1, rfl, G⟩
end Go.Proofs.Ytodmakcklacbfaa

namespace Go.Proofs.Ytodmakcklacbfaa
open Go.RowKit Go.Shelf Go.Lib Go.Sort

theorem NRow.cut {b0 g : Nat} {w : World} {k c i : Nat} {R : List Nat} (h : NRow b0 w (some ⟨g, 0, none⟩) k c R) (hi : i ≤ k) : NRow b0 w (some ⟨g, 0, none⟩) i c (R.take i) := by
  have hl := h.len
  refine ⟨by rw [List.length_take]; omega, ⟨by simp [intsN]; omega, ?_⟩⟩
  rcases h.row.2 with ⟨z, _⟩ | ⟨g', cap, cur, z, h1, h2, h3, h4, h5, h6⟩
  · cases z
  · have z : Value.slice (some ⟨g, 0, none⟩) k c = .slice (some ⟨g', 0, none⟩) k cap := z
    injection z with z1 _ z3
    have z1 : (⟨g, 0, none⟩ : Addr) = ⟨g', 0, none⟩ := Option.some.inj z1
    injection z1 with z1
    subst z1
    subst z3
    refine .inr ⟨g, c, cur, rfl, h1, h2, by omega, h4, h5, ?_⟩
    have : (cur.toList.take (k * 1)).take (i * 1) = (intsN R).take i := by rw [h6, Nat.mul_one]
    rw [List.take_take, Nat.min_eq_left (by omega)] at this
    rw [this]
    unfold intsN
    rw [List.map_take]
theorem kept_blk {g i : Nat} {w w' : World} (K : Kept (fun j => blockOf (some (⟨g, 0, none⟩ : Addr)) = some j) w w') (v : Value) : Kept (fun j => blockOf (some (⟨g, 0, none⟩ : Addr)) = some j) w (w'.setCell ⟨g, i, none⟩ v) := K.setCell (p := ⟨g, i, none⟩) (fun _ => rfl) v
theorem NRow.zeros {b0 g k c : Nat} {w0 w1 : World} (hb : w0.heap.size ≤ b0) : ∀ (m o : Nat) {w : World} {R : List Nat}, NRow b0 w (some ⟨g, 0, none⟩) k c R → Kept (fun _ => False) w0 w → Kept (fun j => blockOf (some (⟨g, 0, none⟩ : Addr)) = some j) w1 w →
    ∃ R2, NRow b0 (w.setCells g o (List.replicate m (.int .i64 0))) (some ⟨g, 0, none⟩) k c R2 ∧ R2.take o = R.take o ∧ Kept (fun _ => False) w0 (w.setCells g o (List.replicate m (.int .i64 0))) ∧ Kept (fun j => blockOf (some (⟨g, 0, none⟩ : Addr)) = some j) w1 (w.setCells g o (List.replicate m (.int .i64 0)))
  | 0, _, _, R, h, K, K1 => ⟨R, h, rfl, K, K1⟩
  | m + 1, o, _, R, h, K, K1 => by
    have s := h.store (i := 0) (j := o) K hb
    obtain ⟨R2, h1, h2, h3, h4⟩ := NRow.zeros hb m (o + 1) s.1 s.2 (kept_blk K1 _)
    refine ⟨R2, h1, ?_, h3, h4⟩
    have : (R2.take (o + 1)).take o = ((R.set o 0).take (o + 1)).take o := by rw [h2]
    rw [List.take_take, List.take_take, Nat.min_eq_left (by omega)] at this
    rw [this, List.take_set_of_le (Nat.le_refl o)]
/-- The state on the way. -/
structure DQ (w0 w1 : World) (b0 : Nat) (q : Option Addr) (k c : Nat) (P : Nat → Bool) (R : List Nat) (i j : Nat) (w : World) : Prop where
  row : ∃ R', NRow b0 w q k c R' ∧ R'.take i = (R.take j).filter (fun x => !P x) ∧ R'.drop j = R.drop j
  k0 : Kept (fun _ => False) w0 w
  k1 : Kept (fun j => blockOf q = some j) w1 w
theorem DQ.at {w0 w1 : World} {b0 : Nat} {q : Option Addr} {k c : Nat} {P : Nat → Bool} {R : List Nat} {i j : Nat} {w : World} (h : DQ w0 w1 b0 q k c P R i j w) (hj : j < k) : ∃ g r, q = some ⟨g, 0, none⟩ ∧ R[j]? = some r ∧ w.cell? ⟨g, j, none⟩ = some (.int .i64 (r : Int)) := by
  obtain ⟨R', h1, _, h3⟩ := h.row
  obtain ⟨g, r, e, hr, hc⟩ := h1.at hj
  refine ⟨g, r, e, ?_, hc⟩
  have : (R'.drop j)[0]? = (R.drop j)[0]? := by rw [h3]
  rw [List.getElem?_drop, List.getElem?_drop, Nat.add_zero, hr] at this
  exact this.symm
theorem DQ.skip {w0 w1 : World} {b0 : Nat} {q : Option Addr} {k c : Nat} {P : Nat → Bool} {R : List Nat} {i j r : Nat} {w w' : World} (h : DQ w0 w1 b0 q k c P R i j w) (hr : R[j]? = some r) (hp : P r = true) (K : Kept (fun _ => False) w w') : DQ w0 w1 b0 q k c P R i (j + 1) w' := by
  obtain ⟨R', h1, h2, h3⟩ := h.row
  refine ⟨⟨R', h1.k0 K, ?_, ?_⟩, h.k0.trans K (fun _ _ z => z), h.k1.trans K (fun _ _ z => z.elim)⟩
  · rw [h2, List.take_add_one, hr, List.filter_append]
    simp [hp]
  · rw [← List.drop_drop, ← List.drop_drop, h3]
theorem DQ.keep {w0 w1 : World} {b0 g : Nat} {k c : Nat} {P : Nat → Bool} {R : List Nat} {i j r : Nat} {w w' : World} (h : DQ w0 w1 b0 (some ⟨g, 0, none⟩) k c P R i j w) (hb : w0.heap.size ≤ b0) (hij : i < j) (hjk : j < k) (hr : R[j]? = some r) (hp : P r = false) (K : Kept (fun _ => False) w w') : DQ w0 w1 b0 (some ⟨g, 0, none⟩) k c P R (i + 1) (j + 1) (w'.setCell ⟨g, i, none⟩ (.int .i64 (r : Int))) := by
  obtain ⟨R', h1, h2, h3⟩ := h.row
  have s := (h1.k0 K).store (i := r) (j := i) (h.k0.trans K (fun _ _ z => z)) hb
  refine ⟨⟨R'.set i r, s.1, ?_, ?_⟩, s.2, kept_blk (h.k1.trans K (fun _ _ z => z.elim)) _⟩
  · have hl := h1.len
    rw [List.take_add_one, List.take_set_of_le (Nat.le_refl i), List.getElem?_set_self (by omega), h2, List.take_add_one, hr, List.filter_append]
    simp [hp]
  · rw [List.drop_set_of_lt (by omega), ← List.drop_drop, ← List.drop_drop, h3]
end Go.Proofs.Ytodmakcklacbfaa
