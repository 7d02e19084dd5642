import Derived.Test.YtodmakcklacbfaaPMapJ
import Derived.Lib.SliceRun
namespace Go.Proofs.Ytodmakcklacbfaa
open Go.RowKit Go.Shelf Go.Lib Go.Sort

set_option maxRecDepth 100000 in
/-- Is a call open? -/
theorem closure67 {w : World} {p : Option Addr} {n c : Nat} {ms : List Cm} (h : CRd w p n c ms) {CB : Nat} (c1 : w.cell? ⟨CB, 0, none⟩ = some (.slice p n c)) {i : Nat} {m : Cm} (hi : ms[i]? = some m) :
    Calls Try.prog 67 #[.int .i64 (i : Int), .pointer (some ⟨CB, 0, none⟩)] w fun o w' => o = .returned (.bool m.opn) ∧ Kept (fun _ => False) w w' := by
  have hin : i < n := by rw [← h.len]; exact (List.getElem?_eq_some_iff.1 hi).1
  have rm := h.room
  have sm := h.small
  unfold maxLen at sm
  obtain ⟨b, off, m2, rfl, hm2, _, _, _, _, _, _, _, _, d1, _⟩ := h.at hin
  rw [hi] at hm2
  have hm2 := Option.some.inj hm2
  subst hm2
  have i1 : (i : Int) < (n : Int) := by omega
  have i0 : (0 : Int) ≤ (i : Int) := by omega
  clear h hi
  go_enter Try.func67, Try.ntmps67
  go_wp2_with fail
  go_ret
  exact ⟨rfl, by first | exact Kept.refl _ _ | exact (Kept.refl _ _).drew | exact (Kept.refl _ _).drewN _⟩
set_option maxRecDepth 100000 in
set_option maxHeartbeats 4000000 in
theorem index67 {w : World} {q : Option Addr} {k kc : Nat} {R : List Int} (ir : IRd w q k kc R) {CB : Nat} (P : Int → Bool) (CC : ∀ x ∈ R, ∀ V, Kept (fun _ => False) w V → Calls Try.prog 67 #[.int .i64 x, .pointer (some ⟨CB, 0, none⟩)] V fun o w' => o = .returned (.bool (P x)) ∧ Kept (fun _ => False) V w') :
    Calls Try.prog 64 #[.slice q k kc, .func (.func 67) #[] #[.pointer (some ⟨CB, 0, none⟩)]] w fun o w' => ∃ a : Int, o = .returned (.int .i64 a) ∧ Hid (FirstAt P R a ∧ Kept (fun _ => False) w w') := by
  have rk := ir.room
  have sk := ir.small
  unfold maxLen at sk
  have H : Hid (IRd w q k kc R ∧ ∀ x ∈ R, ∀ V, Kept (fun _ => False) w V → Calls Try.prog 67 #[.int .i64 x, .pointer (some ⟨CB, 0, none⟩)] V fun o w' => o = .returned (.bool (P x)) ∧ Kept (fun _ => False) V w') := ⟨ir, CC⟩
  have S0 : Hid ((∀ y ∈ R.take 0, P y = false) ∧ Kept (fun _ => False) w w) := ⟨fun r hr => by simp at hr, Kept.refl _ _⟩
  clear ir CC
  go_enter Try.func64, Try.ntmps64
  go_wp2_with fail
  go_loopw [5, 8] (fun _ u8 wr => ∃ (j : Nat), u8 = .int .i64 (j : Int) ∧ j ≤ k ∧ Hid ((∀ y ∈ R.take j, P y = false) ∧ Kept (fun _ => False) w wr)) (fun _ u8 _ => k - (intOf u8).toNat)
  case atStart => exact ⟨0, rfl, Nat.zero_le _, S0⟩
  case round =>
    obtain ⟨j, rfl, hj, S⟩ := hrel
    clear S0
    by_cases hlt : j < k
    · have j1 : (j : Int) < (k : Int) := by omega
      obtain ⟨g, off, r, rfl, hr, cr⟩ := (H.out.1.k0 S.out.2).at hlt
      obtain ⟨eq, heq⟩ : ∃ eq, P r = eq := ⟨_, rfl⟩
      have CC : Hid (Calls Try.prog 67 #[.int .i64 r, .pointer (some ⟨CB, 0, none⟩)] wr fun o w' => o = .returned (.bool eq) ∧ Kept (fun _ => False) wr w') := by
        rw [← heq]
        exact H.out.2 r (List.mem_of_getElem? hr) wr S.out.2
      have HE : Hid (P r = eq ∧ R[j]? = some r) := ⟨heq, hr⟩
      clear heq hr
      go_wp2_with fail
      refine CC.out.mono ?_
      rintro o w2 ⟨rfl, K2⟩
      have K3 : Hid (Kept (fun _ => False) w w2) := S.out.2.trans K2 (fun _ _ z => z.elim)
      clear K2 CC cr
      cases eq
      · have N : Hid (∀ y ∈ R.take (j + 1), P y = false) := by
          intro s hs
          rw [List.take_add_one, HE.out.2] at hs
          rcases List.mem_append.1 hs with z | z
          · exact S.out.1 s z
          · have z : s = r := by simpa using z
            rw [z]
            exact HE.out.1
        clear S
        go_wp2_with fail
        go_roundw
        case rel => exact ⟨j + 1, by go_num, by omega, N.out, K3.out⟩
        case measure => simp [intOf] <;> omega
      · have G : Hid (FirstAt P R (j : Int)) := .inr ⟨j, r, rfl, HE.out.2, HE.out.1, S.out.1⟩
        clear S
        go_wp2_with fail
        go_ret
        exact ⟨(j : Int), rfl, G.out, K3.out⟩
    · have j1 : ¬ (j : Int) < (k : Int) := by omega
      have G : Hid (FirstAt P R (-1) ∧ Kept (fun _ => False) w wr) := by
        refine ⟨.inl ⟨rfl, ?_⟩, S.out.2⟩
        have := S.out.1
        rw [List.take_of_length_le (by rw [H.out.1.len]; omega)] at this
        exact this
      clear S
      go_wp2_with fail
      go_ret
      exact ⟨-1, rfl, G⟩
end Go.Proofs.Ytodmakcklacbfaa

namespace Go.Proofs.Ytodmakcklacbfaa
open Go.RowKit Go.Shelf Go.Lib Go.Sort

theorem NRow.cut {b0 g : Nat} {w : World} {k c i : Nat} {R : List Nat} (h : NRow b0 w (some ⟨g, 0, none⟩) k c R) (hi : i ≤ k) : NRow b0 w (some ⟨g, 0, none⟩) i c (R.take i) := by
  have hl := h.len
  refine ⟨by rw [List.length_take]; omega, ⟨by simp [intsN]; omega, ?_⟩⟩
  rcases h.row.2 with ⟨z, _⟩ | ⟨g', cap, cur, z, h1, h2, h3, h4, h5, h6⟩
  · cases z
  · have z : Value.slice (some ⟨g, 0, none⟩) k c = .slice (some ⟨g', 0, none⟩) k cap := z
    injection z with z1 _ z3
    have z1 : (⟨g, 0, none⟩ : Addr) = ⟨g', 0, none⟩ := Option.some.inj z1
    injection z1 with z1
    subst z1
    subst z3
    refine .inr ⟨g, c, cur, rfl, h1, h2, by omega, h4, h5, ?_⟩
    have : (cur.toList.take (k * 1)).take (i * 1) = (intsN R).take i := by rw [h6, Nat.mul_one]
    rw [List.take_take, Nat.min_eq_left (by omega)] at this
    rw [this]
    unfold intsN
    rw [List.map_take]
theorem kept_blk {g i : Nat} {w w' : World} (K : Kept (fun j => blockOf (some (⟨g, 0, none⟩ : Addr)) = some j) w w') (v : Value) : Kept (fun j => blockOf (some (⟨g, 0, none⟩ : Addr)) = some j) w (w'.setCell ⟨g, i, none⟩ v) := K.setCell (p := ⟨g, i, none⟩) (fun _ => rfl) v
theorem NRow.zeros {b0 g k c : Nat} {w0 w1 : World} (hb : w0.heap.size ≤ b0) : ∀ (m o : Nat) {w : World} {R : List Nat}, NRow b0 w (some ⟨g, 0, none⟩) k c R → Kept (fun _ => False) w0 w → Kept (fun j => blockOf (some (⟨g, 0, none⟩ : Addr)) = some j) w1 w →
    ∃ R2, NRow b0 (w.setCells g o (List.replicate m (.int .i64 0))) (some ⟨g, 0, none⟩) k c R2 ∧ R2.take o = R.take o ∧ Kept (fun _ => False) w0 (w.setCells g o (List.replicate m (.int .i64 0))) ∧ Kept (fun j => blockOf (some (⟨g, 0, none⟩ : Addr)) = some j) w1 (w.setCells g o (List.replicate m (.int .i64 0)))
  | 0, _, _, R, h, K, K1 => ⟨R, h, rfl, K, K1⟩
  | m + 1, o, _, R, h, K, K1 => by
    have s := h.store (i := 0) (j := o) K hb
    obtain ⟨R2, h1, h2, h3, h4⟩ := NRow.zeros hb m (o + 1) s.1 s.2 (kept_blk K1 _)
    refine ⟨R2, h1, ?_, h3, h4⟩
    have : (R2.take (o + 1)).take o = ((R.set o 0).take (o + 1)).take o := by rw [h2]
    rw [List.take_take, List.take_take, Nat.min_eq_left (by omega)] at this
    rw [this, List.take_set_of_le (Nat.le_refl o)]
/-- The state on the way. -/
structure DQ (w0 w1 : World) (b0 : Nat) (q : Option Addr) (k c : Nat) (P : Nat → Bool) (R : List Nat) (i j : Nat) (w : World) : Prop where
  row : ∃ R', NRow b0 w q k c R' ∧ R'.take i = (R.take j).filter (fun x => !P x) ∧ R'.drop j = R.drop j
  k0 : Kept (fun _ => False) w0 w
  k1 : Kept (fun j => blockOf q = some j) w1 w
theorem DQ.at {w0 w1 : World} {b0 : Nat} {q : Option Addr} {k c : Nat} {P : Nat → Bool} {R : List Nat} {i j : Nat} {w : World} (h : DQ w0 w1 b0 q k c P R i j w) (hj : j < k) : ∃ g r, q = some ⟨g, 0, none⟩ ∧ R[j]? = some r ∧ w.cell? ⟨g, j, none⟩ = some (.int .i64 (r : Int)) := by
  obtain ⟨R', h1, _, h3⟩ := h.row
  obtain ⟨g, r, e, hr, hc⟩ := h1.at hj
  refine ⟨g, r, e, ?_, hc⟩
  have : (R'.drop j)[0]? = (R.drop j)[0]? := by rw [h3]
  rw [List.getElem?_drop, List.getElem?_drop, Nat.add_zero, hr] at this
  exact this.symm
theorem DQ.skip {w0 w1 : World} {b0 : Nat} {q : Option Addr} {k c : Nat} {P : Nat → Bool} {R : List Nat} {i j r : Nat} {w w' : World} (h : DQ w0 w1 b0 q k c P R i j w) (hr : R[j]? = some r) (hp : P r = true) (K : Kept (fun _ => False) w w') : DQ w0 w1 b0 q k c P R i (j + 1) w' := by
  obtain ⟨R', h1, h2, h3⟩ := h.row
  refine ⟨⟨R', h1.k0 K, ?_, ?_⟩, h.k0.trans K (fun _ _ z => z), h.k1.trans K (fun _ _ z => z.elim)⟩
  · rw [h2, List.take_add_one, hr, List.filter_append]
    simp [hp]
  · rw [← List.drop_drop, ← List.drop_drop, h3]
theorem DQ.keep {w0 w1 : World} {b0 g : Nat} {k c : Nat} {P : Nat → Bool} {R : List Nat} {i j r : Nat} {w w' : World} (h : DQ w0 w1 b0 (some ⟨g, 0, none⟩) k c P R i j w) (hb : w0.heap.size ≤ b0) (hij : i < j) (hjk : j < k) (hr : R[j]? = some r) (hp : P r = false) (K : Kept (fun _ => False) w w') : DQ w0 w1 b0 (some ⟨g, 0, none⟩) k c P R (i + 1) (j + 1) (w'.setCell ⟨g, i, none⟩ (.int .i64 (r : Int))) := by
  obtain ⟨R', h1, h2, h3⟩ := h.row
  have s := (h1.k0 K).store (i := r) (j := i) (h.k0.trans K (fun _ _ z => z)) hb
  refine ⟨⟨R'.set i r, s.1, ?_, ?_⟩, s.2, kept_blk (h.k1.trans K (fun _ _ z => z.elim)) _⟩
  · have hl := h1.len
    rw [List.take_add_one, List.take_set_of_le (Nat.le_refl i), List.getElem?_set_self (by omega), h2, List.take_add_one, hr, List.filter_append]
    simp [hp]
  · rw [List.drop_set_of_lt (by omega), ← List.drop_drop, ← List.drop_drop, h3]
end Go.Proofs.Ytodmakcklacbfaa

namespace Go.Proofs.Ytodmakcklacbfaa
open Go.RowKit Go.Shelf Go.Lib Go.Sort

set_option maxRecDepth 100000 in
set_option maxHeartbeats 4000000 in
theorem oDelete {w0 w : World} {b0 : Nat} {q : Option Addr} {k c : Nat} {R : List Nat} (r : NRow b0 w q k c R) (K0 : Kept (fun _ => False) w0 w) (hb0 : w0.heap.size ≤ b0) {CB : Nat} (P : Nat → Bool) (CC : ∀ x ∈ R, ∀ V, Kept (fun _ => False) w0 V → Calls Try.prog 67 #[.int .i64 (x : Int), .pointer (some ⟨CB, 0, none⟩)] V fun o w' => o = .returned (.bool (P x)) ∧ Kept (fun _ => False) V w') :
    Calls Try.prog 66 #[.slice q k c, .func (.func 67) #[] #[.pointer (some ⟨CB, 0, none⟩)]] w fun o w' => ∃ k', o = .returned (.slice q k' c) ∧ Hid (NRow b0 w' q k' c (R.filter fun x => !P x) ∧ Kept (fun _ => False) w0 w' ∧ Kept (fun j => blockOf q = some j) w w') := by
  have rm := own_room r.row
  unfold maxLen at rm
  obtain ⟨rm1, rm2⟩ := rm
  have CI : Hid (Calls Try.prog 64 #[.slice q k c, .func (.func 67) #[] #[.pointer (some ⟨CB, 0, none⟩)]] w fun o w' => ∃ a : Int, o = .returned (.int .i64 a) ∧ Hid (FirstAt (fun x => P x.toNat) (R.map fun x : Nat => (x : Int)) a ∧ Kept (fun _ => False) w w')) := by
    refine index67 r.ird (fun x => P x.toNat) (fun x hx V K => ?_)
    obtain ⟨y, hy, rfl⟩ := List.mem_map.1 hx
    rw [Int.toNat_natCast]
    exact CC y hy V (K0.trans K (fun _ _ z => z))
  have H : Hid (NRow b0 w q k c R ∧ Kept (fun _ => False) w0 w ∧ w0.heap.size ≤ b0 ∧ ∀ x ∈ R, ∀ V, Kept (fun _ => False) w0 V → Calls Try.prog 67 #[.int .i64 (x : Int), .pointer (some ⟨CB, 0, none⟩)] V fun o w' => o = .returned (.bool (P x)) ∧ Kept (fun _ => False) V w') := ⟨r, K0, hb0, CC⟩
  clear r K0 hb0 CC
  go_enter Try.func66, Try.ntmps66
  go_wp2_with fail
  refine CI.out.mono ?_
  rintro o w1 ⟨a, rfl, FA⟩
  clear CI
  by_cases ha : a = -1
  · have F : Hid (NRow b0 w1 q k c (R.filter fun x => !P x) ∧ Kept (fun _ => False) w0 w1 ∧ Kept (fun j => blockOf q = some j) w w1) := by
      have e : (R.filter fun x => !P x) = R := by
        rw [List.filter_eq_self]
        intro x hx
        rcases FA.out.1 with ⟨_, z⟩ | ⟨j, _, z, _⟩
        · have := z (x : Int) (List.mem_map.2 ⟨x, hx, rfl⟩)
          simp at this
          simp [this]
        · omega
      rw [e]
      exact ⟨H.out.1.k0 FA.out.2, H.out.2.1.trans FA.out.2 (fun _ _ z => z), (Kept.refl _ w).trans FA.out.2 (fun _ _ z => z.elim)⟩
    subst ha
    go_wp2_with fail
    go_ret
    exact ⟨k, rfl, F⟩
  · obtain ⟨s, hs⟩ : ∃ s : Nat, a = (s : Int) ∧ s < k ∧ ∃ r, R[s]? = some r ∧ P r = true ∧ ∀ y ∈ R.take s, P y = false := by
      rcases FA.out.1 with ⟨z, _⟩ | ⟨j, x, z, hx, hp, hb⟩
      · exact absurd z ha
      · rw [List.getElem?_map] at hx
        obtain ⟨r, hr, rfl⟩ := Option.map_eq_some_iff.1 hx
        have hj := (List.getElem?_eq_some_iff.1 hr).1
        rw [H.out.1.len] at hj
        refine ⟨j, z, hj, r, hr, by simpa using hp, fun y hy => ?_⟩
        have := hb (y : Int) (by rw [← List.map_take]; exact List.mem_map.2 ⟨y, hy, rfl⟩)
        simpa using this
    obtain ⟨rfl, hsk, HS⟩ := hs
    have S0 : Hid (DQ w0 w b0 q k c P R s (s + 1) w1) := by
      obtain ⟨r, hr, hp, hb⟩ := HS
      have D0 : DQ w0 w b0 q k c P R s s w := ⟨⟨R, H.out.1, by rw [List.filter_eq_self.2 (fun x hx => by rw [hb x hx]; rfl)], rfl⟩, H.out.2.1, Kept.refl _ _⟩
      exact D0.skip hr hp FA.out.2
    have sne : ((s : Int) == -1) = false := by simp
    clear FA HS ha
    go_wp2_with fail
    go_loopw [5, 6, 7] (fun u5 u6 _ wr => ∃ (i j : Nat), u5 = .int .i64 (i : Int) ∧ u6 = .int .i64 (j : Int) ∧ i < j ∧ j ≤ k ∧ Hid (DQ w0 w b0 q k c P R i j wr)) (fun _ u6 _ _ => k - (intOf u6).toNat)
    case atStart => exact ⟨s, s + 1, rfl, by go_num, by omega, by omega, S0⟩
    case round =>
      obtain ⟨i, j, rfl, rfl, hij, hjk, S⟩ := hrel
      clear S0
      obtain ⟨wo, hwo⟩ : ∃ wo, wo = wr := ⟨_, rfl⟩
      rw [← hwo] at S ⊢
      clear hwo
      by_cases hlt : j < k
      · have j1 : (j : Int) < (k : Int) := by omega
        obtain ⟨g, r, rfl, hr, cr⟩ := S.out.at hlt
        obtain ⟨eq, heq⟩ : ∃ eq, P r = eq := ⟨_, rfl⟩
        have CC : Hid (Calls Try.prog 67 #[.int .i64 (r : Int), .pointer (some ⟨CB, 0, none⟩)] wo fun o w' => o = .returned (.bool eq) ∧ Kept (fun _ => False) wo w') := by
          rw [← heq]
          exact H.out.2.2.2 r (List.mem_of_getElem? hr) wo S.out.k0
        have HE : Hid (P r = eq ∧ R[j]? = some r) := ⟨heq, hr⟩
        clear heq hr
        go_wp2_with fail
        refine CC.out.mono ?_
        rintro o w2 ⟨rfl, K2⟩
        have K3 : Hid (Kept (fun _ => False) wo w2) := K2
        clear K2 CC cr
        cases eq
        · have D2 : Hid (DQ w0 w b0 (some ⟨g, 0, none⟩) k c P R (i + 1) (j + 1) (w2.setCell ⟨g, i, none⟩ (.int .i64 (r : Int)))) := S.out.keep H.out.2.2.1 hij hlt HE.out.2 HE.out.1 K3.out
          obtain ⟨R', n1, _, _⟩ := S.out.row
          obtain ⟨g', r', e', _, ci⟩ := (n1.k0 K3.out).at (show i < k by omega)
          cases e'
          have fz : w2.frozen? ⟨g, i, none⟩ = false := by
            rcases (n1.k0 K3.out).row.2 with ⟨z, _⟩ | ⟨g2, cap, cur, z, _, h2, _⟩
            · cases z
            · have z : Value.slice (some ⟨g, 0, none⟩) k c = .slice (some ⟨g2, 0, none⟩) k cap := z
              injection z with z1
              have z1 : (⟨g, 0, none⟩ : Addr) = ⟨g2, 0, none⟩ := Option.some.inj z1
              injection z1 with z1
              subst z1
              exact soft_blk h2 i
          have ik : (i : Int) < (k : Int) := by omega
          clear n1
          go_wp2_with fail
          go_roundw
          case rel => exact ⟨i + 1, j + 1, by go_num, by go_num, by omega, by omega, D2⟩
          case measure => simp [intOf] <;> omega
        · have D2 : Hid (DQ w0 w b0 (some ⟨g, 0, none⟩) k c P R i (j + 1) w2) := S.out.skip HE.out.2 HE.out.1 K3.out
          go_wp2_with fail
          go_roundw
          case rel => exact ⟨i, j + 1, rfl, by go_num, by omega, by omega, D2⟩
          case measure => simp [intOf] <;> omega
      · have j1 : ¬ (j : Int) < (k : Int) := by omega
        have ej : j = k := by omega
        subst ej
        obtain ⟨R', n1, t1, _⟩ := S.out.row
        obtain ⟨g, r', rfl, _, _⟩ := n1.at hij
        have hl := n1.len
        have cl := run_clear_slice (P := Try.prog) wo 22 3 0 (.int .i64 0) Try.underlying22 Try.zeroValue3 rfl rfl g i (j - i) (c - i) (by omega) (fun x hx => by
          obtain ⟨g', r2, e', _, ci⟩ := n1.at (show i + x < j by omega)
          cases e'
          rw [ci]
          rfl) (fun x hx => by
          rcases n1.row.2 with ⟨z, _⟩ | ⟨g2, cap, cur, z, _, h2, _⟩
          · cases z
          · have z : Value.slice (some ⟨g, 0, none⟩) j c = .slice (some ⟨g2, 0, none⟩) j cap := z
            injection z with z1
            have z1 : (⟨g, 0, none⟩ : Addr) = ⟨g2, 0, none⟩ := Option.some.inj z1
            injection z1 with z1
            subst z1
            exact soft_blk h2 _)
        obtain ⟨R2, z1, z2, z3, z4⟩ := n1.zeros (w1 := w) H.out.2.2.1 (j - i) i S.out.k0 S.out.k1
        have F : Hid (NRow b0 (wo.setCells g i (List.replicate (j - i) (.int .i64 0))) (some ⟨g, 0, none⟩) i c (R.filter fun x => !P x) ∧ Kept (fun _ => False) w0 (wo.setCells g i (List.replicate (j - i) (.int .i64 0))) ∧ Kept (fun x => blockOf (some (⟨g, 0, none⟩ : Addr)) = some x) w (wo.setCells g i (List.replicate (j - i) (.int .i64 0)))) := by
          refine ⟨?_, z3, z4⟩
          have e := z1.cut (i := i) (by omega)
          rw [z2, t1, List.take_of_length_le (by rw [H.out.1.len]; exact Nat.le_refl _)] at e
          exact e
        generalize wo.setCells g i (List.replicate (j - i) (.int .i64 0)) = wz at cl F
        have ij : (i : Int) ≤ (j : Int) := by omega
        have jc : (j : Int) ≤ (c : Int) := by omega
        have ic : (i : Int) ≤ (c : Int) := by omega
        clear z1 z2 z3 z4 n1 t1 hl
        go_wp2_with fail
        go_ret
        exact ⟨i, rfl, F⟩
end Go.Proofs.Ytodmakcklacbfaa
