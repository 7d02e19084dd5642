import Derived.Test.YtodmakcklacbfaaRIntsJ
import Derived.BigQuiet
import Derived.Test.YtodmakcklacbfaaPByJ
import Derived.Test.YtodmakcklacbfaaLMem
namespace Go.Proofs.Ytodmakcklacbfaa
open Go.RowKit Go.Shelf Go.Lib Go.Sort

/-- Who began first; of two that began at once the lower one. -/
def AheadF (ms : List Cm) (i j : Nat) : Prop := ∃ a b, ms[i]? = some a ∧ ms[j]? = some b ∧ (a.frm < b.frm ∨ (a.frm = b.frm ∧ i < j))
/-- Where a number sinks to. -/
structure PlcQ (ms : List Cm) (P T : List Nat) (i : Nat) (R : List Nat) : Prop where
  ok : ∃ A B, T = A ++ B ∧ R = P ++ A ++ i :: B ∧ (∀ y ∈ B, AheadF ms i y) ∧ (∀ y, A.getLast? = some y → ¬ AheadF ms i y)
structure PlcS (b0 : Nat) (w w1 wr : World) (q : Option Addr) (ms : List Cm) (g k c : Nat) (P T : List Nat) (i kk : Nat) : Prop where
  ok : ∃ A B, T = A ++ B ∧ P.length + A.length = kk ∧ (∀ y ∈ B, AheadF ms i y) ∧ NRow b0 wr (some ⟨g, 0, none⟩) (k + 1) c (P ++ A ++ i :: B)
  kept : Kept (fun _ => False) w wr
  near : Kept (fun j => blockOf q = some j) w1 wr
  gb : blockOf q = some g ∨ w1.heap.size ≤ g
theorem plc_swap {X : List Nat} {y i : Nat} {B : List Nat} {n : Nat} (hn : X.length = n) : ((X ++ y :: i :: B).set (n + 1) y).set n i = X ++ i :: y :: B := by
  rw [List.set_append_right _ _ (by omega), List.set_append_right _ _ (by omega), hn, Nat.add_sub_cancel_left, Nat.sub_self]
  rfl
theorem NRow.put {b0 g : Nat} {w : World} {k c : Nat} {R : List Nat} (h : NRow b0 w (some ⟨g, 0, none⟩) k c R) (j x : Nat) : NRow b0 (w.setCell ⟨g, j, none⟩ (.int .i64 (x : Int))) (some ⟨g, 0, none⟩) k c (R.set j x) := by
  refine ⟨by rw [List.length_set]; exact h.len, ?_⟩
  have e : intsN (R.set j x) = (intsN R).set j (.int .i64 (x : Int)) := by
    unfold intsN
    rw [List.map_set]
  rw [e]
  exact owns_set h.row j _
theorem wrap_e {e k : Nat} (h : e ≤ k) (hk : k + 1 ≤ 10000000000000) : IntKind.i64.wrap (e : Int) = (e : Int) ∧ IntKind.i64.wrap ((e : Int) + 1 - 1) = (e : Int) := by
  rw [IntKind.wrap_i64, IntKind.wrap_i64]
  omega
theorem soft_own {b0 g : Nat} {w : World} {k c : Nat} {R : List Nat} (h : NRow b0 w (some ⟨g, 0, none⟩) k c R) (j : Nat) : w.frozen? ⟨g, j, none⟩ = false := by
  obtain ⟨cs, hc⟩ := own_type h.row g rfl
  exact soft_blk hc j
set_option maxRecDepth 100000 in
set_option maxHeartbeats 4000000 in
theorem dPlaced {w w0 : World} {p0 : Option Addr} {n c0 : Nat} {ms : List Cm} (cr : CRd w0 p0 n c0 ms) (K0 : Kept (fun _ => False) w0 w) {b0 : Nat} {q : Option Addr} {k c : Nat} {P T : List Nat} (row : NRow b0 w q k c (P ++ T)) (hb : w0.heap.size ≤ b0) (lb : b0 ≤ w.heap.size) (hk : k + 1 ≤ 10000000000000) (lt : ∀ y ∈ T, y < n) {i : Nat} (hi : i < n) : Calls Try.prog 55 #[.slice p0 n c0, .slice q k c, .int .i64 (P.length : Int), .int .i64 (i : Int)] w (RetW (fun p c' w' => ∃ R, NRow b0 w' p (k + 1) c' R ∧ PlcQ ms P T i R ∧ Kept (fun _ => False) w0 w' ∧ Kept (fun j => blockOf q = some j) w w') (k + 1)) := by
  have rm := cr.room
  have sm := cr.small
  unfold maxLen at sm
  obtain ⟨f, hf⟩ : ∃ f, f = P.length := ⟨_, rfl⟩
  rw [← hf]
  have fk : f + T.length = k := by
    have := row.len
    rw [List.length_append] at this
    omega
  have H : Hid (CRd w0 p0 n c0 ms ∧ NRow b0 w q k c (P ++ T) ∧ (∀ y ∈ T, y < n) ∧ Kept (fun _ => False) w0 w ∧ f = P.length) := ⟨cr, row, lt, K0, hf⟩
  have BL : Hid (k + 1 ≤ maxLen ∧ ((k + 1) + (k + 1) / 4 + 192) * 8 ≤ 281474976710656) := by
    unfold maxLen
    exact ⟨by omega, by omega⟩
  have rk := (own_room row.row).1
  clear cr row lt K0 hf
  obtain ⟨W, hW⟩ : ∃ W, W = w.alloc (.cells #[.int .i64 (i : Int)] 3) := ⟨_, rfl⟩
  obtain ⟨B, hB⟩ : ∃ B, B = w.heap.size := ⟨_, rfl⟩
  have S : Hid (W.ownsRow b0 3 1 (.slice q k c) k (intsN (P ++ T)) ∧ Kept (fun _ => False) w0 W ∧ Src Try.prog 1 22 (.slice (some ⟨B, 0, none⟩) 1 1) 1 (intsI [(i : Int)]) W ∧ b0 ≤ W.heap.size) := by
    have K : Kept (fun _ => False) w W := by rw [hW]; exact (Kept.refl _ _).alloc _
    refine ⟨K.owns H.out.2.1.row (fun _ _ z => z), H.out.2.2.2.1.trans K (fun _ _ z => z), ?_, Nat.le_trans lb K.size⟩
    rw [hW, hB]
    exact src_mark _ _ _ (alloc_new _ _)
  have E : Hid (W = w.alloc (.cells #[.int .i64 (i : Int)] 3) ∧ B = w.heap.size) := ⟨hW, hB⟩
  clear hW hB
  go_enter Try.func55, Try.ntmps55
  go_upto_region 2 with
    (first
      | (at_builtin; rw [← E.out.1, ← E.out.2]; refine wpList_append_all _ rfl (.tmp 11) (.tmp 13) 22 3 22 _ 1 8 rfl Try.underlying22 Try.info3c rfl b0 (.slice q k c) k (intsN (P ++ T)) rfl S.out.1 _ 1 (intsI [(i : Int)]) rfl S.out.2.2.1 BL.out.1 BL.out.2 S.out.2.2.2 ?_; intro p7 c7 w7 ho hg hn9)
      | fail)
  obtain ⟨g, hg7, S0⟩ : ∃ g, p7 = some ⟨g, 0, none⟩ ∧ Hid (PlcS b0 w0 w w7 q ms g k c7 P T i k) := by
    have o7 : w7.ownsRow b0 3 1 (.slice p7 (k + 1) c7) (k + 1) (intsN ((P ++ T) ++ [i])) := by
      rw [intsN_append]
      exact ho.out
    have K7 : Kept (fun _ => False) w0 w7 := Kept.own S.out.2.1 ((Kept.refl (fun j => blockOf q = some j) W).grown hg.out (fun j _ z => by rw [blockOf_own] at z; exact z)) (fun j z => by have := (own_lt S.out.1 j z).1; omega)
    have o8 := o7
    rcases o7.2 with ⟨_, e1⟩ | ⟨g, cap, cur, e0, _⟩
    · omega
    · simp at e0
      obtain ⟨rfl, _⟩ := e0
      have n6 : Kept (fun j => blockOf q = some j) w W := by rw [E.out.1]; exact (Kept.refl (fun j => blockOf q = some j) w).alloc _
      have n7 : Kept (fun j => blockOf q = some j) w w7 := n6.trans ((Kept.refl (fun j => blockOf q = some j) W).grown hg.out (fun j _ z => by rw [blockOf_own] at z; exact z)) (fun _ _ z => z)
      have gb7 : blockOf q = some g ∨ w.heap.size ≤ g := by
        rcases hn9.out with z | ⟨z, _⟩
        · left
          rw [blockOf_own, blockOf_own] at z
          rw [← z]
          rfl
        · right
          rw [blockOf_own] at z
          have z : some g = some W.heap.size := z
          have e := Option.some.inj z
          rw [e, E.out.1]
          exact ((Kept.refl (fun _ => False) w).alloc _).size
      refine ⟨g, rfl, ⟨⟨T, [], by simp, by rw [← H.out.2.2.2.2]; exact fk, fun _ h => absurd h (by simp), ?_, o8⟩, K7, n7, gb7⟩⟩
      rw [List.length_append, H.out.2.1.len]
      rfl
  subst hg7
  have hc7 : k + 1 ≤ c7 := by
    obtain ⟨A, B2, _, _, _, r⟩ := S0.out.ok
    exact (own_room r.row).1
  clear ho hg hn9 S E BL
  have wk : wrap64 ((k : Int) + 1 - 1) = (k : Int) := by unfold wrap64; omega
  go_wp2_with fail
  go_loopw [9, 10] (fun u9 _ wy => ∃ kk : Nat, u9 = .int .i64 (kk : Int) ∧ f ≤ kk ∧ kk ≤ k ∧ Hid (PlcS b0 w0 w wy q ms g k c7 P T i kk)) (fun u9 _ _ => (intOf u9).toNat)
  case atStart => exact ⟨k, rfl, by omega, Nat.le_refl _, S0⟩
  case round =>
    obtain ⟨kk, rfl, fl, kl, Q⟩ := hrel
    clear S0 wk
    obtain ⟨wo, hwo⟩ : ∃ wo, wo = wr := ⟨_, rfl⟩
    rw [← hwo] at Q ⊢
    clear hwo
    obtain ⟨A, B2, eT, eK, hB2, r0⟩ := Q.out.ok
    have HQ : Hid (T = A ++ B2 ∧ P.length + A.length = kk ∧ (∀ y ∈ B2, AheadF ms i y) ∧ NRow b0 wo (some ⟨g, 0, none⟩) (k + 1) c7 (P ++ A ++ i :: B2) ∧ Kept (fun _ => False) w0 wo ∧ Kept (fun j => blockOf q = some j) w wo ∧ (blockOf q = some g ∨ w.heap.size ≤ g)) := ⟨eT, eK, hB2, r0, Q.out.kept, Q.out.near, Q.out.gb⟩
    clear eT eK hB2 r0 Q
    by_cases hlt : f < kk
    · have fk1 : (f : Int) < (kk : Int) := by omega
      obtain ⟨e, rfl⟩ : ∃ e, kk = e + 1 := ⟨kk - 1, by omega⟩
      obtain ⟨A2, y, eA⟩ : ∃ A2 y, A = A2 ++ [y] := by
        have h0 : A ≠ [] := fun z => by
          have h1 := HQ.out.2.1
          rw [z] at h1
          have h2 := H.out.2.2.2.2
          simp at h1
          omega
        exact ⟨A.dropLast, A.getLast h0, (List.dropLast_concat_getLast h0).symm⟩
      subst eA
      have HR : Hid (P.length + A2.length = e ∧ P ++ (A2 ++ [y]) ++ i :: B2 = (P ++ A2) ++ y :: i :: B2 ∧ y < n ∧ b0 ≤ g) := by
        refine ⟨?_, by simp, H.out.2.2.1 y (by rw [HQ.out.1]; simp), (own_lt HQ.out.2.2.2.1.row g rfl).1⟩
        have := HQ.out.2.1
        rw [List.length_append] at this
        simp at this
        omega
      have NR : Hid (∀ V, Kept (fun _ => False) wo V → NRow b0 V (some ⟨g, 0, none⟩) (k + 1) c7 ((P ++ A2) ++ y :: i :: B2)) := fun V kv => by
        rw [← HR.out.2.1]
        exact HQ.out.2.2.2.1.k0 kv
      have CE : Hid (∀ V, Kept (fun _ => False) wo V → V.cell? ⟨g, e + 1, none⟩ = some (.int .i64 (i : Int)) ∧ V.cell? ⟨g, e, none⟩ = some (.int .i64 (y : Int))) := by
        intro V kv
        have hl : (P ++ A2).length = e := by rw [List.length_append]; exact HR.out.1
        obtain ⟨g1, r1, e1, h1, q1⟩ := (NR.out V kv).at (show e + 1 < k + 1 by omega)
        obtain ⟨g2, r2, e2, h2, q2⟩ := (NR.out V kv).at (show e < k + 1 by omega)
        injection e1 with e1
        injection e1 with e1 _
        subst e1
        injection e2 with e2
        injection e2 with e2 _
        subst e2
        rw [List.getElem?_append_right (by omega), hl, Nat.add_sub_cancel_left] at h1
        rw [List.getElem?_append_right (by omega), hl, Nat.sub_self] at h2
        have h1 : i = r1 := by simpa using h1
        have h2 : y = r2 := by simpa using h2
        rw [h1, h2]
        exact ⟨q1, q2⟩
      obtain ⟨a, ha⟩ : ∃ a, ms[i]? = some a := ⟨_, List.getElem?_eq_getElem (by rw [H.out.1.len]; exact hi)⟩
      obtain ⟨b, hb2⟩ : ∃ b, ms[y]? = some b := ⟨_, List.getElem?_eq_getElem (by rw [H.out.1.len]; exact HR.out.2.2.1)⟩
      obtain ⟨ah, hah⟩ : ∃ ah, ah = decide (a.frm < b.frm ∨ (a.frm = b.frm ∧ i < y)) := ⟨_, rfl⟩
      have RT : Hid (∀ V, Kept (fun _ => False) wo V → Calls Try.prog 83 #[.slice p0 n c0, .int .i64 (i : Int), .int .i64 (y : Int)] V fun o w' => o = .returned (.bool ah) ∧ Kept (fun _ => False) V w') := fun V kv => by
        rw [hah]
        exact dAhead (H.out.1.k0 (HQ.out.2.2.2.2.1.trans kv (fun _ _ z => z))) ha hb2
      have HA : Hid (ah = true ↔ AheadF ms i y) := by
        show ah = true ↔ AheadF ms i y
        rw [hah]
        constructor
        · intro z
          exact ⟨a, b, ha, hb2, of_decide_eq_true z⟩
        · rintro ⟨a', b', ha', hb', z⟩
          rw [ha] at ha'
          rw [hb2] at hb'
          rw [← Option.some.inj ha', ← Option.some.inj hb'] at z
          exact decide_eq_true z
      clear ha hb2 hah
      obtain ⟨z1, z0⟩ := CE.out wo (Kept.refl _ _)
      have kd : Kept (fun _ => False) wo wo.drew := (Kept.refl _ _).drew
      have we : wrap64 ((e : Int) + 1 - 1) = (e : Int) := by unfold wrap64; omega
      have e1 : (e : Int) + 1 < (k : Int) + 1 := by omega
      have e2 : (e : Int) < (k : Int) + 1 := by omega
      have fd : decide ((f : Int) < (e : Int) + 1) = true := decide_eq_true (by omega)
      have en : ((e : Int) + 1).toNat = e + 1 := by omega
      have ep : (0 : Int) ≤ (e : Int) + 1 := by omega
      have ea : (((e + 1 : Nat)) : Int) = (e : Int) + 1 := by omega
      have we2 : wrap64 (e : Int) = (e : Int) := by unfold wrap64; omega
      have e0 : (0 : Int) ≤ (e : Int) := Int.natCast_nonneg e
      obtain ⟨wi, wj⟩ := wrap_e (Nat.le_of_succ_le kl) hk
      rw [ea]
      go_upto_region 3 with fail
      go_region_held3 (fun V => V.cell? ⟨g, e + 1, none⟩ = some (.int .i64 (i : Int)) ∧ V.cell? ⟨g, e, none⟩ = some (.int .i64 (y : Int)) ∧ Kept (fun _ => False) wo V) (go_keep)
        (first | (go_at_call 83; refine (RT.out _ (by assumption)).mono ?_; rintro o w5 ⟨rfl, K5'⟩; have K5 : Kept (fun _ => False) wo w5 := Kept.trans (by assumption) K5' (fun _ _ z => z); obtain ⟨x1, x0⟩ := CE.out w5 K5; clear K5') | fail)
      cases ah
      · have FIN : Hid (∃ R, NRow b0 w5 (some ⟨g, 0, none⟩) (k + 1) c7 R ∧ PlcQ ms P T i R ∧ Kept (fun _ => False) w0 w5 ∧ Kept (fun j => blockOf q = some j) w w5) := ⟨_, HQ.out.2.2.2.1.k0 K5, ⟨A2 ++ [y], B2, HQ.out.1, rfl, HQ.out.2.2.1, fun y' hy' => by
          have ey : y = y' := by simpa using hy'
          subst ey
          exact fun z => by have := HA.out.2 z; cases this⟩, HQ.out.2.2.2.2.1.trans K5 (fun _ _ z => z), HQ.out.2.2.2.2.2.1.trans K5 (fun _ _ z => z.elim)⟩
        clear HQ NR CE RT z1 z0
        go_wp2_with fail
        go_ret
        exact RetW.mk (some ⟨g, 0, none⟩) c7 (by first | rfl | simp) FIN.out
      · have f1 := soft_own (NR.out w5 K5) (e + 1)
        have f0 := soft_own (NR.out w5 K5) e
        have NX : Hid (PlcS b0 w0 w ((w5.setCell ⟨g, e + 1, none⟩ (.int .i64 (y : Int))).setCell ⟨g, e, none⟩ (.int .i64 (i : Int))) q ms g k c7 P T i e) := by
          refine ⟨⟨A2, y :: B2, by rw [HQ.out.1]; simp, HR.out.1, fun y' hy' => ?_, ?_⟩, ?_, ?_, HQ.out.2.2.2.2.2.2⟩
          · rcases List.mem_cons.1 hy' with rfl | z
            · exact HA.out.1 rfl
            · exact HQ.out.2.2.1 y' z
          · have := ((NR.out w5 K5).put (e + 1) y).put e i
            rw [plc_swap (by rw [List.length_append]; exact HR.out.1)] at this
            exact this
          · have K6 := HQ.out.2.2.2.2.1.trans K5 (fun _ _ z => z)
            have lg : w0.heap.size ≤ g := Nat.le_trans hb HR.out.2.2.2
            exact kept_set (kept_set K6 lg _ _) lg _ _
          · have K6 := HQ.out.2.2.2.2.2.1.trans K5 (fun _ _ z => z.elim)
            have hg : g < w.heap.size → blockOf q = some g := fun z => HQ.out.2.2.2.2.2.2.resolve_right (by omega)
            exact (K6.setCell (p := ⟨g, e + 1, none⟩) hg _).setCell (p := ⟨g, e, none⟩) hg _
        clear HQ NR CE RT z1 z0
        go_wp2_with fail
        go_roundw
        case rel => exact ⟨e, by first | rfl | go_num, Nat.le_of_lt_succ hlt, Nat.le_of_succ_le kl, NX⟩
        case measure => simp [intOf] <;> omega
    · have fd : decide ((f : Int) < (kk : Int)) = false := decide_eq_false (by omega)
      have A0 : A = [] := by
        have h1 := HQ.out.2.1
        have h2 := H.out.2.2.2.2
        exact List.length_eq_zero_iff.1 (by omega)
      subst A0
      have FIN : Hid (∀ V, Kept (fun _ => False) wo V → ∃ R, NRow b0 V (some ⟨g, 0, none⟩) (k + 1) c7 R ∧ PlcQ ms P T i R ∧ Kept (fun _ => False) w0 V ∧ Kept (fun j => blockOf q = some j) w V) := fun V kv => ⟨_, HQ.out.2.2.2.1.k0 kv, ⟨[], B2, HQ.out.1, rfl, HQ.out.2.2.1, fun y' hy' => by simp at hy'⟩, HQ.out.2.2.2.2.1.trans kv (fun _ _ z => z), HQ.out.2.2.2.2.2.1.trans kv (fun _ _ z => z.elim)⟩
      clear HQ
      go_upto_region 3 with fail
      go_quiet (fail)
      go_wp2_with fail
      go_ret
      exact RetW.mk (some ⟨g, 0, none⟩) c7 (by first | rfl | simp) (FIN.out _ ((Kept.refl _ _).drewN _))
end Go.Proofs.Ytodmakcklacbfaa

namespace Go.Proofs.Ytodmakcklacbfaa
open Go.RowKit 

def ownB (m : Cm) : Bool := m.put && (!m.opn || !kIsZero m.tx m.ty)
def readB (m : Cm) : Bool := !m.put && decide (0 ≤ m.to) && decide (m.st = 0)
def tg (m : Cm) : Int × Int := (m.tx, m.ty)
def wantB (ms : List Cm) (t : Int × Int) : Bool := ms.any fun m => readB m && decide (tg m = t)
def knowB (ms : List Cm) (t : Int × Int) : Bool := ms.any fun m => ownB m && decide (tg m = t)
end Go.Proofs.Ytodmakcklacbfaa
