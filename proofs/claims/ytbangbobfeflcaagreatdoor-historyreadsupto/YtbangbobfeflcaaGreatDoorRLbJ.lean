import Derived.Test.YtbangbobfeflcaaGreatDoorKEqJ
import Derived.Test.YtbangbobfeflcaaGreatDoorLPgJ
import Derived.Deep.Cut
import Derived.BigQuiet
import Derived.Deep.RegionHeld3
import Derived.Deep.DeepCutAuto
import Derived.Test.YtbangbobfeflcaaGreatDoorROvJ
import Derived.Test.YtbangbobfeflcaaGreatDoorRPa
import Derived.Test.YtbangbobfeflcaaGreatDoorRPo
import Derived.Test.YtbangbobfeflcaaGreatDoorRAq
namespace Go.Proofs.YtbangbobfeflcaaGreatDoor
open Go.RowKit 

set_option maxRecDepth 100000 in
set_option maxHeartbeats 4000000 in
theorem hEvents {w : World} {p1 p2 : Option Addr} {n c1 c2 : Nat} {L1 L2 : List Ev} (h1 : ERd w p1 n c1 L1) (h2 : ERd w p2 n c2 L2) (e : L1.map Ev.core = L2.map Ev.core) : Calls Tryz.prog 9 #[.slice p1 n c1, .slice p2 n c2] w fun o w' => o = .returned (.bool true) ∧ Kept (fun _ => False) w w' := by
  have r1 := h1.room
  have s1 := h1.small
  have r2 := h2.room
  have s2 := h2.small
  unfold maxLen at s1 s2
  have H : Hid (ERd w p1 n c1 L1 ∧ ERd w p2 n c2 L2 ∧ L1.map Ev.core = L2.map Ev.core) := ⟨h1, h2, e⟩
  have S0 : Hid (Kept (fun _ => False) w w) := Kept.refl _ _
  clear h1 h2 e
  go_enter Tryz.func9, Tryz.ntmps9
  go_wp2_with fail
  go_loopw [5] (fun u5 wr => ∃ i : Nat, u5 = .int .i64 (i : Int) ∧ i ≤ n ∧ Hid (Kept (fun _ => False) w wr)) (fun u5 _ => n - (intOf u5).toNat)
  case atStart => exact ⟨0, rfl, Nat.zero_le _, S0⟩
  case round =>
    obtain ⟨i, rfl, hi, S⟩ := hrel
    clear S0
    obtain ⟨wo, hwo⟩ : ∃ wo, wo = wr := ⟨_, rfl⟩
    rw [← hwo] at S ⊢
    clear hwo
    by_cases hlt : i < n
    · have i1 : (i : Int) < (n : Int) := by omega
      obtain ⟨b, off, x, rfl, hx, a0, a1, a2, a3, a4, a5, a6, a7, a8, rx⟩ := (H.out.1.k0 S.out).at hlt
      obtain ⟨b2, off2, y, rfl, hy, d0, d1, d2, d3, d4, d5, d6, d7, d8, ry⟩ := (H.out.2.1.k0 S.out).at hlt
      have ec : x.core = y.core := core_at H.out.2.2 hx hy
      have e0 : y.kind = x.kind := (congrArg Ev.kind ec).symm
      have e1 : y.client = x.client := (congrArg Ev.client ec).symm
      have e2 : y.op = x.op := (congrArg Ev.op ec).symm
      have e3 : y.put = x.put := (congrArg Ev.put ec).symm
      have e4 : y.key = x.key := (congrArg Ev.key ec).symm
      have e5 : y.vn = x.vn := (congrArg Ev.vn ec).symm
      have e6 : y.st = x.st := (congrArg Ev.st ec).symm
      have e7 : y.tx = x.tx := (congrArg Ev.tx ec).symm
      have e8 : y.ty = x.ty := (congrArg Ev.ty ec).symm
      have ev : y.val = x.val := (congrArg Ev.val ec).symm
      rw [e0] at d0
      rw [e1] at d1
      rw [e2] at d2
      rw [e3] at d3
      rw [e4] at d4
      rw [e5] at d5
      rw [e6] at d6
      rw [e7] at d7
      rw [e8] at d8
      rw [e5, ev] at ry
      have C17 : Hid (∀ V, Kept (fun _ => False) wo V → Calls Tryz.prog 17 #[.agg #[.int .i64 x.kind, .int .i64 x.client, .int .i64 x.op, .bool x.put, .string x.key, .slice x.va x.vn x.vc, .int .i64 x.st, .int .i64 x.tx, .int .i64 x.ty], .agg #[.int .i64 x.kind, .int .i64 x.client, .int .i64 x.op, .bool x.put, .string x.key, .slice y.va x.vn y.vc, .int .i64 x.st, .int .i64 x.tx, .int .i64 x.ty]] V fun o w' => o = .returned (.bool true) ∧ Kept (fun _ => False) V w') := fun V KV => hEqual (Reads.kept KV rx (fun _ _ z => z)) (Reads.kept KV ry (fun _ _ z => z))
      have MK : Hid (∀ V, Kept (fun _ => False) wo V → V.cell? ⟨b, off + i * 9, none⟩ = some (.int .i64 x.kind) ∧ V.cell? ⟨b, off + i * 9 + 1, none⟩ = some (.int .i64 x.client) ∧ V.cell? ⟨b, off + i * 9 + 2, none⟩ = some (.int .i64 x.op) ∧ V.cell? ⟨b, off + i * 9 + 3, none⟩ = some (.bool x.put) ∧ V.cell? ⟨b, off + i * 9 + 4, none⟩ = some (.string x.key) ∧ V.cell? ⟨b, off + i * 9 + 5, none⟩ = some (.slice x.va x.vn x.vc) ∧ V.cell? ⟨b, off + i * 9 + 6, none⟩ = some (.int .i64 x.st) ∧ V.cell? ⟨b, off + i * 9 + 7, none⟩ = some (.int .i64 x.tx) ∧ V.cell? ⟨b, off + i * 9 + 8, none⟩ = some (.int .i64 x.ty) ∧ V.cell? ⟨b2, off2 + i * 9, none⟩ = some (.int .i64 x.kind) ∧ V.cell? ⟨b2, off2 + i * 9 + 1, none⟩ = some (.int .i64 x.client) ∧ V.cell? ⟨b2, off2 + i * 9 + 2, none⟩ = some (.int .i64 x.op) ∧ V.cell? ⟨b2, off2 + i * 9 + 3, none⟩ = some (.bool x.put) ∧ V.cell? ⟨b2, off2 + i * 9 + 4, none⟩ = some (.string x.key) ∧ V.cell? ⟨b2, off2 + i * 9 + 5, none⟩ = some (.slice y.va x.vn y.vc) ∧ V.cell? ⟨b2, off2 + i * 9 + 6, none⟩ = some (.int .i64 x.st) ∧ V.cell? ⟨b2, off2 + i * 9 + 7, none⟩ = some (.int .i64 x.tx) ∧ V.cell? ⟨b2, off2 + i * 9 + 8, none⟩ = some (.int .i64 x.ty)) := fun V K => ⟨K.cell a0 (fun z => z), K.cell a1 (fun z => z), K.cell a2 (fun z => z), K.cell a3 (fun z => z), K.cell a4 (fun z => z), K.cell a5 (fun z => z), K.cell a6 (fun z => z), K.cell a7 (fun z => z), K.cell a8 (fun z => z), K.cell d0 (fun z => z), K.cell d1 (fun z => z), K.cell d2 (fun z => z), K.cell d3 (fun z => z), K.cell d4 (fun z => z), K.cell d5 (fun z => z), K.cell d6 (fun z => z), K.cell d7 (fun z => z), K.cell d8 (fun z => z)⟩
      clear hx hy ec e0 e1 e2 e3 e4 e5 e6 e7 e8 ev rx ry
      obtain ⟨kd, cl, op, pt, ky, va, vn, vc, st, tx, ty, val⟩ := x
      simp only at a0 a1 a2 a3 a4 a5 a6 a7 a8 d0 d1 d2 d3 d4 d5 d6 d7 d8 C17 MK
      obtain ⟨va', hva⟩ : ∃ v, y.va = v := ⟨_, rfl⟩
      obtain ⟨vc', hvc⟩ : ∃ v, y.vc = v := ⟨_, rfl⟩
      rw [hva, hvc] at d5 C17 MK
      clear hva hvc y
      go_upto_region 6 with fail
      go_region_held3 (fun w' => w'.cell? ⟨b, off + i * 9, none⟩ = some (.int .i64 kd) ∧ w'.cell? ⟨b, off + i * 9 + 1, none⟩ = some (.int .i64 cl) ∧ w'.cell? ⟨b, off + i * 9 + 2, none⟩ = some (.int .i64 op) ∧ w'.cell? ⟨b, off + i * 9 + 3, none⟩ = some (.bool pt) ∧ w'.cell? ⟨b, off + i * 9 + 4, none⟩ = some (.string ky) ∧ w'.cell? ⟨b, off + i * 9 + 5, none⟩ = some (.slice va vn vc) ∧ w'.cell? ⟨b, off + i * 9 + 6, none⟩ = some (.int .i64 st) ∧ w'.cell? ⟨b, off + i * 9 + 7, none⟩ = some (.int .i64 tx) ∧ w'.cell? ⟨b, off + i * 9 + 8, none⟩ = some (.int .i64 ty) ∧ w'.cell? ⟨b2, off2 + i * 9, none⟩ = some (.int .i64 kd) ∧ w'.cell? ⟨b2, off2 + i * 9 + 1, none⟩ = some (.int .i64 cl) ∧ w'.cell? ⟨b2, off2 + i * 9 + 2, none⟩ = some (.int .i64 op) ∧ w'.cell? ⟨b2, off2 + i * 9 + 3, none⟩ = some (.bool pt) ∧ w'.cell? ⟨b2, off2 + i * 9 + 4, none⟩ = some (.string ky) ∧ w'.cell? ⟨b2, off2 + i * 9 + 5, none⟩ = some (.slice va' vn vc') ∧ w'.cell? ⟨b2, off2 + i * 9 + 6, none⟩ = some (.int .i64 st) ∧ w'.cell? ⟨b2, off2 + i * 9 + 7, none⟩ = some (.int .i64 tx) ∧ w'.cell? ⟨b2, off2 + i * 9 + 8, none⟩ = some (.int .i64 ty)) (go_keep)
        (first | (go_at_call 17; refine (C17.out _ ((Kept.refl _ _).drew)).mono ?_; rintro x w2 ⟨rfl, K2⟩; have K3 : Hid (Kept (fun _ => False) wo w2) := ((Kept.refl _ wo).drew).trans K2 (fun _ _ z => z); obtain ⟨q0, q1, q2, q3, q4, q5, q6, q7, q8, q9, q10, q11, q12, q13, q14, q15, q16, q17⟩ := MK.out w2 K3.out; clear K2) | fail)
      have NX : Hid (Kept (fun _ => False) w w2) := S.out.trans K3.out (fun _ _ z => z)
      clear q0 q1 q2 q3 q4 q5 q6 q7 q8 q9 q10 q11 q12 q13 q14 q15 q16 q17 a0 a1 a2 a3 a4 a5 a6 a7 a8 d0 d1 d2 d3 d4 d5 d6 d7 d8 K3 MK C17
      go_wp2_with fail
      go_roundw
      case rel => exact ⟨i + 1, by go_num, by omega, NX⟩
      case measure => simp [intOf] <;> omega
    · have i1 : ¬ (i : Int) < (n : Int) := by omega
      go_wp2_with fail
      go_ret
      exact ⟨by first | rfl | simp, S.out⟩
end Go.Proofs.YtbangbobfeflcaaGreatDoor

namespace Go.Proofs.YtbangbobfeflcaaGreatDoor
open Go.RowKit 

/-- What a text is read as, its number, its word. -/
def evR (es : List Ev) (r : List UInt8) : List Ev := if r = [] then es else []
def noR (es : List Ev) (r : List UInt8) : Int := if r = [] then 0 else ((es.length + 1 : Nat) : Int)
def flR (r : List UInt8) : Int := if r = [] then 0 else 80
theorem evR_good {es : List Ev} {r : List UInt8} (h : ∀ e ∈ es, GoodE e) : ∀ e ∈ evR es r, GoodE e := by
  unfold evR
  split
  · exact h
  · intro e he
    cases he
theorem evR_len (es : List Ev) (r : List UInt8) : (evR es r).length ≤ es.length := by
  unfold evR
  split
  · exact Nat.le_refl _
  · exact Nat.zero_le _
theorem PaO.u {w w' : World} {es : List Ev} {r : List UInt8} {o : Ending} (h : PaO w es r o w') : ∃ p c L, o = .returned (.tuple #[.slice p (evR es r).length c, .int .i64 (noR es r), .int .i64 (flR r)]) ∧ PS w w' p (evR es r).length c L ∧ L.map Ev.core = (evR es r).map Ev.core ∧ Dst w' L ∧ ∀ e ∈ L, ∀ x, blockOf e.va = some x → w.heap.size ≤ x := by
  unfold evR noR flR
  rcases h with ⟨z, p, c, L, h1, h2, h3, h4, h5⟩ | ⟨z, h1, h2⟩
  · rw [if_pos z, if_pos z, if_pos z]
    exact ⟨p, c, L, h1, h2, h3, h4, h5⟩
  · rw [if_neg z, if_neg z, if_neg z]
    exact ⟨none, 0, [], h1, ⟨EaR.nil _ _, fun e h => (by cases h), h2⟩, rfl, ⟨List.Pairwise.nil, fun e h => (by cases h)⟩, fun e h => (by cases h)⟩
theorem PaQ.u {w w' : World} {es : List Ev} {r : List UInt8} {o : Ending} (h : PaQ w es r o w') : ∃ p c L, o = .returned (.tuple #[.slice p (evR es r).length c, .int .i64 (noR es r), .int .i64 (flR r)]) ∧ PS w w' p (evR es r).length c L ∧ L.map Ev.core = (evR es r).map Ev.core := by
  unfold evR noR flR
  rcases h with ⟨z, p, c, L, h1, h2, h3⟩ | ⟨z, h1, h2⟩
  · rw [if_pos z, if_pos z, if_pos z]
    exact ⟨p, c, L, h1, h2, h3⟩
  · rw [if_neg z, if_neg z, if_neg z]
    exact ⟨none, 0, [], h1, ⟨EaR.nil _ _, fun e h => (by cases h), h2⟩, rfl⟩
/-- The values of two lists of events, one by one. -/
def rwE (e : Ev) : Rw := ⟨e.va, e.vn, e.vc, cellsOf e.val⟩
def inter : List Ev → List Ev → List Rw
  | a :: l, b :: m => rwE a :: rwE b :: inter l m
  | _, _ => []
theorem inter_len : ∀ (L M : List Ev), L.length = M.length → (inter L M).length = 2 * L.length
  | [], _, _ => by unfold inter; rfl
  | a :: l, [], h => by cases h
  | a :: l, b :: m, h => by
    have := inter_len l m (by simpa using h)
    unfold inter
    simp [this]
    omega
theorem inter_mem : ∀ (L M : List Ev) (r : Rw), r ∈ inter L M → (∃ a ∈ L, r = rwE a) ∨ ∃ b ∈ M, r = rwE b
  | [], _, _, h => by unfold inter at h; cases h
  | a :: l, [], _, h => by unfold inter at h; cases h
  | a :: l, b :: m, r, h => by
    unfold inter at h
    rcases List.mem_cons.1 h with h | h
    · exact .inl ⟨a, List.mem_cons_self, h⟩
    · rcases List.mem_cons.1 h with h | h
      · exact .inr ⟨b, List.mem_cons_self, h⟩
      · rcases inter_mem l m r h with ⟨x, hx, e⟩ | ⟨x, hx, e⟩
        · exact .inl ⟨x, List.mem_cons_of_mem _ hx, e⟩
        · exact .inr ⟨x, List.mem_cons_of_mem _ hx, e⟩
theorem inter_take : ∀ (L M : List Ev) (i : Nat) (a b : Ev), L[i]? = some a → M[i]? = some b → (inter L M).take (2 * (i + 1)) = (inter L M).take (2 * i) ++ [rwE a, rwE b]
  | [], _, _, _, _, h, _ => by simp at h
  | a :: l, [], _, _, _, _, h => by simp at h
  | a :: l, b :: m, 0, x, y, h, k => by
    have h : a = x := by simpa using h
    have k : b = y := by simpa using k
    subst h
    subst k
    unfold inter
    rfl
  | a :: l, b :: m, i + 1, x, y, h, k => by
    have q := inter_take l m i x y (by simpa using h) (by simpa using k)
    unfold inter
    rw [show 2 * (i + 1 + 1) = (2 * (i + 1)) + 1 + 1 by omega, show 2 * (i + 1) = 2 * i + 1 + 1 by omega, List.take_succ_cons, List.take_succ_cons, List.take_succ_cons, List.take_succ_cons, show 2 * i + 1 + 1 = 2 * (i + 1) by omega, q]
    rfl
def Prt (a b : Rw) : Prop := ∀ x, blockOf a.p = some x → ¬ blockOf b.p = some x
theorem inter_pw : ∀ (L M : List Ev), L.Pairwise (fun a b => ∀ x, blockOf a.va = some x → blockOf b.va ≠ some x) → M.Pairwise (fun a b => ∀ x, blockOf a.va = some x → blockOf b.va ≠ some x) → (∀ a ∈ L, ∀ b ∈ M, ∀ x, blockOf a.va = some x → ¬ blockOf b.va = some x) → (inter L M).Pairwise Prt
  | [], _, _, _, _ => by unfold inter; exact List.Pairwise.nil
  | a :: l, [], _, _, _ => by unfold inter; exact List.Pairwise.nil
  | a :: l, b :: m, h1, h2, h3 => by
    obtain ⟨p1, p2⟩ := List.pairwise_cons.1 h1
    obtain ⟨q1, q2⟩ := List.pairwise_cons.1 h2
    have ih := inter_pw l m p2 q2 (fun x hx y hy => h3 x (List.mem_cons_of_mem _ hx) y (List.mem_cons_of_mem _ hy))
    unfold inter
    refine List.pairwise_cons.2 ⟨fun r hr => ?_, List.pairwise_cons.2 ⟨fun r hr => ?_, ih⟩⟩
    · rcases List.mem_cons.1 hr with hr | hr
      · rw [hr]
        exact h3 a List.mem_cons_self b List.mem_cons_self
      · rcases inter_mem l m r hr with ⟨x, hx, e⟩ | ⟨x, hx, e⟩
        · rw [e]
          exact p1 x hx
        · rw [e]
          exact h3 a List.mem_cons_self x (List.mem_cons_of_mem _ hx)
    · rcases inter_mem l m r hr with ⟨x, hx, e⟩ | ⟨x, hx, e⟩
      · rw [e]
        exact fun z e1 e2 => h3 x (List.mem_cons_of_mem _ hx) b List.mem_cons_self z e2 e1
      · rw [e]
        exact q1 x hx
theorem prt_at {R : List Rw} (h : R.Pairwise Prt) : ∀ (m n : Nat) (r s : Rw), m ≠ n → R[m]? = some r → R[n]? = some s → ∀ b, blockOf r.p = some b → ¬ blockOf s.p = some b := fun m n r s hne hr hs b e1 e2 => by
  obtain ⟨h1, rfl⟩ := List.getElem?_eq_some_iff.1 hr
  obtain ⟨h2, rfl⟩ := List.getElem?_eq_some_iff.1 hs
  rcases Nat.lt_or_gt_of_ne hne with q | q
  · exact List.pairwise_iff_getElem.1 h m n h1 h2 q b e1 e2
  · exact List.pairwise_iff_getElem.1 h n m h2 h1 q b e2 e1
theorem owns_base {w : World} {b b' : Nat} {e : TypeId} {s : Nat} {v : Value} {n : Nat} {xs : List Value} (h : w.ownsRow b e s v n xs) (hb : b' ≤ b) : w.ownsRow b' e s v n xs := by
  refine ⟨h.1, ?_⟩
  rcases h.2 with z | ⟨g, cap, cur, z, h1, h2⟩
  · exact .inl z
  · exact .inr ⟨g, cap, cur, z, Nat.le_trans hb h1, h2⟩
theorem own_form {w : World} {b : Nat} {e : TypeId} {s n c : Nat} {p : Option Addr} {xs : List Value} (h : w.ownsRow b e s (.slice p n c) n xs) (hn : p ≠ none) : ∃ g, p = some ⟨g, 0, none⟩ ∧ g < w.heap.size := by
  rcases h.2 with ⟨z, _⟩ | ⟨g, cap, cur, z, _⟩
  · injection z with z1 _ _
    exact absurd z1 hn
  · injection z with z1 _ _
    refine ⟨g, z1, (own_lt h g (by rw [z1]; rfl)).2⟩
theorem src_two {W : World} {B : Nat} {u v : Value} (hB : W.heap[B]? = some (.cells #[u, v] 34 (0, 0))) (hu : u.oneCell' = true) (hv : v.oneCell' = true) : Src Tryz.prog 1 24 (.slice (some ⟨B, 0, none⟩) 2 2) 2 [u, v] W := by
  refine Src.ofSlice W Tryz.underlying24 ⟨B, 0, none⟩ 2 2 [u, v] rfl (fun j x hx => ?_) (fun x hx => ?_)
  · have hj : j < 2 := by
      have := (List.getElem?_eq_some_iff.1 hx).1
      simpa using this
    rw [Addr.add_none]
    obtain rfl | rfl : j = 0 ∨ j = 1 := by omega
    · exact cell_blk hB 0 (by simpa using hx)
    · exact cell_blk hB 1 (by simpa using hx)
  · rcases List.mem_cons.1 hx with e | e
    · rw [e]; exact hu
    · rw [List.mem_singleton.1 e]; exact hv
/-- The values gathered. -/
structure AL (w wr : World) (R : List Rw) (i : Nat) (Q : Option Addr) (D : Nat) : Prop where
  row : wr.ownsRow w.heap.size 34 1 (.slice Q (2 * i) D) (2 * i) (slv (R.take (2 * i)))
  kept : Kept (fun _ => False) w wr
theorem AL.nil (w : World) (R : List Rw) : AL w w R 0 none 0 := ⟨⟨rfl, .inl ⟨rfl, rfl⟩⟩, Kept.refl _ _⟩
theorem AL.more {w wr w9 : World} {L M : List Ev} {i D c9 : Nat} {Q p9 : Option Addr} {a b : Ev} (h : AL w wr (inter L M) i Q D) (ha : L[i]? = some a) (hb : M[i]? = some b) (ho : w9.ownsRow w.heap.size 34 1 (.slice p9 (2 * i + 2) c9) (2 * i + 2) (slv ((inter L M).take (2 * i)) ++ [.slice a.va a.vn a.vc, .slice b.va b.vn b.vc])) (hg : wr.grownBy w9 (Value.slice Q (2 * i) D).ownBlock) : AL w w9 (inter L M) (i + 1) p9 c9 := by
  refine ⟨?_, h.kept.trans (kgr hg) (fun j hj z => ?_)⟩
  · rw [inter_take L M i a b ha hb, show 2 * (i + 1) = 2 * i + 2 by omega]
    have e : slv ((inter L M).take (2 * i) ++ [rwE a, rwE b]) = slv ((inter L M).take (2 * i)) ++ [.slice a.va a.vn a.vc, .slice b.va b.vn b.vc] := by
      unfold slv
      rw [List.map_append]
      rfl
    rw [e]
    exact ho
  · have := (own_lt h.row j z).1
    omega
/-- One event to be read. -/
abbrev evGk : Ev := ⟨1, 1, 1, false, ⟨#[107]⟩, none, 0, 0, 0, 0, 0, []⟩
abbrev txtK : ByteArray := ⟨#[105, 110, 118, 111, 107, 101, 32, 49, 32, 49, 32, 103, 101, 116, 32, 34, 107, 34, 10]⟩
theorem evGK_good (w : World) : GoodE evGk := ⟨by decide, w, ⟨rfl, Nat.le_refl _, Nat.zero_le _, (fun x h => by cases h), fun q => absurd q (Nat.lt_irrefl _)⟩⟩
theorem txtK_eq : (⟨(txtF [evGk] ++ []).toArray⟩ : ByteArray) = txtK := by first | kernel_rfl | decide +kernel
end Go.Proofs.YtbangbobfeflcaaGreatDoor

namespace Go.Proofs.YtbangbobfeflcaaGreatDoor
open Go.RowKit 

theorem PS.erd {w wr : World} {p : Option Addr} {k c : Nat} {L es : List Ev} (h : PS w wr p k c L) (hc : L.map Ev.core = es.map Ev.core) (hb : ∀ e ∈ es, ∀ x ∈ e.val, x < 256) : ERd wr p k c L :=
  h.row.erd fun x hx => by
    refine reads_own (h.val x hx) ?_
    obtain ⟨i, hi, rfl⟩ := List.mem_iff_getElem.1 hx
    have hl : L.length = es.length := by
      have := congrArg List.length hc
      simpa using this
    have q := core_at hc (List.getElem?_eq_getElem hi) (List.getElem?_eq_getElem (by rw [← hl]; exact hi))
    have ev : L[i].core.val = (es[i]'(by rw [← hl]; exact hi)).core.val := congrArg Ev.val q
    have ev : L[i].val = (es[i]'(by rw [← hl]; exact hi)).val := ev
    rw [ev]
    exact hb _ (List.getElem_mem _)
theorem good_val {es : List Ev} (h : ∀ e ∈ es, GoodE e) : ∀ e ∈ es, ∀ x ∈ e.val, x < 256 := fun e he => by
  obtain ⟨w0, r⟩ := (h e he).2
  exact r.bytes
theorem good_vn {L es : List Ev} (h : ∀ e ∈ es, GoodE e) (hc : L.map Ev.core = es.map Ev.core) : ∀ e ∈ L, e.vn ≤ 1000000000 := fun x hx => by
  obtain ⟨i, hi, rfl⟩ := List.mem_iff_getElem.1 hx
  have hl : L.length = es.length := by
    have := congrArg List.length hc
    simpa using this
  have hi2 : i < es.length := by rw [← hl]; exact hi
  have q := core_at hc (List.getElem?_eq_getElem hi) (List.getElem?_eq_getElem hi2)
  have ev : L[i].core.vn = (es[i]'hi2).core.vn := congrArg Ev.vn q
  have ev : L[i].vn = (es[i]'hi2).vn := ev
  rw [ev]
  have := val_le (fault_all (h _ (List.getElem_mem hi2)).1).2.2.2.1
  omega
def VO (b : Nat) (W : World) (L : List Ev) : Prop := ∀ e ∈ L, W.ownsRow b 5 1 (.slice e.va e.vn e.vc) e.vn (cellsOf e.val)
theorem VO.base {b b' : Nat} {W : World} {L : List Ev} (h : VO b W L) (hb : b' ≤ b) : VO b' W L := fun e he => owns_base (h e he) hb
theorem VO.k0 {b : Nat} {W W' : World} {L : List Ev} (h : VO b W L) (K : Kept (fun _ => False) W W') : VO b W' L := fun e he => K.owns (h e he) (fun _ _ z => z)
/-- Events are written over: their values are as they were. -/
theorem VO.ev {b b1 b2 : Nat} {W W' : World} {L : List Ev} {p q : Option Addr} {n c m d : Nat} {X Y : List Value} (h : VO b W L) (h1 : W.ownsRow b1 39 9 (.slice p n c) n X) (h2 : W.ownsRow b2 39 9 (.slice q m d) m Y) (K : Kept (fun b => blockOf p = some b ∨ blockOf q = some b) W W') : VO b W' L := fun e he => K.owns (h e he) (fun k hk z => by
  rw [blockOf_own] at hk
  obtain ⟨c1, e1⟩ := own_type (h e he) k hk
  rcases z with z | z
  · obtain ⟨c2, e2⟩ := own_type h1 k z
    rw [e1] at e2
    simp at e2
  · obtain ⟨c2, e2⟩ := own_type h2 k z
    rw [e1] at e2
    simp at e2)
theorem all_ev {b b1 b2 : Nat} {W W' : World} {Q p q : Option Addr} {l D n c m d : Nat} {Z X Y : List Value} (h : W.ownsRow b 34 1 (.slice Q l D) l Z) (h1 : W.ownsRow b1 39 9 (.slice p n c) n X) (h2 : W.ownsRow b2 39 9 (.slice q m d) m Y) (K : Kept (fun b => blockOf p = some b ∨ blockOf q = some b) W W') : W'.ownsRow b 34 1 (.slice Q l D) l Z := K.owns h (fun k hk z => by
  rw [blockOf_own] at hk
  obtain ⟨c1, e1⟩ := own_type h k hk
  rcases z with z | z
  · obtain ⟨c2, e2⟩ := own_type h1 k z
    rw [e1] at e2
    simp at e2
  · obtain ⟨c2, e2⟩ := own_type h2 k z
    rw [e1] at e2
    simp at e2)
theorem inter_at {L M : List Ev} {b : Nat} {W : World} (h1 : VO b W L) (h2 : VO b W M) (a : Nat) (r : Rw) (hr : (inter L M)[a]? = some r) : W.ownsRow b 5 1 (.slice r.p r.n r.c) r.n r.xs := by
  rcases inter_mem L M r (List.mem_of_getElem? hr) with ⟨x, hx, e⟩ | ⟨x, hx, e⟩
  · rw [e]
    exact h1 x hx
  · rw [e]
    exact h2 x hx
theorem st1_0 (a : Nat) (r : Rw) : st1 0 0 a r = r.xs := by
  unfold st1
  rw [if_neg (Nat.not_lt_zero _)]
  split
  · rfl
  · rfl
theorem A1.of {b n D : Nat} {W : World} {L M : List Ev} {Q : Option Addr} (hall : W.ownsRow b 34 1 (.slice Q n D) n (slv (inter L M))) (h1 : VO b W L) (h2 : VO b W M) : A1 b W W Q n D (inter L M) 0 0 := ⟨hall, fun a r hr => by rw [st1_0]; exact inter_at h1 h2 a r hr, Kept.refl _ _⟩
theorem RS.of {b : Nat} {W : World} {L M : List Ev} (h1 : VO b W L) (h2 : VO b W M) (hp : (inter L M).Pairwise Prt) (s1 : ∀ e ∈ L, e.vn ≤ 1000000000) (s2 : ∀ e ∈ M, e.vn ≤ 1000000000) : RS W (inter L M) := by
  refine ⟨prt_at hp, fun a r hr k hk => (own_lt (inter_at h1 h2 a r hr) k hk).2, fun a r hr => ?_, fun a r hr => ?_, fun a r hr h0 => ?_⟩
  · have := (inter_at h1 h2 a r hr).1
    omega
  · rcases inter_mem L M r (List.mem_of_getElem? hr) with ⟨x, hx, e⟩ | ⟨x, hx, e⟩
    · rw [e]
      exact s1 x hx
    · rw [e]
      exact s2 x hx
  · rcases (inter_at h1 h2 a r hr).2 with ⟨_, z⟩ | ⟨g, cap, cur, z, _⟩
    · omega
    · injection z with z1 _ _
      exact ⟨g, z1⟩
theorem bulk_no {b : Nat} {W : World} {L M : List Ev} (h1 : VO b W L) (h2 : VO b W M) : ∀ k, (∃ (a : Nat) (r : Rw), (inter L M)[a]? = some r ∧ blockOf r.p = some k) → b ≤ k ∧ ∃ cs, W.heap[k]? = some (.cells cs 5 (0, 0)) := fun k ⟨a, r, hr, hk⟩ => ⟨(own_lt (inter_at h1 h2 a r hr) k hk).1, own_type (inter_at h1 h2 a r hr) k hk⟩
/-- The two rows of events are two. -/
theorem rows_ne {b1 b2 : Nat} {W : World} {p q : Option Addr} {n c m d : Nat} {Y : List Value} {w1 : World} {X1 : List Value} (h1 : w1.ownsRow b1 39 9 (.slice p n c) n X1) (h2 : W.ownsRow b2 39 9 (.slice q m d) m Y) (hb : w1.heap.size ≤ b2) : ∀ b, blockOf p = some b → ¬ blockOf q = some b := fun b e1 e2 => by
  have q1 := (own_lt h1 b e1).2
  have q2 := (own_lt h2 b e2).1
  omega
theorem vals_pw {w1 w3 w4 : World} {L M : List Ev} (d1 : Dst w1 L) (d4 : Dst w4 M) (h4 : ∀ e ∈ M, ∀ x, blockOf e.va = some x → w3.heap.size ≤ x) (hs : w1.heap.size ≤ w3.heap.size) : (inter L M).Pairwise Prt := inter_pw L M d1.1 d4.1 (fun a ha b hb x e1 e2 => by
  have q1 := d1.2 a ha x e1
  have q2 := h4 b hb x e2
  omega)
/-- What is known of one reading of s. -/
structure RdS (EV : List Ev) (w w' : World) (p : Option Addr) (n c : Nat) (L : List Ev) : Prop where
  ps : PS w w' p n c L
  co : L.map Ev.core = EV.map Ev.core
theorem RdS.k0 {EV : List Ev} {w w' W : World} {p : Option Addr} {n c : Nat} {L : List Ev} (h : RdS EV w w' p n c L) (K : Kept (fun _ => False) w' W) : RdS EV w W p n c L := ⟨h.ps.k0 K, h.co⟩
theorem RdS.erd {EV : List Ev} {w w' : World} {p : Option Addr} {n c : Nat} {L : List Ev} (h : RdS EV w w' p n c L) (g : ∀ e ∈ EV, GoodE e) : ERd w' p n c L := h.ps.erd h.co (good_val g)
theorem one_key {w w' : World} {p : Option Addr} {c : Nat} {L : List Ev} (h : PS w w' p 1 c L) (hc : L.map Ev.core = [evGk].map Ev.core) : ∃ g, p = some ⟨g, 0, none⟩ ∧ w'.cell? ⟨g, 4, none⟩ = some (.string ⟨#[107]⟩) := by
  match L, hc, h with
  | [], hc, _ => cases hc
  | [e], hc, h =>
    have ek : e.key = ⟨#[107]⟩ := by
      have q : [e].map (fun x => x.core.key) = [evGk].map (fun x => x.core.key) := by
        have q := congrArg (List.map Ev.key) hc
        rw [List.map_map, List.map_map] at q
        exact q
      have q : [e.key] = [(⟨#[107]⟩ : ByteArray)] := q
      simpa using q
    rcases h.row.row.2 with ⟨_, z⟩ | ⟨g, cap, cur, z, _⟩
    · cases z
    · have hr := h.row.row
      injection z with z1 _ _
      subst z1
      refine ⟨g, rfl, (row_cell hr ?_).1⟩
      rw [← ek]
      rfl
  | a :: b :: l, hc, _ =>
    have q := congrArg List.length hc
    simp at q
end Go.Proofs.YtbangbobfeflcaaGreatDoor
