import Derived.Test.YtbangbobfeflcaaGreatDoorKEqJ
import Derived.Test.YtbangbobfeflcaaGreatDoorRFmJ
import Derived.Deep.Cut
import Derived.BigQuiet
import Derived.Deep.RegionHeld3
import Derived.Deep.DeepCutAuto
import Derived.Test.YtbangbobfeflcaaGreatDoorKStJ
import Derived.Test.YtbangbobfeflcaaGreatDoorRPoJ
import Derived.Test.YtbangbobfeflcaaGreatDoorRAq
namespace Go.Proofs.YtbangbobfeflcaaGreatDoor
open Go.RowKit 

set_option maxRecDepth 100000 in
set_option maxHeartbeats 4000000 in
theorem hEvents {w : World} {p1 p2 : Option Addr} {n c1 c2 : Nat} {L1 L2 : List Ev} (h1 : ERd w p1 n c1 L1) (h2 : ERd w p2 n c2 L2) (e : L1.map Ev.core = L2.map Ev.core) : Calls Tryz.prog 9 #[.slice p1 n c1, .slice p2 n c2] w fun o w' => o = .returned (.bool true) ∧ Kept (fun _ => False) w w' := by
  have r1 := h1.room
  have s1 := h1.small
  have r2 := h2.room
  have s2 := h2.small
  unfold maxLen at s1 s2
  have H : Hid (ERd w p1 n c1 L1 ∧ ERd w p2 n c2 L2 ∧ L1.map Ev.core = L2.map Ev.core) := ⟨h1, h2, e⟩
  have S0 : Hid (Kept (fun _ => False) w w) := Kept.refl _ _
  clear h1 h2 e
  go_enter Tryz.func9, Tryz.ntmps9
  go_wp2_with fail
  go_loopw [5] (fun u5 wr => ∃ i : Nat, u5 = .int .i64 (i : Int) ∧ i ≤ n ∧ Hid (Kept (fun _ => False) w wr)) (fun u5 _ => n - (intOf u5).toNat)
  case atStart => exact ⟨0, rfl, Nat.zero_le _, S0⟩
  case round =>
    obtain ⟨i, rfl, hi, S⟩ := hrel
    clear S0
    obtain ⟨wo, hwo⟩ : ∃ wo, wo = wr := ⟨_, rfl⟩
    rw [← hwo] at S ⊢
    clear hwo
    by_cases hlt : i < n
    · have i1 : (i : Int) < (n : Int) := by omega
      obtain ⟨b, off, x, rfl, hx, a0, a1, a2, a3, a4, a5, a6, a7, a8, rx⟩ := (H.out.1.k0 S.out).at hlt
      obtain ⟨b2, off2, y, rfl, hy, d0, d1, d2, d3, d4, d5, d6, d7, d8, ry⟩ := (H.out.2.1.k0 S.out).at hlt
      have ec : x.core = y.core := core_at H.out.2.2 hx hy
      have e0 : y.kind = x.kind := (congrArg Ev.kind ec).symm
      have e1 : y.client = x.client := (congrArg Ev.client ec).symm
      have e2 : y.op = x.op := (congrArg Ev.op ec).symm
      have e3 : y.put = x.put := (congrArg Ev.put ec).symm
      have e4 : y.key = x.key := (congrArg Ev.key ec).symm
      have e5 : y.vn = x.vn := (congrArg Ev.vn ec).symm
      have e6 : y.st = x.st := (congrArg Ev.st ec).symm
      have e7 : y.tx = x.tx := (congrArg Ev.tx ec).symm
      have e8 : y.ty = x.ty := (congrArg Ev.ty ec).symm
      have ev : y.val = x.val := (congrArg Ev.val ec).symm
      rw [e0] at d0
      rw [e1] at d1
      rw [e2] at d2
      rw [e3] at d3
      rw [e4] at d4
      rw [e5] at d5
      rw [e6] at d6
      rw [e7] at d7
      rw [e8] at d8
      rw [e5, ev] at ry
      have C17 : Hid (∀ V, Kept (fun _ => False) wo V → Calls Tryz.prog 17 #[.agg #[.int .i64 x.kind, .int .i64 x.client, .int .i64 x.op, .bool x.put, .string x.key, .slice x.va x.vn x.vc, .int .i64 x.st, .int .i64 x.tx, .int .i64 x.ty], .agg #[.int .i64 x.kind, .int .i64 x.client, .int .i64 x.op, .bool x.put, .string x.key, .slice y.va x.vn y.vc, .int .i64 x.st, .int .i64 x.tx, .int .i64 x.ty]] V fun o w' => o = .returned (.bool true) ∧ Kept (fun _ => False) V w') := fun V KV => hEqual (Reads.kept KV rx (fun _ _ z => z)) (Reads.kept KV ry (fun _ _ z => z))
      have MK : Hid (∀ V, Kept (fun _ => False) wo V → V.cell? ⟨b, off + i * 9, none⟩ = some (.int .i64 x.kind) ∧ V.cell? ⟨b, off + i * 9 + 1, none⟩ = some (.int .i64 x.client) ∧ V.cell? ⟨b, off + i * 9 + 2, none⟩ = some (.int .i64 x.op) ∧ V.cell? ⟨b, off + i * 9 + 3, none⟩ = some (.bool x.put) ∧ V.cell? ⟨b, off + i * 9 + 4, none⟩ = some (.string x.key) ∧ V.cell? ⟨b, off + i * 9 + 5, none⟩ = some (.slice x.va x.vn x.vc) ∧ V.cell? ⟨b, off + i * 9 + 6, none⟩ = some (.int .i64 x.st) ∧ V.cell? ⟨b, off + i * 9 + 7, none⟩ = some (.int .i64 x.tx) ∧ V.cell? ⟨b, off + i * 9 + 8, none⟩ = some (.int .i64 x.ty) ∧ V.cell? ⟨b2, off2 + i * 9, none⟩ = some (.int .i64 x.kind) ∧ V.cell? ⟨b2, off2 + i * 9 + 1, none⟩ = some (.int .i64 x.client) ∧ V.cell? ⟨b2, off2 + i * 9 + 2, none⟩ = some (.int .i64 x.op) ∧ V.cell? ⟨b2, off2 + i * 9 + 3, none⟩ = some (.bool x.put) ∧ V.cell? ⟨b2, off2 + i * 9 + 4, none⟩ = some (.string x.key) ∧ V.cell? ⟨b2, off2 + i * 9 + 5, none⟩ = some (.slice y.va x.vn y.vc) ∧ V.cell? ⟨b2, off2 + i * 9 + 6, none⟩ = some (.int .i64 x.st) ∧ V.cell? ⟨b2, off2 + i * 9 + 7, none⟩ = some (.int .i64 x.tx) ∧ V.cell? ⟨b2, off2 + i * 9 + 8, none⟩ = some (.int .i64 x.ty)) := fun V K => ⟨K.cell a0 (fun z => z), K.cell a1 (fun z => z), K.cell a2 (fun z => z), K.cell a3 (fun z => z), K.cell a4 (fun z => z), K.cell a5 (fun z => z), K.cell a6 (fun z => z), K.cell a7 (fun z => z), K.cell a8 (fun z => z), K.cell d0 (fun z => z), K.cell d1 (fun z => z), K.cell d2 (fun z => z), K.cell d3 (fun z => z), K.cell d4 (fun z => z), K.cell d5 (fun z => z), K.cell d6 (fun z => z), K.cell d7 (fun z => z), K.cell d8 (fun z => z)⟩
      clear hx hy ec e0 e1 e2 e3 e4 e5 e6 e7 e8 ev rx ry
      obtain ⟨kd, cl, op, pt, ky, va, vn, vc, st, tx, ty, val⟩ := x
      simp only at a0 a1 a2 a3 a4 a5 a6 a7 a8 d0 d1 d2 d3 d4 d5 d6 d7 d8 C17 MK
      obtain ⟨va', hva⟩ : ∃ v, y.va = v := ⟨_, rfl⟩
      obtain ⟨vc', hvc⟩ : ∃ v, y.vc = v := ⟨_, rfl⟩
      rw [hva, hvc] at d5 C17 MK
      clear hva hvc y
      go_upto_region 6 with fail
      go_region_held3 (fun w' => w'.cell? ⟨b, off + i * 9, none⟩ = some (.int .i64 kd) ∧ w'.cell? ⟨b, off + i * 9 + 1, none⟩ = some (.int .i64 cl) ∧ w'.cell? ⟨b, off + i * 9 + 2, none⟩ = some (.int .i64 op) ∧ w'.cell? ⟨b, off + i * 9 + 3, none⟩ = some (.bool pt) ∧ w'.cell? ⟨b, off + i * 9 + 4, none⟩ = some (.string ky) ∧ w'.cell? ⟨b, off + i * 9 + 5, none⟩ = some (.slice va vn vc) ∧ w'.cell? ⟨b, off + i * 9 + 6, none⟩ = some (.int .i64 st) ∧ w'.cell? ⟨b, off + i * 9 + 7, none⟩ = some (.int .i64 tx) ∧ w'.cell? ⟨b, off + i * 9 + 8, none⟩ = some (.int .i64 ty) ∧ w'.cell? ⟨b2, off2 + i * 9, none⟩ = some (.int .i64 kd) ∧ w'.cell? ⟨b2, off2 + i * 9 + 1, none⟩ = some (.int .i64 cl) ∧ w'.cell? ⟨b2, off2 + i * 9 + 2, none⟩ = some (.int .i64 op) ∧ w'.cell? ⟨b2, off2 + i * 9 + 3, none⟩ = some (.bool pt) ∧ w'.cell? ⟨b2, off2 + i * 9 + 4, none⟩ = some (.string ky) ∧ w'.cell? ⟨b2, off2 + i * 9 + 5, none⟩ = some (.slice va' vn vc') ∧ w'.cell? ⟨b2, off2 + i * 9 + 6, none⟩ = some (.int .i64 st) ∧ w'.cell? ⟨b2, off2 + i * 9 + 7, none⟩ = some (.int .i64 tx) ∧ w'.cell? ⟨b2, off2 + i * 9 + 8, none⟩ = some (.int .i64 ty)) (go_keep)
        (first | (go_at_call 17; refine (C17.out _ ((Kept.refl _ _).drew)).mono ?_; rintro x w2 ⟨rfl, K2⟩; have K3 : Hid (Kept (fun _ => False) wo w2) := ((Kept.refl _ wo).drew).trans K2 (fun _ _ z => z); obtain ⟨q0, q1, q2, q3, q4, q5, q6, q7, q8, q9, q10, q11, q12, q13, q14, q15, q16, q17⟩ := MK.out w2 K3.out; clear K2) | fail)
      have NX : Hid (Kept (fun _ => False) w w2) := S.out.trans K3.out (fun _ _ z => z)
      clear q0 q1 q2 q3 q4 q5 q6 q7 q8 q9 q10 q11 q12 q13 q14 q15 q16 q17 a0 a1 a2 a3 a4 a5 a6 a7 a8 d0 d1 d2 d3 d4 d5 d6 d7 d8 K3 MK C17
      go_wp2_with fail
      go_roundw
      case rel => exact ⟨i + 1, by go_num, by omega, NX⟩
      case measure => simp [intOf] <;> omega
    · have i1 : ¬ (i : Int) < (n : Int) := by omega
      go_wp2_with fail
      go_ret
      exact ⟨by first | rfl | simp, S.out⟩
end Go.Proofs.YtbangbobfeflcaaGreatDoor

namespace Go.Proofs.YtbangbobfeflcaaGreatDoor
open Go.RowKit 

/-- The values of two lists of events, one by one. -/
def rwE (e : Ev) : Rw := ⟨e.va, e.vn, e.vc, cellsOf e.val⟩
def inter : List Ev → List Ev → List Rw
  | a :: l, b :: m => rwE a :: rwE b :: inter l m
  | _, _ => []
theorem inter_take : ∀ (L M : List Ev) (i : Nat) (a b : Ev), L[i]? = some a → M[i]? = some b → (inter L M).take (2 * (i + 1)) = (inter L M).take (2 * i) ++ [rwE a, rwE b]
  | [], _, _, _, _, h, _ => by simp at h
  | a :: l, [], _, _, _, _, h => by simp at h
  | a :: l, b :: m, 0, x, y, h, k => by
    have h : a = x := by simpa using h
    have k : b = y := by simpa using k
    subst h
    subst k
    unfold inter
    rfl
  | a :: l, b :: m, i + 1, x, y, h, k => by
    have q := inter_take l m i x y (by simpa using h) (by simpa using k)
    unfold inter
    rw [show 2 * (i + 1 + 1) = (2 * (i + 1)) + 1 + 1 by omega, show 2 * (i + 1) = 2 * i + 1 + 1 by omega, List.take_succ_cons, List.take_succ_cons, List.take_succ_cons, List.take_succ_cons, show 2 * i + 1 + 1 = 2 * (i + 1) by omega, q]
    rfl
def Prt (a b : Rw) : Prop := ∀ x, blockOf a.p = some x → ¬ blockOf b.p = some x
theorem prt_at {R : List Rw} (h : R.Pairwise Prt) : ∀ (m n : Nat) (r s : Rw), m ≠ n → R[m]? = some r → R[n]? = some s → ∀ b, blockOf r.p = some b → ¬ blockOf s.p = some b := fun m n r s hne hr hs b e1 e2 => by
  obtain ⟨h1, rfl⟩ := List.getElem?_eq_some_iff.1 hr
  obtain ⟨h2, rfl⟩ := List.getElem?_eq_some_iff.1 hs
  rcases Nat.lt_or_gt_of_ne hne with q | q
  · exact List.pairwise_iff_getElem.1 h m n h1 h2 q b e1 e2
  · exact List.pairwise_iff_getElem.1 h n m h2 h1 q b e2 e1
theorem owns_base {w : World} {b b' : Nat} {e : TypeId} {s : Nat} {v : Value} {n : Nat} {xs : List Value} (h : w.ownsRow b e s v n xs) (hb : b' ≤ b) : w.ownsRow b' e s v n xs := by
  refine ⟨h.1, ?_⟩
  rcases h.2 with z | ⟨g, cap, cur, z, h1, h2⟩
  · exact .inl z
  · exact .inr ⟨g, cap, cur, z, Nat.le_trans hb h1, h2⟩
theorem own_form {w : World} {b : Nat} {e : TypeId} {s n c : Nat} {p : Option Addr} {xs : List Value} (h : w.ownsRow b e s (.slice p n c) n xs) (hn : p ≠ none) : ∃ g, p = some ⟨g, 0, none⟩ ∧ g < w.heap.size := by
  rcases h.2 with ⟨z, _⟩ | ⟨g, cap, cur, z, _⟩
  · injection z with z1 _ _
    exact absurd z1 hn
  · injection z with z1 _ _
    refine ⟨g, z1, (own_lt h g (by rw [z1]; rfl)).2⟩
/-- The values gathered. -/
structure AL (w wr : World) (R : List Rw) (i : Nat) (Q : Option Addr) (D : Nat) : Prop where
  row : wr.ownsRow w.heap.size 34 1 (.slice Q (2 * i) D) (2 * i) (slv (R.take (2 * i)))
  kept : Kept (fun _ => False) w wr
theorem AL.nil (w : World) (R : List Rw) : AL w w R 0 none 0 := ⟨⟨rfl, .inl ⟨rfl, rfl⟩⟩, Kept.refl _ _⟩
theorem AL.more {w wr w9 : World} {L M : List Ev} {i D c9 : Nat} {Q p9 : Option Addr} {a b : Ev} (h : AL w wr (inter L M) i Q D) (ha : L[i]? = some a) (hb : M[i]? = some b) (ho : w9.ownsRow w.heap.size 34 1 (.slice p9 (2 * i + 2) c9) (2 * i + 2) (slv ((inter L M).take (2 * i)) ++ [.slice a.va a.vn a.vc, .slice b.va b.vn b.vc])) (hg : wr.grownBy w9 (Value.slice Q (2 * i) D).ownBlock) : AL w w9 (inter L M) (i + 1) p9 c9 := by
  refine ⟨?_, h.kept.trans (kgr hg) (fun j hj z => ?_)⟩
  · rw [inter_take L M i a b ha hb, show 2 * (i + 1) = 2 * i + 2 by omega]
    have e : slv ((inter L M).take (2 * i) ++ [rwE a, rwE b]) = slv ((inter L M).take (2 * i)) ++ [.slice a.va a.vn a.vc, .slice b.va b.vn b.vc] := by
      unfold slv
      rw [List.map_append]
      rfl
    rw [e]
    exact ho
  · have := (own_lt h.row j z).1
    omega
end Go.Proofs.YtbangbobfeflcaaGreatDoor

namespace Go.Proofs.YtbangbobfeflcaaGreatDoor
open Go.RowKit 

theorem PS.erd {w wr : World} {p : Option Addr} {k c : Nat} {L es : List Ev} (h : PS w wr p k c L) (hc : L.map Ev.core = es.map Ev.core) (hb : ∀ e ∈ es, ∀ x ∈ e.val, x < 256) : ERd wr p k c L :=
  h.row.erd fun x hx => by
    refine reads_own (h.val x hx) ?_
    obtain ⟨i, hi, rfl⟩ := List.mem_iff_getElem.1 hx
    have hl : L.length = es.length := by
      have := congrArg List.length hc
      simpa using this
    have q := core_at hc (List.getElem?_eq_getElem hi) (List.getElem?_eq_getElem (by rw [← hl]; exact hi))
    have ev : L[i].core.val = (es[i]'(by rw [← hl]; exact hi)).core.val := congrArg Ev.val q
    have ev : L[i].val = (es[i]'(by rw [← hl]; exact hi)).val := ev
    rw [ev]
    exact hb _ (List.getElem_mem _)
theorem good_val {es : List Ev} (h : ∀ e ∈ es, GoodE e) : ∀ e ∈ es, ∀ x ∈ e.val, x < 256 := fun e he => by
  obtain ⟨w0, r⟩ := (h e he).2
  exact r.bytes
def VO (b : Nat) (W : World) (L : List Ev) : Prop := ∀ e ∈ L, W.ownsRow b 5 1 (.slice e.va e.vn e.vc) e.vn (cellsOf e.val)
theorem VO.base {b b' : Nat} {W : World} {L : List Ev} (h : VO b W L) (hb : b' ≤ b) : VO b' W L := fun e he => owns_base (h e he) hb
theorem VO.k0 {b : Nat} {W W' : World} {L : List Ev} (h : VO b W L) (K : Kept (fun _ => False) W W') : VO b W' L := fun e he => K.owns (h e he) (fun _ _ z => z)
/-- Events are written over: their values are as they were. -/
theorem VO.ev {b b1 b2 : Nat} {W W' : World} {L : List Ev} {p q : Option Addr} {n c m d : Nat} {X Y : List Value} (h : VO b W L) (h1 : W.ownsRow b1 39 9 (.slice p n c) n X) (h2 : W.ownsRow b2 39 9 (.slice q m d) m Y) (K : Kept (fun b => blockOf p = some b ∨ blockOf q = some b) W W') : VO b W' L := fun e he => K.owns (h e he) (fun k hk z => by
  rw [blockOf_own] at hk
  obtain ⟨c1, e1⟩ := own_type (h e he) k hk
  rcases z with z | z
  · obtain ⟨c2, e2⟩ := own_type h1 k z
    rw [e1] at e2
    simp at e2
  · obtain ⟨c2, e2⟩ := own_type h2 k z
    rw [e1] at e2
    simp at e2)
/-- What is known of one reading of s. -/
structure RdS (EV : List Ev) (w w' : World) (p : Option Addr) (n c : Nat) (L : List Ev) : Prop where
  ps : PS w w' p n c L
  co : L.map Ev.core = EV.map Ev.core
theorem RdS.k0 {EV : List Ev} {w w' W : World} {p : Option Addr} {n c : Nat} {L : List Ev} (h : RdS EV w w' p n c L) (K : Kept (fun _ => False) w' W) : RdS EV w W p n c L := ⟨h.ps.k0 K, h.co⟩
theorem RdS.erd {EV : List Ev} {w w' : World} {p : Option Addr} {n c : Nat} {L : List Ev} (h : RdS EV w w' p n c L) (g : ∀ e ∈ EV, GoodE e) : ERd w' p n c L := h.ps.erd h.co (good_val g)
end Go.Proofs.YtbangbobfeflcaaGreatDoor
