import Derived.Test.YtbangbobfeflcaaGreatDoorRCk
import Derived.Test.YtbangbobfeflcaaGreatDoorRLbJ
import Derived.Test.YtbangbobfeflcaaGreatDoorRStJ
namespace Go.Proofs.YtbangbobfeflcaaGreatDoor
open Go.RowKit 

/-- Where the next event of the same client stands. -/
def EndQ (es : List Ev) (cl : Int) (i : Nat) (r : Int) : Prop := (r = -1 ∧ ∀ (m : Nat) (x : Ev), i < m → es[m]? = some x → ¬ x.client = cl) ∨ ∃ (j : Nat) (y : Ev), r = (j : Int) ∧ i < j ∧ es[j]? = some y ∧ y.client = cl ∧ ∀ (m : Nat) (x : Ev), i < m → m < j → es[m]? = some x → ¬ x.client = cl
def RetE (Q : Int → World → Prop) (o : Ending) (w : World) : Prop := ∃ a : Int, o = .returned (.int .i64 a) ∧ Q a w
theorem RetE.mk {Q : Int → World → Prop} {o : Ending} {w : World} (a : Int) (h : o = .returned (.int .i64 a)) (q : Q a w) : RetE Q o w := ⟨a, h, q⟩
set_option maxRecDepth 100000 in
set_option maxHeartbeats 4000000 in
theorem hEnd {w : World} {p : Option Addr} {n c : Nat} {es : List Ev} (er : ERd w p n c es) {i : Nat} {e : Ev} (he : es[i]? = some e) : Calls Tryz.prog 46 #[.slice p n c, .int .i64 (i : Int)] w (RetE fun r w' => EndQ es e.client i r ∧ Kept (fun _ => False) w w') := by
  have H : Hid (ERd w p n c es ∧ es[i]? = some e) := ⟨er, he⟩
  have rm := er.room
  have sm := er.small
  unfold maxLen at sm
  have hin : i < n := by rw [← er.len]; exact (List.getElem?_eq_some_iff.1 he).1
  have S0 : Hid (Kept (fun _ => False) w w ∧ ∀ (m : Nat) (x : Ev), i < m → m < i + 1 → es[m]? = some x → ¬ x.client = e.client) := ⟨Kept.refl _ _, fun m x h1 h2 => by omega⟩
  have c1 : ((i + 1 : Nat) : Int) = (i : Int) + 1 := by omega
  clear er he
  go_enter Tryz.func46, Tryz.ntmps46
  go_upto_region 2 with fail
  go_loopw [5] (fun u5 wr => ∃ j : Nat, u5 = .int .i64 (j : Int) ∧ i < j ∧ j ≤ n ∧ Hid (Kept (fun _ => False) w wr ∧ ∀ (m : Nat) (x : Ev), i < m → m < j → es[m]? = some x → ¬ x.client = e.client)) (fun u5 _ => n - (intOf u5).toNat)
  case atStart => exact ⟨i + 1, by go_num, by omega, by omega, S0⟩
  case round =>
    clear S0
    obtain ⟨j, rfl, hij, hj, S⟩ := hrel
    obtain ⟨wo, hwo⟩ : ∃ wo, wo = wr := ⟨_, rfl⟩
    rw [← hwo] at S ⊢
    clear hwo
    by_cases hlt : j < n
    · have ltj : (j : Int) < (n : Int) := by omega
      have lti : (i : Int) < (n : Int) := by omega
      have j0 : (0 : Int) ≤ (j : Int) := by omega
      have i0 : (0 : Int) ≤ (i : Int) := by omega
      obtain ⟨b, off, y, ep, hy, -, d1, -⟩ := (H.out.1.k0 S.out.1).at hlt
      obtain ⟨b', off', e', ep', he', -, d2, -⟩ := (H.out.1.k0 S.out.1).at hin
      obtain rfl : e = e' := Option.some.inj (H.out.2.symm.trans he')
      rw [ep] at ep'
      injection ep' with ep'
      injection ep' with z1 z2 _
      subst z1
      subst z2
      subst ep
      clear he'
      have HY : Hid (es[j]? = some y) := hy
      clear hy
      by_cases hc : y.client = e.client
      · have q0 : (y.client == e.client) = true := by simp [hc]
        have F : Hid (∀ m, EndQ es e.client i (j : Int) ∧ Kept (fun _ => False) w (wo.drewN m)) := fun m => ⟨.inr ⟨j, y, rfl, hij, HY.out, hc, S.out.2⟩, S.out.1.drewN m⟩
        clear S
        go_upto_region 4 with fail
        go_quiet (fail)
        go_wp2_with fail
        go_ret
        exact RetE.mk (j : Int) (by first | rfl | simp) (F.out _)
      · have q0 : (y.client == e.client) = false := by simp [hc]
        have N : Hid (∀ m, Kept (fun _ => False) w (wo.drewN m) ∧ ∀ (m : Nat) (x : Ev), i < m → m < j + 1 → es[m]? = some x → ¬ x.client = e.client) := fun m => ⟨S.out.1.drewN m, fun m x h1 h2 hx => by
          by_cases q : m = j
          · subst q
            rw [HY.out] at hx
            rw [← Option.some.inj hx]
            exact hc
          · exact S.out.2 m x h1 (by omega) hx⟩
        clear S
        go_upto_region 4 with fail
        go_quiet (fail)
        go_wp2_with fail
        go_roundw
        case rel => exact ⟨j + 1, by go_num, by omega, by omega, N.out _⟩
        case measure => simp [intOf] <;> omega
    · have ltj : ¬ (j : Int) < (n : Int) := by omega
      obtain rfl : j = n := by omega
      have F : Hid (EndQ es e.client i (-1) ∧ Kept (fun _ => False) w wo) := ⟨.inl ⟨rfl, fun m x h1 hx => S.out.2 m x h1 (by rw [← H.out.1.len]; exact (List.getElem?_eq_some_iff.1 hx).1) hx⟩, S.out.1⟩
      clear S
      go_wp2_with fail
      go_ret
      exact RetE.mk (-1) (by first | rfl | simp) F.out
end Go.Proofs.YtbangbobfeflcaaGreatDoor

namespace Go.Proofs.YtbangbobfeflcaaGreatDoor
open Go.RowKit 

theorem slice_by (g n c m : Nat) (hm : m ≤ c) (W : World) : (Instr.slice 34 (.slice (some ⟨g, 0, none⟩) n c) none (some (.int .i64 ((m : Nat) : Int))) none).run Tryz.prog W = .ok (.slice (some ⟨g, 0, none⟩) m c) W := by
  simp [Instr.slice, Instr.sliceBounds, Instr.sliceBound, asIntOf, run_underlying Tryz.underlying34, hm]
  intro _
  rw [Addr.add_none]
theorem slice_es (g n c m : Nat) (hm : m ≤ c) (W : World) : (Instr.slice 22 (.slice (some ⟨g, 0, none⟩) n c) none (some (.int .i64 ((m : Nat) : Int))) none).run Tryz.prog W = .ok (.slice (some ⟨g, 0, none⟩) m c) W := by
  simp [Instr.slice, Instr.sliceBounds, Instr.sliceBound, asIntOf, run_underlying Tryz.underlying22, hm]
  intro _
  rw [Addr.add_none]
/-- Marks behind: behind each value, and behind the list. -/
def Mks (w : World) (P : Option Addr) (n C : Nat) (L : List Ev) : Prop := (∀ e ∈ L, ∃ g, e.va = some ⟨g, 0, none⟩ ∧ e.vn + 1 ≤ e.vc ∧ w.cell? ⟨g, e.vn, none⟩ = some (.int .u8 77)) ∧ ∃ g, P = some ⟨g, 0, none⟩ ∧ n + 1 ≤ C ∧ w.cell? ⟨g, n * 9, none⟩ = some (.int .i64 (-77))
theorem Mks.k0 {w w' : World} {P : Option Addr} {n C : Nat} {L : List Ev} (h : Mks w P n C L) (K : Kept (fun _ => False) w w') : Mks w' P n C L := ⟨fun e he => by
  obtain ⟨g, h1, h2, h3⟩ := h.1 e he
  exact ⟨g, h1, h2, K.cell h3 (fun z => z)⟩, by
  obtain ⟨g, h1, h2, h3⟩ := h.2
  exact ⟨g, h1, h2, K.cell h3 (fun z => z)⟩⟩
set_option maxRecDepth 100000 in
set_option maxHeartbeats 4000000 in
theorem hWhole {w : World} {P p : Option Addr} {n C c : Nat} {L es : List Ev} (h1 : ERd w P n C L) (h2 : ERd w p n c es) (hc : L.map Ev.core = es.map Ev.core) (mk : Mks w P n C L) : Calls Tryz.prog 12 #[.slice P n C, .slice p n c] w fun o w' => o = .returned (.bool true) ∧ Kept (fun _ => False) w w' := by
  have H : Hid (ERd w P n C L ∧ Mks w P n C L) := ⟨h1, mk⟩
  have rm := h1.room
  have sm := h1.small
  unfold maxLen at sm
  have C9 : Hid (Calls Tryz.prog 9 #[.slice P n C, .slice p n c] w fun o w' => o = .returned (.bool true) ∧ Kept (fun _ => False) w w') := hEvents h1 h2 hc
  clear h1 h2 hc mk
  go_enter Tryz.func12, Tryz.ntmps12
  go_wp2_with fail
  refine C9.out.mono ?_
  rintro o w1 ⟨rfl, K1'⟩
  have K1 : Hid (Kept (fun _ => False) w w1) := K1'
  clear K1' C9
  have H1 : Hid (ERd w1 P n C L ∧ Mks w1 P n C L) := ⟨H.out.1.k0 K1.out, H.out.2.k0 K1.out⟩
  clear H
  go_upto_region 5 with fail
  go_loopw [6, 7, 8] (fun u6 _ _ wr => ∃ i : Nat, u6 = .int .i64 (i : Int) ∧ i ≤ n ∧ wr = w1) (fun u6 _ _ _ => n - (intOf u6).toNat)
  case atStart => exact ⟨0, rfl, Nat.zero_le _, rfl⟩
  case round =>
    obtain ⟨i, rfl, hi, hwr⟩ := hrel
    have hwr := hwr.symm
    subst hwr
    by_cases hlt : i < n
    · have lti : (i : Int) < (n : Int) := by omega
      have i0 : (0 : Int) ≤ (i : Int) := by omega
      obtain ⟨b, off, e, rfl, he, -, -, -, -, -, c5, -, -, -, rd⟩ := H1.out.1.at hlt
      obtain ⟨g, ev, vr, cm⟩ := H1.out.2.1 e (List.mem_of_getElem? he)
      have vs := rd.small
      unfold maxLen at vs
      rw [ev] at c5
      obtain ⟨vn, hvn⟩ : ∃ v, e.vn = v := ⟨_, rfl⟩
      obtain ⟨vc, hvc⟩ : ∃ v, e.vc = v := ⟨_, rfl⟩
      rw [hvn, hvc] at c5 vr
      rw [hvn] at cm
      rw [hvc] at vs
      have sl := slice_by g vn vc (vn + 1) vr
      have cv : ((vn + 1 : Nat) : Int) = (vn : Int) + 1 := by omega
      rw [cv] at sl
      have v0 : (0 : Int) ≤ (vn : Int) := by omega
      have v1 : (vn : Int) < (vn : Int) + 1 := by omega
      have v2 : vn < vn + 1 := by omega
      clear he rd ev hvn hvc
      go_wp2_with fail
      go_roundw
      case rel => exact ⟨i + 1, by go_num, by omega, by trivial⟩
      case measure => simp [intOf] <;> omega
    · have lti : ¬ (i : Int) < (n : Int) := by omega
      obtain rfl : i = n := by omega
      obtain ⟨g, rfl, vr, cm⟩ := H1.out.2.2
      have sl := slice_es g i C (i + 1) vr
      have cv : ((i + 1 : Nat) : Int) = (i : Int) + 1 := by omega
      rw [cv] at sl
      have v0 : (0 : Int) ≤ (i : Int) := by omega
      have v1 : (i : Int) < (i : Int) + 1 := by omega
      have v2 : i < i + 1 := by omega
      clear H1
      go_wp2_with fail
      go_ret
      exact ⟨by first | rfl | simp, K1.out⟩
end Go.Proofs.YtbangbobfeflcaaGreatDoor

namespace Go.Proofs.YtbangbobfeflcaaGreatDoor
open Go.RowKit 

/-- Events with values of their own, a mark behind each. -/
structure PT (w wr : World) (p : Option Addr) (k c : Nat) (L : List Ev) : Prop where
  row : EaR w.heap.size wr p k c L
  val : ∀ e ∈ L, wr.ownsRow w.heap.size 5 1 (.slice e.va (e.vn + 1) e.vc) (e.vn + 1) (cellsOf (e.val ++ [77]))
  kept : Kept (fun _ => False) w wr
theorem PT.k0 {w wr W : World} {p : Option Addr} {k c : Nat} {L : List Ev} (h : PT w wr p k c L) (K : Kept (fun _ => False) wr W) : PT w W p k c L := ⟨h.row.k0 K, fun e he => K.owns (h.val e he) (fun _ _ z => z), h.kept.trans K (fun _ _ z => z)⟩
theorem PT.more {w wr w9 : World} {p p9 : Option Addr} {k c c9 : Nat} {L : List Ev} {x : Ev} (h : PT w wr p k c L) (hx : wr.ownsRow w.heap.size 5 1 (.slice x.va (x.vn + 1) x.vc) (x.vn + 1) (cellsOf (x.val ++ [77]))) (ho : w9.ownsRow w.heap.size 39 9 (.slice p9 (k + 1) c9) (k + 1) (ecs L ++ ecs [x])) (hg : wr.grownBy w9 (Value.slice p k c).ownBlock) : PT w w9 p9 (k + 1) c9 (L ++ [x]) := by
  obtain ⟨r, KG⟩ := h.row.more (M := [x]) rfl ho hg
  have ap : ∀ y : Ev, wr.ownsRow w.heap.size 5 1 (.slice y.va (y.vn + 1) y.vc) (y.vn + 1) (cellsOf (y.val ++ [77])) → w9.ownsRow w.heap.size 5 1 (.slice y.va (y.vn + 1) y.vc) (y.vn + 1) (cellsOf (y.val ++ [77])) := fun y hy => KG.owns hy (fun j z q => by
    rw [blockOf_own] at z
    obtain ⟨c1, e1⟩ := own_type hy j z
    obtain ⟨c2, e2⟩ := own_type h.row.row j q
    rw [e1] at e2
    simp at e2)
  refine ⟨r, fun y hy => ?_, Kept.own h.kept KG (fun j z => (own_lt h.row.row j z).1)⟩
  rcases List.mem_append.1 hy with z | z
  · exact ap y (h.val y z)
  · rw [List.mem_singleton] at z
    rw [z]
    exact ap x hx
/-- What twins makes. -/
structure Tw (w wr : World) (es : List Ev) (p : Option Addr) (n c : Nat) (L : List Ev) : Prop where
  len : L.length = n
  row : wr.ownsRow w.heap.size 39 9 (.slice p (n + 1) c) (n + 1) (ecs L ++ ecs [⟨-77, 0, 0, false, ⟨#[]⟩, none, 0, 0, 0, 0, 0, []⟩])
  val : ∀ e ∈ L, wr.ownsRow w.heap.size 5 1 (.slice e.va (e.vn + 1) e.vc) (e.vn + 1) (cellsOf (e.val ++ [77]))
  co : L.map Ev.core = es.map Ev.core
  kept : Kept (fun _ => False) w wr
def TwQ (w : World) (es : List Ev) (n : Nat) (o : Ending) (w' : World) : Prop := ∃ (p : Option Addr) (c : Nat) (L : List Ev), o = .returned (.slice p n c) ∧ Tw w w' es p n c L
structure OM8 (W w8 : World) (B vn c8 : Nat) (p8 : Option Addr) (val : List Nat) (cs : Array Value) : Prop where
  row : w8.ownsRow W.heap.size 5 1 (.slice p8 (vn + 1) c8) (vn + 1) (cellsOf (val ++ [77]))
  blk : w8.heap[B]? = some (.cells cs 39 (0, 0))
  kept : Kept (fun _ => False) W w8
theorem OM7.then {W w9 w8 : World} {B vn c9 c8 : Nat} {p9 p8 : Option Addr} {val : List Nat} {cs : Array Value} (h : OM7 W w9 B vn c9 p9 val cs) (ho : w8.ownsRow W.heap.size 5 1 (.slice p8 (vn + 1) c8) (vn + 1) (cellsOf (val ++ [77]))) (hg : (w9.alloc (.cells #[.int .u8 77] 5)).grownBy w8 (Value.slice p9 vn c9).ownBlock) : OM8 W w8 B vn c8 p8 val cs := by
  have KA : Kept (fun _ => False) w9 (w9.alloc (.cells #[.int .u8 77] 5)) := (Kept.refl _ _).alloc _
  have KG := kgr hg
  refine ⟨ho, KG.get (KA.get h.blk (fun z => z)) (fun z => ?_), Kept.own (h.kept.trans KA (fun _ _ z => z)) KG (fun j z => (own_lt h.row j z).1)⟩
  obtain ⟨c1, e1⟩ := own_type h.row B z
  rw [h.blk] at e1
  simp at e1
theorem OM8.set {W w9 : World} {B vn c9 : Nat} {p9 : Option Addr} {val : List Nat} {cs : Array Value} (h : OM8 W w9 B vn c9 p9 val cs) (u : Value) : (w9.setCell ⟨B, 5, none⟩ u).heap[B]? = some (.cells (cs.setIfInBounds 5 u) 39 (0, 0)) ∧ (w9.setCell ⟨B, 5, none⟩ u).ownsRow W.heap.size 5 1 (.slice p9 (vn + 1) c9) (vn + 1) (cellsOf (val ++ [77])) ∧ Kept (fun j => j = B) W (w9.setCell ⟨B, 5, none⟩ u) := by
  refine ⟨set_heap h.blk 5 u, ((Kept.refl (fun k => k = B) w9).setCell (p := ⟨B, 5, none⟩) (fun _ => rfl) u).owns h.row (fun k hk z => ?_), (h.kept.mono (S' := fun j => j = B) (fun _ _ z => z.elim)).setCell (p := ⟨B, 5, none⟩) (fun _ => rfl) u⟩
  have z : k = B := z
  subst z
  rw [blockOf_own] at hk
  obtain ⟨c1, e1⟩ := own_type h.row k hk
  rw [h.blk] at e1
  simp at e1
def TwS (w wr : World) (es : List Ev) (i : Nat) (p : Option Addr) (c : Nat) (L : List Ev) : Prop := PT w wr p i c L ∧ L.map Ev.core = (es.take i).map Ev.core
set_option maxRecDepth 100000 in
set_option maxHeartbeats 4000000 in
theorem hTwins {w : World} {p0 : Option Addr} {n c0 : Nat} {es : List Ev} (er : ERd w p0 n c0 es) (hb : n ≤ 1500000000000) (vb : ∀ e ∈ es, e.vn + 2 ≤ 140737488355328) : Calls Tryz.prog 6 #[.slice p0 n c0] w (TwQ w es n) := by
  have H : Hid (ERd w p0 n c0 es ∧ ∀ e ∈ es, e.vn + 2 ≤ 140737488355328) := ⟨er, vb⟩
  have S0 : Hid (TwS w w es 0 none 0 []) := ⟨⟨EaR.nil _ _, fun e h => (by cases h), Kept.refl _ _⟩, rfl⟩
  clear er vb
  go_enter Tryz.func6, Tryz.ntmps6
  go_upto_region 3 with fail
  go_loopw [3, 4, 5, 6] (fun u3 u4 _ _ wr => ∃ (i : Nat) (p : Option Addr) (c : Nat) (L : List Ev), u3 = .slice p i c ∧ u4 = .int .i64 (i : Int) ∧ i ≤ n ∧ Hid (TwS w wr es i p c L)) (fun _ u4 _ _ _ => n - (intOf u4).toNat)
  case atStart => exact ⟨0, none, 0, [], rfl, rfl, Nat.zero_le _, S0⟩
  case round =>
    clear S0
    obtain ⟨i, p, c, L, rfl, rfl, hi, S⟩ := hrel
    obtain ⟨wo, hwo⟩ : ∃ wo, wo = wr := ⟨_, rfl⟩
    rw [← hwo] at S ⊢
    clear hwo
    by_cases hlt : i < n
    · have lti : (i : Int) < (n : Int) := by omega
      obtain ⟨b, off, e, rfl, he, c0', c1', c2', c3', c4', c5', c6', c7', c8', rd⟩ := (H.out.1.k0 S.out.1.kept).at hlt
      have HE : Hid (es[i]? = some e ∧ Reads wo e.va e.vn e.vc e.val) := ⟨he, rd⟩
      have vz := H.out.2 e (List.mem_of_getElem? he)
      obtain ⟨kd, cl, op, pt, ky, va, vn, vc, st, tx, ty, val⟩ := e
      have vz : vn + 2 ≤ 140737488355328 := vz
      have c0' : wo.cell? ⟨b, off + i * 9, none⟩ = some (.int .i64 kd) := c0'
      have c1' : wo.cell? ⟨b, off + i * 9 + 1, none⟩ = some (.int .i64 cl) := c1'
      have c2' : wo.cell? ⟨b, off + i * 9 + 2, none⟩ = some (.int .i64 op) := c2'
      have c3' : wo.cell? ⟨b, off + i * 9 + 3, none⟩ = some (.bool pt) := c3'
      have c4' : wo.cell? ⟨b, off + i * 9 + 4, none⟩ = some (.string ky) := c4'
      have c5' : wo.cell? ⟨b, off + i * 9 + 5, none⟩ = some (.slice va vn vc) := c5'
      have c6' : wo.cell? ⟨b, off + i * 9 + 6, none⟩ = some (.int .i64 st) := c6'
      have c7' : wo.cell? ⟨b, off + i * 9 + 7, none⟩ = some (.int .i64 tx) := c7'
      have c8' : wo.cell? ⟨b, off + i * 9 + 8, none⟩ = some (.int .i64 ty) := c8'
      obtain ⟨W, hW⟩ : ∃ W, W = wo.alloc (.cells #[.int .i64 kd, .int .i64 cl, .int .i64 op, .bool pt, .string ky, .slice va vn vc, .int .i64 st, .int .i64 tx, .int .i64 ty] 39) := ⟨_, rfl⟩
      obtain ⟨B, hB⟩ : ∃ B, B = wo.heap.size := ⟨_, rfl⟩
      have J : Hid (W.heap[B]? = some (.cells #[.int .i64 kd, .int .i64 cl, .int .i64 op, .bool pt, .string ky, .slice va vn vc, .int .i64 st, .int .i64 tx, .int .i64 ty] 39 (0, 0)) ∧ Kept (fun _ => False) wo W ∧ wo.heap.size = B ∧ B < W.heap.size) := ⟨by rw [hW, hB]; exact alloc_new _ _, by rw [hW]; exact (Kept.refl _ _).alloc _, hB.symm, block_lt (by rw [hW, hB]; exact alloc_new _ _)⟩
      have EW : Hid (W = wo.alloc (.cells #[.int .i64 kd, .int .i64 cl, .int .i64 op, .bool pt, .string ky, .slice va vn vc, .int .i64 st, .int .i64 tx, .int .i64 ty] 39) ∧ B = wo.heap.size) := ⟨hW, hB⟩
      clear hW hB he rd
      go_upto_region 6 with fail
      rw [← EW.out.1, ← EW.out.2]
      clear c0' c1' c2' c3' c4' c5' c6' c7' c8' EW
      have j5 := cell_blk J.out.1 5 (v := .slice va vn vc) rfl
      have AK : Hid (Kept (fun _ => False) W (W.alloc (.cells #[] 5))) := (Kept.refl _ _).alloc _
      have RW : Hid ((W.alloc (.cells #[] 5)).ownsRow W.heap.size 5 1 (.slice (some ⟨W.heap.size, 0, none⟩) 0 0) 0 (cellsOf []) ∧ Reads (W.alloc (.cells #[] 5)) va vn vc val ∧ (W.alloc (.cells #[] 5)).heap[B]? = some (.cells #[.int .i64 kd, .int .i64 cl, .int .i64 op, .bool pt, .string ky, .slice va vn vc, .int .i64 st, .int .i64 tx, .int .i64 ty] 39 (0, 0))) := ⟨⟨rfl, .inr ⟨W.heap.size, 0, #[], rfl, Nat.le_refl _, alloc_new _ _, Nat.le_refl _, by unfold maxLen; omega, rfl, rfl⟩⟩, Reads.kept AK.out (Reads.kept J.out.2.1 HE.out.2 (fun _ _ z => z)) (fun _ _ z => z), AK.out.get J.out.1 (fun z => z)⟩
      have x5 := cell_blk RW.out.2.2 5 (v := .slice va vn vc) rfl
      have LW : Hid (W.heap.size ≤ (W.alloc (.cells #[] 5)).heap.size) := AK.out.size
      have BL : Hid (B < W.heap.size) := J.out.2.2.2
      go_upto_region 8 with
        (first
          | (at_builtin; refine wpList_append_bytes _ rfl (.tmp 24) (.tmp 25) rfl W.heap.size (.slice p9 vn c9) vn val rfl R9.out.1 _ 1 [77] rfl R9.out.2.1 (by omega) R9.out.2.2 ?_; intro p8 c8 w8 ho hg hn8; have O8 : Hid (OM8 W w8 B vn c8 p8 val #[.int .i64 kd, .int .i64 cl, .int .i64 op, .bool pt, .string ky, .slice va vn vc, .int .i64 st, .int .i64 tx, .int .i64 ty]) := O9.out.then ho.out hg.out; have s8 := slice_to ho.out vn (Nat.le_succ _); have y5 := cell_blk O8.out.blk 5 (v := .slice va vn vc) rfl; have ys := soft_blk O8.out.blk 5; clear ho hg hn8 R9 O9)
          | (at_builtin; refine wpList_append_bytes _ rfl (.tmp 21) (.tmp 23) rfl W.heap.size (.slice (some ⟨W.heap.size, 0, none⟩) 0 0) 0 [] rfl RW.out.1 _ vn val rfl RW.out.2.1.src (by omega) LW.out ?_; intro p9 c9 w9 ho hg hn9; have O9 : Hid (OM7 W w9 B vn c9 p9 val #[.int .i64 kd, .int .i64 cl, .int .i64 op, .bool pt, .string ky, .slice va vn vc, .int .i64 st, .int .i64 tx, .int .i64 ty]) := of_mid BL.out RW.out.2.2 ho.out hg.out; have R9 : Hid ((w9.alloc (.cells #[.int .u8 77] 5)).ownsRow W.heap.size 5 1 (.slice p9 vn c9) vn (cellsOf val) ∧ Src Tryz.prog 1 34 (.slice (some ⟨w9.heap.size, 0, none⟩) 1 1) 1 (cellsOf [77]) (w9.alloc (.cells #[.int .u8 77] 5)) ∧ W.heap.size ≤ (w9.alloc (.cells #[.int .u8 77] 5)).heap.size) := ⟨((Kept.refl (fun _ => False) w9).alloc _).owns O9.out.row (fun _ _ z => z), src_one8 (d := 77) (alloc_new _ _), Nat.le_trans O9.out.kept.size ((Kept.refl (fun _ => False) w9).alloc _).size⟩; clear ho hg hn9; rw [Nat.zero_add])
          | fail)
      have Q9 : Hid ((w8.setCell ⟨B, 5, none⟩ (.slice p8 vn c8)).heap[B]? = some (.cells #[.int .i64 kd, .int .i64 cl, .int .i64 op, .bool pt, .string ky, .slice p8 vn c8, .int .i64 st, .int .i64 tx, .int .i64 ty] 39 (0, 0)) ∧ (w8.setCell ⟨B, 5, none⟩ (.slice p8 vn c8)).ownsRow W.heap.size 5 1 (.slice p8 (vn + 1) c8) (vn + 1) (cellsOf (val ++ [77])) ∧ Kept (fun j => j = B) W (w8.setCell ⟨B, 5, none⟩ (.slice p8 vn c8))) := O8.out.set (.slice p8 vn c8)
      obtain ⟨V, hV⟩ : ∃ V, w8.setCell ⟨B, 5, none⟩ (.slice p8 vn c8) = V := ⟨_, rfl⟩
      rw [hV] at Q9 ⊢
      have KV : Hid (Kept (fun _ => False) wo V) := Kept.own J.out.2.1 Q9.out.2.2 (fun b z => by have z : b = B := z; have := J.out.2.2.1; omega)
      obtain ⟨Y, hY⟩ : ∃ Y, V.alloc (.cells #[.int .i64 kd, .int .i64 cl, .int .i64 op, .bool pt, .string ky, .slice p8 vn c8, .int .i64 st, .int .i64 tx, .int .i64 ty] 39) = Y := ⟨_, rfl⟩
      have KY : Hid (Kept (fun _ => False) V Y) := by rw [← hY]; exact (Kept.refl _ _).alloc _
      have SR : Hid (Src Tryz.prog 9 22 (.slice (some ⟨V.heap.size, 0, none⟩) 1 1) 1 (ecs [⟨kd, cl, op, pt, ky, p8, vn, c8, st, tx, ty, val⟩]) Y) := by rw [← hY]; exact src_ev (e := ⟨kd, cl, op, pt, ky, p8, vn, c8, st, tx, ty, val⟩) (alloc_new _ _)
      have PY : Hid (PT w Y p i c L ∧ Y.ownsRow w.heap.size 5 1 (.slice p8 (vn + 1) c8) (vn + 1) (cellsOf (val ++ [77]))) := ⟨(S.out.1.k0 KV.out).k0 KY.out, owns_base (KY.out.owns Q9.out.2.1 (fun _ _ z => z)) (Nat.le_trans S.out.1.kept.size J.out.2.1.size)⟩
      have EY : Hid (V.alloc (.cells #[.int .i64 kd, .int .i64 cl, .int .i64 op, .bool pt, .string ky, .slice p8 vn c8, .int .i64 st, .int .i64 tx, .int .i64 ty] 39) = Y) := hY
      have x0 := cell_blk Q9.out.1 0 (v := .int .i64 kd) rfl
      have x1 := cell_blk Q9.out.1 1 (v := .int .i64 cl) rfl
      have x2 := cell_blk Q9.out.1 2 (v := .int .i64 op) rfl
      have x3 := cell_blk Q9.out.1 3 (v := .bool pt) rfl
      have x4 := cell_blk Q9.out.1 4 (v := .string ky) rfl
      have x5 := cell_blk Q9.out.1 5 (v := .slice p8 vn c8) rfl
      have x6 := cell_blk Q9.out.1 6 (v := .int .i64 st) rfl
      have x7 := cell_blk Q9.out.1 7 (v := .int .i64 tx) rfl
      have x8 := cell_blk Q9.out.1 8 (v := .int .i64 ty) rfl
      have BB : Hid (w.heap.size ≤ Y.heap.size) := PY.out.1.kept.size
      clear hV hY y5 ys O8 Q9 RW AK LW BL J s8 j5
      go_wp2_with
        (first
          | (at_builtin; rw [EY.out]; refine wpList_append_all _ rfl (.tmp 30) (.tmp 32) 22 39 22 _ 9 96 rfl Tryz.underlying22 Tryz.info39c rfl w.heap.size (.slice p i c) i (ecs L) rfl PY.out.1.row.row _ 1 (ecs [⟨kd, cl, op, pt, ky, p8, vn, c8, st, tx, ty, val⟩]) rfl SR.out (by unfold maxLen; omega) (by omega) BB.out ?_; intro p7 c7 w7 ho hg hn9)
          | fail)
      have N : Hid (TwS w w7 es (i + 1) p7 c7 (L ++ [⟨kd, cl, op, pt, ky, p8, vn, c8, st, tx, ty, val⟩])) := by
        refine ⟨PY.out.1.more PY.out.2 ho.out hg.out, ?_⟩
        rw [List.take_add_one, HE.out.1, List.map_append, List.map_append, S.out.2]
        rfl
      clear ho hg hn9 x0 x1 x2 x3 x4 x5 x6 x7 x8 PY SR EY KY KV BB S
      go_roundw
      case rel => exact ⟨i + 1, p7, c7, _, rfl, by go_num, by omega, N⟩
      case measure => simp [intOf] <;> omega
    · have lti : ¬ (i : Int) < (n : Int) := by omega
      obtain rfl : i = n := by omega
      obtain ⟨Y, hY⟩ : ∃ Y, wo.alloc (.cells #[.int .i64 (-77), .int .i64 0, .int .i64 0, .bool false, .string ⟨#[]⟩, .slice none 0 0, .int .i64 0, .int .i64 0, .int .i64 0] 39) = Y := ⟨_, rfl⟩
      have KY : Hid (Kept (fun _ => False) wo Y) := by rw [← hY]; exact (Kept.refl _ _).alloc _
      have SR : Hid (Src Tryz.prog 9 22 (.slice (some ⟨wo.heap.size, 0, none⟩) 1 1) 1 (ecs [⟨-77, 0, 0, false, ⟨#[]⟩, none, 0, 0, 0, 0, 0, []⟩]) Y) := by rw [← hY]; exact src_ev (e := ⟨-77, 0, 0, false, ⟨#[]⟩, none, 0, 0, 0, 0, 0, []⟩) (alloc_new _ _)
      have PY : Hid (PT w Y p i c L) := S.out.1.k0 KY.out
      have EY : Hid (wo.alloc (.cells #[.int .i64 (-77), .int .i64 0, .int .i64 0, .bool false, .string ⟨#[]⟩, .slice none 0 0, .int .i64 0, .int .i64 0, .int .i64 0] 39) = Y) := hY
      have BB : Hid (w.heap.size ≤ Y.heap.size) := PY.out.kept.size
      have CO : Hid (L.map Ev.core = es.map Ev.core) := by
        have q := S.out.2
        rw [List.take_of_length_le (by rw [H.out.1.len]; exact Nat.le_refl _)] at q
        exact q
      clear hY S
      go_upto_region 11 with
        (first
          | (at_builtin; rw [EY.out]; refine wpList_append_all _ rfl (.tmp 36) (.tmp 38) 22 39 22 _ 9 96 rfl Tryz.underlying22 Tryz.info39c rfl w.heap.size (.slice p i c) i (ecs L) rfl PY.out.row.row _ 1 (ecs [⟨-77, 0, 0, false, ⟨#[]⟩, none, 0, 0, 0, 0, 0, []⟩]) rfl SR.out (by unfold maxLen; omega) (by omega) BB.out ?_; intro p7 c7 w7 ho hg hn9)
          | fail)
      have T7 : Hid (Tw w w7 es p7 i c7 L) := by
        have KG := kgr hg.out
        refine ⟨PY.out.row.len, ho.out, fun e he => KG.owns (PY.out.val e he) (fun j z q => ?_), CO.out, Kept.own PY.out.kept KG (fun j z => (own_lt PY.out.row.row j z).1)⟩
        rw [blockOf_own] at z
        obtain ⟨c1, e1⟩ := own_type (PY.out.val e he) j z
        obtain ⟨c2, e2⟩ := own_type PY.out.row.row j q
        rw [e1] at e2
        simp at e2
      obtain ⟨g, rfl, gc⟩ : ∃ g, p7 = some ⟨g, 0, none⟩ ∧ i + 1 ≤ c7 := by
        rcases T7.out.row.2 with ⟨_, z⟩ | ⟨g, cap, cur, z, _, _, h3, _⟩
        · omega
        · injection z with z1 _ z3
          exact ⟨g, z1, by rw [z3]; exact h3⟩
      have sl := slice_es g (i + 1) c7 i (by omega)
      clear ho hg hn9 PY SR EY KY BB
      go_wp2_with fail
      go_ret
      exact ⟨_, _, L, by first | rfl | simp, T7.out⟩
end Go.Proofs.YtbangbobfeflcaaGreatDoor
