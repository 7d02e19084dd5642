import Derived.Test.YtbangbobfeflcaaGreatDoorRStJ
import Derived.BigQuiet
import Derived.Deep.QuietTactic
namespace Go.Proofs.YtbangbobfeflcaaGreatDoor
open Go.RowKit 

/-- While standing looks: both events' blocks. -/
structure SB (w wr : World) (B3 B7 : Nat) (e l : Ev) : Prop where
  e3 : wr.heap[B3]? = some (.cells e.cs 39 (0, 0))
  e7 : wr.heap[B7]? = some (.cells l.cs 39 (0, 0))
  kept : Kept (fun _ => False) w wr
  lt : w.heap.size ≤ B7 ∧ ¬ B3 = B7
theorem SB.drewN {w wr : World} {B3 B7 : Nat} {e l : Ev} (h : SB w wr B3 B7 e l) (n : Nat) : SB w (wr.drewN n) B3 B7 e l := ⟨h.e3, h.e7, h.kept.drewN n, h.lt⟩
theorem SBset {w wr : World} {B3 B7 : Nat} {ce cs : Array Value} (lt : w.heap.size ≤ B7 ∧ ¬ B3 = B7) (h : wr.heap[B3]? = some (.cells ce 39 (0, 0)) ∧ wr.heap[B7]? = some (.cells cs 39 (0, 0)) ∧ Kept (fun _ => False) w wr) (k : Nat) (v : Value) : (wr.setCell ⟨B7, k, none⟩ v).heap[B3]? = some (.cells ce 39 (0, 0)) ∧ (wr.setCell ⟨B7, k, none⟩ v).heap[B7]? = some (.cells (cs.setIfInBounds k v) 39 (0, 0)) ∧ Kept (fun _ => False) w (wr.setCell ⟨B7, k, none⟩ v) :=
  ⟨((Kept.refl (fun j => j = B7) wr).setCell (p := ⟨B7, k, none⟩) (fun _ => rfl) v).get h.1 (fun z => lt.2 z), set_heap h.2.1 k v, h.2.2.setCell (p := ⟨B7, k, none⟩) (fun z => by have z : B7 < w.heap.size := z; omega) v⟩
theorem cs_put (l x : Ev) : ((((((((((l.cs.setIfInBounds 0 (.int .i64 x.kind)).setIfInBounds 1 (.int .i64 x.client)).setIfInBounds 2 (.int .i64 x.op)).setIfInBounds 3 (.bool x.put)).setIfInBounds 4 (.string x.key)).setIfInBounds 5 (.slice x.va x.vn x.vc)).setIfInBounds 6 (.int .i64 x.st)).setIfInBounds 7 (.int .i64 x.tx)).setIfInBounds 8 (.int .i64 x.ty))) = x.cs := by
  unfold Ev.cs
  simp only [List.setIfInBounds_toArray, List.set_cons_zero, List.set_cons_succ]
theorem SB.put {w wr : World} {B3 B7 : Nat} {e l : Ev} (h : SB w wr B3 B7 e l) (x : Ev) : SB w (((((((((wr.setCell ⟨B7, 0, none⟩ (.int .i64 x.kind)).setCell ⟨B7, 1, none⟩ (.int .i64 x.client)).setCell ⟨B7, 2, none⟩ (.int .i64 x.op)).setCell ⟨B7, 3, none⟩ (.bool x.put)).setCell ⟨B7, 4, none⟩ (.string x.key)).setCell ⟨B7, 5, none⟩ (.slice x.va x.vn x.vc)).setCell ⟨B7, 6, none⟩ (.int .i64 x.st)).setCell ⟨B7, 7, none⟩ (.int .i64 x.tx)).setCell ⟨B7, 8, none⟩ (.int .i64 x.ty)) B3 B7 e x := by
  have q := SBset h.lt (SBset h.lt (SBset h.lt (SBset h.lt (SBset h.lt (SBset h.lt (SBset h.lt (SBset h.lt (SBset h.lt ⟨h.e3, h.e7, h.kept⟩ 0 (.int .i64 x.kind)) 1 (.int .i64 x.client)) 2 (.int .i64 x.op)) 3 (.bool x.put)) 4 (.string x.key)) 5 (.slice x.va x.vn x.vc)) 6 (.int .i64 x.st)) 7 (.int .i64 x.tx)) 8 (.int .i64 x.ty)
  rw [cs_put] at q
  exact ⟨q.1, q.2.1, q.2.2, h.lt⟩
set_option maxRecDepth 100000 in
set_option maxHeartbeats 4000000 in
theorem hStanding {w : World} {p : Option Addr} {n c : Nat} {es : List Ev} (er : ERd w p n c es) (nb : n ≤ 1500000000000) (e : Ev) : Calls Tryz.prog 42 #[.slice p n c, e.agg] w fun o w' => o = .returned (.bool (stF es e)) ∧ Kept (fun _ => False) w w' := by
  obtain ⟨kd, cl, op, pt, ky, va, vn, vc, st, tx, ty, val⟩ := e
  obtain ⟨e, he⟩ : ∃ e : Ev, e = ⟨kd, cl, op, pt, ky, va, vn, vc, st, tx, ty, val⟩ := ⟨_, rfl⟩
  rw [← he]
  have HE : Hid (e = ⟨kd, cl, op, pt, ky, va, vn, vc, st, tx, ty, val⟩) := he
  have ag : e.agg = .agg #[.int .i64 kd, .int .i64 cl, .int .i64 op, .bool pt, .string ky, .slice va vn vc, .int .i64 st, .int .i64 tx, .int .i64 ty] := by rw [he]; rfl
  rw [ag]
  clear ag he
  have H : Hid (ERd w p n c es) := er
  obtain ⟨B3, h3⟩ : ∃ B, B = w.heap.size := ⟨_, rfl⟩
  obtain ⟨B7, h7⟩ : ∃ B, B = w.heap.size + 1 := ⟨_, rfl⟩
  have S0 : Hid (SB w ((w.alloc (.cells #[.int .i64 kd, .int .i64 cl, .int .i64 op, .bool pt, .string ky, .slice va vn vc, .int .i64 st, .int .i64 tx, .int .i64 ty] 39)).alloc (.cells #[.int .i64 0, .int .i64 0, .int .i64 0, .bool false, .string ⟨#[]⟩, .slice none 0 0, .int .i64 0, .int .i64 0, .int .i64 0] 39)) B3 B7 e zE) := by
    refine ⟨?_, ?_, ((Kept.refl _ _).alloc _).alloc _, ?_⟩
    · rw [h3, HE.out]
      exact ((Kept.refl (fun _ => False) _).alloc _).get (alloc_new _ _) (fun z => z)
    · rw [h7]
      exact alloc_new2 _ _ _ _
    · omega
  have EB : Hid (B3 = w.heap.size ∧ B7 = w.heap.size + 1) := ⟨h3, h7⟩
  obtain ⟨W0, hW0⟩ : ∃ W, W = (w.alloc (.cells #[.int .i64 kd, .int .i64 cl, .int .i64 op, .bool pt, .string ky, .slice va vn vc, .int .i64 st, .int .i64 tx, .int .i64 ty] 39)).alloc (.cells #[.int .i64 0, .int .i64 0, .int .i64 0, .bool false, .string ⟨#[]⟩, .slice none 0 0, .int .i64 0, .int .i64 0, .int .i64 0] 39) := ⟨_, rfl⟩
  have EW : Hid (W0 = (w.alloc (.cells #[.int .i64 kd, .int .i64 cl, .int .i64 op, .bool pt, .string ky, .slice va vn vc, .int .i64 st, .int .i64 tx, .int .i64 ty] 39)).alloc (.cells #[.int .i64 0, .int .i64 0, .int .i64 0, .bool false, .string ⟨#[]⟩, .slice none 0 0, .int .i64 0, .int .i64 0, .int .i64 0] 39)) := hW0
  rw [← hW0] at S0
  clear er h3 h7 hW0
  go_enter Tryz.func42, Tryz.ntmps42
  go_upto_region 5 with fail
  rw [← EW.out, ← EB.out.2, ← EB.out.1]
  clear EW EB
  go_loopw [5, 6, 8] (fun u5 u6 u8 wr => ∃ i : Nat, u5 = .int .i64 ((stOf cl (es.take i)).ops : Int) ∧ u6 = .bool (stOf cl (es.take i)).busy ∧ u8 = .int .i64 (i : Int) ∧ i ≤ n ∧ Hid (SB w wr B3 B7 e (stOf cl (es.take i)).last)) (fun _ _ u8 _ => n - (intOf u8).toNat)
  case atStart => exact ⟨0, rfl, rfl, rfl, Nat.zero_le _, S0⟩
  case round =>
    clear S0
    obtain ⟨i, rfl, rfl, rfl, hi, S⟩ := hrel
    obtain ⟨wo, hwo⟩ : ∃ wo, wo = wr := ⟨_, rfl⟩
    rw [← hwo] at S ⊢
    clear hwo
    have ol := stOf_ops cl (es.take i)
    rw [List.length_take] at ol
    by_cases hlt : i < n
    · have lti : (i : Int) < (n : Int) := by omega
      have i0 : (0 : Int) ≤ (i : Int) := by omega
      obtain ⟨b, off, x, rfl, hx, c0, c1, c2, c3, c4, c5, c6, c7, c8, -⟩ := (H.out.k0 S.out.kept).at hlt
      have sn := stOf_take hx cl
      obtain ⟨s, hs⟩ : ∃ s, stOf cl (es.take i) = s := ⟨_, rfl⟩
      obtain ⟨s', hs'⟩ : ∃ s, stOf cl (es.take (i + 1)) = s := ⟨_, rfl⟩
      have HS : Hid (stOf cl (es.take (i + 1)) = s') := hs'
      rw [hs] at sn ol S ⊢
      rw [hs'] at sn
      clear hs hs' hx
      have e1 := cell_blk S.out.e3 1 (v := .int .i64 cl) (by rw [HE.out]; rfl)
      by_cases hc : x.client = cl
      · unfold stStep at sn
        rw [if_pos hc] at sn
        by_cases hk : x.kind = 1
        · rw [if_pos hk] at sn
          have b1 : (x.client == cl) = true := by simp [hc]
          have b2 : (x.kind == 1) = true := by simp [hk]
          have b3 : (x.client != cl) = false := by simp [hc]
          have b4 : IntKind.i64.wrap ((s.ops : Int) + 1) = (s.ops : Int) + 1 := by rw [IntKind.wrap_i64]; omega
          have T : Hid (SB w wo B3 B7 e s.last) := S
          have z0 := cell_blk S.out.e7 0 (v := .int .i64 s.last.kind) rfl
          have z1 := cell_blk S.out.e7 1 (v := .int .i64 s.last.client) rfl
          have z2 := cell_blk S.out.e7 2 (v := .int .i64 s.last.op) rfl
          have z3 := cell_blk S.out.e7 3 (v := .bool s.last.put) rfl
          have z4 := cell_blk S.out.e7 4 (v := .string s.last.key) rfl
          have z5 := cell_blk S.out.e7 5 (v := .slice s.last.va s.last.vn s.last.vc) rfl
          have z6 := cell_blk S.out.e7 6 (v := .int .i64 s.last.st) rfl
          have z7 := cell_blk S.out.e7 7 (v := .int .i64 s.last.tx) rfl
          have z8 := cell_blk S.out.e7 8 (v := .int .i64 s.last.ty) rfl
          have y0 := soft_blk S.out.e7 0
          have y1 := soft_blk S.out.e7 1
          have y2 := soft_blk S.out.e7 2
          have y3 := soft_blk S.out.e7 3
          have y4 := soft_blk S.out.e7 4
          have y5 := soft_blk S.out.e7 5
          have y6 := soft_blk S.out.e7 6
          have y7 := soft_blk S.out.e7 7
          have y8 := soft_blk S.out.e7 8
          clear S
          go_upto_region 7 with fail
          go_quiet (fail)
          go_upto_region 6 with fail
          have N : Hid (SB w ((((((((((wo.drewN nq).setCell ⟨B7, 0, none⟩ (.int .i64 1)).setCell ⟨B7, 1, none⟩ (.int .i64 cl)).setCell ⟨B7, 2, none⟩ (.int .i64 x.op)).setCell ⟨B7, 3, none⟩ (.bool x.put)).setCell ⟨B7, 4, none⟩ (.string x.key)).setCell ⟨B7, 5, none⟩ (.slice x.va x.vn x.vc)).setCell ⟨B7, 6, none⟩ (.int .i64 x.st)).setCell ⟨B7, 7, none⟩ (.int .i64 x.tx)).setCell ⟨B7, 8, none⟩ (.int .i64 x.ty)) B3 B7 e x) := by
            have q := (T.out.drewN nq).put x
            rw [hk, hc] at q
            exact q
          go_wp2_with fail
          go_roundw
          case rel => exact ⟨i + 1, by rw [HS.out, sn]; first | rfl | simp, by rw [HS.out, sn], by go_num, by omega, by rw [HS.out, sn]; exact N⟩
          case measure => simp [intOf] <;> omega
        · rw [if_neg hk] at sn
          have b1 : (x.client == cl) = true := by simp [hc]
          have b2 : (x.kind == 1) = false := by simp [hk]
          have b3 : (x.client != cl) = false := by simp [hc]
          have T : Hid (SB w wo B3 B7 e s.last) := S
          clear S
          go_upto_region 7 with fail
          go_quiet (fail)
          go_wp2_with fail
          go_roundw
          case rel => exact ⟨i + 1, by rw [HS.out, sn], by rw [HS.out, sn], by go_num, by omega, by rw [HS.out, sn]; exact T.out.drewN _⟩
          case measure => simp [intOf] <;> omega
      · unfold stStep at sn
        rw [if_neg hc] at sn
        have b1 : (x.client == cl) = false := by simp [hc]
        have b3 : (x.client != cl) = true := by simp [hc]
        have T : Hid (SB w wo B3 B7 e s.last) := S
        clear S
        go_upto_region 7 with fail
        go_quiet (fail)
        go_wp2_with fail
        go_roundw
        case rel => exact ⟨i + 1, by rw [HS.out, sn], by rw [HS.out, sn], by go_num, by omega, by rw [HS.out, sn]; exact T.out.drewN _⟩
        case measure => simp [intOf] <;> omega
    · have lti : ¬ (i : Int) < (n : Int) := by omega
      obtain rfl : i = n := by omega
      rw [List.take_of_length_le (by rw [H.out.len]; exact Nat.le_refl _)] at S ol ⊢
      have sv : stF es e = if kd = 1 then !(stOf cl es).busy && decide (op = ((stOf cl es).ops : Int) + 1) else (stOf cl es).busy && decide ((stOf cl es).last.op = op) && decide ((stOf cl es).last.put = pt) && decide ((stOf cl es).last.key = ky) := by rw [HE.out]; rfl
      obtain ⟨s, hs⟩ : ∃ s, stOf cl es = s := ⟨_, rfl⟩
      rw [hs] at sv ol S ⊢
      clear hs
      have e0 := cell_blk S.out.e3 0 (v := .int .i64 kd) (by rw [HE.out]; rfl)
      have e2 := cell_blk S.out.e3 2 (v := .int .i64 op) (by rw [HE.out]; rfl)
      have e3 := cell_blk S.out.e3 3 (v := .bool pt) (by rw [HE.out]; rfl)
      have e4 := cell_blk S.out.e3 4 (v := .string ky) (by rw [HE.out]; rfl)
      have z2 := cell_blk S.out.e7 2 (v := .int .i64 s.last.op) rfl
      have z3 := cell_blk S.out.e7 3 (v := .bool s.last.put) rfl
      have z4 := cell_blk S.out.e7 4 (v := .string s.last.key) rfl
      have KF : Hid (Kept (fun _ => False) w wo) := S.out.kept
      have b4 : IntKind.i64.wrap ((s.ops : Int) + 1) = (s.ops : Int) + 1 := by rw [IntKind.wrap_i64]; omega
      obtain ⟨lb, lo, ll⟩ := s
      obtain ⟨R, hR⟩ : ∃ R, stF es e = R := ⟨_, rfl⟩
      have HR : Hid (stF es e = R) := hR
      rw [hR] at sv
      clear hR S
      by_cases hk : kd = 1
      · rw [if_pos hk] at sv
        have b1 : (kd == 1) = true := by simp [hk]
        cases lb
        · by_cases ho : op = (lo : Int) + 1
          · have b2 : (op == (lo : Int) + 1) = true := by simp [ho]
            have sv : R = true := by rw [sv]; simp [ho]
            go_wp2_with fail
            go_ret
            exact ⟨by rw [HR.out, sv]; first | rfl | simp [ho], KF.out⟩
          · have b2 : (op == (lo : Int) + 1) = false := by simp [ho]
            have sv : R = false := by rw [sv]; simp [ho]
            go_wp2_with fail
            go_ret
            exact ⟨by rw [HR.out, sv]; first | rfl | simp [ho], KF.out⟩
        · have sv : R = false := by rw [sv]; simp
          go_wp2_with fail
          go_ret
          exact ⟨by rw [HR.out, sv]; first | rfl | simp, KF.out⟩
      · rw [if_neg hk] at sv
        have b1 : (kd == 1) = false := by simp [hk]
        cases lb
        · have sv : R = false := by rw [sv]; simp
          go_wp2_with fail
          go_ret
          exact ⟨by rw [HR.out, sv]; first | rfl | simp, KF.out⟩
        · by_cases h1 : ll.op = op
          · have b2 : (ll.op == op) = true := by simp [h1]
            by_cases h2 : ll.put = pt
            · have b3 : (ll.put == pt) = true := by simp [h2]
              by_cases h3 : ll.key = ky
              · have sv : R = true := by rw [sv]; simp [h1, h2, h3]
                have z4 : wo.cell? ⟨B7, 4, none⟩ = some (.string ky) := by rw [← h3]; exact z4
                go_wp2_with fail
                go_ret
                exact ⟨by rw [HR.out, sv]; first | rfl | simp, KF.out⟩
              · have sv : R = false := by rw [sv]; simp [h3]
                have kn := ba_ne h3
                have b5 : (ll.key.toList == ky.toList) = false := by simpa using kn
                go_wp2_with fail
                go_ret
                exact ⟨by rw [HR.out, sv]; first | rfl | simp, KF.out⟩
            · have b3 : (ll.put == pt) = false := by simpa using h2
              have sv : R = false := by rw [sv]; simp [h2]
              go_wp2_with fail
              go_ret
              exact ⟨by rw [HR.out, sv]; first | rfl | simp, KF.out⟩
          · have b2 : (ll.op == op) = false := by simp [h1]
            have sv : R = false := by rw [sv]; simp [h1]
            go_wp2_with fail
            go_ret
            exact ⟨by rw [HR.out, sv]; first | rfl | simp, KF.out⟩
end Go.Proofs.YtbangbobfeflcaaGreatDoor
