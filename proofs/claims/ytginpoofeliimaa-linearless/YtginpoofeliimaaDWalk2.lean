import Derived.Test.YtginpoofeliimaaDWalk
namespace Go.Proofs.Ytginpoofeliimaa
open Go.RowKit 

/-- What drafted tells, and that it is the caller's own. -/
structure DraftQ2 (w : World) (ds : List Dr) (most : Nat) (p : Option Addr) (k c : Nat) (w' : World) : Prop where
  ok : ∃ ms, DV w w' ds k p c ms
  le : k = min ds.length most
  kept : Kept (fun _ => False) w w'
set_option maxRecDepth 100000 in
set_option maxHeartbeats 8000000 in
theorem drafted2 {w : World} {p0 : Option Addr} {n c0 M : Nat} {ds : List Dr} (tr : DRd w p0 n c0 ds) (hM : M ≤ 24) : Calls Try.prog 7 #[.slice p0 n c0, .int .i64 (M : Int)] w fun o w' => ∃ p k c, o = .returned (.slice p k c) ∧ Hid (DraftQ2 w ds M p k c w') := by
  have rm := tr.room
  have sm := tr.small
  unfold maxLen at sm
  have H : Hid (DRd w p0 n c0 ds) := tr
  have S0 : Hid (∃ ms, DV w w ds 0 none 0 ms) := ⟨[], ⟨⟨rfl, ⟨rfl, .inl ⟨rfl, rfl⟩⟩⟩, rfl, (fun _ h => absurd h (by simp)), (fun _ h => absurd h (by simp)), Kept.refl _ _⟩⟩
  clear tr
  go_enter Try.func7, Try.ntmps7
  go_wp2_with fail
  go_loopw [5, 6, 7, 8, 9, 10, 13] (fun u5 _ _ _ _ _ u13 wr => ∃ (i c : Nat) (p : Option Addr), u5 = .slice p i c ∧ u13 = .int .i64 (i : Int) ∧ i ≤ n ∧ i ≤ M ∧ Hid (∃ ms, DV w wr ds i p c ms)) (fun _ _ _ _ _ _ u13 _ => n - (intOf u13).toNat)
  case atStart => exact ⟨0, 0, none, rfl, rfl, Nat.zero_le _, Nat.zero_le _, S0⟩
  case round =>
    obtain ⟨i, c, p, rfl, rfl, hi, h24, S⟩ := hrel
    clear S0
    obtain ⟨wo, hwo⟩ : ∃ wo, wo = wr := ⟨_, rfl⟩
    rw [← hwo] at S ⊢
    clear hwo
    obtain ⟨ms, lv⟩ := S.out
    by_cases hlt : i < n
    · have i1 : (i : Int) < (n : Int) := by omega
      obtain ⟨b, off, d, rfl, ht, c0', c1, c2, c3, c4⟩ := (H.out.k0 lv.kept).at hlt
      obtain ⟨W, hW⟩ : ∃ W, W = wo.alloc (.cells #[.bool d.put, .int .i64 d.val, .int .i64 d.frm, .int .i64 d.long, .bool d.gone] 50) := ⟨_, rfl⟩
      obtain ⟨B, hB⟩ : ∃ B, B = wo.heap.size := ⟨_, rfl⟩
      have T : Hid (W.heap[B]? = some (.cells d.cs 50 (0, 0)) ∧ DV w W ds i p c ms ∧ ds[i]? = some d) := ⟨by rw [hW, hB]; exact alloc_new _ _, lv.k0 (by rw [hW]; exact (Kept.refl _ _).alloc _), ht⟩
      have EWH : Hid (W = wo.alloc (.cells #[.bool d.put, .int .i64 d.val, .int .i64 d.frm, .int .i64 d.long, .bool d.gone] 50) ∧ B = wo.heap.size) := ⟨hW, hB⟩
      clear hW hB S ht lv
      go_upto_region 5 with fail
      rw [← EWH.out.1, ← EWH.out.2]
      clear EWH c0' c1 c2 c3 c4
      by_cases he : i = M
      · subst he
        have G : Hid (DraftQ2 w ds i p i c W) := ⟨⟨ms, T.out.2.1⟩, by have := H.out.len; omega, T.out.2.1.kept⟩
        go_wp2_with fail
        go_ret
        exact ⟨p, i, c, rfl, G⟩
      · have e24 : ((i : Int) == (M : Int)) = false := by simp; omega
        have e24' : ¬ (i : Int) = (M : Int) := by omega
        have x0 := cell_blk T.out.1 0 (v := .bool d.put) rfl
        have x1 := cell_blk T.out.1 1 (v := .int .i64 d.val) rfl
        have x2 := cell_blk T.out.1 2 (v := .int .i64 d.frm) rfl
        have x3 := cell_blk T.out.1 3 (v := .int .i64 d.long) rfl
        have x4 := cell_blk T.out.1 4 (v := .bool d.gone) rfl
        obtain ⟨fi, hfi⟩ : ∃ fi, fi = d.frm % 12 := ⟨_, rfl⟩
        obtain ⟨l8, hl8⟩ : ∃ l8, l8 = d.long % 8 := ⟨_, rfl⟩
        have n5 : wrap64 (fi + l8) = fi + l8 := by unfold wrap64; omega
        have HE : Hid (fi = d.from_ ∧ fi = d.frm % 12 ∧ l8 = d.long % 8) := ⟨hfi, hfi, hl8⟩
        have M1 : Hid (∀ V : World, Calls Try.prog 10 #[.int .i64 d.frm, .int .i64 12] V fun o w' => o = .returned (.int .i64 fi) ∧ w' = V) := by
          intro V; rw [hfi]; exact modC _ 12 (by omega) (by omega) V
        have M2 : Hid (∀ V : World, Calls Try.prog 10 #[.int .i64 d.long, .int .i64 8] V fun o w' => o = .returned (.int .i64 l8) ∧ w' = V) := by
          intro V; rw [hl8]; exact modC _ 8 (by omega) (by omega) V
        have vb : Hid (BL i) := bl_ok (by omega)
        clear hfi hl8
        go_wp2_with fail
        refine (M1.out W).mono ?_
        rintro o w9 ⟨rfl, rfl⟩
        go_wp2_with fail
        refine (M2.out _).mono ?_
        rintro o w8 ⟨rfl, rfl⟩
        obtain ⟨z, hz⟩ : ∃ z, decide (0 < l8) = z := ⟨_, rfl⟩
        have HZ : Hid (decide (0 < l8) = z) := hz
        go_upto_if 27 with fail
        clear hz
        go_cut [9] from 28 to 32 (fun x9 wc => x9 = .int .i64 d.to ∧ wc = w8)
        case first =>
          cases z
          case true =>
            go_wp2_with fail
            refine (M2.out _).mono ?_
            rintro o w7 ⟨rfl, rfl⟩
            go_wp2_with fail
            go_meet
            case rel => exact ⟨by rw [n5, show d.to = fi + l8 by unfold Dr.to; rw [if_pos (by have := HE.out; have h := HZ.out; simp at h; omega)]; have := HE.out; omega], rfl⟩
          case false =>
            go_wp2_with fail
            go_meet
            case rel => exact ⟨by rw [show d.to = -1 by unfold Dr.to; rw [if_neg (by have := HE.out; have h := HZ.out; simp at h; omega)]], rfl⟩
        case rest =>
        obtain ⟨rfl, hw⟩ := hcut
        rw [hw]
        clear hw
        clear M1 M2 n5 HZ x2 x3
        have lB := block_lt T.out.1
        have nB : ¬ B = w8.heap.size := by omega
        have nB' : ¬ w8.heap.size = B := by omega
        have M4 : Hid (∀ (V : World) (r : Int), d.val % 4 = r → Calls Try.prog 10 #[.int .i64 d.val, .int .i64 4] V fun o w' => o = .returned (.int .i64 r) ∧ w' = V) := by
          intro V r hr; rw [← hr]; exact modC _ 4 (by omega) (by omega) V
        go_upto_region 10 with fail
        go_cut [10] from 33 to 41 (fun x10 wd => ∃ E, x10 = .pointer (some ⟨E, 0, none⟩) ∧ Hid (∃ m, Box w8 E (getCl d) m wd))
        case first =>
          have r4 : d.val % 4 = 0 ∨ d.val % 4 = 1 ∨ d.val % 4 = 2 ∨ d.val % 4 = 3 := by omega
          rcases r4 with r4 | r4 | r4 | r4
          · have V4 : Hid (val4 d.val = ⟨#[]⟩) := by
              show val4 d.val = _
              unfold val4
              rw [if_pos r4]
            go_wp2_with fail
            refine (M4.out _ 0 r4).mono ?_
            rintro o w5 ⟨rfl, rfl⟩
            go_wp2_with fail
            refine (getC2 ⟨#[]⟩ fi d.to _ (by decide) true em0).mono ?_
            rintro o w2 ⟨m, e1, Q⟩
            unfold Cm.agg at e1
            subst e1
            have G : Hid (Box w8 w2.heap.size (getCl d) m (w2.alloc (.cells #[.int .i64 m.client, .int .i64 m.op, .bool m.put, .string m.key, .slice m.va m.vn m.vc, .int .i64 m.st, .int .i64 m.frm, .int .i64 m.to, .bool m.opn, .int .i64 m.tx, .int .i64 m.ty] 33))) := by
              have KA : Kept (fun _ => False) w2 (w2.alloc (.cells #[.int .i64 m.client, .int .i64 m.op, .bool m.put, .string m.key, .slice m.va m.vn m.vc, .int .i64 m.st, .int .i64 m.frm, .int .i64 m.to, .bool m.opn, .int .i64 m.tx, .int .i64 m.ty] 33)) := (Kept.refl _ _).alloc _
              refine ⟨alloc_new _ _, ?_, Reads.kept KA Q.rd (fun _ _ z => z), fun a ha => ?_, (((Kept.refl _ w8).alloc _).trans Q.k (fun _ _ z => z)).trans KA (fun _ _ z => z), Nat.le_trans ((Kept.refl (fun _ => False) w8).alloc _).size Q.k.size⟩
              · rw [Q.cl]; unfold getCl; rw [V4.out, HE.out.1, em0]; first | done | rfl
              · obtain ⟨C, fr, hC⟩ := Q.ty a ha
                exact ⟨C, fr, KA.get hC (fun z => z)⟩
            clear Q
            go_wp2_with fail
            go_meet
            case rel => exact ⟨_, rfl, _, G.out⟩
          · have V4 : Hid (val4 d.val = ⟨#[97]⟩) := by
              show val4 d.val = _
              unfold val4
              rw [if_neg (by omega), if_pos r4]
            go_wp2_with fail
            refine (M4.out _ 1 r4).mono ?_
            rintro o w5 ⟨rfl, rfl⟩
            go_wp2_with fail
            refine (getC2 ⟨#[97]⟩ fi d.to _ (by decide) false em97).mono ?_
            rintro o w2 ⟨m, e1, Q⟩
            unfold Cm.agg at e1
            subst e1
            have G : Hid (Box w8 w2.heap.size (getCl d) m (w2.alloc (.cells #[.int .i64 m.client, .int .i64 m.op, .bool m.put, .string m.key, .slice m.va m.vn m.vc, .int .i64 m.st, .int .i64 m.frm, .int .i64 m.to, .bool m.opn, .int .i64 m.tx, .int .i64 m.ty] 33))) := by
              have KA : Kept (fun _ => False) w2 (w2.alloc (.cells #[.int .i64 m.client, .int .i64 m.op, .bool m.put, .string m.key, .slice m.va m.vn m.vc, .int .i64 m.st, .int .i64 m.frm, .int .i64 m.to, .bool m.opn, .int .i64 m.tx, .int .i64 m.ty] 33)) := (Kept.refl _ _).alloc _
              refine ⟨alloc_new _ _, ?_, Reads.kept KA Q.rd (fun _ _ z => z), fun a ha => ?_, (((Kept.refl _ w8).alloc _).trans Q.k (fun _ _ z => z)).trans KA (fun _ _ z => z), Nat.le_trans ((Kept.refl (fun _ => False) w8).alloc _).size Q.k.size⟩
              · rw [Q.cl]; unfold getCl; rw [V4.out, HE.out.1, em97]; first | done | rfl
              · obtain ⟨C, fr, hC⟩ := Q.ty a ha
                exact ⟨C, fr, KA.get hC (fun z => z)⟩
            clear Q
            go_wp2_with fail
            go_meet
            case rel => exact ⟨_, rfl, _, G.out⟩
          · have V4 : Hid (val4 d.val = ⟨#[98]⟩) := by
              show val4 d.val = _
              unfold val4
              rw [if_neg (by omega), if_neg (by omega), if_pos r4]
            go_wp2_with fail
            refine (M4.out _ 2 r4).mono ?_
            rintro o w5 ⟨rfl, rfl⟩
            go_wp2_with fail
            refine (getC2 ⟨#[98]⟩ fi d.to _ (by decide) false em98).mono ?_
            rintro o w2 ⟨m, e1, Q⟩
            unfold Cm.agg at e1
            subst e1
            have G : Hid (Box w8 w2.heap.size (getCl d) m (w2.alloc (.cells #[.int .i64 m.client, .int .i64 m.op, .bool m.put, .string m.key, .slice m.va m.vn m.vc, .int .i64 m.st, .int .i64 m.frm, .int .i64 m.to, .bool m.opn, .int .i64 m.tx, .int .i64 m.ty] 33))) := by
              have KA : Kept (fun _ => False) w2 (w2.alloc (.cells #[.int .i64 m.client, .int .i64 m.op, .bool m.put, .string m.key, .slice m.va m.vn m.vc, .int .i64 m.st, .int .i64 m.frm, .int .i64 m.to, .bool m.opn, .int .i64 m.tx, .int .i64 m.ty] 33)) := (Kept.refl _ _).alloc _
              refine ⟨alloc_new _ _, ?_, Reads.kept KA Q.rd (fun _ _ z => z), fun a ha => ?_, (((Kept.refl _ w8).alloc _).trans Q.k (fun _ _ z => z)).trans KA (fun _ _ z => z), Nat.le_trans ((Kept.refl (fun _ => False) w8).alloc _).size Q.k.size⟩
              · rw [Q.cl]; unfold getCl; rw [V4.out, HE.out.1, em98]; first | done | rfl
              · obtain ⟨C, fr, hC⟩ := Q.ty a ha
                exact ⟨C, fr, KA.get hC (fun z => z)⟩
            clear Q
            go_wp2_with fail
            go_meet
            case rel => exact ⟨_, rfl, _, G.out⟩
          · have V4 : Hid (val4 d.val = ⟨#[99]⟩) := by
              show val4 d.val = _
              unfold val4
              rw [if_neg (by omega), if_neg (by omega), if_neg (by omega)]
            go_wp2_with fail
            refine (M4.out _ 3 r4).mono ?_
            rintro o w5 ⟨rfl, rfl⟩
            go_wp2_with fail
            refine (getC2 ⟨#[99]⟩ fi d.to _ (by decide) false em99).mono ?_
            rintro o w2 ⟨m, e1, Q⟩
            unfold Cm.agg at e1
            subst e1
            have G : Hid (Box w8 w2.heap.size (getCl d) m (w2.alloc (.cells #[.int .i64 m.client, .int .i64 m.op, .bool m.put, .string m.key, .slice m.va m.vn m.vc, .int .i64 m.st, .int .i64 m.frm, .int .i64 m.to, .bool m.opn, .int .i64 m.tx, .int .i64 m.ty] 33))) := by
              have KA : Kept (fun _ => False) w2 (w2.alloc (.cells #[.int .i64 m.client, .int .i64 m.op, .bool m.put, .string m.key, .slice m.va m.vn m.vc, .int .i64 m.st, .int .i64 m.frm, .int .i64 m.to, .bool m.opn, .int .i64 m.tx, .int .i64 m.ty] 33)) := (Kept.refl _ _).alloc _
              refine ⟨alloc_new _ _, ?_, Reads.kept KA Q.rd (fun _ _ z => z), fun a ha => ?_, (((Kept.refl _ w8).alloc _).trans Q.k (fun _ _ z => z)).trans KA (fun _ _ z => z), Nat.le_trans ((Kept.refl (fun _ => False) w8).alloc _).size Q.k.size⟩
              · rw [Q.cl]; unfold getCl; rw [V4.out, HE.out.1, em99]; first | done | rfl
              · obtain ⟨C, fr, hC⟩ := Q.ty a ha
                exact ⟨C, fr, KA.get hC (fun z => z)⟩
            clear Q
            go_wp2_with fail
            go_meet
            case rel => exact ⟨_, rfl, _, G.out⟩
        case rest =>
        obtain ⟨E, rfl, BX⟩ := hcut
        obtain ⟨m0, bx⟩ := BX.out
        obtain ⟨wd, hwd⟩ : ∃ wd, wd = wc := ⟨_, rfl⟩
        rw [← hwd] at bx ⊢
        clear hwd BX M4 nB nB' lB
        replace x0 := bx.kept.cell x0 (fun z => z)
        replace x1 := bx.kept.cell x1 (fun z => z)
        replace x4 := bx.kept.cell x4 (fun z => z)
        have BB := bx.kept.get T.out.1 (fun z => z)
        have lB := block_lt BB
        obtain ⟨pu, hpu⟩ : ∃ pu, d.put = pu := ⟨_, rfl⟩
        obtain ⟨gn, hgn⟩ : ∃ gn, d.gone = gn := ⟨_, rfl⟩
        rw [hpu] at x0
        rw [hgn] at x4
        have HP : Hid (d.put = pu ∧ d.gone = gn) := ⟨hpu, hgn⟩
        clear hpu hgn BB
        cases pu
        case false =>
          cases gn
          case false =>
            obtain ⟨mm, hmm⟩ : ∃ mm, mm = m0 := ⟨_, rfl⟩
            rw [← hmm] at bx
            clear hmm
            have QB : Hid (Box _ E (getCl d) mm wd) := bx
            have L2 : Hid (DV w (wd) ds i p c ms) := T.out.2.1.k0 QB.out.kept
            have Q2 : Hid (mm.cl = d.call ∧ Reads (wd) mm.va mm.vn mm.vc mm.val ∧ (∀ a, mm.va = some a → ∃ C fr, (wd).heap[a.block]? = some (.cells C 5 fr))) := ⟨by rw [QB.out.cl]; exact draft_get HP.out.1 HP.out.2, QB.out.rd, QB.out.ty⟩
            have y0 := cell_blk QB.out.blk 0 (v := .int .i64 mm.client) rfl
            have y1 := cell_blk QB.out.blk 1 (v := .int .i64 mm.op) rfl
            have y2 := cell_blk QB.out.blk 2 (v := .bool mm.put) rfl
            have y3 := cell_blk QB.out.blk 3 (v := .string mm.key) rfl
            have y4 := cell_blk QB.out.blk 4 (v := .slice mm.va mm.vn mm.vc) rfl
            have y5 := cell_blk QB.out.blk 5 (v := .int .i64 mm.st) rfl
            have y6 := cell_blk QB.out.blk 6 (v := .int .i64 mm.frm) rfl
            have y7 := cell_blk QB.out.blk 7 (v := .int .i64 mm.to) rfl
            have y8 := cell_blk QB.out.blk 8 (v := .bool mm.opn) rfl
            have y9 := cell_blk QB.out.blk 9 (v := .int .i64 mm.tx) rfl
            have y10 := cell_blk QB.out.blk 10 (v := .int .i64 mm.ty) rfl
            go_upto_region 16 with
              (first | (at_builtin; refine wpList_append_all _ rfl (.tmp 56) (.tmp 58) 23 33 23 _ 11 112 rfl Try.underlying23 Try.info33c rfl w.heap.size (.slice p i c) i (ccells ms) rfl (((Kept.refl (fun _ => False) (wd)).alloc _).owns L2.out.row.row (fun _ _ z => z)) _ 1 (ccells [mm]) rfl (src_call (heap_alloc_new (wd) _)) vb.out.1 vb.out.2 (Nat.le_trans L2.out.kept.size ((Kept.refl (fun _ => False) (wd)).alloc _).size) ?_; intro p9 c9 w9 ho hg hn) | fail)
            have G : Hid (DV w w9 ds (i + 1) p9 c9 (ms ++ [mm])) := L2.out.add T.out.2.2 Q2.out.1 Q2.out.2.1 Q2.out.2.2 ho.out rfl hg.out
            clear ho hg hn
            go_wp2_with fail
            go_roundw
            case rel => exact ⟨i + 1, c9, p9, rfl, by go_num, by omega, by omega, _, G.out⟩
            case measure => simp [intOf] <;> omega
          case true =>
            have z5 := soft_blk bx.blk 5
            have y5 := cell_blk bx.blk 5 (v := .int .i64 m0.st) rfl
            go_upto_region 15 with fail
            have bg := bx.gone
            obtain ⟨we, hwe⟩ : ∃ we, we = wd.setCell ⟨E, 5, none⟩ (.int .i64 77) := ⟨_, rfl⟩
            rw [← hwe] at bg ⊢
            clear hwe y5 z5
            obtain ⟨mm, hmm⟩ : ∃ mm : Cm, mm = ⟨m0.client, m0.op, m0.put, m0.key, m0.va, m0.vn, m0.vc, 77, m0.frm, m0.to, m0.opn, m0.tx, m0.ty, m0.val⟩ := ⟨_, rfl⟩
            rw [← hmm] at bg
            clear hmm
            have QB : Hid (Box _ E ⟨false, false, d.from_, d.to, 77, sb (val4 d.val)⟩ mm we) := bg
            have L2 : Hid (DV w (we) ds i p c ms) := T.out.2.1.k0 QB.out.kept
            have Q2 : Hid (mm.cl = d.call ∧ Reads (we) mm.va mm.vn mm.vc mm.val ∧ (∀ a, mm.va = some a → ∃ C fr, (we).heap[a.block]? = some (.cells C 5 fr))) := ⟨by rw [QB.out.cl]; exact draft_gone HP.out.1 HP.out.2, QB.out.rd, QB.out.ty⟩
            have y0 := cell_blk QB.out.blk 0 (v := .int .i64 mm.client) rfl
            have y1 := cell_blk QB.out.blk 1 (v := .int .i64 mm.op) rfl
            have y2 := cell_blk QB.out.blk 2 (v := .bool mm.put) rfl
            have y3 := cell_blk QB.out.blk 3 (v := .string mm.key) rfl
            have y4 := cell_blk QB.out.blk 4 (v := .slice mm.va mm.vn mm.vc) rfl
            have y5 := cell_blk QB.out.blk 5 (v := .int .i64 mm.st) rfl
            have y6 := cell_blk QB.out.blk 6 (v := .int .i64 mm.frm) rfl
            have y7 := cell_blk QB.out.blk 7 (v := .int .i64 mm.to) rfl
            have y8 := cell_blk QB.out.blk 8 (v := .bool mm.opn) rfl
            have y9 := cell_blk QB.out.blk 9 (v := .int .i64 mm.tx) rfl
            have y10 := cell_blk QB.out.blk 10 (v := .int .i64 mm.ty) rfl
            go_upto_region 16 with
              (first | (at_builtin; refine wpList_append_all _ rfl (.tmp 56) (.tmp 58) 23 33 23 _ 11 112 rfl Try.underlying23 Try.info33c rfl w.heap.size (.slice p i c) i (ccells ms) rfl (((Kept.refl (fun _ => False) (we)).alloc _).owns L2.out.row.row (fun _ _ z => z)) _ 1 (ccells [mm]) rfl (src_call (heap_alloc_new (we) _)) vb.out.1 vb.out.2 (Nat.le_trans L2.out.kept.size ((Kept.refl (fun _ => False) (we)).alloc _).size) ?_; intro p9 c9 w9 ho hg hn) | fail)
            have G : Hid (DV w w9 ds (i + 1) p9 c9 (ms ++ [mm])) := L2.out.add T.out.2.2 Q2.out.1 Q2.out.2.1 Q2.out.2.2 ho.out rfl hg.out
            clear ho hg hn
            go_wp2_with fail
            go_roundw
            case rel => exact ⟨i + 1, c9, p9, rfl, by go_num, by omega, by omega, _, G.out⟩
            case measure => simp [intOf] <;> omega
        case true =>
          have M5 : Hid (∀ (V : World) (r : Int), d.val % 3 = r → Calls Try.prog 10 #[.int .i64 d.val, .int .i64 3] V fun o w' => o = .returned (.int .i64 r) ∧ w' = V) := by
            intro V r hr; rw [← hr]; exact modC _ 3 (by omega) (by omega) V
          have nB : ¬ B = wd.heap.size := by omega
          have nB' : ¬ wd.heap.size = B := by omega
          have BXH : Hid (Box w8 E (getCl d) m0 wd) := bx
          clear bx
          go_upto_region 12 with fail
          go_cut [10] from 44 to 52 (fun x we => x = .pointer (some ⟨E, 0, none⟩) ∧ Hid (∃ m, Box w8 E (putCl d) m we))
          case first =>
            have r3 : d.val % 3 = 0 ∨ d.val % 3 = 1 ∨ d.val % 3 = 2 := by omega
            rcases r3 with r3 | r3 | r3
            · have V3 : Hid (val3 d.val = ⟨#[97]⟩) := by
                show val3 d.val = _
                unfold val3
                rw [if_pos r3]
              go_wp2_with fail
              refine (M5.out _ 0 r3).mono ?_
              rintro o w5 ⟨rfl, rfl⟩
              go_wp2_with fail
              refine (putC2 ⟨#[97]⟩ fi d.to _ (by decide)).mono ?_
              rintro o w3 ⟨m, e1, Q⟩
              unfold Cm.agg at e1
              subst e1
              have K3 : Kept (fun _ => False) wd w3 := ((Kept.refl _ wd).alloc _).trans Q.k (fun _ _ z => z)
              have b3 := K3.get BXH.out.blk (fun z => z)
              have y0 := cell_blk b3 0 (v := .int .i64 m0.client) rfl
              have y1 := cell_blk b3 1 (v := .int .i64 m0.op) rfl
              have y2 := cell_blk b3 2 (v := .bool m0.put) rfl
              have y3 := cell_blk b3 3 (v := .string m0.key) rfl
              have y4 := cell_blk b3 4 (v := .slice m0.va m0.vn m0.vc) rfl
              have y5 := cell_blk b3 5 (v := .int .i64 m0.st) rfl
              have y6 := cell_blk b3 6 (v := .int .i64 m0.frm) rfl
              have y7 := cell_blk b3 7 (v := .int .i64 m0.to) rfl
              have y8 := cell_blk b3 8 (v := .bool m0.opn) rfl
              have y9 := cell_blk b3 9 (v := .int .i64 m0.tx) rfl
              have y10 := cell_blk b3 10 (v := .int .i64 m0.ty) rfl
              have z0 := soft_blk b3 0
              have z1 := soft_blk b3 1
              have z2 := soft_blk b3 2
              have z3 := soft_blk b3 3
              have z4 := soft_blk b3 4
              have z5 := soft_blk b3 5
              have z6 := soft_blk b3 6
              have z7 := soft_blk b3 7
              have z8 := soft_blk b3 8
              have z9 := soft_blk b3 9
              have z10 := soft_blk b3 10
              have G : Hid (Box w8 E (putCl d) m _) := Box.filled b3 (by rw [Q.cl]; unfold putCl; rw [V3.out, HE.out.1]) Q.rd Q.ty (BXH.out.kept.trans K3 (fun _ _ z => z)) BXH.out.ge
              clear Q b3 K3
              go_wp2_with fail
              go_meet
              case rel => exact ⟨rfl, _, G.out⟩
            · have V3 : Hid (val3 d.val = ⟨#[98]⟩) := by
                show val3 d.val = _
                unfold val3
                rw [if_neg (by omega), if_pos r3]
              go_wp2_with fail
              refine (M5.out _ 1 r3).mono ?_
              rintro o w5 ⟨rfl, rfl⟩
              go_wp2_with fail
              refine (putC2 ⟨#[98]⟩ fi d.to _ (by decide)).mono ?_
              rintro o w3 ⟨m, e1, Q⟩
              unfold Cm.agg at e1
              subst e1
              have K3 : Kept (fun _ => False) wd w3 := ((Kept.refl _ wd).alloc _).trans Q.k (fun _ _ z => z)
              have b3 := K3.get BXH.out.blk (fun z => z)
              have y0 := cell_blk b3 0 (v := .int .i64 m0.client) rfl
              have y1 := cell_blk b3 1 (v := .int .i64 m0.op) rfl
              have y2 := cell_blk b3 2 (v := .bool m0.put) rfl
              have y3 := cell_blk b3 3 (v := .string m0.key) rfl
              have y4 := cell_blk b3 4 (v := .slice m0.va m0.vn m0.vc) rfl
              have y5 := cell_blk b3 5 (v := .int .i64 m0.st) rfl
              have y6 := cell_blk b3 6 (v := .int .i64 m0.frm) rfl
              have y7 := cell_blk b3 7 (v := .int .i64 m0.to) rfl
              have y8 := cell_blk b3 8 (v := .bool m0.opn) rfl
              have y9 := cell_blk b3 9 (v := .int .i64 m0.tx) rfl
              have y10 := cell_blk b3 10 (v := .int .i64 m0.ty) rfl
              have z0 := soft_blk b3 0
              have z1 := soft_blk b3 1
              have z2 := soft_blk b3 2
              have z3 := soft_blk b3 3
              have z4 := soft_blk b3 4
              have z5 := soft_blk b3 5
              have z6 := soft_blk b3 6
              have z7 := soft_blk b3 7
              have z8 := soft_blk b3 8
              have z9 := soft_blk b3 9
              have z10 := soft_blk b3 10
              have G : Hid (Box w8 E (putCl d) m _) := Box.filled b3 (by rw [Q.cl]; unfold putCl; rw [V3.out, HE.out.1]) Q.rd Q.ty (BXH.out.kept.trans K3 (fun _ _ z => z)) BXH.out.ge
              clear Q b3 K3
              go_wp2_with fail
              go_meet
              case rel => exact ⟨rfl, _, G.out⟩
            · have V3 : Hid (val3 d.val = ⟨#[99]⟩) := by
                show val3 d.val = _
                unfold val3
                rw [if_neg (by omega), if_neg (by omega)]
              go_wp2_with fail
              refine (M5.out _ 2 r3).mono ?_
              rintro o w5 ⟨rfl, rfl⟩
              go_wp2_with fail
              refine (putC2 ⟨#[99]⟩ fi d.to _ (by decide)).mono ?_
              rintro o w3 ⟨m, e1, Q⟩
              unfold Cm.agg at e1
              subst e1
              have K3 : Kept (fun _ => False) wd w3 := ((Kept.refl _ wd).alloc _).trans Q.k (fun _ _ z => z)
              have b3 := K3.get BXH.out.blk (fun z => z)
              have y0 := cell_blk b3 0 (v := .int .i64 m0.client) rfl
              have y1 := cell_blk b3 1 (v := .int .i64 m0.op) rfl
              have y2 := cell_blk b3 2 (v := .bool m0.put) rfl
              have y3 := cell_blk b3 3 (v := .string m0.key) rfl
              have y4 := cell_blk b3 4 (v := .slice m0.va m0.vn m0.vc) rfl
              have y5 := cell_blk b3 5 (v := .int .i64 m0.st) rfl
              have y6 := cell_blk b3 6 (v := .int .i64 m0.frm) rfl
              have y7 := cell_blk b3 7 (v := .int .i64 m0.to) rfl
              have y8 := cell_blk b3 8 (v := .bool m0.opn) rfl
              have y9 := cell_blk b3 9 (v := .int .i64 m0.tx) rfl
              have y10 := cell_blk b3 10 (v := .int .i64 m0.ty) rfl
              have z0 := soft_blk b3 0
              have z1 := soft_blk b3 1
              have z2 := soft_blk b3 2
              have z3 := soft_blk b3 3
              have z4 := soft_blk b3 4
              have z5 := soft_blk b3 5
              have z6 := soft_blk b3 6
              have z7 := soft_blk b3 7
              have z8 := soft_blk b3 8
              have z9 := soft_blk b3 9
              have z10 := soft_blk b3 10
              have G : Hid (Box w8 E (putCl d) m _) := Box.filled b3 (by rw [Q.cl]; unfold putCl; rw [V3.out, HE.out.1]) Q.rd Q.ty (BXH.out.kept.trans K3 (fun _ _ z => z)) BXH.out.ge
              clear Q b3 K3
              go_wp2_with fail
              go_meet
              case rel => exact ⟨rfl, _, G.out⟩
          case rest =>
          obtain ⟨rfl, BY⟩ := hcut
          obtain ⟨mm, by_⟩ := BY.out
          obtain ⟨we, hwe⟩ : ∃ we, we = wc := ⟨_, rfl⟩
          rw [← hwe] at by_ ⊢
          clear hwe BY x0 x1 x4
          have QB : Hid (Box w8 E (putCl d) mm we) := by_
          clear by_
          have L2 : Hid (DV w (we) ds i p c ms) := T.out.2.1.k0 QB.out.kept
          have Q2 : Hid (mm.cl = d.call ∧ Reads (we) mm.va mm.vn mm.vc mm.val ∧ (∀ a, mm.va = some a → ∃ C fr, (we).heap[a.block]? = some (.cells C 5 fr))) := ⟨by rw [QB.out.cl]; exact draft_put HP.out.1, QB.out.rd, QB.out.ty⟩
          have y0 := cell_blk QB.out.blk 0 (v := .int .i64 mm.client) rfl
          have y1 := cell_blk QB.out.blk 1 (v := .int .i64 mm.op) rfl
          have y2 := cell_blk QB.out.blk 2 (v := .bool mm.put) rfl
          have y3 := cell_blk QB.out.blk 3 (v := .string mm.key) rfl
          have y4 := cell_blk QB.out.blk 4 (v := .slice mm.va mm.vn mm.vc) rfl
          have y5 := cell_blk QB.out.blk 5 (v := .int .i64 mm.st) rfl
          have y6 := cell_blk QB.out.blk 6 (v := .int .i64 mm.frm) rfl
          have y7 := cell_blk QB.out.blk 7 (v := .int .i64 mm.to) rfl
          have y8 := cell_blk QB.out.blk 8 (v := .bool mm.opn) rfl
          have y9 := cell_blk QB.out.blk 9 (v := .int .i64 mm.tx) rfl
          have y10 := cell_blk QB.out.blk 10 (v := .int .i64 mm.ty) rfl
          go_upto_region 16 with
            (first | (at_builtin; refine wpList_append_all _ rfl (.tmp 56) (.tmp 58) 23 33 23 _ 11 112 rfl Try.underlying23 Try.info33c rfl w.heap.size (.slice p i c) i (ccells ms) rfl (((Kept.refl (fun _ => False) (we)).alloc _).owns L2.out.row.row (fun _ _ z => z)) _ 1 (ccells [mm]) rfl (src_call (heap_alloc_new (we) _)) vb.out.1 vb.out.2 (Nat.le_trans L2.out.kept.size ((Kept.refl (fun _ => False) (we)).alloc _).size) ?_; intro p9 c9 w9 ho hg hn) | fail)
          have G : Hid (DV w w9 ds (i + 1) p9 c9 (ms ++ [mm])) := L2.out.add T.out.2.2 Q2.out.1 Q2.out.2.1 Q2.out.2.2 ho.out rfl hg.out
          clear ho hg hn
          go_wp2_with fail
          go_roundw
          case rel => exact ⟨i + 1, c9, p9, rfl, by go_num, by omega, by omega, _, G.out⟩
          case measure => simp [intOf] <;> omega
    · have i1 : ¬ (i : Int) < (n : Int) := by omega
      have G : Hid (DraftQ2 w ds M p i c wo) := ⟨⟨ms, lv⟩, by have := H.out.len; omega, lv.kept⟩
      clear lv S
      go_wp2_with fail
      go_ret
      exact ⟨p, i, c, rfl, G⟩
end Go.Proofs.Ytginpoofeliimaa
