import Derived.Test.YtginpoofeliimaaRLive
namespace Go.Proofs.Ytginpoofeliimaa
open Go.RowKit 

theorem call_get {t : Tn} {i : Nat} {v : ByteArray} (h : t.put = false) : t.call i v = ⟨false, false, t.frm i, t.to i, if v.toList.isEmpty = true then 76 else 0, sb v⟩ := by
  unfold Tn.call
  rw [if_neg (show ¬ t.put = true by rw [h]; simp)]
def BL (i : Nat) : Prop := i + 1 ≤ maxLen ∧ ((i + 1) + (i + 1) / 4 + 192) * 112 ≤ 281474976710656
theorem bl_ok {i : Nat} (h : i ≤ 24) : BL i := by
  unfold BL maxLen
  omega
set_option maxRecDepth 100000 in
set_option maxHeartbeats 8000000 in
theorem lived {w : World} {p0 : Option Addr} {n c0 : Nat} {ts : List Tn} (tr : TRd w p0 n c0 ts) : Calls Try.prog 13 #[.slice p0 n c0, .int .i64 24] w fun o w' => ∃ p k c, o = .returned (.slice p k c) ∧ Hid (LivedQ w ts p k c w') := by
  have rm := tr.room
  have sm := tr.small
  unfold maxLen at sm
  have H : Hid (TRd w p0 n c0 ts) := tr
  have S0 : Hid (∃ ms, LV w w ts 0 none 0 ms) := ⟨[], ⟨⟨rfl, ⟨rfl, .inl ⟨rfl, rfl⟩⟩⟩, rfl, (fun _ h => absurd h (by simp)), (fun _ h => absurd h (by simp)), Kept.refl _ _⟩⟩
  clear tr
  go_enter Try.func13, Try.ntmps13
  go_wp2_with fail
  go_loopw [5, 6, 7, 8, 9, 10, 11, 14] (fun u5 u6 _ _ _ _ _ u14 wr => ∃ (i c : Nat) (p : Option Addr) (vs : ByteArray), u5 = .slice p i c ∧ u6 = .string vs ∧ u14 = .int .i64 (i : Int) ∧ i ≤ n ∧ i ≤ 24 ∧ Hid (vs = valAt ts i ∧ ∃ ms, LV w wr ts i p c ms)) (fun _ _ _ _ _ _ _ u14 _ => n - (intOf u14).toNat)
  case atStart => exact ⟨0, 0, none, ⟨#[]⟩, rfl, rfl, rfl, Nat.zero_le _, by omega, rfl, S0.out⟩
  case round =>
    obtain ⟨i, c, p, vs, rfl, rfl, rfl, hi, h24, S⟩ := hrel
    clear S0
    obtain ⟨wo, hwo⟩ : ∃ wo, wo = wr := ⟨_, rfl⟩
    rw [← hwo] at S ⊢
    clear hwo
    obtain ⟨hvs, ms, lv⟩ := S.out
    by_cases hlt : i < n
    · have i1 : (i : Int) < (n : Int) := by omega
      obtain ⟨b, off, t, rfl, ht, c0', c1, c2, c3, c4, c5⟩ := (H.out.k0 lv.kept).at hlt
      obtain ⟨W, hW⟩ : ∃ W, W = wo.alloc (.cells #[.bool t.put, .int .i64 t.val, .int .i64 t.early, .int .i64 t.late, .bool t.never, .bool t.absent] 58) := ⟨_, rfl⟩
      obtain ⟨B, hB⟩ : ∃ B, B = wo.heap.size := ⟨_, rfl⟩
      have T : Hid (W.heap[B]? = some (.cells t.cs 58 (0, 0)) ∧ LV w W ts i p c ms ∧ ts[i]? = some t ∧ vs = valAt ts i) := ⟨by rw [hW, hB]; exact alloc_new _ _, lv.k0 (by rw [hW]; exact (Kept.refl _ _).alloc _), ht, hvs⟩
      have EWH : Hid (W = wo.alloc (.cells #[.bool t.put, .int .i64 t.val, .int .i64 t.early, .int .i64 t.late, .bool t.never, .bool t.absent] 58) ∧ B = wo.heap.size) := ⟨hW, hB⟩
      clear hW hB S ht lv hvs
      go_upto_region 6 with fail
      rw [← EWH.out.1, ← EWH.out.2]
      clear EWH c0' c1 c2 c3 c4 c5
      by_cases he : i = 24
      · subst he
        have G : Hid (LivedQ w ts p 24 c W) := T.out.2.1.done (by have := H.out.len; omega) (by omega)
        go_wp2_with fail
        go_ret
        exact ⟨p, 24, c, rfl, G⟩
      · have e24 : ((i : Int) == 24) = false := by simp; omega
        have e24' : ¬ (i : Int) = 24 := by omega
        have x0 := cell_blk T.out.1 0 (v := .bool t.put) rfl
        have x1 := cell_blk T.out.1 1 (v := .int .i64 t.val) rfl
        have x2 := cell_blk T.out.1 2 (v := .int .i64 t.early) rfl
        have x3 := cell_blk T.out.1 3 (v := .int .i64 t.late) rfl
        have x4 := cell_blk T.out.1 4 (v := .bool t.never) rfl
        obtain ⟨ai, hai⟩ : ∃ ai, ai = 100 * (i : Int) + 1000 := ⟨_, rfl⟩
        obtain ⟨fi, hfi⟩ : ∃ fi, fi = t.frm i := ⟨_, rfl⟩
        obtain ⟨l5, hl5⟩ : ∃ l5, l5 = t.late % 500 := ⟨_, rfl⟩
        obtain ⟨l4, hl4⟩ : ∃ l4, l4 = t.late % 4 := ⟨_, rfl⟩
        obtain ⟨ee, hee⟩ : ∃ ee, ee = t.early % 500 := ⟨_, rfl⟩
        have n1 : wrap64 (100 * (i : Int)) = 100 * (i : Int) := by unfold wrap64; omega
        have n2 : wrap64 (100 * (i : Int) + 1000) = ai := by unfold wrap64; omega
        have n3 : wrap64 (ai - ee) = fi := by rw [hfi]; unfold wrap64 Tn.frm tat; omega
        have n4 : wrap64 (ai + 1) = ai + 1 := by unfold wrap64; omega
        have n5 : wrap64 (ai + 1 + l5) = ai + 1 + l5 := by unfold wrap64; omega
        have n6 : (100 * (i : Int)) + 1000 = ai := hai.symm
        have HE : Hid (fi = t.frm i ∧ ai = tat i ∧ l5 = t.late % 500 ∧ l4 = t.late % 4) := ⟨hfi, hai, hl5, hl4⟩
        have M1 : Hid (∀ V : World, Calls Try.prog 10 #[.int .i64 t.early, .int .i64 500] V fun o w' => o = .returned (.int .i64 ee) ∧ w' = V) := by
          intro V; rw [hee]; exact modC _ 500 (by omega) (by omega) V
        have M2 : Hid (∀ V : World, Calls Try.prog 10 #[.int .i64 t.late, .int .i64 4] V fun o w' => o = .returned (.int .i64 l4) ∧ w' = V) := by
          intro V; rw [hl4]; exact modC _ 4 (by omega) (by omega) V
        have M3 : Hid (∀ V : World, Calls Try.prog 10 #[.int .i64 t.late, .int .i64 500] V fun o w' => o = .returned (.int .i64 l5) ∧ w' = V) := by
          intro V; rw [hl5]; exact modC _ 500 (by omega) (by omega) V
        have vb : Hid (BL i) := bl_ok (by omega)
        clear hai hfi hl5 hl4 hee
        go_wp2_with fail
        refine (M1.out W).mono ?_
        rintro o w9 ⟨rfl, rfl⟩
        go_wp2_with fail
        refine (M2.out _).mono ?_
        rintro o w8 ⟨rfl, rfl⟩
        obtain ⟨z, hz⟩ : ∃ z, decide (0 < l4) = z := ⟨_, rfl⟩
        have HZ : Hid (decide (0 < l4) = z) := hz
        go_upto_if 33 with fail
        clear hz
        go_cut [11] from 34 to 39 (fun x11 wc => x11 = .int .i64 (t.to i) ∧ wc = w8)
        case first =>
          cases z
          case true =>
            go_wp2_with fail
            refine (M3.out _).mono ?_
            rintro o w7 ⟨rfl, rfl⟩
            go_wp2_with fail
            go_meet
            case rel => exact ⟨by rw [n5, show t.to i = ai + 1 + l5 by unfold Tn.to; rw [if_pos (by have := HE.out; have h := HZ.out; simp at h; omega)]; have := HE.out; omega], rfl⟩
          case false =>
            go_wp2_with fail
            go_meet
            case rel => exact ⟨by rw [show t.to i = -1 by unfold Tn.to; rw [if_neg (by have := HE.out; have h := HZ.out; simp at h; omega)]], rfl⟩
        case rest =>
        obtain ⟨rfl, rfl⟩ := hcut
        clear M1 M2 M3 n1 n2 n3 n4 n5 n6 HZ x2 x3
        obtain ⟨pu, hpu⟩ : ∃ pu, t.put = pu := ⟨_, rfl⟩
        obtain ⟨ne, hne⟩ : ∃ ne, t.never = ne := ⟨_, rfl⟩
        rw [hpu] at x0
        rw [hne] at x4
        have HP : Hid (t.put = pu ∧ t.never = ne) := ⟨hpu, hne⟩
        have VS : Hid (vs.size ≤ 64) := by rw [T.out.2.2.2]; exact val_size i
        clear hpu hne
        cases pu
        case false =>
          go_wp2_with fail
          refine (getC2 vs fi (t.to i) wc VS.out _ rfl).mono ?_
          rintro o w2 ⟨m, e1, Q⟩
          unfold Cm.agg at e1
          subst e1
          have L2 : Hid (LV w w2 ts i p c ms) := (T.out.2.1.k0 (Kept.refl _ _)).k0 Q.k
          have Q2 : Hid (m.cl = t.call i (valAt ts i) ∧ Reads w2 m.va m.vn m.vc m.val ∧ (∀ a, m.va = some a → ∃ C fr, w2.heap[a.block]? = some (.cells C 5 fr))) := ⟨by rw [Q.cl]; rw [call_get HP.out.1, ← T.out.2.2.2, HE.out.1], Q.rd, Q.ty⟩
          clear Q
          go_upto_region 18 with
            (first | (at_builtin; refine wpList_append_all _ rfl (.tmp 40) (.tmp 45) 23 33 23 _ 11 112 rfl Try.underlying23 Try.info33c rfl w.heap.size (.slice p i c) i (ccells ms) rfl (((Kept.refl (fun _ => False) w2).alloc _).owns L2.out.row.row (fun _ _ z => z)) _ 1 (ccells [m]) rfl (src_call (heap_alloc_new w2 _)) vb.out.1 vb.out.2 (Nat.le_trans L2.out.kept.size ((Kept.refl (fun _ => False) w2).alloc _).size) ?_; intro p9 c9 w9 ho hg hn) | fail)
          have G : Hid (LV w w9 ts (i + 1) p9 c9 (ms ++ [m])) := L2.out.add T.out.2.2.1 Q2.out.1 Q2.out.2.1 Q2.out.2.2 ho.out rfl hg.out
          clear ho hg hn
          go_wp2_with fail
          go_roundw
          case rel => exact ⟨i + 1, c9, p9, vs, rfl, rfl, by go_num, by omega, by omega, by rw [val_step T.out.2.2.1]; unfold Tn.next; rw [if_neg (by rw [HP.out.1]; simp)]; exact T.out.2.2.2, _, G.out⟩
          case measure => simp [intOf] <;> omega
        case true =>
          cases ne
          case true =>
            go_wp2_with fail
            refine (putC2 ⟨#[110, 101, 118, 101, 114]⟩ fi (-1) wc (by decide)).mono ?_
            rintro o w2 ⟨m, e1, Q⟩
            unfold Cm.agg at e1
            subst e1
            have L2 : Hid (LV w w2 ts i p c ms) := (T.out.2.1.k0 (Kept.refl _ _)).k0 Q.k
            have Q2 : Hid (m.cl = t.call i (valAt ts i) ∧ Reads w2 m.va m.vn m.vc m.val ∧ (∀ a, m.va = some a → ∃ C fr, w2.heap[a.block]? = some (.cells C 5 fr))) := ⟨by rw [Q.cl]; unfold Tn.call; rw [if_pos HP.out.1, if_pos HP.out.2, HE.out.1]; rfl, Q.rd, Q.ty⟩
            clear Q
            go_upto_region 18 with
              (first | (at_builtin; refine wpList_append_all _ rfl (.tmp 54) (.tmp 57) 23 33 23 _ 11 112 rfl Try.underlying23 Try.info33c rfl w.heap.size (.slice p i c) i (ccells ms) rfl (((Kept.refl (fun _ => False) w2).alloc _).owns L2.out.row.row (fun _ _ z => z)) _ 1 (ccells [m]) rfl (src_call (heap_alloc_new w2 _)) vb.out.1 vb.out.2 (Nat.le_trans L2.out.kept.size ((Kept.refl (fun _ => False) w2).alloc _).size) ?_; intro p9 c9 w9 ho hg hn) | fail)
            have G : Hid (LV w w9 ts (i + 1) p9 c9 (ms ++ [m])) := L2.out.add T.out.2.2.1 Q2.out.1 Q2.out.2.1 Q2.out.2.2 ho.out rfl hg.out
            clear ho hg hn
            go_wp2_with fail
            go_roundw
            case rel => exact ⟨i + 1, c9, p9, vs, rfl, rfl, by go_num, by omega, by omega, by rw [val_step T.out.2.2.1]; unfold Tn.next; rw [if_pos HP.out.1, if_pos HP.out.2]; exact T.out.2.2.2, _, G.out⟩
            case measure => simp [intOf] <;> omega
          case false =>
            have r3 : t.val % 3 = 0 ∨ t.val % 3 = 1 ∨ t.val % 3 = 2 := by omega
            have M4 : Hid (∀ (V : World) (r : Int), t.val % 3 = r → Calls Try.prog 10 #[.int .i64 t.val, .int .i64 3] V fun o w' => o = .returned (.int .i64 r) ∧ w' = V) := by
              intro V r hr; rw [← hr]; exact modC _ 3 (by omega) (by omega) V
            have lB := block_lt T.out.1
            have nB : ¬ B = wc.heap.size := by omega
            have nB' : ¬ wc.heap.size = B := by omega
            rcases r3 with r3 | r3 | r3
            · have V3 : Hid (val3 t.val = ⟨#[97]⟩) := by
                show val3 t.val = _
                unfold val3
                rw [if_pos r3]
              go_wp2_with fail
              refine (M4.out _ 0 r3).mono ?_
              rintro o w5 ⟨rfl, rfl⟩
              go_wp2_with fail
              refine (putC2 ⟨#[97]⟩ fi (t.to i) _ (by decide)).mono ?_
              rintro o w2 ⟨m, e1, Q⟩
              unfold Cm.agg at e1
              subst e1
              have L2 : Hid (LV w w2 ts i p c ms) := (T.out.2.1.k0 ((Kept.refl _ _).alloc _)).k0 Q.k
              have Q2 : Hid (m.cl = t.call i (valAt ts i) ∧ Reads w2 m.va m.vn m.vc m.val ∧ (∀ a, m.va = some a → ∃ C fr, w2.heap[a.block]? = some (.cells C 5 fr))) := ⟨by rw [Q.cl]; unfold Tn.call; rw [if_pos HP.out.1, if_neg (by rw [HP.out.2]; simp), V3.out, HE.out.1], Q.rd, Q.ty⟩
              clear Q
              go_upto_region 18 with
                (first | (at_builtin; refine wpList_append_all _ rfl (.tmp 68) (.tmp 73) 23 33 23 _ 11 112 rfl Try.underlying23 Try.info33c rfl w.heap.size (.slice p i c) i (ccells ms) rfl (((Kept.refl (fun _ => False) w2).alloc _).owns L2.out.row.row (fun _ _ z => z)) _ 1 (ccells [m]) rfl (src_call (heap_alloc_new w2 _)) vb.out.1 vb.out.2 (Nat.le_trans L2.out.kept.size ((Kept.refl (fun _ => False) w2).alloc _).size) ?_; intro p9 c9 w9 ho hg hn) | fail)
              have G : Hid (LV w w9 ts (i + 1) p9 c9 (ms ++ [m])) := L2.out.add T.out.2.2.1 Q2.out.1 Q2.out.2.1 Q2.out.2.2 ho.out rfl hg.out
              clear ho hg hn
              go_wp2_with fail
              go_roundw
              case rel => exact ⟨i + 1, c9, p9, ⟨#[97]⟩, rfl, rfl, by go_num, by omega, by omega, by rw [val_step T.out.2.2.1]; unfold Tn.next; rw [if_pos HP.out.1, if_neg (by rw [HP.out.2]; simp)]; exact V3.out.symm, _, G.out⟩
              case measure => simp [intOf] <;> omega
            · have V3 : Hid (val3 t.val = ⟨#[98]⟩) := by
                show val3 t.val = _
                unfold val3
                rw [if_neg (by omega), if_pos r3]
              go_wp2_with fail
              refine (M4.out _ 1 r3).mono ?_
              rintro o w5 ⟨rfl, rfl⟩
              go_wp2_with fail
              refine (putC2 ⟨#[98]⟩ fi (t.to i) _ (by decide)).mono ?_
              rintro o w2 ⟨m, e1, Q⟩
              unfold Cm.agg at e1
              subst e1
              have L2 : Hid (LV w w2 ts i p c ms) := (T.out.2.1.k0 ((Kept.refl _ _).alloc _)).k0 Q.k
              have Q2 : Hid (m.cl = t.call i (valAt ts i) ∧ Reads w2 m.va m.vn m.vc m.val ∧ (∀ a, m.va = some a → ∃ C fr, w2.heap[a.block]? = some (.cells C 5 fr))) := ⟨by rw [Q.cl]; unfold Tn.call; rw [if_pos HP.out.1, if_neg (by rw [HP.out.2]; simp), V3.out, HE.out.1], Q.rd, Q.ty⟩
              clear Q
              go_upto_region 18 with
                (first | (at_builtin; refine wpList_append_all _ rfl (.tmp 68) (.tmp 73) 23 33 23 _ 11 112 rfl Try.underlying23 Try.info33c rfl w.heap.size (.slice p i c) i (ccells ms) rfl (((Kept.refl (fun _ => False) w2).alloc _).owns L2.out.row.row (fun _ _ z => z)) _ 1 (ccells [m]) rfl (src_call (heap_alloc_new w2 _)) vb.out.1 vb.out.2 (Nat.le_trans L2.out.kept.size ((Kept.refl (fun _ => False) w2).alloc _).size) ?_; intro p9 c9 w9 ho hg hn) | fail)
              have G : Hid (LV w w9 ts (i + 1) p9 c9 (ms ++ [m])) := L2.out.add T.out.2.2.1 Q2.out.1 Q2.out.2.1 Q2.out.2.2 ho.out rfl hg.out
              clear ho hg hn
              go_wp2_with fail
              go_roundw
              case rel => exact ⟨i + 1, c9, p9, ⟨#[98]⟩, rfl, rfl, by go_num, by omega, by omega, by rw [val_step T.out.2.2.1]; unfold Tn.next; rw [if_pos HP.out.1, if_neg (by rw [HP.out.2]; simp)]; exact V3.out.symm, _, G.out⟩
              case measure => simp [intOf] <;> omega
            · have V3 : Hid (val3 t.val = ⟨#[99]⟩) := by
                show val3 t.val = _
                unfold val3
                rw [if_neg (by omega), if_neg (by omega)]
              go_wp2_with fail
              refine (M4.out _ 2 r3).mono ?_
              rintro o w5 ⟨rfl, rfl⟩
              go_wp2_with fail
              refine (putC2 ⟨#[99]⟩ fi (t.to i) _ (by decide)).mono ?_
              rintro o w2 ⟨m, e1, Q⟩
              unfold Cm.agg at e1
              subst e1
              have L2 : Hid (LV w w2 ts i p c ms) := (T.out.2.1.k0 ((Kept.refl _ _).alloc _)).k0 Q.k
              have Q2 : Hid (m.cl = t.call i (valAt ts i) ∧ Reads w2 m.va m.vn m.vc m.val ∧ (∀ a, m.va = some a → ∃ C fr, w2.heap[a.block]? = some (.cells C 5 fr))) := ⟨by rw [Q.cl]; unfold Tn.call; rw [if_pos HP.out.1, if_neg (by rw [HP.out.2]; simp), V3.out, HE.out.1], Q.rd, Q.ty⟩
              clear Q
              go_upto_region 18 with
                (first | (at_builtin; refine wpList_append_all _ rfl (.tmp 68) (.tmp 73) 23 33 23 _ 11 112 rfl Try.underlying23 Try.info33c rfl w.heap.size (.slice p i c) i (ccells ms) rfl (((Kept.refl (fun _ => False) w2).alloc _).owns L2.out.row.row (fun _ _ z => z)) _ 1 (ccells [m]) rfl (src_call (heap_alloc_new w2 _)) vb.out.1 vb.out.2 (Nat.le_trans L2.out.kept.size ((Kept.refl (fun _ => False) w2).alloc _).size) ?_; intro p9 c9 w9 ho hg hn) | fail)
              have G : Hid (LV w w9 ts (i + 1) p9 c9 (ms ++ [m])) := L2.out.add T.out.2.2.1 Q2.out.1 Q2.out.2.1 Q2.out.2.2 ho.out rfl hg.out
              clear ho hg hn
              go_wp2_with fail
              go_roundw
              case rel => exact ⟨i + 1, c9, p9, ⟨#[99]⟩, rfl, rfl, by go_num, by omega, by omega, by rw [val_step T.out.2.2.1]; unfold Tn.next; rw [if_pos HP.out.1, if_neg (by rw [HP.out.2]; simp)]; exact V3.out.symm, _, G.out⟩
              case measure => simp [intOf] <;> omega
    · have i1 : ¬ (i : Int) < (n : Int) := by omega
      have G : Hid (LivedQ w ts p i c wo) := lv.done (by have := H.out.len; omega) h24
      clear lv hvs S
      go_wp2_with fail
      go_ret
      exact ⟨p, i, c, rfl, G⟩
end Go.Proofs.Ytginpoofeliimaa
