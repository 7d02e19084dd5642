import Derived.Test.YtginpoofeliimaaWMem
import Derived.Test.YtginpoofeliimaaHTake
import Derived.Test.YtginpoofeliimaaQMath
namespace Go.Proofs.Ytginpoofeliimaa
open Go.RowKit 

set_option maxRecDepth 100000 in
set_option maxHeartbeats 8000000 in
theorem onesW {w : World} {p0 : Option Addr} {n c0 : Nat} {ms : List Cm} (cr : CRd w p0 n c0 ms) (hb : n ≤ 1300000000000) (hv : ∀ m ∈ ms, m.vn + 1 ≤ 140737488355328) : Calls Try.prog 6 #[.slice p0 n c0] w fun o w' => o = .returned (.bool true) ∧ Kept (fun _ => False) w w' := by
  have rm := cr.room
  have sm := cr.small
  unfold maxLen at sm
  have hn : ms.length = n := cr.len
  have H : Hid (CRd w p0 n c0 ms ∧ ∀ m ∈ ms, m.vn + 1 ≤ 140737488355328) := ⟨cr, hv⟩
  clear cr hv
  go_enter Try.func6, Try.ntmps6
  go_wp2_with fail
  refine (rOne H.out.1 hb).mono ?_
  rintro o w1 ⟨q1, k1, c1, is, f, rfl, Q1⟩
  have HQ : Hid (OneQ ms w q1 k1 c1 is f w1) := Q1
  have S0 : Hid (∃ L, IR w1 w1 ms 0 none 0 L) := ⟨[], IR.nil w1 ms⟩
  clear Q1
  go_wp2_with fail
  go_loopw [6, 8, 26] (fun u6 _ u26 wy => ∃ (i c : Nat) (p : Option Addr), u6 = .slice p i c ∧ u26 = .int .i64 (i : Int) ∧ i ≤ n ∧ Hid (∃ L, IR w1 wy ms i p c L)) (fun _ _ u26 _ => n - (intOf u26).toNat)
  case atStart => exact ⟨0, 0, none, rfl, rfl, Nat.zero_le _, S0⟩
  case round =>
    obtain ⟨i, c, p, rfl, rfl, hi, SH⟩ := hrel
    clear S0
    obtain ⟨L, s⟩ := SH.out
    have S : Hid (IR w1 wr ms i p c L) := s
    clear SH s
    obtain ⟨wo, hwo⟩ : ∃ wo, wo = wr := ⟨_, rfl⟩
    rw [← hwo] at S ⊢
    clear hwo
    by_cases hlt : i < n
    · have i1 : (i : Int) < (n : Int) := by omega
      obtain ⟨b9, off9, m, rfl, hm, y0, y1, y2, y3, y4, y5, y6, y7, y8, y9, y10, rd⟩ := (H.out.1.k0 (HQ.out.k.trans S.out.kept (fun _ _ z => z))).at hlt
      obtain ⟨W, hW⟩ : ∃ W, W = wo.alloc (.cells m.cs 33) := ⟨_, rfl⟩
      obtain ⟨E, hE⟩ : ∃ E, E = wo.heap.size := ⟨_, rfl⟩
      have KW : Kept (fun _ => False) wo W := by rw [hW]; exact (Kept.refl _ _).alloc _
      have T : Hid (W.heap[E]? = some (.cells m.cs 33 (0, 0)) ∧ (IR w1 wo ms i p c L ∧ Kept (fun _ => False) wo W) ∧ Reads W m.va m.vn m.vc m.val ∧ wo.heap.size ≤ E ∧ w1.heap.size ≤ E ∧ E < W.heap.size) := ⟨by rw [hW, hE]; exact alloc_new _ _, ⟨S.out, KW⟩, Reads.kept KW rd (fun _ _ z => z), by omega, by have := S.out.kept.size; omega, by rw [hW, alloc_size]; omega⟩
      have EWH : Hid (W = wo.alloc (.cells #[.int .i64 m.client, .int .i64 m.op, .bool m.put, .string m.key, .slice m.va m.vn m.vc, .int .i64 m.st, .int .i64 m.frm, .int .i64 m.to, .bool m.opn, .int .i64 m.tx, .int .i64 m.ty] 33) ∧ E = wo.heap.size) := ⟨hW, hE⟩
      have HM : Hid (ms[i]? = some m ∧ m.vn + 1 ≤ 140737488355328) := ⟨hm, H.out.2 m (List.mem_of_getElem? hm)⟩
      clear hW hE hm KW rd S
      go_upto_region 6 with fail
      rw [← EWH.out.1, ← EWH.out.2]
      clear EWH y0 y1 y2 y3 y4 y5 y6 y7 y8 y9 y10
      have d4 := cell_blk T.out.1 4 (v := .slice m.va m.vn m.vc) rfl
      have ltE : E < W.heap.size := T.out.2.2.2.2.2
      go_upto_region 7 with
        (first
          | (at_builtin; refine wpList_append_bytes _ rfl (.tmp 30) (.tmp 32) rfl W.heap.size (.slice (some ⟨W.heap.size, 0, none⟩) 0 0) 0 [] rfl (own_empty5 W) _ m.vn m.val rfl (Reads.src (Reads.kept ((Kept.refl (fun _ => False) W).alloc _) T.out.2.2.1 (fun _ _ z => z))) (by have := HM.out.2; omega) ((Kept.refl (fun _ => False) W).alloc _).size ?_; intro p6 c6 w6 ho hg hn6
             have KG : Kept (fun j => j = W.heap.size) W w6 := ((Kept.refl (fun j => j = W.heap.size) W).alloc _).grown hg.out (fun j _ z => by have z : some W.heap.size = some j := z; injection z with z; exact z.symm)
             have B6 : w6.heap[E]? = some (.cells m.cs 33 (0, 0)) := KG.get T.out.1 (by omega)
             have e4 := cell_blk B6 4 (v := .slice m.va m.vn m.vc) rfl
             have e4f := soft_blk B6 4
             have O6 : w6.ownsRow W.heap.size 5 1 (.slice p6 m.vn c6) m.vn (cellsOf m.val) := by
               have := ho.out
               rw [Nat.zero_add, List.nil_append] at this
               exact this
             have nE : ∀ j, blockOf p6 = some j → j ≠ E := fun j hj z => by
               obtain ⟨cs, hc⟩ := own_type O6 j hj
               rw [z, B6] at hc
               simp at hc
             have F6 : Hid ((w6.setCell ⟨E, 4, none⟩ (.slice p6 m.vn c6)).heap[E]? = some (.cells (Cm.cs ⟨m.client, m.op, m.put, m.key, p6, m.vn, c6, m.st, m.frm, m.to, m.opn, m.tx, m.ty, m.val⟩) 33 (0, 0)) ∧ (w6.setCell ⟨E, 4, none⟩ (.slice p6 m.vn c6)).ownsRow W.heap.size 5 1 (.slice p6 m.vn c6) m.vn (cellsOf m.val) ∧ Kept (fun _ => False) wo (w6.setCell ⟨E, 4, none⟩ (.slice p6 m.vn c6)) ∧ W.heap.size ≤ (w6.setCell ⟨E, 4, none⟩ (.slice p6 m.vn c6)).heap.size) := by
               refine ⟨set_heap B6 4 _, ?_, ?_, Nat.le_trans KG.size ((Kept.refl (fun j => j = E) w6).setCell (p := ⟨E, 4, none⟩) (fun _ => rfl) _).size⟩
               · exact ((Kept.refl (fun j => j = E) w6).setCell (p := ⟨E, 4, none⟩) (fun _ => rfl) _).owns O6 (fun j hj z => by rw [blockOf_own] at hj; exact nE j hj z)
               · refine kept_set (Kept.own T.out.2.1.2 KG (fun j z => ?_)) T.out.2.2.2.1 _ _
                 have := T.out.2.1.2.size
                 have z : j = W.heap.size := z
                 omega
             clear KG B6 O6 nE ho hg hn6)
          | fail)
      obtain ⟨X7, hX7⟩ : ∃ X7, X7 = w6.setCell ⟨E, 4, none⟩ (.slice p6 m.vn c6) := ⟨_, rfl⟩
      rw [← hX7] at F6 ⊢
      clear hX7 e4 e4f d4
      have g4 := cell_blk F6.out.1 4 (v := .slice p6 m.vn c6) rfl
      have ltX : E < X7.heap.size := block_lt F6.out.1
      have BL : Hid (m.vn + 1 ≤ maxLen ∧ ((m.vn + 1) + (m.vn + 1) / 4 + 192) * 1 ≤ 281474976710656) := by
        have := HM.out.2
        unfold maxLen
        exact ⟨by omega, by omega⟩
      go_cut [35] from 36 to 43 (fun _ wc => Hid (∃ (p9 : Option Addr) (c9 : Nat), wc.heap[E]? = some (.cells (Cm.cs ⟨m.client, m.op, m.put, m.key, p9, m.vn, c9, m.st, m.frm, m.to, m.opn, m.tx, m.ty, m.val⟩) 33 (0, 0)) ∧ Kept (fun _ => False) wo wc ∧ Reads wc p9 m.vn c9 m.val ∧ Sp wc ⟨m.client, m.op, m.put, m.key, p9, m.vn, c9, m.st, m.frm, m.to, m.opn, m.tx, m.ty, m.val⟩))
      case first =>
        go_region_law
          (first
            | (refine step_append_all _ (by rfl) (.tmp 36) (.tmp 37) 29 5 29 _ 1 1 (by rfl) Try.underlying29 Try.info5 rfl W.heap.size (.slice p6 m.vn c6) m.vn (cellsOf m.val) (by rfl) ((((Kept.refl (fun _ => False) X7).alloc _).drew).owns F6.out.2.1 (fun _ _ z => z)) _ 1 (cellsOf [7]) (by rfl) (src_seven (heap_alloc_new X7 _)) BL.out.1 BL.out.2 (Nat.le_trans F6.out.2.2.2 (((Kept.refl (fun _ => False) X7).alloc _).drew).size) ?_; intro p9 c9 w9 ho hg hn9
               have KG9 : Kept (fun j => blockOf p6 = some j) X7 w9 := (((Kept.refl (fun j => blockOf p6 = some j) X7).alloc _).drew).grown hg.out (fun j _ z => by rw [blockOf_own] at z; exact z)
               have B9 : w9.heap[E]? = some (.cells (Cm.cs ⟨m.client, m.op, m.put, m.key, p6, m.vn, c6, m.st, m.frm, m.to, m.opn, m.tx, m.ty, m.val⟩) 33 (0, 0)) := KG9.get F6.out.1 (fun z => by
                 obtain ⟨cs, hc⟩ := own_type F6.out.2.1 E z
                 rw [F6.out.1] at hc
                 simp at hc)
               have e9 := cell_blk B9 4 (v := .slice p6 m.vn c6) rfl
               have e9f := soft_blk B9 4
               have sl := slice_to ho.out m.vn (by omega)
               have F9 : Hid ((w9.setCell ⟨E, 4, none⟩ (.slice p9 m.vn c9)).heap[E]? = some (.cells (Cm.cs ⟨m.client, m.op, m.put, m.key, p9, m.vn, c9, m.st, m.frm, m.to, m.opn, m.tx, m.ty, m.val⟩) 33 (0, 0)) ∧ Kept (fun _ => False) wo (w9.setCell ⟨E, 4, none⟩ (.slice p9 m.vn c9)) ∧ Reads (w9.setCell ⟨E, 4, none⟩ (.slice p9 m.vn c9)) p9 m.vn c9 m.val ∧ Sp (w9.setCell ⟨E, 4, none⟩ (.slice p9 m.vn c9)) ⟨m.client, m.op, m.put, m.key, p9, m.vn, c9, m.st, m.frm, m.to, m.opn, m.tx, m.ty, m.val⟩) := by
                 obtain ⟨g, C, hp, hge, hgC, hc1, hc2, rd9⟩ := own_spare (l := m.val) (by rw [cellsOf_append]; exact ho.out) T.out.2.2.1.length T.out.2.2.1.bytes
                 have ngE : g ≠ E := fun z => by rw [z, B9] at hgC; simp at hgC
                 refine ⟨set_heap B9 4 _, kept_set (Kept.own F6.out.2.2.1 KG9 (fun j z => ?_)) T.out.2.2.2.1 _ _, reads_set rd9 (fun a ha => ?_) 4 _, g, C, hp, (set_other 4 _ ngE).trans hgC, hc1, hc2⟩
                 · have h1 := (own_lt F6.out.2.1 j z).1
                   have h2 := T.out.2.1.2.size
                   omega
                 · rw [hp] at ha
                   injection ha with ha
                   rw [← ha]
                   exact ngE
               clear KG9 B9 ho hg hn9)
            | fail)
        all_goals go_wp2_with fail
        all_goals go_meet
        all_goals exact ⟨p9, c9, F9.out⟩
      case rest =>
      obtain ⟨p9, c9, F⟩ := hcut
      have F9 : Hid (wc.heap[E]? = some (.cells (Cm.cs ⟨m.client, m.op, m.put, m.key, p9, m.vn, c9, m.st, m.frm, m.to, m.opn, m.tx, m.ty, m.val⟩) 33 (0, 0)) ∧ Kept (fun _ => False) wo wc ∧ Reads wc p9 m.vn c9 m.val ∧ Sp wc ⟨m.client, m.op, m.put, m.key, p9, m.vn, c9, m.st, m.frm, m.to, m.opn, m.tx, m.ty, m.val⟩) := F
      have I9 : Hid (IR w1 wc ms i p c L) := T.out.2.1.1.k0 F9.out.2.1
      clear F F6 g4 ltX
      have d0 := cell_blk F9.out.1 0 (v := .int .i64 m.client) rfl
      have d1 := cell_blk F9.out.1 1 (v := .int .i64 m.op) rfl
      have d2 := cell_blk F9.out.1 2 (v := .bool m.put) rfl
      have d3 := cell_blk F9.out.1 3 (v := .string m.key) rfl
      have d4 := cell_blk F9.out.1 4 (v := .slice p9 m.vn c9) rfl
      have d5 := cell_blk F9.out.1 5 (v := .int .i64 m.st) rfl
      have d6 := cell_blk F9.out.1 6 (v := .int .i64 m.frm) rfl
      have d7 := cell_blk F9.out.1 7 (v := .int .i64 m.to) rfl
      have d8 := cell_blk F9.out.1 8 (v := .bool m.opn) rfl
      have d9 := cell_blk F9.out.1 9 (v := .int .i64 m.tx) rfl
      have d10 := cell_blk F9.out.1 10 (v := .int .i64 m.ty) rfl
      have vb : Hid (i + 1 ≤ maxLen ∧ ((i + 1) + (i + 1) / 4 + 192) * 112 ≤ 281474976710656) := bl_calls hlt hb
      go_upto_region 9 with
        (first | (at_builtin; refine wpList_append_all _ rfl (.tmp 44) (.tmp 46) 23 33 23 _ 11 112 rfl Try.underlying23 Try.info33c rfl w1.heap.size (.slice p i c) i (ccells L) rfl ((I9.out.k0 ((Kept.refl (fun _ => False) wc).alloc _)).qr.row.row) _ 1 (ccells [⟨m.client, m.op, m.put, m.key, p9, m.vn, c9, m.st, m.frm, m.to, m.opn, m.tx, m.ty, m.val⟩]) rfl (src_calls [⟨m.client, m.op, m.put, m.key, p9, m.vn, c9, m.st, m.frm, m.to, m.opn, m.tx, m.ty, m.val⟩] 1 rfl (heap_alloc_new wc _)) vb.out.1 vb.out.2 (Nat.le_trans I9.out.kept.size ((Kept.refl (fun _ => False) wc).alloc _).size) ?_; intro pa ca wa ho hg hn9) | fail)
      have G : Hid (∃ L, IR w1 wa ms (i + 1) pa ca L) := ⟨_, I9.out.grow HM.out.1 (m := ⟨m.client, m.op, m.put, m.key, p9, m.vn, c9, m.st, m.frm, m.to, m.opn, m.tx, m.ty, m.val⟩) rfl F9.out.2.2.1 F9.out.2.2.2 ho.out hg.out⟩
      clear ho hg hn9
      go_wp2_with fail
      go_roundw
      case rel => exact ⟨i + 1, ca, pa, rfl, by go_num, by omega, G⟩
      case measure => simp [intOf] <;> omega
    · have i1 : ¬ (i : Int) < (n : Int) := by omega
      have ei : n = i := by omega
      subst ei
      have vb : Hid (n + 1 ≤ maxLen ∧ ((n + 1) + (n + 1) / 4 + 192) * 112 ≤ 281474976710656) := by
        unfold maxLen
        exact ⟨by omega, by omega⟩
      obtain ⟨n1, hn1⟩ : ∃ n1, n1 = n + 1 := ⟨_, rfl⟩
      have wn : wrap64 ((n : Int) + 1) = (n1 : Int) := by unfold wrap64; omega
      have wn' : IntKind.i64.wrap ((n : Int) + 1) = (n1 : Int) := by rw [IntKind.wrap_i64]; omega
      have nn1 : (n : Int) < (n1 : Int) := by omega
      go_upto_region 11 with
        (first | (at_builtin; refine wpList_append_all _ rfl (.tmp 49) (.tmp 51) 23 33 23 _ 11 112 rfl Try.underlying23 Try.info33c rfl w1.heap.size (.slice p n c) n (ccells L) rfl ((S.out.k0 ((Kept.refl (fun _ => False) wo).alloc _)).qr.row.row) _ 1 (ccells [m7]) rfl (src_calls [m7] 1 rfl (heap_alloc_new wo _)) vb.out.1 vb.out.2 (Nat.le_trans S.out.kept.size ((Kept.refl (fun _ => False) wo).alloc _).size) ?_; intro pa ca wa ho hg hn9
                  obtain ⟨g, rfl, hca, IN9⟩ := S.out.last ho.out hg.out
                  have slA := sl3 g (n + 1) ca n (by omega)
                  have IH9 : Hid (IN w1 wa ms n g ca L) := IN9
                  clear IN9 ho hg hn9) | fail)
      have slB : ∀ V : World, (Instr.slice 23 (.slice (some ⟨g, 0, none⟩) n ca) none (some (.int .i64 (n1 : Int))) none).run Try.prog V = .ok (.slice (some ⟨g, 0, none⟩) n1 ca) V := sl3 g n ca n1 (by omega)
      clear slA vb S
      go_wp2_with fail
      refine (one IH9.out.crd hb).mono ?_
      rintro o w3 ⟨q3, k3, c3, ok, er, rfl, Q3⟩
      obtain ⟨R3, os3, nr3⟩ := Q3.ans
      obtain ⟨R1, os1, nr1⟩ := HQ.out.ans
      rw [IH9.out.cl hn] at os3
      obtain ⟨rfl, rfl, rfl⟩ := os3.same os1
      have OSH : Hid (OneS (ms.map Cm.cl) R3 ok er) := os3
      have Z3 : Hid (IN w1 w3 ms n g ca L ∧ NRow wa.heap.size w3 q3 k3 c3 R3 ∧ NRow w.heap.size w3 q1 k1 c1 R3 ∧ Kept (fun _ => False) wa w3) := ⟨IH9.out.k0 Q3.k, nr3, (nr1.k0 IH9.out.kept).k0 Q3.k, Q3.k⟩
      have CWA : Hid (IN w1 wa ms n g ca L ∧ NRow w.heap.size wa q1 k1 c1 R3 ∧ CRd wa p0 n c0 ms ∧ Kept (fun _ => False) w wa) := ⟨IH9.out, nr1.k0 IH9.out.kept, H.out.1.k0 (HQ.out.k.trans IH9.out.kept (fun _ _ z => z)), HQ.out.k.trans IH9.out.kept (fun _ _ z => z)⟩
      clear Q3 os3 os1 nr3 nr1 IH9
      go_wp2_with fail
      refine (sameInts Z3.out.2.1 Z3.out.2.2.1).mono ?_
      rintro o w4 ⟨rfl, K4⟩
      have Z4 : Hid (IN w1 w4 ms n g ca L ∧ NRow wa.heap.size w4 q3 k3 c3 R3 ∧ NRow w.heap.size w4 q1 k1 c1 R3 ∧ Kept (fun _ => False) wa w4) := ⟨Z3.out.1.k0 K4, Z3.out.2.1.k0 K4, Z3.out.2.2.1.k0 K4, Z3.out.2.2.2.trans K4 (fun _ _ z => z)⟩
      have mk := Z4.out.1.mark
      have rmA := Z4.out.1.qr.crd.small
      unfold maxLen at rmA
      clear K4 Z3
      go_wp2_with fail
      go_loopw [12, 13, 91] (fun _ _ u91 wy => ∃ i : Nat, u91 = .int .i64 (i : Int) ∧ i ≤ n ∧ Hid (Kept (fun _ => False) w4 wy)) (fun _ _ u91 _ => n - (intOf u91).toNat)
      case atStart => exact ⟨0, rfl, Nat.zero_le _, Kept.refl _ _⟩
      case round =>
        obtain ⟨i, rfl, hi2, K⟩ := hrel
        clear mk
        obtain ⟨wb, hwb⟩ : ∃ wb, wb = wr := ⟨_, rfl⟩
        rw [← hwb] at K ⊢
        clear hwb
        by_cases hlt : i < n
        · have i2 : (i : Int) < (n : Int) := by omega
          obtain ⟨mx, mb, ha, hmb, hk⟩ := Z4.out.1.alk i hlt
          obtain ⟨b8, off8, ma, rfl, hmx, y0, y1, y2, y3, y4, y5, y6, y7, y8, y9, y10, rda⟩ := (CWA.out.2.2.1.k0 (Z4.out.2.2.2.trans K.out (fun _ _ z => z))).at hlt
          have emx : mx = ma := by rw [ha] at hmx; exact Option.some.inj hmx
          subst emx
          have IB := Z4.out.1.k0 K.out
          obtain ⟨gv, C, hva, hgv, hvc, hC⟩ := IB.sp mb (List.mem_of_getElem? hmb)
          have rdb := IB.crd.rd mb (List.mem_of_getElem? hmb)
          have evl : mb.val = mx.val := by rw [hk]
          have evn : mb.vn = mx.vn := by
            have h1 := rdb.length
            have h2 := rda.length
            rw [evl] at h1
            omega
          rw [hva, evn, evl] at rdb
          rw [evn] at hvc hC
          obtain ⟨ma, hma⟩ : ∃ ma, ma = mx := ⟨_, rfl⟩
          rw [← hma] at y0 y1 y2 y3 y4 y5 y6 y7 y8 y9 y10 rda rdb hvc hC evn
          have z0 : wb.cell? ⟨g, i * 11, none⟩ = some (.int .i64 ma.client) := IB.at hmb 0 (v := .int .i64 ma.client) (by rw [hma, hk]; rfl)
          have z1 : wb.cell? ⟨g, i * 11 + 1, none⟩ = some (.int .i64 ma.op) := IB.at hmb 1 (v := .int .i64 ma.op) (by rw [hma, hk]; rfl)
          have z2 : wb.cell? ⟨g, i * 11 + 2, none⟩ = some (.bool ma.put) := IB.at hmb 2 (v := .bool ma.put) (by rw [hma, hk]; rfl)
          have z3 : wb.cell? ⟨g, i * 11 + 3, none⟩ = some (.string ma.key) := IB.at hmb 3 (v := .string ma.key) (by rw [hma, hk]; rfl)
          have z4 := IB.at hmb 4 (v := .slice (some ⟨gv, 0, none⟩) ma.vn mb.vc) (by rw [← hva, ← evn]; rfl)
          have z5 : wb.cell? ⟨g, i * 11 + 5, none⟩ = some (.int .i64 ma.st) := IB.at hmb 5 (v := .int .i64 ma.st) (by rw [hma, hk]; rfl)
          have z6 : wb.cell? ⟨g, i * 11 + 6, none⟩ = some (.int .i64 ma.frm) := IB.at hmb 6 (v := .int .i64 ma.frm) (by rw [hma, hk]; rfl)
          have z7 : wb.cell? ⟨g, i * 11 + 7, none⟩ = some (.int .i64 ma.to) := IB.at hmb 7 (v := .int .i64 ma.to) (by rw [hma, hk]; rfl)
          have z8 : wb.cell? ⟨g, i * 11 + 8, none⟩ = some (.bool ma.opn) := IB.at hmb 8 (v := .bool ma.opn) (by rw [hma, hk]; rfl)
          have z9 : wb.cell? ⟨g, i * 11 + 9, none⟩ = some (.int .i64 ma.tx) := IB.at hmb 9 (v := .int .i64 ma.tx) (by rw [hma, hk]; rfl)
          have z10 : wb.cell? ⟨g, i * 11 + 10, none⟩ = some (.int .i64 ma.ty) := IB.at hmb 10 (v := .int .i64 ma.ty) (by rw [hma, hk]; rfl)
          have cb := cell_blk hgv ma.vn hC
          have HMA : Hid (mb.vc ≤ maxLen) := rdb.small
          have vnl : ma.vn + 1 ≤ 140737488355328 := by rw [hma]; exact H.out.2 mx (List.mem_of_getElem? ha)
          obtain ⟨v1, hv1⟩ : ∃ v1, v1 = ma.vn + 1 := ⟨_, rfl⟩
          obtain ⟨wv, wv', vv1⟩ := wrap_one vnl hv1
          have slv : ∀ V : World, (Instr.slice 29 (.slice (some ⟨gv, 0, none⟩) ma.vn mb.vc) none (some (.int .i64 (v1 : Int))) none).run Try.prog V = .ok (.slice (some ⟨gv, 0, none⟩) v1 mb.vc) V := sl3c hvc hv1
          have RH : Hid (∀ V, Kept (fun _ => False) wb V → Reads V (some ⟨gv, 0, none⟩) ma.vn mb.vc ma.val ∧ Reads V ma.va ma.vn ma.vc ma.val) := fun V kv => ⟨Reads.kept kv rdb (fun _ _ z => z), Reads.kept kv rda (fun _ _ z => z)⟩
          have CS : Hid (wb.cell? ⟨g, i * 11, none⟩ = some (.int .i64 ma.client) ∧ wb.cell? ⟨g, i * 11 + 1, none⟩ = some (.int .i64 ma.op) ∧ wb.cell? ⟨g, i * 11 + 2, none⟩ = some (.bool ma.put) ∧ wb.cell? ⟨g, i * 11 + 3, none⟩ = some (.string ma.key) ∧ wb.cell? ⟨g, i * 11 + 4, none⟩ = some (.slice (some ⟨gv, 0, none⟩) ma.vn mb.vc) ∧ wb.cell? ⟨g, i * 11 + 5, none⟩ = some (.int .i64 ma.st) ∧ wb.cell? ⟨g, i * 11 + 6, none⟩ = some (.int .i64 ma.frm) ∧ wb.cell? ⟨g, i * 11 + 7, none⟩ = some (.int .i64 ma.to) ∧ wb.cell? ⟨g, i * 11 + 8, none⟩ = some (.bool ma.opn) ∧ wb.cell? ⟨g, i * 11 + 9, none⟩ = some (.int .i64 ma.tx) ∧ wb.cell? ⟨g, i * 11 + 10, none⟩ = some (.int .i64 ma.ty) ∧ wb.cell? ⟨b8, off8 + i * 11, none⟩ = some (.int .i64 ma.client) ∧ wb.cell? ⟨b8, off8 + i * 11 + 1, none⟩ = some (.int .i64 ma.op) ∧ wb.cell? ⟨b8, off8 + i * 11 + 2, none⟩ = some (.bool ma.put) ∧ wb.cell? ⟨b8, off8 + i * 11 + 3, none⟩ = some (.string ma.key) ∧ wb.cell? ⟨b8, off8 + i * 11 + 4, none⟩ = some (.slice ma.va ma.vn ma.vc) ∧ wb.cell? ⟨b8, off8 + i * 11 + 5, none⟩ = some (.int .i64 ma.st) ∧ wb.cell? ⟨b8, off8 + i * 11 + 6, none⟩ = some (.int .i64 ma.frm) ∧ wb.cell? ⟨b8, off8 + i * 11 + 7, none⟩ = some (.int .i64 ma.to) ∧ wb.cell? ⟨b8, off8 + i * 11 + 8, none⟩ = some (.bool ma.opn) ∧ wb.cell? ⟨b8, off8 + i * 11 + 9, none⟩ = some (.int .i64 ma.tx) ∧ wb.cell? ⟨b8, off8 + i * 11 + 10, none⟩ = some (.int .i64 ma.ty) ∧ wb.cell? ⟨gv, ma.vn, none⟩ = some (.int .u8 7)) := ⟨z0, z1, z2, z3, z4, z5, z6, z7, z8, z9, z10, y0, y1, y2, y3, y4, y5, y6, y7, y8, y9, y10, cb⟩
          have KP : Hid (∀ V, Kept (fun _ => False) wb V → V.cell? ⟨g, i * 11, none⟩ = some (.int .i64 ma.client) ∧ V.cell? ⟨g, i * 11 + 1, none⟩ = some (.int .i64 ma.op) ∧ V.cell? ⟨g, i * 11 + 2, none⟩ = some (.bool ma.put) ∧ V.cell? ⟨g, i * 11 + 3, none⟩ = some (.string ma.key) ∧ V.cell? ⟨g, i * 11 + 4, none⟩ = some (.slice (some ⟨gv, 0, none⟩) ma.vn mb.vc) ∧ V.cell? ⟨g, i * 11 + 5, none⟩ = some (.int .i64 ma.st) ∧ V.cell? ⟨g, i * 11 + 6, none⟩ = some (.int .i64 ma.frm) ∧ V.cell? ⟨g, i * 11 + 7, none⟩ = some (.int .i64 ma.to) ∧ V.cell? ⟨g, i * 11 + 8, none⟩ = some (.bool ma.opn) ∧ V.cell? ⟨g, i * 11 + 9, none⟩ = some (.int .i64 ma.tx) ∧ V.cell? ⟨g, i * 11 + 10, none⟩ = some (.int .i64 ma.ty) ∧ V.cell? ⟨b8, off8 + i * 11, none⟩ = some (.int .i64 ma.client) ∧ V.cell? ⟨b8, off8 + i * 11 + 1, none⟩ = some (.int .i64 ma.op) ∧ V.cell? ⟨b8, off8 + i * 11 + 2, none⟩ = some (.bool ma.put) ∧ V.cell? ⟨b8, off8 + i * 11 + 3, none⟩ = some (.string ma.key) ∧ V.cell? ⟨b8, off8 + i * 11 + 4, none⟩ = some (.slice ma.va ma.vn ma.vc) ∧ V.cell? ⟨b8, off8 + i * 11 + 5, none⟩ = some (.int .i64 ma.st) ∧ V.cell? ⟨b8, off8 + i * 11 + 6, none⟩ = some (.int .i64 ma.frm) ∧ V.cell? ⟨b8, off8 + i * 11 + 7, none⟩ = some (.int .i64 ma.to) ∧ V.cell? ⟨b8, off8 + i * 11 + 8, none⟩ = some (.bool ma.opn) ∧ V.cell? ⟨b8, off8 + i * 11 + 9, none⟩ = some (.int .i64 ma.tx) ∧ V.cell? ⟨b8, off8 + i * 11 + 10, none⟩ = some (.int .i64 ma.ty) ∧ V.cell? ⟨gv, ma.vn, none⟩ = some (.int .u8 7)) := fun V kv => by
            obtain ⟨z0, z1, z2, z3, z4, z5, z6, z7, z8, z9, z10, y0, y1, y2, y3, y4, y5, y6, y7, y8, y9, y10, cb⟩ := CS.out
            exact ⟨kv.cell z0 (fun z => z), kv.cell z1 (fun z => z), kv.cell z2 (fun z => z), kv.cell z3 (fun z => z), kv.cell z4 (fun z => z), kv.cell z5 (fun z => z), kv.cell z6 (fun z => z), kv.cell z7 (fun z => z), kv.cell z8 (fun z => z), kv.cell z9 (fun z => z), kv.cell z10 (fun z => z), kv.cell y0 (fun z => z), kv.cell y1 (fun z => z), kv.cell y2 (fun z => z), kv.cell y3 (fun z => z), kv.cell y4 (fun z => z), kv.cell y5 (fun z => z), kv.cell y6 (fun z => z), kv.cell y7 (fun z => z), kv.cell y8 (fun z => z), kv.cell y9 (fun z => z), kv.cell y10 (fun z => z), kv.cell cb (fun z => z)⟩
          have kb : Kept (fun _ => False) wb wb.drew := (Kept.refl _ _).drew
          clear hva hgv hvc hC rdb rda evl evn hk ha hmx hmb IB hv1 CS HMA hma
          go_upto_region 18 with fail
          go_region_held3 (fun V => V.cell? ⟨g, i * 11, none⟩ = some (.int .i64 ma.client) ∧ V.cell? ⟨g, i * 11 + 1, none⟩ = some (.int .i64 ma.op) ∧ V.cell? ⟨g, i * 11 + 2, none⟩ = some (.bool ma.put) ∧ V.cell? ⟨g, i * 11 + 3, none⟩ = some (.string ma.key) ∧ V.cell? ⟨g, i * 11 + 4, none⟩ = some (.slice (some ⟨gv, 0, none⟩) ma.vn mb.vc) ∧ V.cell? ⟨g, i * 11 + 5, none⟩ = some (.int .i64 ma.st) ∧ V.cell? ⟨g, i * 11 + 6, none⟩ = some (.int .i64 ma.frm) ∧ V.cell? ⟨g, i * 11 + 7, none⟩ = some (.int .i64 ma.to) ∧ V.cell? ⟨g, i * 11 + 8, none⟩ = some (.bool ma.opn) ∧ V.cell? ⟨g, i * 11 + 9, none⟩ = some (.int .i64 ma.tx) ∧ V.cell? ⟨g, i * 11 + 10, none⟩ = some (.int .i64 ma.ty) ∧ V.cell? ⟨b8, off8 + i * 11, none⟩ = some (.int .i64 ma.client) ∧ V.cell? ⟨b8, off8 + i * 11 + 1, none⟩ = some (.int .i64 ma.op) ∧ V.cell? ⟨b8, off8 + i * 11 + 2, none⟩ = some (.bool ma.put) ∧ V.cell? ⟨b8, off8 + i * 11 + 3, none⟩ = some (.string ma.key) ∧ V.cell? ⟨b8, off8 + i * 11 + 4, none⟩ = some (.slice ma.va ma.vn ma.vc) ∧ V.cell? ⟨b8, off8 + i * 11 + 5, none⟩ = some (.int .i64 ma.st) ∧ V.cell? ⟨b8, off8 + i * 11 + 6, none⟩ = some (.int .i64 ma.frm) ∧ V.cell? ⟨b8, off8 + i * 11 + 7, none⟩ = some (.int .i64 ma.to) ∧ V.cell? ⟨b8, off8 + i * 11 + 8, none⟩ = some (.bool ma.opn) ∧ V.cell? ⟨b8, off8 + i * 11 + 9, none⟩ = some (.int .i64 ma.tx) ∧ V.cell? ⟨b8, off8 + i * 11 + 10, none⟩ = some (.int .i64 ma.ty) ∧ V.cell? ⟨gv, ma.vn, none⟩ = some (.int .u8 7) ∧ Kept (fun _ => False) wb V) (go_keep)
            (first | (go_at_call 18; refine (sameCallC ma.client ma.op ma.put ma.key ma.st ma.frm ma.to ma.opn ma.tx ma.ty ma.val (some ⟨gv, 0, none⟩) ma.vn mb.vc ma.va ma.vn ma.vc (RH.out _ (by assumption)).1 (RH.out _ (by assumption)).2).mono ?_; rintro o w5 ⟨rfl, K5'⟩; have K5 : Kept (fun _ => False) wb w5 := Kept.trans (by assumption) K5' (fun _ _ z => z); obtain ⟨xz0, xz1, xz2, xz3, xz4, xz5, xz6, xz7, xz8, xz9, xz10, xy0, xy1, xy2, xy3, xy4, xy5, xy6, xy7, xy8, xy9, xy10, xcb⟩ := KP.out w5 K5; clear K5') | fail)
          go_wp2_with fail
          go_roundw
          case rel => exact ⟨i + 1, by go_num, Nat.succ_le_of_lt hlt, K.out.trans K5 (fun _ _ z => z)⟩
          case measure => simp [intOf] <;> omega
        · have i2 : ¬ (i : Int) < (n : Int) := by omega
          have R0 : Hid (∃ xs, wb.ownsRow wa.heap.size 3 1 (.slice q3 k3 c3) k3 xs ∧ Kept (fun _ => False) wa wb) := ⟨_, (Z4.out.2.1.k0 K.out).row, Z4.out.2.2.2.trans K.out (fun _ _ z => z)⟩
          have rk3 := own_room Z4.out.2.1.row
          unfold maxLen at rk3
          obtain ⟨rk31, rk32⟩ := rk3
          clear Z4 K
          go_wp2_with fail
          go_loopw [14, 127] (fun _ u127 wy => ∃ j : Nat, u127 = .int .i64 (j : Int) ∧ j ≤ k3 ∧ Hid (∃ xs, wy.ownsRow wa.heap.size 3 1 (.slice q3 k3 c3) k3 xs ∧ Kept (fun _ => False) wa wy)) (fun _ u127 _ => k3 - (intOf u127).toNat)
          case atStart => exact ⟨0, rfl, Nat.zero_le _, R0⟩
          case round =>
            obtain ⟨j, rfl, hj, X⟩ := hrel
            clear R0
            obtain ⟨wd, hwd⟩ : ∃ wd, wd = wr := ⟨_, rfl⟩
            rw [← hwd] at X ⊢
            clear hwd
            obtain ⟨xs, x1, x2⟩ := X.out
            by_cases hjk : j < k3
            · have j1 : (j : Int) < (k3 : Int) := by omega
              have hx0 : xs.length = k3 := by have := x1.1; omega
              obtain ⟨g3, cur3, rfl, hg3, hb3⟩ : ∃ g3 cur3, q3 = some ⟨g3, 0, none⟩ ∧ wa.heap.size ≤ g3 ∧ wd.heap[g3]? = some (.cells cur3 3 (0, 0)) := by
                rcases x1.2 with ⟨_, e⟩ | ⟨g3, cap, cur, e, h1, h2, _⟩
                · omega
                · simp at e
                  exact ⟨g3, cur, e.1, h1, h2⟩
              obtain ⟨xj, hxj⟩ : ∃ xj, xs[j]? = some xj := ⟨_, List.getElem?_eq_getElem (show j < xs.length by omega)⟩
              have cj := x1.cells (g := g3) rfl j xj hxj
              rw [Addr.add_none, Nat.zero_add] at cj
              have fj := soft_blk hb3 j
              have XN : Hid (∃ xs, (wd.setCell ⟨g3, j, none⟩ (.int .i64 (-1))).ownsRow wa.heap.size 3 1 (.slice (some ⟨g3, 0, none⟩) k3 c3) k3 xs ∧ Kept (fun _ => False) wa (wd.setCell ⟨g3, j, none⟩ (.int .i64 (-1)))) := ⟨_, owns_set x1 j _, kept_set x2 hg3 _ _⟩
              clear x1 x2 hb3 X hx0 hxj
              go_wp2_with fail
              go_roundw
              case rel => exact ⟨j + 1, by go_num, Nat.succ_le_of_lt hjk, XN⟩
              case measure => simp [intOf] <;> omega
            · have j1 : ¬ (j : Int) < (k3 : Int) := by omega
              have KD : Hid (Kept (fun _ => False) wa wd) := x2
              clear x1 x2 X
              go_wp2_with fail
              refine (one (CWA.out.1.k0 KD.out).crd hb).mono ?_
              rintro o w6 ⟨q6, k6, c6, ok6, er6, rfl, Q6⟩
              obtain ⟨R6, os6, nr6⟩ := Q6.ans
              rw [CWA.out.1.cl hn] at os6
              obtain ⟨rfl, rfl, rfl⟩ := os6.same OSH.out
              have Z6 : Hid (NRow wd.heap.size w6 q6 k6 c6 R6 ∧ NRow w.heap.size w6 q1 k1 c1 R6 ∧ Kept (fun _ => False) w w6) := ⟨nr6, (CWA.out.2.1.k0 KD.out).k0 Q6.k, (CWA.out.2.2.2.trans KD.out (fun _ _ z => z)).trans Q6.k (fun _ _ z => z)⟩
              clear Q6 os6 nr6
              go_wp2_with fail
              refine (sameInts Z6.out.1 Z6.out.2.1).mono ?_
              rintro o w7 ⟨rfl, K7⟩
              have Z7 : Hid (Kept (fun _ => False) w w7) := Z6.out.2.2.trans K7 (fun _ _ z => z)
              clear K7
              go_wp2_with fail
              refine (taken w7).mono ?_
              rintro o w8 ⟨rfl, K8⟩
              have Z8 : Hid (Kept (fun _ => False) w w8) := Z7.out.trans K8 (fun _ _ z => z)
              clear K8
              go_wp2_with fail
              go_ret
              exact ⟨by first | rfl | simp, Z8.out⟩
end Go.Proofs.Ytginpoofeliimaa
