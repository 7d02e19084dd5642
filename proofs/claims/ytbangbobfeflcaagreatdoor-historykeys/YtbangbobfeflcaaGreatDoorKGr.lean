import Derived.Test.YtbangbobfeflcaaGreatDoorKSt
import Derived.Deep.Cut
import Derived.BigQuiet
namespace Go.Proofs.YtbangbobfeflcaaGreatDoor
open Go.RowKit 

set_option maxRecDepth 100000 in
set_option maxHeartbeats 4000000 in
theorem hGrouS {w : World} {p0 : Option Addr} {n0 c0 : Nat} {es : List Ev} (er : ERd w p0 n0 c0 es) (hb : n0 ≤ 1500000000000) (ck : ∀ e ∈ es, strF e.key) : Calls Tryz.prog 38 #[.slice p0 n0 c0, .func (.func 39) #[] #[]] w fun o w' => ∃ mb, o = .returned (.map (some mb)) ∧ Hid (GT w es mb n0 w') := by
  have rm := er.room
  have sm := er.small
  unfold maxLen at sm
  have H : Hid (ERd w p0 n0 c0 es ∧ n0 ≤ 1500000000000 ∧ ∀ e ∈ es, strF e.key) := ⟨er, hb, ck⟩
  obtain ⟨mb, hmb⟩ : ∃ mb, mb = w.heap.size := ⟨_, rfl⟩
  obtain ⟨W0, hW0⟩ : ∃ W0, W0 = w.alloc (.map #[] 0) := ⟨_, rfl⟩
  have S0 : Hid (GT w es mb 0 W0) := by
    refine ⟨⟨0, fun _ => none, ?_, Nat.le_refl _, fun k _ => rfl, fun k s h => (by cases h), fun k k' s s' j h => (by cases h)⟩, by rw [hW0]; exact (Kept.refl _ _).alloc _, by omega, by rw [hW0, alloc_size]; omega⟩
    rw [hW0, hmb]
    exact TM.made w
  have E0 : Hid (mb = w.heap.size ∧ W0 = w.alloc (.map #[] 0)) := ⟨hmb, hW0⟩
  clear er hb ck hmb hW0
  have mk := run_makeMap (P := Tryz.prog) 69 w
  go_enter Tryz.func38, Tryz.ntmps38
  go_wp2_with fail
  rw [← E0.out.2, ← E0.out.1]
  go_loopw [6, 7, 8, 12] (fun _ _ _ u12 wr => ∃ i : Nat, u12 = .int .i64 (i : Int) ∧ i ≤ n0 ∧ Hid (GT w es mb i wr)) (fun _ _ _ u12 _ => n0 - (intOf u12).toNat)
  case atStart => exact ⟨0, rfl, Nat.zero_le _, S0⟩
  case round =>
    obtain ⟨i, rfl, hi, S⟩ := hrel
    clear S0
    obtain ⟨wo, hwo⟩ : ∃ wo, wo = wr := ⟨_, rfl⟩
    rw [← hwo] at S ⊢
    clear hwo
    by_cases hlt : i < n0
    · have i1 : (i : Int) < (n0 : Int) := by omega
      obtain ⟨b, off, e, rfl, he, c0', c1, c2, c3, c4, c5, c6, c7, c8, rd⟩ := (H.out.1.k0 S.out.kept).at hlt
      obtain ⟨W, hW⟩ : ∃ W, W = wo.alloc (.cells #[.int .i64 e.kind, .int .i64 e.client, .int .i64 e.op, .bool e.put, .string e.key, .slice e.va e.vn e.vc, .int .i64 e.st, .int .i64 e.tx, .int .i64 e.ty] 39) := ⟨_, rfl⟩
      obtain ⟨B, hB⟩ : ∃ B, B = wo.heap.size := ⟨_, rfl⟩
      have J : Hid (W.heap[B]? = some (.cells #[.int .i64 e.kind, .int .i64 e.client, .int .i64 e.op, .bool e.put, .string e.key, .slice e.va e.vn e.vc, .int .i64 e.st, .int .i64 e.tx, .int .i64 e.ty] 39 (0, 0)) ∧ Kept (fun _ => False) wo W) := ⟨by rw [hW, hB]; exact alloc_new _ _, by rw [hW]; exact (Kept.refl _ _).alloc _⟩
      have EW : Hid (W = wo.alloc (.cells #[.int .i64 e.kind, .int .i64 e.client, .int .i64 e.op, .bool e.put, .string e.key, .slice e.va e.vn e.vc, .int .i64 e.st, .int .i64 e.tx, .int .i64 e.ty] 39) ∧ B = wo.heap.size) := ⟨hW, hB⟩
      have HE : Hid (es[i]? = some e) := he
      have CO : Hid (∀ V, Calls Tryz.prog 39 #[.agg #[.int .i64 e.kind, .int .i64 e.client, .int .i64 e.op, .bool e.put, .string e.key, .slice e.va e.vn e.vc, .int .i64 e.st, .int .i64 e.tx, .int .i64 e.ty]] V fun o w' => o = .returned (.string e.key) ∧ Kept (fun _ => False) V w') := fun V => hEKey e V
      clear hW hB he rd
      go_upto_region 5 with fail
      rw [← EW.out.1, ← EW.out.2]
      clear c0' c1 c2 c3 c4 c5 c6 c7 c8 EW
      have c0 := cell_blk J.out.1 0 (v := .int .i64 e.kind) rfl
      have c1 := cell_blk J.out.1 1 (v := .int .i64 e.client) rfl
      have c2 := cell_blk J.out.1 2 (v := .int .i64 e.op) rfl
      have c3 := cell_blk J.out.1 3 (v := .bool e.put) rfl
      have c4 := cell_blk J.out.1 4 (v := .string e.key) rfl
      have c5 := cell_blk J.out.1 5 (v := .slice e.va e.vn e.vc) rfl
      have c6 := cell_blk J.out.1 6 (v := .int .i64 e.st) rfl
      have c7 := cell_blk J.out.1 7 (v := .int .i64 e.tx) rfl
      have c8 := cell_blk J.out.1 8 (v := .int .i64 e.ty) rfl
      go_wp2_with fail
      refine (CO.out _).mono ?_
      rintro o w2 ⟨rfl, K2'⟩
      have K2 : Hid (Kept (fun _ => False) wo w2) := J.out.2.trans K2' (fun _ _ z => z)
      clear K2' CO c0 c1 c2 c3 c4 c5 c6 c7 c8
      obtain ⟨n, Mp, tm, hn, h1, h2, h3⟩ := S.out.ok
      obtain ⟨key, hkey⟩ : ∃ key, e.key = key := ⟨_, rfl⟩
      obtain ⟨s, hs⟩ : ∃ s, s = (Mp key).getD ⟨none, 0, 0⟩ := ⟨_, rfl⟩
      have HS : Hid (s = (Mp e.key).getD ⟨none, 0, 0⟩ ∧ e.key = key) := ⟨by rw [hkey]; exact hs, hkey⟩
      have F : Hid (n ≤ i ∧ (∀ k, Mp k = none → placesS (es.take i) k = []) ∧ (∀ k s, Mp k = some s → wo.ownsRow w.heap.size 3 1 (.slice s.p s.n s.c) s.n (intsN (placesS (es.take i) k)) ∧ s.n = (placesS (es.take i) k).length ∧ ¬ blockOf s.p = some mb ∧ 0 < s.n) ∧ (∀ k k' s s' j, Mp k = some s → Mp k' = some s' → k ≠ k' → blockOf s.p = some j → ¬ blockOf s'.p = some j) ∧ Kept (fun _ => False) w wo ∧ w.heap.size ≤ mb ∧ mb < wo.heap.size) := ⟨hn, h1, h2, h3, S.out.kept, S.out.mb⟩
      have OPF : Hid (strF key) := by rw [← hkey]; exact H.out.2.2 e (List.mem_of_getElem? HE.out)
      obtain ⟨Y, hY⟩ : ∃ Y, Y = w2.alloc (.cells #[.int .i64 (i : Int)] 3) := ⟨_, rfl⟩
      have KY : Hid (Kept (fun _ => False) wo Y) := by rw [hY]; exact K2.out.alloc _
      have OW0 : wo.ownsRow w.heap.size 3 1 (.slice s.p s.n s.c) s.n (intsN (placesS (es.take i) key)) ∧ (s.n ≤ i) ∧ ¬ blockOf s.p = some mb := by
        have hil := (List.getElem?_eq_some_iff.1 HE.out).1
        have pl : (placesS (es.take i) key).length ≤ i := by
          refine Nat.le_trans (List.length_filter_le _ _) ?_
          rw [List.length_range, List.length_take]
          omega
        cases hq : Mp key with
        | none =>
          rw [hq] at hs
          rw [hs, h1 _ hq]
          exact ⟨⟨rfl, .inl ⟨rfl, rfl⟩⟩, Nat.zero_le _, fun z => (by cases z)⟩
        | some s' =>
          rw [hq] at hs
          have hs : s = s' := hs
          rw [hs]
          obtain ⟨r1, r2, r3, _⟩ := h2 _ _ hq
          exact ⟨r1, by rw [r2]; exact pl, r3⟩
      have OWN : Hid (Y.ownsRow w.heap.size 3 1 (.slice s.p s.n s.c) s.n (intsN (placesS (es.take i) key))) := KY.out.owns OW0.1 (fun _ _ z => z)
      have SRC : Hid (Src Tryz.prog 1 70 (.slice (some ⟨w2.heap.size, 0, none⟩) 1 1) 1 (intsN [i]) Y) := by
        rw [hY]
        exact src_one (alloc_new w2 _)
      have LN : Hid (s.n + 1 ≤ maxLen ∧ ((s.n + 1) + (s.n + 1) / 4 + 192) * 8 ≤ 281474976710656) := by
        have q1 := OW0.2.1
        have q2 := H.out.2.1
        unfold maxLen
        exact ⟨by omega, by omega⟩
      have LB : Hid (w.heap.size ≤ Y.heap.size) := Nat.le_trans S.out.kept.size KY.out.size
      have TMK : Hid (∀ w9, Y.grownBy w9 (Value.slice s.p s.n s.c).ownBlock → TM 9 strL strF Sl.v RSl w9 mb n Mp ∧ n < maxLen) := by
        intro w9 hg
        have KG : Kept (fun j => blockOf s.p = some j) Y w9 := (Kept.refl _ Y).grown hg (fun j _ z => by rw [blockOf_own] at z; exact z)
        refine ⟨(tm.kept KY.out (fun z => z)).kept KG OW0.2.2, ?_⟩
        have q2 := H.out.2.1
        unfold maxLen
        omega
      have lk := (tm.kept K2.out (fun z => z)).look strK OPF.out
      rw [← hs] at lk
      have lk : (Instr.lookup 69 (.map (some mb)) (.string key) false).run Tryz.prog w2 = .ok (.slice s.p s.n s.c) w2 := lk
      obtain ⟨sp, sn, sc⟩ := s
      have lk : (Instr.lookup 69 (.map (some mb)) (.string key) false).run Tryz.prog w2 = .ok (.slice sp sn sc) w2 := lk
      have OWN : Hid (Y.ownsRow w.heap.size 3 1 (.slice sp sn sc) sn (intsN (placesS (es.take i) key))) := OWN
      have LN : Hid (sn + 1 ≤ maxLen ∧ ((sn + 1) + (sn + 1) / 4 + 192) * 8 ≤ 281474976710656) := LN
      have YE : Hid (w2.alloc (.cells #[.int .i64 (i : Int)] 3) = Y) := hY.symm
      clear tm hn h1 h2 h3 hs OW0 S hY
      rw [hkey]
      clear hkey
      go_upto_region 6 with fail
      go_wp2_with
        (first
          | (at_builtin; rw [YE.out]; refine wpList_append_all _ rfl (.tmp 24) (.tmp 26) 70 3 70 _ 1 8 rfl Tryz.underlying70 Tryz.info3c rfl w.heap.size (.slice sp sn sc) sn (intsN (placesS (es.take i) key)) rfl OWN.out _ 1 (intsN [i]) rfl SRC.out LN.out.1 LN.out.2 LB.out ?_; intro p9 c9 w9 ho hg hn9)
          | (refine wpList_put strK _ rfl (.tmp 20) (.tmp 21) (.tmp 27) rfl mb n Mp rfl (TMK.out _ hg.out).1 (TMK.out _ hg.out).2 key OPF.out ⟨p9, sn + 1, c9⟩ rfl rfl ?_; intro w10 tm KT)
          | fail)
      have N : Hid (GT w es mb (i + 1) w10) := GT.step F.out.1 F.out.2.1 F.out.2.2.1 F.out.2.2.2.1 F.out.2.2.2.2.1 F.out.2.2.2.2.2 KY.out HE.out HS.out.1 (by rw [HS.out.2]; exact ho.out) hg.out hn9.out (by rw [HS.out.2]; exact tm.out) KT.out
      clear ho hg hn9 tm KT
      go_roundw
      case rel => exact ⟨i + 1, by go_num, by omega, N⟩
      case measure => simp [intOf] <;> omega
    · have i1 : ¬ (i : Int) < (n0 : Int) := by omega
      obtain rfl : i = n0 := by omega
      go_wp2_with fail
      go_ret
      exact ⟨mb, rfl, S⟩
end Go.Proofs.YtbangbobfeflcaaGreatDoor
