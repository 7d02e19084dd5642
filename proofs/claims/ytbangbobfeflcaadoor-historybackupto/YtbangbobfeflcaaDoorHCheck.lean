import Derived.Test.YtbangbobfeflcaaDoorHOpKJ
import Derived.Deep.Cut
namespace Go.Proofs.YtbangbobfeflcaaDoor
open Go.RowKit 

/-- How Check stands. -/
structure CS (w : World) (es : List Ev) (mb i : Nat) (M : Int → Option Ev) (wr : World) : Prop where
  map : IsE wr mb (fun c => (M c).map Ev.ec) i
  kept : Kept (fun _ => False) w wr
  run : chkE es noM 0 = chkE (es.drop i) M i
  ops : ∀ c x, M c = some x → 0 ≤ x.op ∧ x.op ≤ 4611686018427387903
def RetI2 (Q : Int → Int → World → Prop) (o : Ending) (w : World) : Prop := ∃ a b : Int, o = .returned (.tuple #[.int .i64 a, .int .i64 b]) ∧ Q a b w
theorem RetI2.mk {Q : Int → Int → World → Prop} {o : Ending} {w : World} (a b : Int) (h : o = .returned (.tuple #[.int .i64 a, .int .i64 b])) (q : Q a b w) : RetI2 Q o w := ⟨a, b, h, q⟩
theorem upd_ec (M : Int → Option Ev) (c : Int) (e : Ev) : (fun j => (upd M c e j).map Ev.ec) = upd (fun j => (M j).map Ev.ec) c e.ec := by
  funext j
  unfold upd
  by_cases h : j = c
  · rw [if_pos h, if_pos h]
    rfl
  · rw [if_neg h, if_neg h]
theorem fault_op {e : Ev} (h : faultE e = 0) : 1 ≤ e.op ∧ e.op ≤ 4611686018427387903 := by
  rw [fault_b] at h
  unfold faultB at h
  repeat (split at h; exact absurd h (by decide))
  rename_i z
  simp at z
  omega
set_option maxRecDepth 100000 in
set_option maxHeartbeats 4000000 in
theorem hCheck {w : World} {p0 : Option Addr} {n c0 : Nat} {es : List Ev} (er : ERd w p0 n c0 es) (hb : n ≤ 1500000000000) (ck : ∀ e ∈ es, KI e.client) : Calls Tryd.prog 10 #[.slice p0 n c0] w (RetI2 fun a b w' => (a, b) = chkE es noM 0 ∧ Kept (fun _ => False) w w') := by
  have rm := er.room
  have sm := er.small
  unfold maxLen at sm
  have H : Hid (ERd w p0 n c0 es ∧ n ≤ 1500000000000 ∧ ∀ e ∈ es, KI e.client) := ⟨er, hb, ck⟩
  obtain ⟨mb, hmb⟩ : ∃ mb, mb = w.heap.size := ⟨_, rfl⟩
  obtain ⟨W0, hW0⟩ : ∃ W0, W0 = w.alloc (.map #[] 0) := ⟨_, rfl⟩
  have S0 : Hid (CS w es mb 0 noM W0) := by
    refine ⟨?_, by rw [hW0]; exact (Kept.refl _ _).alloc _, rfl, fun c x h => (by cases h)⟩
    rw [hW0, hmb]
    exact IsE.made w
  have E0 : Hid (mb = w.heap.size ∧ W0 = w.alloc (.map #[] 0)) := ⟨hmb, hW0⟩
  clear er hb ck hmb hW0
  have mk := run_makeMap (P := Tryd.prog) 70 w
  go_enter Tryd.func10, Tryd.ntmps10
  go_wp2_with fail
  rw [← E0.out.2, ← E0.out.1]
  go_loopw [5, 6, 7, 11] (fun _ _ _ u11 wr => ∃ (i : Nat) (M : Int → Option Ev), u11 = .int .i64 (i : Int) ∧ i ≤ n ∧ Hid (CS w es mb i M wr)) (fun _ _ _ u11 _ => n - (intOf u11).toNat)
  case atStart => exact ⟨0, noM, rfl, Nat.zero_le _, S0⟩
  case round =>
    obtain ⟨i, M, rfl, hi, S⟩ := hrel
    clear S0
    obtain ⟨wo, hwo⟩ : ∃ wo, wo = wr := ⟨_, rfl⟩
    rw [← hwo] at S ⊢
    clear hwo
    by_cases hlt : i < n
    · have i1 : (i : Int) < (n : Int) := by omega
      obtain ⟨b, off, e, rfl, he, c0', c1, c2, c3, c4, c5, c6, c7, c8, rd⟩ := (H.out.1.k0 S.out.kept).at hlt
      obtain ⟨W, hW⟩ : ∃ W, W = wo.alloc (.cells #[.int .i64 e.kind, .int .i64 e.client, .int .i64 e.op, .bool e.put, .string e.key, .slice e.va e.vn e.vc, .int .i64 e.st, .int .i64 e.tx, .int .i64 e.ty] 45) := ⟨_, rfl⟩
      obtain ⟨B, hB⟩ : ∃ B, B = wo.heap.size := ⟨_, rfl⟩
      obtain ⟨fv, hfv⟩ : ∃ fv, faultE e = fv := ⟨_, rfl⟩
      have J : Hid (W.heap[B]? = some (.cells #[.int .i64 e.kind, .int .i64 e.client, .int .i64 e.op, .bool e.put, .string e.key, .slice e.va e.vn e.vc, .int .i64 e.st, .int .i64 e.tx, .int .i64 e.ty] 45 (0, 0)) ∧ CS w es mb i M W ∧ es[i]? = some e ∧ faultE e = fv) := by
        have Kw : Kept (fun _ => False) wo W := by rw [hW]; exact (Kept.refl _ _).alloc _
        refine ⟨by rw [hW, hB]; exact alloc_new _ _, ⟨S.out.map.kept Kw (fun z => z), S.out.kept.trans Kw (fun _ _ z => z), S.out.run, S.out.ops⟩, he, hfv⟩
      have EW : Hid (W = wo.alloc (.cells #[.int .i64 e.kind, .int .i64 e.client, .int .i64 e.op, .bool e.put, .string e.key, .slice e.va e.vn e.vc, .int .i64 e.st, .int .i64 e.tx, .int .i64 e.ty] 45) ∧ B = wo.heap.size) := ⟨hW, hB⟩
      have CF : Hid (∀ V, Calls Tryd.prog 14 #[.agg #[.int .i64 e.kind, .int .i64 e.client, .int .i64 e.op, .bool e.put, .string e.key, .slice e.va e.vn e.vc, .int .i64 e.st, .int .i64 e.tx, .int .i64 e.ty]] V fun o w' => o = .returned (.int .i64 fv) ∧ Kept (fun _ => False) V w') := fun V => by
        rw [← hfv]
        have vs := rd.room
        have vs2 := rd.small
        unfold maxLen at vs2
        exact hFault e (by omega) V
      have RUN : Hid (chkE es noM 0 = if fv ≠ 0 then ((i : Int), fv) else if mayF (M e.client) e = false then ((i : Int), 80) else chkE (es.drop (i + 1)) (upd M e.client e) (i + 1)) := by
        have hl := (List.getElem?_eq_some_iff.1 he)
        have r := S.out.run
        rw [List.drop_eq_getElem_cons hl.1, chk_cons, hl.2, hfv] at r
        exact r
      clear hW hB he rd S hfv
      go_upto_region 5 with fail
      rw [← EW.out.1, ← EW.out.2]
      clear c0' c1 c2 c3 c4 c5 c6 c7 c8 EW
      have c0 := cell_blk J.out.1 0 (v := .int .i64 e.kind) rfl
      have c1 := cell_blk J.out.1 1 (v := .int .i64 e.client) rfl
      have c2 := cell_blk J.out.1 2 (v := .int .i64 e.op) rfl
      have c3 := cell_blk J.out.1 3 (v := .bool e.put) rfl
      have c4 := cell_blk J.out.1 4 (v := .string e.key) rfl
      have c5 := cell_blk J.out.1 5 (v := .slice e.va e.vn e.vc) rfl
      have c6 := cell_blk J.out.1 6 (v := .int .i64 e.st) rfl
      have c7 := cell_blk J.out.1 7 (v := .int .i64 e.tx) rfl
      have c8 := cell_blk J.out.1 8 (v := .int .i64 e.ty) rfl
      go_wp2_with fail
      refine (CF.out _).mono ?_
      rintro o w2 ⟨rfl, K2⟩
      have S2 : Hid (CS w es mb i M w2 ∧ w2.heap[B]? = some (.cells #[.int .i64 e.kind, .int .i64 e.client, .int .i64 e.op, .bool e.put, .string e.key, .slice e.va e.vn e.vc, .int .i64 e.st, .int .i64 e.tx, .int .i64 e.ty] 45 (0, 0))) := ⟨⟨J.out.2.1.map.kept K2 (fun z => z), J.out.2.1.kept.trans K2 (fun _ _ z => z), J.out.2.1.run, J.out.2.1.ops⟩, K2.get J.out.1 (fun z => z)⟩
      clear K2 CF c0 c1 c2 c3 c4 c5 c6 c7 c8
      by_cases hf : fv = 0
      · subst hf
        obtain ⟨mv, hmv⟩ : ∃ mv, mayF (M e.client) e = mv := ⟨_, rfl⟩
        have c0 := cell_blk S2.out.2 0 (v := .int .i64 e.kind) rfl
        have c1 := cell_blk S2.out.2 1 (v := .int .i64 e.client) rfl
        have c2 := cell_blk S2.out.2 2 (v := .int .i64 e.op) rfl
        have c3 := cell_blk S2.out.2 3 (v := .bool e.put) rfl
        have c4 := cell_blk S2.out.2 4 (v := .string e.key) rfl
        have c5 := cell_blk S2.out.2 5 (v := .slice e.va e.vn e.vc) rfl
        have c6 := cell_blk S2.out.2 6 (v := .int .i64 e.st) rfl
        have c7 := cell_blk S2.out.2 7 (v := .int .i64 e.tx) rfl
        have c8 := cell_blk S2.out.2 8 (v := .int .i64 e.ty) rfl
        obtain ⟨kn, tm, hkn⟩ := S2.out.1.map.tm
        have KC : Hid (KI e.client) := H.out.2.2 e (List.mem_of_getElem? J.out.2.2.1)
        obtain ⟨l, hl⟩ : ∃ l, l = (((M e.client).map Ev.ec).getD zeroC) := ⟨_, rfl⟩
        have lk := tm.look evK KC.out
        rw [← hl] at lk
        have CM : Hid (∀ V, Calls Tryd.prog 21 #[.agg #[.int .i64 l.kind, .int .i64 l.client, .int .i64 l.op, .bool l.put, .string l.key, .slice l.va l.vn l.vc, .int .i64 l.st, .int .i64 l.tx, .int .i64 l.ty], .agg #[.int .i64 e.kind, .int .i64 e.client, .int .i64 e.op, .bool e.put, .string e.key, .slice e.va e.vn e.vc, .int .i64 e.st, .int .i64 e.tx, .int .i64 e.ty]] V fun o w' => o = .returned (.bool mv) ∧ Kept (fun _ => False) V w') := fun V => by
          have := hMay l e.ec (by
            rw [hl]
            cases hq : M e.client with
            | none => exact ⟨by decide, by decide⟩
            | some x => exact J.out.2.1.ops _ x hq) V
          rw [hl, mayC_of, hmv, ← hl] at this
          exact this
        have TT : Hid (TM 3 (Lit.int .i64) KI Ec.agg RE w2 mb kn (fun c => (M c).map Ev.ec) ∧ kn ≤ i) := ⟨tm, hkn⟩
        have RUN2 : Hid (chkE es noM 0 = if mv = false then ((i : Int), 80) else chkE (es.drop (i + 1)) (upd M e.client e) (i + 1)) := by
          have := RUN.out
          rw [if_neg (by simp), hmv] at this
          exact this
        unfold Ec.agg at lk
        clear tm RUN hmv hl
        go_wp2_with fail
        refine (CM.out _).mono ?_
        rintro o w3 ⟨rfl, K3⟩
        have S3 : Hid (TM 3 (Lit.int .i64) KI Ec.agg RE w3 mb kn (fun c => (M c).map Ev.ec) ∧ kn < maxLen ∧ Kept (fun _ => False) w w3 ∧ w3.heap[B]? = some (.cells #[.int .i64 e.kind, .int .i64 e.client, .int .i64 e.op, .bool e.put, .string e.key, .slice e.va e.vn e.vc, .int .i64 e.st, .int .i64 e.tx, .int .i64 e.ty] 45 (0, 0))) := by
          refine ⟨TT.out.1.kept K3 (fun z => z), ?_, S2.out.1.kept.trans K3 (fun _ _ z => z), K3.get S2.out.2 (fun z => z)⟩
          have h1 := TT.out.2
          have h2 := H.out.2.1
          unfold maxLen
          omega
        clear K3 CM lk c0 c1 c2 c3 c4 c5 c6 c7 c8
        cases mv
        · have F : Hid (((i : Int), (80 : Int)) = chkE es noM 0 ∧ Kept (fun _ => False) w w3) := ⟨by rw [RUN2.out]; rfl, S3.out.2.2.1⟩
          go_wp2_with fail
          go_ret2
          exact RetI2.mk (i : Int) 80 rfl F.out
        · have c0 := cell_blk S3.out.2.2.2 0 (v := .int .i64 e.kind) rfl
          have c1 := cell_blk S3.out.2.2.2 1 (v := .int .i64 e.client) rfl
          have c2 := cell_blk S3.out.2.2.2 2 (v := .int .i64 e.op) rfl
          have c3 := cell_blk S3.out.2.2.2 3 (v := .bool e.put) rfl
          have c4 := cell_blk S3.out.2.2.2 4 (v := .string e.key) rfl
          have c5 := cell_blk S3.out.2.2.2 5 (v := .slice e.va e.vn e.vc) rfl
          have c6 := cell_blk S3.out.2.2.2 6 (v := .int .i64 e.st) rfl
          have c7 := cell_blk S3.out.2.2.2 7 (v := .int .i64 e.tx) rfl
          have c8 := cell_blk S3.out.2.2.2 8 (v := .int .i64 e.ty) rfl
          go_upto_region 11 with
            (first
              | (at_mapUpdate; refine wpList_put evK _ rfl _ _ _ rfl mb kn (fun c => (M c).map Ev.ec) rfl S3.out.1 S3.out.2.1 e.client KC.out e.ec rfl rfl ?_; intro w8 ht8 hk8)
              | fail)
          have T8 : Hid (CS w es mb (i + 1) (upd M e.client e) w8) := by
            refine ⟨⟨_, by rw [upd_ec]; exact ht8.out, ?_⟩, S3.out.2.2.1.trans hk8.out (fun j hj z => ?_), ?_, fun c x hx => ?_⟩
            · have := TT.out.2
              unfold nput
              split <;> omega
            · have z : j = mb := z
              have := E0.out.1
              omega
            · have := RUN2.out
              rw [if_neg (by simp)] at this
              exact this
            · unfold upd at hx
              split at hx
              · have q := fault_op J.out.2.2.2
                rw [← Option.some.inj hx]
                omega
              · exact J.out.2.1.ops c x hx
          clear ht8 hk8 S3 TT c0 c1 c2 c3 c4 c5 c6 c7 c8
          go_wp2_with fail
          go_roundw
          case rel => exact ⟨i + 1, upd M e.client e, by go_num, by omega, T8⟩
          case measure => simp [intOf] <;> omega
      · have q0 : (fv != 0) = true := by simp [hf]
        have F : Hid (((i : Int), fv) = chkE es noM 0 ∧ Kept (fun _ => False) w w2) := ⟨by rw [RUN.out, if_pos hf], S2.out.1.kept⟩
        go_wp2_with fail
        go_ret2
        exact RetI2.mk (i : Int) fv rfl F.out
    · have i1 : ¬ (i : Int) < (n : Int) := by omega
      have F : Hid (((-1 : Int), (0 : Int)) = chkE es noM 0 ∧ Kept (fun _ => False) w wo) := by
        refine ⟨?_, S.out.kept⟩
        have r := S.out.run
        rw [List.drop_eq_nil_of_le (by rw [H.out.1.len]; omega)] at r
        rw [r]
        rfl
      clear S
      go_wp2_with fail
      go_ret2
      exact RetI2.mk (-1) 0 rfl F.out
end Go.Proofs.YtbangbobfeflcaaDoor
