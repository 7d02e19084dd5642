import Derived.Test.YtbnnmelkbjkkjaaWorldsMathJ
namespace Go.Proofs.Ytbnnmelkbjkkjaa
open Go.RowKit

theorem many_mod (x : Int) (n : Nat) : ∃ m : Nat, m < n + 2 ∧ x % ((n + 2 : Nat) : Int) = (m : Int) := ⟨(x % ((n + 2 : Nat) : Int)).toNat, by have := Int.emod_lt_of_pos x (show (0 : Int) < ((n + 2 : Nat) : Int) by omega); have := Int.emod_nonneg x (show ((n + 2 : Nat) : Int) ≠ 0 by omega); omega, by have := Int.emod_nonneg x (show ((n + 2 : Nat) : Int) ≠ 0 by omega); omega⟩
set_option maxRecDepth 100000 in
theorem dRead_dead (base B : Nat) (d : DK) (i : Int) (w : World) (h : IsD base w B d) (hd : d.dead = true) :
    Calls Try.prog 15 #[.pointer (some ⟨B, 0, none⟩), .int .i64 i] w fun x w' => x = .returned (.tuple #[.slice none 0 0, .int .i64 60]) ∧ w' = w := by
  have H : Hid (IsD base w B d ∧ lookE d.ab i = 60) := ⟨h, look_dead hd i⟩
  clear h hd
  go_enter Try.func15, Try.ntmps15
  go_wp2_with fail
  refine (look base B d i w H.out.1).mono ?_
  rintro x w1 ⟨rfl, rfl⟩
  rw [H.out.2]
  go_wp2_with fail
  go_ret2
  exact ⟨rfl, rfl⟩
set_option maxRecDepth 100000 in
set_option maxHeartbeats 4000000 in
theorem diskStops (q : Option Addr) (n cap : Nat) (O : List Opv) (so : Opv) (qc : Option Addr) (nc cc : Nat) (cs : List Int) (w : World) (hO : Script w q n cap O) (hn : n + 4 ≤ Few) (hs : sumN O ≤ Few) (hS : ∀ o ∈ O, o.Sl) (rc : IRd w qc nc cc cs) :
    Calls Try.prog 5 #[.slice q n cap, .agg so.cs, .slice qc nc cc] w fun x w' => x = .returned (.bool true) ∧ Kept (fun _ => False) w w' := by
  have H : Hid (Script w q n cap O ∧ n + 4 ≤ Few ∧ sumN O ≤ Few ∧ IRd w qc nc cc cs) := ⟨hO, hn, hs, rc⟩
  have HS : Hid (∀ o ∈ O, o.Sl) := hS
  have hol := hO.length
  have hr := hO.room
  have hsm := hO.small
  unfold maxLen at hsm
  unfold Few at hn
  obtain ⟨many, hm1, hm2⟩ := many_mod so.N n
  have EM : Hid (so.N % ((n + 2 : Nat) : Int) = (many : Int)) := hm2
  have wn : IntKind.i64.wrap ((n : Int) + 2) = ((n + 2 : Nat) : Int) := by rw [IntKind.wrap_i64]; omega
  obtain ⟨W0, hW0⟩ : ∃ W0, W0 = w.alloc (.cells so.cs 46) := ⟨_, rfl⟩
  have EW : Hid (W0 = w.alloc (.cells #[.int .i64 so.kind, .int .i64 so.D, .int .i64 so.slot, .slice so.a so.n so.c, .int .i64 so.N, .bool so.done, so.v0, so.v1, so.v2] 46)) := hW0
  have K0 : Hid (Kept (fun _ => False) w W0) := by rw [hW0]; exact alloc_kept0 _ _
  have g4 : W0.cell? ⟨w.heap.size, 4, none⟩ = some (.int .i64 so.N) := by rw [hW0]; exact cell_blk (alloc_new _ _) 4 rfl
  have g5 : W0.cell? ⟨w.heap.size, 5, none⟩ = some (.bool so.done) := by rw [hW0]; exact cell_blk (alloc_new _ _) 5 rfl
  clear hO hs rc hW0 hm2 hS
  unfold Opv.cs
  go_enter Try.func5, Try.ntmps5
  go_upto_region 1 with fail
  rw [← EW.out]
  go_quiet (fail)
  go_wp2_with fail
  obtain ⟨W1, hW1⟩ : ∃ W1, W1 = W0.drewN nq := ⟨_, rfl⟩
  have M1 : Hid (MD w W1 []) := (MD.nil w).quiet (by rw [hW1]; exact K0.out.drewN nq)
  rw [← hW1]
  clear hW1 g4 g5
  refine (mNew w W1 [] M1.out).mono ?_
  rintro x w2 ⟨rfl, d1, e1, m2⟩
  obtain ⟨B1, hB1⟩ : ∃ B1, B1 = W1.heap.size := ⟨_, rfl⟩
  rw [← hB1] at m2 ⊢
  have M2 : Hid (d1.ab = A1 ∧ MD w w2 [(B1, d1)]) := ⟨e1, m2⟩
  clear e1 m2 hB1 M1
  go_wp2_with fail
  refine (mNew w w2 _ M2.out.2).mono ?_
  rintro x w3 ⟨rfl, d2, e2, m3⟩
  obtain ⟨B2, hB2⟩ : ∃ B2, B2 = w2.heap.size := ⟨_, rfl⟩
  rw [← hB2] at m3 ⊢
  have M3 : Hid (d2.ab = A1 ∧ MD w w3 [(B2, d2), (B1, d1)]) := ⟨e2, m3⟩
  clear e2 m3 hB2
  go_wp2_with fail
  refine (head w3).mono ?_
  rintro x w4 ⟨rfl, K4⟩
  have M4 : Hid (MD w w4 [(B1, d1), (B2, d2)]) := (M3.out.2.quiet K4).swap
  clear K4
  go_wp2_with fail
  refine (mod so.N (n + 2) w4 (by omega) (by omega)).mono ?_
  rintro x w5 ⟨rfl, rfl⟩
  rw [EM.out]
  go_wp2_with fail
  refine (mStop w w5 B1 d1 _ (many : Int) so.done M4.out (by have := congrArg AB.dead M2.out.1; exact this)).mono ?_
  rintro x w6 ⟨rfl, d3, e3, m6⟩
  have S6 : Hid (ST w w6 B1 B2 O many so.done 0 0 false) := by
    refine ⟨d3, d2, m6, ?_, by rw [M3.out.1]; rfl, ?_⟩
    · rw [M3.out.1]; exact ⟨Nat.zero_le _, Nat.zero_le _, Nat.zero_le _, Nat.zero_le _, rfl, rfl⟩
    · rw [e3, M2.out.1, M3.out.1, if_neg (show ¬ (many : Int) < 0 by omega)]
      rfl
  clear e3 m6
  obtain ⟨dn, hdn⟩ : ∃ dn, dn = so.done := ⟨_, rfl⟩
  rw [← hdn] at S6 ⊢
  clear hdn
  go_wp2_with fail
  go_loopw [12, 13, 14] (fun xa xd x wr => ∃ (i acts : Nat) (dd : Bool), x = .int .i64 (i : Int) ∧ xa = .int .i64 (acts : Int) ∧ xd = .bool dd ∧ i ≤ n ∧ acts ≤ i ∧ Hid (ST w wr B1 B2 O many dn i acts dd)) (fun _ _ x _ => n - (intOf x).toNat)
  case atStart => exact ⟨0, 0, false, rfl, rfl, rfl, Nat.zero_le _, Nat.le_refl _, S6.out⟩
  case round =>
    obtain ⟨i, acts, dd, rfl, rfl, rfl, hi, hai, S⟩ := hrel
    by_cases hlt : i < n
    · have i1 : (i : Int) < (n : Int) := by omega
      obtain ⟨o, ho⟩ : ∃ o, O[i]? = some o := ⟨_, List.getElem?_eq_getElem (by omega)⟩
      obtain ⟨b, off, rfl, hc⟩ := H.out.1.cells (by omega)
      obtain ⟨da, db, md, sm, ea, et⟩ := S.out.ex
      obtain ⟨a0, n0, c0, a1, n1, c1, a2, n2, c2, hv0, hv1, hv2⟩ := HS.out o (List.mem_of_getElem? ho)
      have HV : Hid (o.v0 = .slice a0 n0 c0 ∧ o.v1 = .slice a1 n1 c1 ∧ o.v2 = .slice a2 n2 c2) := ⟨hv0, hv1, hv2⟩
      have OC : Hid (#[.int .i64 o.kind, .int .i64 o.D, .int .i64 o.slot, .slice o.a o.n o.c, .int .i64 o.N, .bool o.done, .slice a0 n0 c0, .slice a1 n1 c1, .slice a2 n2 c2] = o.cs) := by show _ = o.cs; unfold Opv.cs; rw [hv0, hv1, hv2]
      have f : ∀ j v, o.cs[j]? = some v → wr.cell? ⟨b, off + i * 9 + j, none⟩ = some v := fun j v hv => md.kept.cell (hc i o ho j v hv) (fun z => z)
      have f0 : wr.cell? ⟨b, off + i * 9, none⟩ = some (.int .i64 o.kind) := f 0 _ rfl
      have f1 : wr.cell? ⟨b, off + i * 9 + 1, none⟩ = some (.int .i64 o.D) := f 1 _ rfl
      have f2 : wr.cell? ⟨b, off + i * 9 + 2, none⟩ = some (.int .i64 o.slot) := f 2 _ rfl
      have f3 : wr.cell? ⟨b, off + i * 9 + 3, none⟩ = some (.slice o.a o.n o.c) := f 3 _ rfl
      have f4 : wr.cell? ⟨b, off + i * 9 + 4, none⟩ = some (.int .i64 o.N) := f 4 _ rfl
      have f5 : wr.cell? ⟨b, off + i * 9 + 5, none⟩ = some (.bool o.done) := f 5 _ rfl
      have f6 : wr.cell? ⟨b, off + i * 9 + 6, none⟩ = some (.slice a0 n0 c0) := by rw [← hv0]; exact f 6 _ rfl
      have f7 : wr.cell? ⟨b, off + i * 9 + 7, none⟩ = some (.slice a1 n1 c1) := by rw [← hv1]; exact f 7 _ rfl
      have f8 : wr.cell? ⟨b, off + i * 9 + 8, none⟩ = some (.slice a2 n2 c2) := by rw [← hv2]; exact f 8 _ rfl
      obtain ⟨W, hW⟩ : ∃ W, W = wr.alloc (.cells o.cs 46) := ⟨_, rfl⟩
      have EV : Hid (W = wr.alloc (.cells #[.int .i64 o.kind, .int .i64 o.D, .int .i64 o.slot, .slice o.a o.n o.c, .int .i64 o.N, .bool o.done, .slice a0 n0 c0, .slice a1 n1 c1, .slice a2 n2 c2] 46)) := by rw [OC.out]; exact hW
      have rs := RS.make md (H.out.1.reads o (List.mem_of_getElem? ho)) hW
      have R0 : Hid (RS w W B1 B2 wr.heap.size da db o ∧ Small db.ab (sumN (O.take i)) i ∧ db.ab.acts = acts ∧ da.ab = db.ab.twin (if dd = true then 0 else ((many - acts : Nat) : Int)) dn dd) := ⟨rs, sm, ea, et⟩
      obtain ⟨r0, r1, r2, r3, r4, r5, r6, r7, r8⟩ := rs.cells
      rw [hv0] at r6
      rw [hv1] at r7
      rw [hv2] at r8
      have SN : Hid (sumN (O.take (i + 1)) = sumN (O.take i) + o.l.length ∧ sumN (O.take i) ≤ Few ∧ i + 1 ≤ Few ∧ sumN (O.take (i + 1)) ≤ Few ∧ o.n ≤ Lim) := by
        have q1 := sumN_take ho
        have q2 := sumN_le O i
        have q3 := sumN_le O (i + 1)
        have q4 := H.out.2.2.1
        have q5 := (H.out.1.reads o (List.mem_of_getElem? ho)).length
        have q6 := H.out.2.1
        refine ⟨by omega, by omega, by omega, by omega, ?_⟩
        unfold Lim; unfold Few at q4; omega
      have NX : Hid (ST w W B1 B2 O many dn (i + 1) acts dd) := ⟨da, db, rs.md, sm.mono (by rw [SN.out.1]; omega) (by omega), ea, et⟩
      clear f hc ho hW rs md sm ea et S hv0 hv1 hv2
      go_upto_region 15 with fail
      rw [← EV.out]
      clear f0 f1 f2 f3 f4 f5 f6 f7 f8
      by_cases k1 : o.kind < 1
      · go_wp2_with fail
        go_roundw
        case rel => exact ⟨i + 1, acts, dd, by go_num, rfl, rfl, by omega, by omega, NX.out⟩
        case measure => simp [intOf]; omega
      · by_cases k2 : o.kind > 4
        · go_wp2_with fail
          go_roundw
          case rel => exact ⟨i + 1, acts, dd, by go_num, rfl, rfl, by omega, by omega, NX.out⟩
          case measure => simp [intOf]; omega
        · have HK : Hid (1 ≤ o.kind ∧ o.kind ≤ 4) := by constructor <;> omega
          clear NX
          go_wp2_with fail
          have OKA : Hid da.ab.Ok := by
            rw [R0.out.2.2.2]
            refine twin_ok (R0.out.2.1.ok SN.out.2.1 (by have := SN.out.2.2.1; omega)) ?_ ?_ _ _
            · split <;> omega
            · have := H.out.2.1; unfold Few at this; split <;> omega
          have KDp : Hid (Kept (fun _ => False) W W.drew) := (Kept.refl (fun _ => False) W).drew
          go_region_held3 (fun w' => w'.cell? ⟨wr.heap.size, 0, none⟩ = some (.int .i64 o.kind) ∧ w'.cell? ⟨wr.heap.size, 1, none⟩ = some (.int .i64 o.D) ∧ w'.cell? ⟨wr.heap.size, 2, none⟩ = some (.int .i64 o.slot) ∧ w'.cell? ⟨wr.heap.size, 3, none⟩ = some (.slice o.a o.n o.c) ∧ w'.cell? ⟨wr.heap.size, 4, none⟩ = some (.int .i64 o.N) ∧ w'.cell? ⟨wr.heap.size, 5, none⟩ = some (.bool o.done) ∧ w'.cell? ⟨wr.heap.size, 6, none⟩ = some (.slice a0 n0 c0) ∧ w'.cell? ⟨wr.heap.size, 7, none⟩ = some (.slice a1 n1 c1) ∧ w'.cell? ⟨wr.heap.size, 8, none⟩ = some (.slice a2 n2 c2)) (first | go_keep)
            (first
              | (go_at_call 23; refine (rActE w wxp B1 B2 wr.heap.size da db o _ OC.out HK.out pxp kxp Xp.out.1 OKA.out Xp.out.2.1 SN.out.2.2.2.2 Xp.out.2.2.1).mono ?_; rintro x wyp ⟨rfl, dyp, ep, yp⟩
                 have Yp : Hid (dyp.ab = (da.ab.act o.kind o.slot o.l).1 ∧ RS w wyp B1 B2 wr.heap.size dyp db o) := ⟨ep, yp⟩
                 obtain ⟨ap0, ap1, ap2, ap3, ap4, ap5, ap6, ap7, ap8⟩ := yp.cells
                 rw [HV.out.1] at ap6; rw [HV.out.2.1] at ap7; rw [HV.out.2.2] at ap8
                 clear ep yp)
              | (go_at_call 10; refine (rWide w W.drew B1 B2 wr.heap.size da db o (R0.out.1.quiet KDp.out) SN.out.2.2.2.2).mono ?_; rintro x wxp ⟨pxp, kxp, rfl, xp⟩
                 have Xp : Hid (RS w wxp B1 B2 wr.heap.size da db o ∧ Reads wxp pxp o.n kxp o.l ∧ (∀ j, blockOf pxp = some j → j ≠ B1) ∧ (∀ j, blockOf pxp = some j → j ≠ B2)) := xp
                 obtain ⟨bp0, bp1, bp2, bp3, bp4, bp5, bp6, bp7, bp8⟩ := xp.1.cells
                 rw [HV.out.1] at bp6; rw [HV.out.2.1] at bp7; rw [HV.out.2.2] at bp8
                 clear xp)
              | fail)
          cases dd with
          | true =>
            have hv : (da.ab.act o.kind o.slot o.l).2 = 60 := by rw [R0.out.2.2.2, twin_dead]
            have Z : Hid (ST w wyp B1 B2 O many dn (i + 1) acts true) := ⟨dyp, db, Yp.out.2.md, R0.out.2.1.mono (by rw [SN.out.1]; omega) (by omega), R0.out.2.2.1, by rw [Yp.out.1, R0.out.2.2.2, twin_dead]⟩
            rw [hv]
            clear hv
            go_wp2_with fail
            go_roundw
            case rel => exact ⟨i + 1, acts, true, by go_num, rfl, rfl, by omega, by omega, Z.out⟩
            case measure => simp [intOf]; omega
          | false =>
            have et : da.ab = db.ab.twin ((many - acts : Nat) : Int) dn false := by rw [R0.out.2.2.2, if_neg (by decide)]
            have OKB : Hid db.ab.Ok := R0.out.2.1.ok SN.out.2.1 (by have := SN.out.2.2.1; omega)
            have SA := R0.out.2.1.act o.kind o.slot o.l
            rw [← SN.out.1] at SA
            have SB : Hid (Small (db.ab.act o.kind o.slot o.l).1 (sumN (O.take (i + 1))) (i + 1)) := SA
            have EA : Hid (da.ab = db.ab.twin ((many - acts : Nat) : Int) dn false) := et
            have wa : IntKind.i64.wrap ((acts : Int) + 1) = ((acts + 1 : Nat) : Int) := by rw [IntKind.wrap_i64]; omega
            clear SA et
            rcases twin_live db.ab R0.out.2.1.live R0.out.2.1.free many acts dn o.kind o.slot o.l with ⟨t1, t2⟩ | ⟨t1, rfl, t2⟩ | ⟨t0, rfl, A', t1, t2, t3⟩ | ⟨t0, A', t1, t2, t3⟩
            · have hv : (da.ab.act o.kind o.slot o.l).2 = 61 := by rw [EA.out, t2]
              have hb : (db.ab.act o.kind o.slot o.l).2 = 61 := by rw [t1]
              have TT : Hid (db.ab.act o.kind o.slot o.l = (db.ab, 61) ∧ (db.ab.twin ((many - acts : Nat) : Int) dn false).act o.kind o.slot o.l = (db.ab.twin ((many - acts : Nat) : Int) dn false, 61)) := ⟨t1, t2⟩
              rw [hv]
              clear hv t1 t2
              go_wp2_with fail
              have KDq : Hid (Kept (fun _ => False) wyp wyp.drew) := (Kept.refl (fun _ => False) wyp).drew
              go_region_held3 (fun w' => w'.cell? ⟨wr.heap.size, 0, none⟩ = some (.int .i64 o.kind) ∧ w'.cell? ⟨wr.heap.size, 1, none⟩ = some (.int .i64 o.D) ∧ w'.cell? ⟨wr.heap.size, 2, none⟩ = some (.int .i64 o.slot) ∧ w'.cell? ⟨wr.heap.size, 3, none⟩ = some (.slice o.a o.n o.c) ∧ w'.cell? ⟨wr.heap.size, 4, none⟩ = some (.int .i64 o.N) ∧ w'.cell? ⟨wr.heap.size, 5, none⟩ = some (.bool o.done) ∧ w'.cell? ⟨wr.heap.size, 6, none⟩ = some (.slice a0 n0 c0) ∧ w'.cell? ⟨wr.heap.size, 7, none⟩ = some (.slice a1 n1 c1) ∧ w'.cell? ⟨wr.heap.size, 8, none⟩ = some (.slice a2 n2 c2)) (first | go_keep)
                (first
                  | (go_at_call 23; refine (rActE w wxq B2 B1 wr.heap.size db dyp o _ OC.out HK.out pxq kxq Xq.out.1.swap OKB.out Xq.out.2.1 SN.out.2.2.2.2 Xq.out.2.2.2).mono ?_; rintro x wyq ⟨rfl, dyq, eq, yq⟩
                     have Yq : Hid (dyq.ab = (db.ab.act o.kind o.slot o.l).1 ∧ RS w wyq B2 B1 wr.heap.size dyq dyp o) := ⟨eq, yq⟩
                     obtain ⟨aq0, aq1, aq2, aq3, aq4, aq5, aq6, aq7, aq8⟩ := yq.cells
                     rw [HV.out.1] at aq6; rw [HV.out.2.1] at aq7; rw [HV.out.2.2] at aq8
                     clear eq yq)
                  | (go_at_call 10; refine (rWide w wyp.drew B1 B2 wr.heap.size dyp db o (Yp.out.2.quiet KDq.out) SN.out.2.2.2.2).mono ?_; rintro x wxq ⟨pxq, kxq, rfl, xq⟩
                     have Xq : Hid (RS w wxq B1 B2 wr.heap.size dyp db o ∧ Reads wxq pxq o.n kxq o.l ∧ (∀ j, blockOf pxq = some j → j ≠ B1) ∧ (∀ j, blockOf pxq = some j → j ≠ B2)) := xq
                     obtain ⟨bq0, bq1, bq2, bq3, bq4, bq5, bq6, bq7, bq8⟩ := xq.1.cells
                     rw [HV.out.1] at bq6; rw [HV.out.2.1] at bq7; rw [HV.out.2.2] at bq8
                     clear xq)
                  | fail)
              have Z : Hid (ST w wyq B1 B2 O many dn (i + 1) acts false) := ⟨dyp, dyq, Yq.out.2.swap.md, by rw [Yq.out.1]; exact SB.out, by rw [Yq.out.1, TT.out.1]; exact R0.out.2.2.1, by rw [Yp.out.1, Yq.out.1, EA.out, TT.out.1, TT.out.2]; rfl⟩
              try rw [hb]
              clear hb
              go_wp2_with fail
              go_roundw
              case rel => exact ⟨i + 1, acts, false, by go_num, rfl, rfl, by omega, by omega, Z.out⟩
              case measure => simp [intOf]; omega
            · have hv : (da.ab.act o.kind o.slot o.l).2 = 60 := by rw [EA.out, t2]
              have hm : ((acts + 1 : Nat) : Int) = (many : Int) := by omega
              have hm' : (acts : Int) + 1 = (many : Int) := by omega
              have Z : Hid (ST w wyp B1 B2 O many false (i + 1) acts true) := ⟨dyp, db, Yp.out.2.md, R0.out.2.1.mono (by rw [SN.out.1]; omega) (by omega), R0.out.2.2.1, by rw [Yp.out.1, EA.out, t2]; rfl⟩
              have DD : Hid (dyp.dead = true) := by
                have := congrArg AB.dead Yp.out.1
                rw [EA.out, t2] at this
                exact this
              rw [hv]
              clear hv t2
              go_wp2_with fail
              refine (dDead w.heap.size B1 dyp wyp Yp.out.2.md.head).mono ?_
              rintro x wz ⟨rfl, rfl⟩
              rw [DD.out]
              go_wp2_with fail
              go_roundw
              case rel => exact ⟨i + 1, acts, true, by go_num, rfl, rfl, by omega, by omega, Z.out⟩
              case measure => simp [intOf]; omega
            · have hv : (da.ab.act o.kind o.slot o.l).2 = 60 := by rw [EA.out, t3]
              have hb : (db.ab.act o.kind o.slot o.l).2 = 0 := by rw [t1]
              have hm : ((acts + 1 : Nat) : Int) = (many : Int) := by omega
              have hm' : (acts : Int) + 1 = (many : Int) := by omega
              have TT : Hid (db.ab.act o.kind o.slot o.l = (A', 0) ∧ A'.acts = acts + 1 ∧ da.ab.act o.kind o.slot o.l = (A'.twin 0 true true, 60)) := ⟨t1, by rw [t2, R0.out.2.2.1], by rw [EA.out]; exact t3⟩
              have DD : Hid (dyp.dead = true) := by
                have := congrArg AB.dead Yp.out.1
                rw [TT.out.2.2] at this
                exact this
              rw [hv]
              clear hv t1 t2 t3
              go_wp2_with fail
              refine (dDead w.heap.size B1 dyp wyp Yp.out.2.md.head).mono ?_
              rintro x wz ⟨rfl, ez⟩
              rw [ez]
              clear ez wz
              rw [DD.out]
              go_wp2_with fail
              have KDq : Hid (Kept (fun _ => False) wyp wyp.drew) := (Kept.refl (fun _ => False) wyp).drew
              go_region_held3 (fun w' => w'.cell? ⟨wr.heap.size, 0, none⟩ = some (.int .i64 o.kind) ∧ w'.cell? ⟨wr.heap.size, 1, none⟩ = some (.int .i64 o.D) ∧ w'.cell? ⟨wr.heap.size, 2, none⟩ = some (.int .i64 o.slot) ∧ w'.cell? ⟨wr.heap.size, 3, none⟩ = some (.slice o.a o.n o.c) ∧ w'.cell? ⟨wr.heap.size, 4, none⟩ = some (.int .i64 o.N) ∧ w'.cell? ⟨wr.heap.size, 5, none⟩ = some (.bool o.done) ∧ w'.cell? ⟨wr.heap.size, 6, none⟩ = some (.slice a0 n0 c0) ∧ w'.cell? ⟨wr.heap.size, 7, none⟩ = some (.slice a1 n1 c1) ∧ w'.cell? ⟨wr.heap.size, 8, none⟩ = some (.slice a2 n2 c2)) (first | go_keep)
                (first
                  | (go_at_call 23; refine (rActE w wxq B2 B1 wr.heap.size db dyp o _ OC.out HK.out pxq kxq Xq.out.1.swap OKB.out Xq.out.2.1 SN.out.2.2.2.2 Xq.out.2.2.2).mono ?_; rintro x wyq ⟨rfl, dyq, eq, yq⟩
                     have Yq : Hid (dyq.ab = (db.ab.act o.kind o.slot o.l).1 ∧ RS w wyq B2 B1 wr.heap.size dyq dyp o) := ⟨eq, yq⟩
                     obtain ⟨aq0, aq1, aq2, aq3, aq4, aq5, aq6, aq7, aq8⟩ := yq.cells
                     rw [HV.out.1] at aq6; rw [HV.out.2.1] at aq7; rw [HV.out.2.2] at aq8
                     clear eq yq)
                  | (go_at_call 10; refine (rWide w wyp.drew B1 B2 wr.heap.size dyp db o (Yp.out.2.quiet KDq.out) SN.out.2.2.2.2).mono ?_; rintro x wxq ⟨pxq, kxq, rfl, xq⟩
                     have Xq : Hid (RS w wxq B1 B2 wr.heap.size dyp db o ∧ Reads wxq pxq o.n kxq o.l ∧ (∀ j, blockOf pxq = some j → j ≠ B1) ∧ (∀ j, blockOf pxq = some j → j ≠ B2)) := xq
                     obtain ⟨bq0, bq1, bq2, bq3, bq4, bq5, bq6, bq7, bq8⟩ := xq.1.cells
                     rw [HV.out.1] at bq6; rw [HV.out.2.1] at bq7; rw [HV.out.2.2] at bq8
                     clear xq)
                  | fail)
              have Z : Hid (ST w wyq B1 B2 O many true (i + 1) (acts + 1) true) := ⟨dyp, dyq, Yq.out.2.swap.md, by rw [Yq.out.1]; exact SB.out, by rw [Yq.out.1, TT.out.1]; exact TT.out.2.1, by rw [Yp.out.1, Yq.out.1, TT.out.1, TT.out.2.2]; rfl⟩
              try rw [hb]
              clear hb
              go_wp2_with fail
              go_roundw
              case rel => exact ⟨i + 1, acts + 1, true, by go_num, by go_num, rfl, by omega, by omega, Z.out⟩
              case measure => simp [intOf]; omega
            · have hv : (da.ab.act o.kind o.slot o.l).2 = 0 := by rw [EA.out, t3]
              have hb : (db.ab.act o.kind o.slot o.l).2 = 0 := by rw [t1]
              have hm : ¬ ((acts + 1 : Nat) : Int) = (many : Int) := by omega
              have hm' : ¬ (acts : Int) + 1 = (many : Int) := by omega
              have TT : Hid (db.ab.act o.kind o.slot o.l = (A', 0) ∧ A'.acts = acts + 1 ∧ da.ab.act o.kind o.slot o.l = (A'.twin ((many - (acts + 1) : Nat) : Int) dn false, 0)) := ⟨t1, by rw [t2, R0.out.2.2.1], by rw [EA.out]; exact t3⟩
              rw [hv]
              clear hv t1 t2 t3 t0
              go_wp2_with fail
              have KDq : Hid (Kept (fun _ => False) wyp wyp.drew) := (Kept.refl (fun _ => False) wyp).drew
              go_region_held3 (fun w' => w'.cell? ⟨wr.heap.size, 0, none⟩ = some (.int .i64 o.kind) ∧ w'.cell? ⟨wr.heap.size, 1, none⟩ = some (.int .i64 o.D) ∧ w'.cell? ⟨wr.heap.size, 2, none⟩ = some (.int .i64 o.slot) ∧ w'.cell? ⟨wr.heap.size, 3, none⟩ = some (.slice o.a o.n o.c) ∧ w'.cell? ⟨wr.heap.size, 4, none⟩ = some (.int .i64 o.N) ∧ w'.cell? ⟨wr.heap.size, 5, none⟩ = some (.bool o.done) ∧ w'.cell? ⟨wr.heap.size, 6, none⟩ = some (.slice a0 n0 c0) ∧ w'.cell? ⟨wr.heap.size, 7, none⟩ = some (.slice a1 n1 c1) ∧ w'.cell? ⟨wr.heap.size, 8, none⟩ = some (.slice a2 n2 c2)) (first | go_keep)
                (first
                  | (go_at_call 23; refine (rActE w wxq B2 B1 wr.heap.size db dyp o _ OC.out HK.out pxq kxq Xq.out.1.swap OKB.out Xq.out.2.1 SN.out.2.2.2.2 Xq.out.2.2.2).mono ?_; rintro x wyq ⟨rfl, dyq, eq, yq⟩
                     have Yq : Hid (dyq.ab = (db.ab.act o.kind o.slot o.l).1 ∧ RS w wyq B2 B1 wr.heap.size dyq dyp o) := ⟨eq, yq⟩
                     obtain ⟨aq0, aq1, aq2, aq3, aq4, aq5, aq6, aq7, aq8⟩ := yq.cells
                     rw [HV.out.1] at aq6; rw [HV.out.2.1] at aq7; rw [HV.out.2.2] at aq8
                     clear eq yq)
                  | (go_at_call 10; refine (rWide w wyp.drew B1 B2 wr.heap.size dyp db o (Yp.out.2.quiet KDq.out) SN.out.2.2.2.2).mono ?_; rintro x wxq ⟨pxq, kxq, rfl, xq⟩
                     have Xq : Hid (RS w wxq B1 B2 wr.heap.size dyp db o ∧ Reads wxq pxq o.n kxq o.l ∧ (∀ j, blockOf pxq = some j → j ≠ B1) ∧ (∀ j, blockOf pxq = some j → j ≠ B2)) := xq
                     obtain ⟨bq0, bq1, bq2, bq3, bq4, bq5, bq6, bq7, bq8⟩ := xq.1.cells
                     rw [HV.out.1] at bq6; rw [HV.out.2.1] at bq7; rw [HV.out.2.2] at bq8
                     clear xq)
                  | fail)
              have Z : Hid (ST w wyq B1 B2 O many dn (i + 1) (acts + 1) false) := ⟨dyp, dyq, Yq.out.2.swap.md, by rw [Yq.out.1]; exact SB.out, by rw [Yq.out.1, TT.out.1]; exact TT.out.2.1, by rw [Yp.out.1, Yq.out.1, TT.out.1, TT.out.2.2]; rfl⟩
              try rw [hb]
              clear hb
              go_wp2_with fail
              go_roundw
              case rel => exact ⟨i + 1, acts + 1, false, by go_num, by go_num, rfl, by omega, by omega, Z.out⟩
              case measure => simp [intOf]; omega
    · have he : i = n := by omega
      have i1 : ¬ (i : Int) < (n : Int) := by omega
      go_wp2_with fail
      obtain ⟨da, db, md, sm, ea, et⟩ := S.out.ex
      have OB : db.ab.Ok := sm.ok (Nat.le_trans (sumN_le O i) H.out.2.2.1) (by have := H.out.2.1; omega)
      have OA : da.ab.Ok := by
        rw [et]
        refine twin_ok OB ?_ ?_ _ _
        · split <;> omega
        · have := H.out.2.1; unfold Few at this; split <;> omega
      have CO : (db.ab.crash cs).Ok := crash_ok sm (Nat.le_trans (sumN_le O i) H.out.2.2.1) cs
      have R : Hid (MD w wr [(B1, da), (B2, db)] ∧ da.ab.Ok ∧ db.ab.Ok ∧ db.ab.acts = acts ∧ da.ab.acts = acts ∧ da.ab.X0.length + da.ab.X1.length = db.ab.X0.length + db.ab.X1.length ∧ da.ab.dead = dd ∧ da.ab.crash cs = db.ab.crash cs ∧ (db.ab.crash cs).Ok) := ⟨md, OA, OB, ea, by rw [et]; exact ea, by rw [et]; rfl, by rw [et]; rfl, by rw [et]; rfl, CO⟩
      clear md sm ea et OB OA CO S
      refine (dActs w.heap.size B1 da wr R.out.1.head).mono ?_
      rintro x wz ⟨rfl, ez⟩
      rw [ez, show da.acts = acts from R.out.2.2.2.2.1]
      clear ez wz
      go_wp2_with fail
      refine (dActs w.heap.size B2 db wr R.out.1.swap.head).mono ?_
      rintro x wz ⟨rfl, ez⟩
      rw [ez, show db.acts = acts from R.out.2.2.2.1]
      clear ez wz
      go_wp2_with fail
      refine (dPending w.heap.size B1 da wr R.out.1.head R.out.2.1).mono ?_
      rintro x w7 ⟨rfl, K7⟩
      rw [R.out.2.2.2.2.2.1]
      obtain ⟨pn, hpn⟩ : ∃ pn, pn = db.ab.X0.length + db.ab.X1.length := ⟨_, rfl⟩
      rw [← hpn]
      have N7 : Hid (MD w w7 [(B1, da), (B2, db)] ∧ db.ab.X0.length + db.ab.X1.length = pn) := ⟨R.out.1.quiet K7, hpn.symm⟩
      clear K7 hpn
      go_wp2_with fail
      refine (dPending w.heap.size B2 db w7 N7.out.1.swap.head R.out.2.2.1).mono ?_
      rintro x w8 ⟨rfl, K8⟩
      rw [N7.out.2]
      have N8 : Hid (MD w w8 [(B1, da), (B2, db)]) := N7.out.1.quiet K8
      clear K8 N7
      go_wp2_with fail
      refine (dDead w.heap.size B1 da w8 N8.out.head).mono ?_
      rintro x wz ⟨rfl, ez⟩
      rw [ez, show da.dead = dd from R.out.2.2.2.2.2.2.1]
      clear ez wz
      have IQ : Hid (∀ V : World, Kept (fun _ => False) w V → IRd V qc nc cc cs) := fun V K => H.out.2.2.2.kept0 K
      have LQ : Hid (0 < nc → ∀ k, blockOf qc = some k → k < w.heap.size) := fun h0 k hk => H.out.2.2.2.lt h0 k hk
      cases dd with
      | true =>
        go_wp2_with fail
        refine (dRead_dead w.heap.size B1 da 0 w8 N8.out.head R.out.2.2.2.2.2.2.1).mono ?_
        rintro x wz ⟨rfl, ez⟩
        rw [ez]
        clear ez wz
        go_wp2_with fail
        refine (dStop_dead w.heap.size B1 da 1 true w8 N8.out.head R.out.2.2.2.2.2.2.1).mono ?_
        rintro x wz ⟨rfl, ez⟩
        rw [ez]
        clear ez wz
        go_wp2_with fail
        refine (mCrash w w8 B1 da _ qc nc cc cs N8.out R.out.2.1 (IQ.out w8 N8.out.kept) (fun h0 k hk z => by have := LQ.out h0 k hk; have := N8.out.head.low; omega)).mono ?_
        rintro x w9 ⟨F1, f1, rfl, e9, m9⟩
        have N9 : Hid (f1.ab = db.ab.crash cs ∧ MD w w9 [(B2, db), (F1, f1)]) := ⟨by rw [e9]; exact R.out.2.2.2.2.2.2.2.1, m9.swap.tail.swap⟩
        clear e9 m9
        go_wp2_with fail
        refine (mCrash w w9 B2 db _ qc nc cc cs N9.out.2 R.out.2.2.1 (IQ.out w9 N9.out.2.kept) (fun h0 k hk z => by have := LQ.out h0 k hk; have := N9.out.2.head.low; omega)).mono ?_
        rintro x w10 ⟨F2, f2, rfl, e10, m10⟩
        have NA : Hid (f2.ab = db.ab.crash cs ∧ MD w w10 [(F1, f1), (F2, f2)]) := ⟨e10, m10.swap.tail.swap⟩
        clear e10 m10
        go_wp2_with fail
        refine (alike w.heap.size w.heap.size F1 F2 f1 f2 w10 NA.out.2.head NA.out.2.swap.head (by have := congrArg AB.dead N9.out.1; exact this) (by have := congrArg AB.dead NA.out.1; exact this) (by rw [N9.out.1]; exact R.out.2.2.2.2.2.2.2.2) (by rw [NA.out.1]; exact R.out.2.2.2.2.2.2.2.2) (by rw [N9.out.1, NA.out.1]) (by rw [N9.out.1, NA.out.1]) (by have h1 := congrArg AB.cur N9.out.1; have h2 := congrArg AB.cur NA.out.1; exact h1.trans h2.symm)).mono ?_
        rintro x w11 ⟨rfl, K11⟩
        have NB : Hid (Kept (fun _ => False) w w11) := NA.out.2.kept.trans K11 (fun _ _ z => z)
        clear K11
        go_wp2_with fail
        go_ret
        exact ⟨by first | rfl | simp, NB.out⟩
      | false =>
        go_wp2_with fail
        refine (mCrash w w8 B1 da _ qc nc cc cs N8.out R.out.2.1 (IQ.out w8 N8.out.kept) (fun h0 k hk z => by have := LQ.out h0 k hk; have := N8.out.head.low; omega)).mono ?_
        rintro x w9 ⟨F1, f1, rfl, e9, m9⟩
        have N9 : Hid (f1.ab = db.ab.crash cs ∧ MD w w9 [(B2, db), (F1, f1)]) := ⟨by rw [e9]; exact R.out.2.2.2.2.2.2.2.1, m9.swap.tail.swap⟩
        clear e9 m9
        go_wp2_with fail
        refine (mCrash w w9 B2 db _ qc nc cc cs N9.out.2 R.out.2.2.1 (IQ.out w9 N9.out.2.kept) (fun h0 k hk z => by have := LQ.out h0 k hk; have := N9.out.2.head.low; omega)).mono ?_
        rintro x w10 ⟨F2, f2, rfl, e10, m10⟩
        have NA : Hid (f2.ab = db.ab.crash cs ∧ MD w w10 [(F1, f1), (F2, f2)]) := ⟨e10, m10.swap.tail.swap⟩
        clear e10 m10
        go_wp2_with fail
        refine (alike w.heap.size w.heap.size F1 F2 f1 f2 w10 NA.out.2.head NA.out.2.swap.head (by have := congrArg AB.dead N9.out.1; exact this) (by have := congrArg AB.dead NA.out.1; exact this) (by rw [N9.out.1]; exact R.out.2.2.2.2.2.2.2.2) (by rw [NA.out.1]; exact R.out.2.2.2.2.2.2.2.2) (by rw [N9.out.1, NA.out.1]) (by rw [N9.out.1, NA.out.1]) (by have h1 := congrArg AB.cur N9.out.1; have h2 := congrArg AB.cur NA.out.1; exact h1.trans h2.symm)).mono ?_
        rintro x w11 ⟨rfl, K11⟩
        have NB : Hid (Kept (fun _ => False) w w11) := NA.out.2.kept.trans K11 (fun _ _ z => z)
        clear K11
        go_wp2_with fail
        go_ret
        exact ⟨by first | rfl | simp, NB.out⟩
end Go.Proofs.Ytbnnmelkbjkkjaa
