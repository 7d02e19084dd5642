import Derived.Test.YtbnnmelkbjkkjaaLate
namespace Go.Proofs.Ytbnnmelkbjkkjaa
open Go.RowKit

theorem owned_reads {w : World} {base : Nat} {a : Option Addr} {n c : Nat} {l : List Nat} (h : w.ownsRow base 5 1 (.slice a n c) n (cellsOf l)) (hb : ∀ c ∈ l, c < 256) : Reads w a n c l := by
  obtain ⟨a', c', e, r, _⟩ := owns_reads h hb
  simp at e
  obtain ⟨rfl, rfl⟩ := e
  exact r
theorem late_of (A : AB) (h0 : A.X0 = []) (h1 : A.X1 = []) (hl : A.dead = false) (hf : A.named = 0) : A = (⟨A.l0, [], A.l1, [], A.cur, 0, false, 0, false⟩ : AB).late A.acts A.done := by
  cases A
  simp_all [AB.late]
set_option maxRecDepth 100000 in
set_option maxHeartbeats 8000000 in
theorem diskLoads (q : Option Addr) (n cap : Nat) (O : List Opv) (q2 : Option Addr) (m cap2 : Nat) (T : List Opv) (qc : Option Addr) (nc cc : Nat) (cs : List Int) (w : World) (hO : Script w q n cap O) (hT : Script w q2 m cap2 T) (hn : n + m + 4 ≤ Few) (hs : sumN O + sumN T ≤ Few) (hS : ∀ o ∈ T, o.Sl) (rc : IRd w qc nc cc cs) :
    Calls Try.prog 7 #[.slice q n cap, .slice q2 m cap2, .slice qc nc cc] w fun x w' => x = .returned (.bool true) ∧ Kept (fun _ => False) w w' := by
  have H : Hid (Script w q n cap O ∧ Script w q2 m cap2 T ∧ n + m + 4 ≤ Few ∧ sumN O + sumN T ≤ Few ∧ IRd w qc nc cc cs) := ⟨hO, hT, hn, hs, rc⟩
  have HS : Hid (∀ o ∈ T, o.Sl) := hS
  have hol := hT.length
  have hr := hT.room
  have hsm := hT.small
  unfold maxLen at hsm
  unfold Few at hn
  clear hO hT hs hS rc
  go_enter Try.func7, Try.ntmps7
  go_wp2_with fail
  refine (begun q n cap O w H.out.1 (by unfold Few; omega) (by have := H.out.2.2.2.1; omega)).mono ?_
  rintro x w1 ⟨A, rfl, h1, s1⟩
  have X1 : Hid (HD w w1 w.heap.size A ∧ Small A (sumN O) n) := ⟨h1, s1⟩
  obtain ⟨B1, hB1⟩ : ∃ B1, B1 = w.heap.size := ⟨_, rfl⟩
  rw [← hB1] at X1 ⊢
  have HB : Hid (B1 = w.heap.size) := hB1
  clear h1 s1 hB1
  go_wp2_with fail
  refine (head w1).mono ?_
  rintro x w2 ⟨rfl, K2⟩
  have X2 : Hid (HD w w2 B1 A ∧ Small A (sumN O) n) := ⟨X1.out.1.quiet K2, X1.out.2⟩
  clear K2 X1
  go_wp2_with fail
  refine (hSync w w2 B1 A 0 (by omega) X2.out.1 X2.out.2.live (by rw [X2.out.2.free]; decide) (X2.out.2.ok (by have := H.out.2.2.2.1; omega) (by unfold Few; omega))).mono ?_
  rintro x w3 ⟨rfl, h3⟩
  obtain ⟨A3', hA3⟩ : ∃ A3', A3' = (A.tick.sync 0).counted := ⟨_, rfl⟩
  rw [← hA3] at h3
  have X3 : Hid (HD w w3 B1 A3' ∧ Small A3' (sumN O) (n + 1) ∧ A3'.X0 = []) := ⟨h3, by rw [hA3]; exact X2.out.2.sync 0, by rw [hA3]; rfl⟩
  clear h3 hA3 X2
  go_wp2_with fail
  refine (hSync w w3 B1 A3' 1 (by omega) X3.out.1 X3.out.2.1.live (by rw [X3.out.2.1.free]; decide) (X3.out.2.1.ok (by have := H.out.2.2.2.1; omega) (by unfold Few; omega))).mono ?_
  rintro x w4 ⟨rfl, h4⟩
  obtain ⟨A4', hA4⟩ : ∃ A4', A4' = (A3'.tick.sync 1).counted := ⟨_, rfl⟩
  rw [← hA4] at h4
  obtain ⟨da, ea, m4⟩ := MD.of_hd h4
  have X4 : Hid (MD w w4 [(B1, da)] ∧ Small da.ab (sumN O) (n + 2) ∧ da.ab.X0 = [] ∧ da.ab.X1 = []) := ⟨m4, by rw [ea, hA4]; exact X3.out.2.1.sync 1, by rw [ea, hA4]; exact X3.out.2.2, by rw [ea, hA4]; rfl⟩
  clear h4 hA4 X3 ea m4
  have OA : Hid (da.ab.Ok ∧ da.dead = false) := ⟨X4.out.2.1.ok (by have := H.out.2.2.2.1; omega) (by unfold Few; omega), X4.out.2.1.live⟩
  go_wp2_with fail
  refine (dSlots w.heap.size B1 da w4 X4.out.1.head OA.out.2 OA.out.1).mono ?_
  rintro x w5 ⟨p0, n0, c0, p1, n1, c1, rfl, s5⟩
  have X5 : Hid (SlotsAre w4 w5 da.ab p0 n0 c0 p1 n1 c1) := s5
  clear s5
  obtain ⟨W5, hW5⟩ : ∃ W5, W5 = w5.alloc (.cells #[.slice p0 n0 c0, .slice p1 n1 c1] 32) := ⟨_, rfl⟩
  have E5 : Hid (W5 = w5.alloc (.cells #[.slice p0 n0 c0, .slice p1 n1 c1] 32)) := hW5
  have K5 : Kept (fun _ => False) w5 W5 := by rw [hW5]; exact alloc_kept0 _ _
  have Y5 : Hid (MD w W5 [(B1, da)] ∧ W5.heap[w5.heap.size]? = some (.cells #[.slice p0 n0 c0, .slice p1 n1 c1] 32 (0, 0)) ∧ SlotsAre w4 W5 da.ab p0 n0 c0 p1 n1 c1 ∧ w4.heap.size ≤ w5.heap.size ∧ (∀ k, blockOf p0 = some k → k < w5.heap.size) ∧ (∀ k, blockOf p1 = some k → k < w5.heap.size)) := by
    refine ⟨(X4.out.1.quiet X5.out.kept).quiet K5, by rw [hW5]; exact alloc_new _ _, ⟨K5.owns X5.out.o0 (fun _ _ z => z), K5.owns X5.out.o1 (fun _ _ z => z), X5.out.ne, X5.out.kept.trans K5 (fun _ _ z => z)⟩, X5.out.kept.size, fun k hk => (own_lt X5.out.o0 k hk).2, fun k hk => (own_lt X5.out.o1 k hk).2⟩
  have y0 : W5.cell? ⟨w5.heap.size, 0, none⟩ = some (.slice p0 n0 c0) := cell_blk Y5.out.2.1 0 rfl
  have y1 : W5.cell? ⟨w5.heap.size, 1, none⟩ = some (.slice p1 n1 c1) := cell_blk Y5.out.2.1 1 rfl
  have by0 : Hid (Reads W5 p0 n0 c0 (da.ab.now 0) ∧ Reads W5 p1 n1 c1 (da.ab.now 1) ∧ n0 ≤ Lim ∧ n1 ≤ Lim) := by
    have r0 := owned_reads Y5.out.2.2.1.o0 (ab_bytes Y5.out.1.head 0)
    have r1 := owned_reads Y5.out.2.2.1.o1 (ab_bytes Y5.out.1.head 1)
    refine ⟨r0, r1, ?_, ?_⟩
    · rw [← r0.length]; exact Nat.le_trans (redoL_length da.ab.X0 da.ab.l0) OA.out.1.w0
    · rw [← r1.length]; exact Nat.le_trans (redoL_length da.ab.X1 da.ab.l1) OA.out.1.w1
  clear K5 hW5
  go_upto_region 5 with fail
  rw [← E5.out]
  go_wp2_with fail
  refine (dLoad p0 n0 c0 (da.ab.now 0) p1 n1 c1 (da.ab.now 1) da.cur W5 by0.out.1 by0.out.2.1 by0.out.2.2.1 by0.out.2.2.2 Y5.out.1.head.two).mono ?_
  rintro x w6 ⟨db, rfl, i6, e6, K6, u6⟩
  obtain ⟨B2, hB2⟩ : ∃ B2, B2 = W5.heap.size + 1 := ⟨_, rfl⟩
  rw [← hB2] at i6 u6 ⊢
  have X6 : Hid (MD w w6 [(B2, db), (B1, da)] ∧ w6.heap[w5.heap.size]? = some (.cells #[.slice p0 n0 c0, .slice p1 n1 c1] 32 (0, 0)) ∧ SlotsAre w4 w6 da.ab p0 n0 c0 p1 n1 c1 ∧ (∀ k, da.Uses B1 k → k < w4.heap.size) ∧ (∀ k, db.Uses B2 k → W5.heap.size ≤ k) ∧ w5.heap.size < W5.heap.size ∧ W5.heap.size ≤ w6.heap.size) := by
    refine ⟨Y5.out.1.cons K6 (i6.mono Y5.out.1.kept.size) u6, K6.get Y5.out.2.1 (fun z => z), ⟨K6.owns Y5.out.2.2.1.o0 (fun _ _ z => z), K6.owns Y5.out.2.2.1.o1 (fun _ _ z => z), Y5.out.2.2.1.ne, Y5.out.2.2.1.kept.trans K6 (fun _ _ z => z)⟩, fun k hk => X4.out.1.head.lt hk, u6, block_lt Y5.out.2.1, K6.size⟩
  have E6 : Hid (db.ab = ⟨da.ab.now 0, [], da.ab.now 1, [], da.cur, 0, false, 0, false⟩) := e6
  have now6 : Hid (db.ab.now 0 = da.ab.now 0 ∧ db.ab.now 1 = da.ab.now 1 ∧ db.cur = da.cur ∧ db.dead = false ∧ db.ab.Ok ∧ Small db.ab (sumN O) 0 ∧ da.ab = db.ab.late da.ab.acts da.ab.done) := by
    have q0 : da.ab.now 0 = da.ab.l0 := by show redoL da.ab.l0 da.ab.X0 = _; rw [X4.out.2.2.1]; rfl
    have q1 : da.ab.now 1 = da.ab.l1 := by show redoL da.ab.l1 da.ab.X1 = _; rw [X4.out.2.2.2]; rfl
    have wn : weigh [] = 0 := rfl
    have sm : Small db.ab (sumN O) 0 := by
      have := X4.out.2.1.wt
      rw [e6]
      refine ⟨?_, Nat.le_refl _, Nat.le_refl _, Nat.le_refl _, rfl, rfl⟩
      show (da.ab.now 0).length + weigh [] + (da.ab.now 1).length + weigh [] ≤ sumN O
      rw [q0, q1]
      omega
    refine ⟨by rw [e6]; rfl, by rw [e6]; rfl, congrArg AB.cur e6, congrArg AB.dead e6, sm.ok (by have := H.out.2.2.2.1; omega) (Nat.zero_le _), sm, ?_⟩
    have lo := late_of da.ab X4.out.2.2.1 X4.out.2.2.2 X4.out.2.1.live X4.out.2.1.free
    rw [e6, q0, q1]
    exact lo
  clear e6 i6 K6 u6 hB2
  go_wp2_with fail
  refine (alike w.heap.size w.heap.size B2 B1 db da w6 X6.out.1.head X6.out.1.swap.head now6.out.2.2.2.1 OA.out.2 now6.out.2.2.2.2.1 OA.out.1 now6.out.1 now6.out.2.1 now6.out.2.2.1).mono ?_
  rintro x w7 ⟨rfl, K7⟩
  have X7 : Hid (MD w w7 [(B2, db), (B1, da)] ∧ w7.heap[w5.heap.size]? = some (.cells #[.slice p0 n0 c0, .slice p1 n1 c1] 32 (0, 0)) ∧ w7.ownsRow w4.heap.size 5 1 (.slice p0 n0 c0) n0 (cellsOf (da.ab.now 0)) ∧ w7.ownsRow w4.heap.size 5 1 (.slice p1 n1 c1) n1 (cellsOf (da.ab.now 1))) := ⟨X6.out.1.quiet K7, K7.get X6.out.2.1 (fun z => z), K7.owns X6.out.2.2.1.o0 (fun _ _ z => z), K7.owns X6.out.2.2.1.o1 (fun _ _ z => z)⟩
  have z0 : w7.cell? ⟨w5.heap.size, 0, none⟩ = some (.slice p0 n0 c0) := cell_blk X7.out.2.1 0 rfl
  clear K7 y0 y1
  have FAR : Hid (∀ p : Option Addr, (∀ k, blockOf p = some k → w4.heap.size ≤ k ∧ k < w5.heap.size) → ∀ x ∈ [(B2, db), (B1, da)], ∀ k, x.2.Uses x.1 k → ¬ blockOf p = some k) := by
    intro p hp x hx k hk z
    have := hp k z
    rcases List.mem_cons.1 hx with e | e
    · rw [e] at hk
      have := X6.out.2.2.2.2.1 k hk
      have := X6.out.2.2.2.2.2
      omega
    · rw [List.mem_singleton.1 e] at hk
      have := X6.out.2.2.2.1 k hk
      omega
  have B0 : Hid (∀ k, blockOf p0 = some k → w4.heap.size ≤ k ∧ k < w5.heap.size) := fun k hk => ⟨(own_lt X7.out.2.2.1 k hk).1, Y5.out.2.2.2.2.1 k hk⟩
  have B1' : Hid (∀ k, blockOf p1 = some k → w4.heap.size ≤ k ∧ k < w5.heap.size) := fun k hk => ⟨(own_lt X7.out.2.2.2 k hk).1, Y5.out.2.2.2.2.2 k hk⟩
  go_wp2_with fail
  refine (over w4.heap.size p0 n0 c0 _ w7 X7.out.2.2.1).mono ?_
  rintro x w8 ⟨rfl, K8⟩
  have X8 : Hid (MD w w8 [(B2, db), (B1, da)] ∧ w8.heap[w5.heap.size]? = some (.cells #[.slice p0 n0 c0, .slice p1 n1 c1] 32 (0, 0)) ∧ w8.ownsRow w4.heap.size 5 1 (.slice p1 n1 c1) n1 (cellsOf (da.ab.now 1))) := by
    refine ⟨X7.out.1.off K8 (FAR.out p0 B0.out) (fun k hk => by have := B0.out k hk; have := X4.out.1.kept.size; omega), K8.get X7.out.2.1 (fun z => by have := B0.out _ z; omega), K8.owns X7.out.2.2.2 (fun k hk z => ?_)⟩
    exact X6.out.2.2.1.ne k z (by rw [← hk]; exact (blockOf_own ..).symm)
  have z1 : w8.cell? ⟨w5.heap.size, 1, none⟩ = some (.slice p1 n1 c1) := cell_blk X8.out.2.1 1 rfl
  clear K8 z0
  go_wp2_with fail
  refine (over w4.heap.size p1 n1 c1 _ w8 X8.out.2.2).mono ?_
  rintro x w9 ⟨rfl, K9⟩
  have X9 : Hid (MD w w9 [(B1, da), (B2, db)]) := (X8.out.1.off K9 (FAR.out p1 B1'.out) (fun k hk => by have := B1'.out k hk; have := X4.out.1.kept.size; omega)).swap
  clear K9 z1
  go_wp2_with fail
  refine (dActs w.heap.size B1 da w9 X9.out.head).mono ?_
  rintro x wz ⟨rfl, ez⟩
  rw [ez]
  clear ez wz
  obtain ⟨k0, hk0⟩ : ∃ k0, k0 = da.acts := ⟨_, rfl⟩
  obtain ⟨dn, hdn⟩ : ∃ dn, dn = da.ab.done := ⟨_, rfl⟩
  have S9 : Hid (LS w w9 B1 B2 (sumN O) T k0 dn 0 ∧ k0 ≤ n + 2) := by
    refine ⟨⟨da, db, X9.out, ?_, ?_⟩, ?_⟩
    · show Small db.ab (sumN O + 0) 0
      exact now6.out.2.2.2.2.2.1
    · rw [hk0, hdn]; exact now6.out.2.2.2.2.2.2
    · rw [hk0]; exact X4.out.2.1.acts
  rw [← hk0]
  have hk2 : k0 ≤ n + 2 := S9.out.2
  clear hk0 hdn X9 X8 X7 X6 X5 X4 Y5 by0 now6 OA FAR B0 B1' E5 E6
  go_wp2_with fail
  go_loopw [13] (fun x wr => ∃ i : Nat, x = .int .i64 (i : Int) ∧ i ≤ m ∧ Hid (LS w wr B1 B2 (sumN O) T k0 dn i)) (fun x _ => m - (intOf x).toNat)
  case atStart => exact ⟨0, rfl, Nat.zero_le _, S9.out.1⟩
  case round =>
    obtain ⟨i, rfl, hi, S⟩ := hrel
    by_cases hlt : i < m
    · have i1 : (i : Int) < (m : Int) := by omega
      obtain ⟨o, ho⟩ : ∃ o, T[i]? = some o := ⟨_, List.getElem?_eq_getElem (by omega)⟩
      obtain ⟨b, off, rfl, hc⟩ := H.out.2.1.cells (by omega)
      obtain ⟨da, db, md, sm, et⟩ := S.out.ex
      obtain ⟨a0, n0, c0, a1, n1, c1, a2, n2, c2, hv0, hv1, hv2⟩ := HS.out o (List.mem_of_getElem? ho)
      have HV : Hid (o.v0 = .slice a0 n0 c0 ∧ o.v1 = .slice a1 n1 c1 ∧ o.v2 = .slice a2 n2 c2) := ⟨hv0, hv1, hv2⟩
      have OC : Hid (#[.int .i64 o.kind, .int .i64 o.D, .int .i64 o.slot, .slice o.a o.n o.c, .int .i64 o.N, .bool o.done, .slice a0 n0 c0, .slice a1 n1 c1, .slice a2 n2 c2] = o.cs) := by show _ = o.cs; unfold Opv.cs; rw [hv0, hv1, hv2]
      have f : ∀ j v, o.cs[j]? = some v → wr.cell? ⟨b, off + i * 9 + j, none⟩ = some v := fun j v hv => md.kept.cell (hc i o ho j v hv) (fun z => z)
      have f0 : wr.cell? ⟨b, off + i * 9, none⟩ = some (.int .i64 o.kind) := f 0 _ rfl
      have f1 : wr.cell? ⟨b, off + i * 9 + 1, none⟩ = some (.int .i64 o.D) := f 1 _ rfl
      have f2 : wr.cell? ⟨b, off + i * 9 + 2, none⟩ = some (.int .i64 o.slot) := f 2 _ rfl
      have f3 : wr.cell? ⟨b, off + i * 9 + 3, none⟩ = some (.slice o.a o.n o.c) := f 3 _ rfl
      have f4 : wr.cell? ⟨b, off + i * 9 + 4, none⟩ = some (.int .i64 o.N) := f 4 _ rfl
      have f5 : wr.cell? ⟨b, off + i * 9 + 5, none⟩ = some (.bool o.done) := f 5 _ rfl
      have f6 : wr.cell? ⟨b, off + i * 9 + 6, none⟩ = some (.slice a0 n0 c0) := by rw [← hv0]; exact f 6 _ rfl
      have f7 : wr.cell? ⟨b, off + i * 9 + 7, none⟩ = some (.slice a1 n1 c1) := by rw [← hv1]; exact f 7 _ rfl
      have f8 : wr.cell? ⟨b, off + i * 9 + 8, none⟩ = some (.slice a2 n2 c2) := by rw [← hv2]; exact f 8 _ rfl
      obtain ⟨W, hW⟩ : ∃ W, W = wr.alloc (.cells o.cs 46) := ⟨_, rfl⟩
      have EV : Hid (W = wr.alloc (.cells #[.int .i64 o.kind, .int .i64 o.D, .int .i64 o.slot, .slice o.a o.n o.c, .int .i64 o.N, .bool o.done, .slice a0 n0 c0, .slice a1 n1 c1, .slice a2 n2 c2] 46)) := by rw [OC.out]; exact hW
      have rs := RS.make md (H.out.2.1.reads o (List.mem_of_getElem? ho)) hW
      have R0 : Hid (RS w W B1 B2 wr.heap.size da db o ∧ Small db.ab (sumN O + sumN (T.take i)) i ∧ da.ab = db.ab.late k0 dn) := ⟨rs, sm, et⟩
      obtain ⟨r0, r1, r2, r3, r4, r5, r6, r7, r8⟩ := rs.cells
      rw [hv0] at r6
      rw [hv1] at r7
      rw [hv2] at r8
      have SN : Hid (sumN (T.take (i + 1)) = sumN (T.take i) + o.l.length ∧ sumN O + sumN (T.take i) ≤ Few ∧ i + 1 + k0 ≤ Few ∧ sumN O + sumN (T.take (i + 1)) ≤ Few ∧ o.n ≤ Lim) := by
        have q1 := sumN_take ho
        have q2 := sumN_le T i
        have q3 := sumN_le T (i + 1)
        have q4 := H.out.2.2.2.1
        have q5 := (H.out.2.1.reads o (List.mem_of_getElem? ho)).length
        have q6 := H.out.2.2.1
        refine ⟨by omega, by omega, by omega, by omega, ?_⟩
        unfold Lim; unfold Few at q4; omega
      have NX : Hid (LS w W B1 B2 (sumN O) T k0 dn (i + 1)) := ⟨da, db, rs.md, sm.mono (by rw [SN.out.1]; omega) (by omega), et⟩
      clear f hc ho hW rs md sm et S hv0 hv1 hv2
      go_upto_region 15 with fail
      rw [← EV.out]
      clear f0 f1 f2 f3 f4 f5 f6 f7 f8
      by_cases k1 : o.kind < 1
      · go_wp2_with fail
        go_roundw
        case rel => exact ⟨i + 1, by go_num, by omega, NX.out⟩
        case measure => simp [intOf]; omega
      · by_cases k2 : o.kind > 4
        · go_wp2_with fail
          go_roundw
          case rel => exact ⟨i + 1, by go_num, by omega, NX.out⟩
          case measure => simp [intOf]; omega
        · have HK : Hid (1 ≤ o.kind ∧ o.kind ≤ 4) := by constructor <;> omega
          clear NX
          go_wp2_with fail
          have LV : Hid (db.ab.dead = false ∧ db.ab.named = 0) := ⟨R0.out.2.1.live, R0.out.2.1.free⟩
          obtain ⟨v, hv⟩ : ∃ v, v = (db.ab.act o.kind o.slot o.l).2 := ⟨_, rfl⟩
          have EV2 : Hid ((db.ab.act o.kind o.slot o.l).2 = v) := hv.symm
          have EV1 : Hid ((da.ab.act o.kind o.slot o.l).2 = v) := by show _ = v; rw [R0.out.2.2, late_act _ LV.out.1 LV.out.2]; exact hv.symm
          have OKB : Hid (db.ab.Ok ∧ da.ab.Ok) := ⟨R0.out.2.1.ok SN.out.2.1 (by have := SN.out.2.2.1; omega), by rw [R0.out.2.2]; exact late_ok R0.out.2.1 SN.out.2.1 (by have := SN.out.2.2.1; omega) dn⟩
          have SA := R0.out.2.1.act o.kind o.slot o.l
          rw [Nat.add_assoc, ← SN.out.1] at SA
          have SB : Hid (Small (db.ab.act o.kind o.slot o.l).1 (sumN O + sumN (T.take (i + 1))) (i + 1)) := SA
          clear SA hv
          have KDp : Hid (Kept (fun _ => False) W W.drew) := (Kept.refl (fun _ => False) W).drew
          go_region_held3 (fun w' => w'.cell? ⟨wr.heap.size, 0, none⟩ = some (.int .i64 o.kind) ∧ w'.cell? ⟨wr.heap.size, 1, none⟩ = some (.int .i64 o.D) ∧ w'.cell? ⟨wr.heap.size, 2, none⟩ = some (.int .i64 o.slot) ∧ w'.cell? ⟨wr.heap.size, 3, none⟩ = some (.slice o.a o.n o.c) ∧ w'.cell? ⟨wr.heap.size, 4, none⟩ = some (.int .i64 o.N) ∧ w'.cell? ⟨wr.heap.size, 5, none⟩ = some (.bool o.done) ∧ w'.cell? ⟨wr.heap.size, 6, none⟩ = some (.slice a0 n0 c0) ∧ w'.cell? ⟨wr.heap.size, 7, none⟩ = some (.slice a1 n1 c1) ∧ w'.cell? ⟨wr.heap.size, 8, none⟩ = some (.slice a2 n2 c2)) (first | go_keep)
            (first
              | (go_at_call 24; have _mk := MK24.out; refine (dActs w.heap.size B2 dyq w13b P13b.out.swap.md.head).mono ?_; rintro x wz ⟨rfl, ez⟩
                 rw [ez, show dyq.acts = ac from AC.out.1]
                 clear ez wz)
              | (go_at_call 24; refine (dActs w.heap.size B1 dyp w13b P13b.out.md.head).mono ?_; rintro x wz ⟨rfl, ez⟩
                 rw [ez, show dyp.acts = ac + k0 from AC.out.2.1]
                 have MK24 : Hid True := trivial
                 clear ez wz)
              | (go_at_call 13; refine (dPending w.heap.size B2 dyq w13 P13.out.swap.md.head Z.out.2.2.2.2).mono ?_; rintro x w13b ⟨rfl, K13b⟩
                 rw [AC.out.2.2.1]
                 have P13b : Hid (RS w w13b B1 B2 wr.heap.size dyp dyq o) := P13.out.quiet K13b
                 obtain ⟨h0, h1, h2, h3, h4, h5, h6, h7, h8⟩ := P13b.out.cells
                 rw [HV.out.1] at h6; rw [HV.out.2.1] at h7; rw [HV.out.2.2] at h8
                 clear K13b)
              | (go_at_call 13; refine (dPending w.heap.size B1 dyp w25 P25.out.md.head Z.out.2.2.2.1).mono ?_; rintro x w13 ⟨rfl, K13⟩
                 rw [AC.out.2.2.2]
                 have P13 : Hid (RS w w13 B1 B2 wr.heap.size dyp dyq o) := P25.out.quiet K13
                 obtain ⟨g0, g1, g2, g3, g4, g5, g6, g7, g8⟩ := P13.out.cells
                 rw [HV.out.1] at g6; rw [HV.out.2.1] at g7; rw [HV.out.2.2] at g8
                 clear K13)
              | (go_at_call 25; refine (alike w.heap.size w.heap.size B1 B2 dyp dyq wyq Z.out.1.md.head Z.out.1.swap.md.head DE.out.1 DE.out.2.1 Z.out.2.2.2.1 Z.out.2.2.2.2 (by rw [Z.out.2.1]; rfl) (by rw [Z.out.2.1]; rfl) DE.out.2.2).mono ?_; rintro x w25 ⟨rfl, K25⟩
                 have P25 : Hid (RS w w25 B1 B2 wr.heap.size dyp dyq o) := Z.out.1.quiet K25
                 obtain ⟨s0, s1, s2, s3, s4, s5, s6, s7, s8⟩ := P25.out.cells
                 rw [HV.out.1] at s6; rw [HV.out.2.1] at s7; rw [HV.out.2.2] at s8
                 clear K25)
              | (go_at_call 23; refine (rActE w wxq B2 B1 wr.heap.size db dyp o _ OC.out HK.out pxq kxq Xq.out.1.swap OKB.out.1 Xq.out.2.1 SN.out.2.2.2.2 Xq.out.2.2.2).mono ?_; rintro x wyq ⟨rfl, dyq, eq, yq⟩
                 rw [EV2.out]
                 have el : dyp.ab = dyq.ab.late k0 dn := by rw [Yp.out.1, eq, R0.out.2.2, late_act _ LV.out.1 LV.out.2]
                 have sq : Small dyq.ab (sumN O + sumN (T.take (i + 1))) (i + 1) := by rw [eq]; exact SB.out
                 have Z : Hid (RS w wyq B1 B2 wr.heap.size dyp dyq o ∧ dyp.ab = dyq.ab.late k0 dn ∧ Small dyq.ab (sumN O + sumN (T.take (i + 1))) (i + 1) ∧ dyp.ab.Ok ∧ dyq.ab.Ok) := ⟨yq.swap, el, sq, by rw [el]; exact late_ok sq SN.out.2.2.2.1 SN.out.2.2.1 dn, sq.ok SN.out.2.2.2.1 (by have := SN.out.2.2.1; omega)⟩
                 have DE : Hid (dyp.dead = false ∧ dyq.dead = false ∧ dyp.cur = dyq.cur) := ⟨by have h1 := congrArg AB.dead el; have h2 := sq.live; exact h1.trans h2, sq.live, congrArg AB.cur el⟩
                 obtain ⟨ac, hac⟩ : ∃ ac, ac = dyq.ab.acts := ⟨_, rfl⟩
                 obtain ⟨pn, hpn⟩ : ∃ pn, pn = dyq.ab.X0.length + dyq.ab.X1.length := ⟨_, rfl⟩
                 have AC : Hid (dyq.ab.acts = ac ∧ dyp.ab.acts = ac + k0 ∧ dyq.ab.X0.length + dyq.ab.X1.length = pn ∧ dyp.ab.X0.length + dyp.ab.X1.length = pn) := ⟨hac.symm, by rw [el, hac]; rfl, hpn.symm, by rw [el, hpn]; rfl⟩
                 have hab : ac ≤ i + 1 := by rw [hac]; exact sq.acts
                 have wk : IntKind.i64.wrap ((ac : Int) + (k0 : Int)) = ((ac + k0 : Nat) : Int) := by rw [IntKind.wrap_i64]; omega
                 have cellsq := yq.cells
                 obtain ⟨e0, e1, e2, e3, e4, e5, e6, e7, e8⟩ := cellsq
                 rw [HV.out.1] at e6; rw [HV.out.2.1] at e7; rw [HV.out.2.2] at e8
                 clear eq yq el sq hac hpn)
              | (go_at_call 10; refine (rWide w wyp B1 B2 wr.heap.size dyp db o Yp.out.2 SN.out.2.2.2.2).mono ?_; rintro x wxq ⟨pxq, kxq, rfl, xq⟩
                 have Xq : Hid (RS w wxq B1 B2 wr.heap.size dyp db o ∧ Reads wxq pxq o.n kxq o.l ∧ (∀ j, blockOf pxq = some j → j ≠ B1) ∧ (∀ j, blockOf pxq = some j → j ≠ B2)) := xq
                 obtain ⟨d0, d1, d2, d3, d4, d5, d6, d7, d8⟩ := xq.1.cells
                 rw [HV.out.1] at d6; rw [HV.out.2.1] at d7; rw [HV.out.2.2] at d8
                 clear xq)
              | (go_at_call 23; refine (rActE w wxp B1 B2 wr.heap.size da db o _ OC.out HK.out pxp kxp Xp.out.1 OKB.out.2 Xp.out.2.1 SN.out.2.2.2.2 Xp.out.2.2.1).mono ?_; rintro x wyp ⟨rfl, dyp, ep, yp⟩
                 rw [EV1.out]
                 have Yp : Hid (dyp.ab = (da.ab.act o.kind o.slot o.l).1 ∧ RS w wyp B1 B2 wr.heap.size dyp db o) := ⟨ep, yp⟩
                 obtain ⟨a0', a1', a2', a3', a4', a5', a6', a7', a8'⟩ := yp.cells
                 rw [HV.out.1] at a6'; rw [HV.out.2.1] at a7'; rw [HV.out.2.2] at a8'
                 clear ep yp)
              | (go_at_call 10; refine (rWide w W.drew B1 B2 wr.heap.size da db o (R0.out.1.quiet KDp.out) SN.out.2.2.2.2).mono ?_; rintro x wxp ⟨pxp, kxp, rfl, xp⟩
                 have Xp : Hid (RS w wxp B1 B2 wr.heap.size da db o ∧ Reads wxp pxp o.n kxp o.l ∧ (∀ j, blockOf pxp = some j → j ≠ B1) ∧ (∀ j, blockOf pxp = some j → j ≠ B2)) := xp
                 obtain ⟨b0, b1, b2, b3, b4, b5, b6, b7, b8⟩ := xp.1.cells
                 rw [HV.out.1] at b6; rw [HV.out.2.1] at b7; rw [HV.out.2.2] at b8
                 clear xp)
              | fail)
          have ZZ : Hid (LS w w13b B1 B2 (sumN O) T k0 dn (i + 1)) := ⟨dyp, dyq, P13b.out.md, Z.out.2.2.1, Z.out.2.1⟩
          go_wp2_with fail
          go_roundw
          case rel => exact ⟨i + 1, by go_num, by omega, ZZ.out⟩
          case measure => simp [intOf]; omega
    · have he : i = m := by omega
      have i1 : ¬ (i : Int) < (m : Int) := by omega
      go_wp2_with fail
      obtain ⟨da, db, md, sm, et⟩ := S.out.ex
      have bs : sumN O + sumN (T.take i) ≤ Few := by have := sumN_le T i; have := H.out.2.2.2.1; omega
      have OB : db.ab.Ok := sm.ok bs (by have := H.out.2.2.1; omega)
      have OA : da.ab.Ok := by rw [et]; exact late_ok sm bs (by have := H.out.2.2.1; omega) dn
      have CO : (db.ab.crash cs).Ok := crash_ok sm bs cs
      have R : Hid (MD w wr [(B1, da), (B2, db)] ∧ da.ab.Ok ∧ db.ab.Ok ∧ da.ab.crash cs = db.ab.crash cs ∧ (db.ab.crash cs).Ok) := ⟨md, OA, OB, by rw [et]; rfl, CO⟩
      have IQ : Hid (∀ V : World, Kept (fun _ => False) w V → IRd V qc nc cc cs) := fun V K => H.out.2.2.2.2.kept0 K
      have LQ : Hid (0 < nc → ∀ k, blockOf qc = some k → k < w.heap.size) := fun h0 k hk => H.out.2.2.2.2.lt h0 k hk
      clear md sm et OB OA CO S bs
      refine (mCrash w wr B1 da _ qc nc cc cs R.out.1 R.out.2.1 (IQ.out wr R.out.1.kept) (fun h0 k hk z => by have := LQ.out h0 k hk; have := R.out.1.head.low; omega)).mono ?_
      rintro x w19 ⟨F1, f1, rfl, e9, m9⟩
      have N9 : Hid (f1.ab = db.ab.crash cs ∧ MD w w19 [(B2, db), (F1, f1)]) := ⟨by rw [e9]; exact R.out.2.2.2.1, m9.swap.tail.swap⟩
      clear e9 m9
      go_wp2_with fail
      refine (mCrash w w19 B2 db _ qc nc cc cs N9.out.2 R.out.2.2.1 (IQ.out w19 N9.out.2.kept) (fun h0 k hk z => by have := LQ.out h0 k hk; have := N9.out.2.head.low; omega)).mono ?_
      rintro x w10 ⟨F2, f2, rfl, e10, m10⟩
      have NA : Hid (f2.ab = db.ab.crash cs ∧ MD w w10 [(F1, f1), (F2, f2)]) := ⟨e10, m10.swap.tail.swap⟩
      clear e10 m10
      go_wp2_with fail
      refine (alike w.heap.size w.heap.size F1 F2 f1 f2 w10 NA.out.2.head NA.out.2.swap.head (by have := congrArg AB.dead N9.out.1; exact this) (by have := congrArg AB.dead NA.out.1; exact this) (by rw [N9.out.1]; exact R.out.2.2.2.2) (by rw [NA.out.1]; exact R.out.2.2.2.2) (by rw [N9.out.1, NA.out.1]) (by rw [N9.out.1, NA.out.1]) (by have h1 := congrArg AB.cur N9.out.1; have h2 := congrArg AB.cur NA.out.1; exact h1.trans h2.symm)).mono ?_
      rintro x w11 ⟨rfl, K11⟩
      have NB : Hid (Kept (fun _ => False) w w11) := NA.out.2.kept.trans K11 (fun _ _ z => z)
      clear K11
      go_wp2_with fail
      go_ret
      exact ⟨by first | rfl | simp, NB.out⟩
end Go.Proofs.Ytbnnmelkbjkkjaa
