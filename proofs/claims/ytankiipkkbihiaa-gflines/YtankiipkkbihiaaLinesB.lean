import Derived.Test.YtankiipkkbihiaaLinesA
namespace Go.Proofs.Ytankiipkkbihiaa
open Go.RowKit


set_option maxRecDepth 100000 in
set_option maxHeartbeats 2000000 in
theorem lines_b (n : Int) (a1 a2 : Option Addr) (len1 cap1 len2 cap2 c : Nat) (lp lq : List Nat) (w : World) (hn1 : -9223372036854775808 ≤ n) (hn2 : n ≤ 9223372036854775807)
    (r1 : Reads w a1 len1 cap1 lp) (r2 : Reads w a2 len2 cap2 lq) (hz1 : cap1 ≤ 140737488351232) (hz2 : cap2 ≤ 140737488351232) (hc : c < 256) (hmin : len1 ≤ len2) :
    Calls Try.prog 4 #[.int .i64 n, .slice a1 len1 cap1, .slice a2 len2 cap2, .int .u8 (c : Int)] w fun e w' => e = .returned (.bool true) ∧ Below w.heap.size w w' := by
  have l1 : len1 ≤ cap1 := r1.room
  have l2 : len2 ≤ cap2 := r2.room
  obtain ⟨i5, hi5, hiz, his, hib⟩ := info_parts Try.info5
  have HI : Hid (Try.prog.info? 5 = some i5 ∧ i5.zero = some (.int .u8 0) ∧ i5.size = 1 ∧ i5.bytes = 1) := ⟨hi5, hiz, his, hib⟩
  clear hi5 hiz his hib
  go_enter Try.func4, Try.ntmps4
  go_wp2_with fail
  refine (field_any n _ hn1 hn2).mono ?_
  rintro e w1 ⟨P, B, g, rfl, f0, hB, hbl⟩
  have q1 := r1.below hbl
  have q2 := r2.below hbl
  have BL : Hid (Below w.heap.size w w1) := hbl
  clear hbl r1 r2 hB
  have x1 : (0 : Int) ≤ (len1 : Int) := Int.natCast_nonneg _
  have x4 : (len1 : Int) ≤ (cap1 : Int) := by omega
  have x5 : (len1 : Int) ≤ (cap2 : Int) := by omega
  have t1 := q1.take len1 (by omega)
  have t2 := q2.take len1 (by omega)
  have EA : Hid (∀ i, i < len1 → lp.getD i 0 = (lp.take len1).getD i 0) := fun i hi => (take_getD lp len1 i hi).symm
  have EB : Hid (∀ i, i < len1 → lq.getD i 0 = (lq.take len1).getD i 0) := fun i hi => (take_getD lq len1 i hi).symm
  generalize lp.take len1 = la at *
  generalize lq.take len1 = lb at *
  go_wp2_with (first | (at_builtin; refine wpList_append_reads _ rfl (.tmp 33) (.tmp 36) rfl w1.heap.size (.slice (some ⟨w1.heap.size, 0, none⟩) 0 0) 0 (cellsOf []) rfl (owns_bare w1 _ (Nat.le_refl _)) (by simp) a1 len1 cap1 la rfl (t1.below ((Below.refl _ _).alloc (Nat.le_refl _) _)) (by omega) (by simp) ?_; intro va wa howna hgrowa hnna; obtain ⟨aa, capa, rfl, ra, oa⟩ := bare_reads howna t1.bytes; have ba := below_bare hgrowa; clear howna hgrowa hnna) | (at_builtin; refine wpList_append_reads _ rfl (.tmp 38) (.tmp 41) rfl wa.heap.size (.slice (some ⟨wa.heap.size, 0, none⟩) 0 0) 0 (cellsOf []) rfl (owns_bare wa _ (Nat.le_refl _)) (by simp) a2 len1 cap2 lb rfl ((t2.below ba).below ((Below.refl _ _).alloc (Nat.le_refl _) _)) (by omega) (by simp) ?_; intro vb wb hownb hgrowb hnnb; obtain ⟨ab, capb, rfl, rb, ob⟩ := bare_reads hownb t2.bytes; have bb := below_bare hgrowb; clear hownb hgrowb hnnb) | fail)
  have S0 := St.start f0 q1 q2 BL.out ba bb ra oa rb ob
  have HL : Hid (la.length = len1 ∧ lb.length = len1) := ⟨t1.length, t2.length⟩
  clear q1 q2 t1 t2 ba ra oa rb ob f0 BL
  generalize wa.heap.size = SB at *
  obtain ⟨dx, hdx⟩ : ∃ v, Gf.dot P (la.getD · 0) (lb.getD · 0) len1 = v := ⟨_, rfl⟩
  obtain ⟨dy, hdy⟩ : ∃ v, Gf.dot P ((am P c la lb).getD · 0) (lb.getD · 0) len1 = v := ⟨_, rfl⟩
  obtain ⟨ds, hds⟩ : ∃ v, Gf.dot P (lb.getD · 0) (lb.getD · 0) len1 = v := ⟨_, rfl⟩
  obtain ⟨mc, hmc⟩ : ∃ v, Gf.mul P c ds = v := ⟨_, rfl⟩
  have kx : dx < 256 := hdx ▸ Gf.dot_lt g _ _ _
  have ks : ds < 256 := hds ▸ Gf.dot_lt g _ _ _
  have km : mc < 256 := hmc ▸ g.mul_lt _ _
  have DX : Hid (Gf.dot P (la.getD · 0) (lb.getD · 0) len1 = dx) := hdx
  have DY : Hid (Gf.dot P ((am P c la lb).getD · 0) (lb.getD · 0) len1 = dy) := hdy
  have DS : Hid (Gf.dot P (lb.getD · 0) (lb.getD · 0) len1 = ds) := hds
  have MC : Hid (Gf.mul P c ds = mc) := hmc
  have XY : Hid (dx ^^^ mc = dy) := by
    show dx ^^^ mc = dy
    rw [← hdy, dot_am g c la lb len1 HL.out.1 HL.out.2 S0.ra.bytes, hdx, hds, hmc]
  clear hdx hdy hds hmc
  refine (dot_any P B len1 capa capb dx aa ab la lb _ g S0.f S0.ra S0.rb DX.out).mono ?_
  rintro e w2 ⟨rfl, q2⟩
  have S1 := S0.qt q2
  clear S0 q2 bb
  go_wp2_with fail
  refine (addMul_any P B c len1 capa capb aa ab la lb _ g S1.f hc (by omega) S1.ra S1.sa S1.rb).mono ?_
  rintro e w3 ⟨rfl, h3, r3, s3⟩
  have S2 := S1.turn h3 r3 s3
  clear S1 h3 r3 s3
  go_wp2_with fail
  refine (dot_any P B len1 capa capb dy aa ab _ lb _ g S2.f S2.ra S2.rb DY.out).mono ?_
  rintro e w4 ⟨rfl, q4⟩
  have S3 := S2.qt q4
  clear S2 q4
  go_wp2_with fail
  refine (dot_any P B len1 capb capb ds ab ab lb lb _ g S3.f S3.rb S3.rb DS.out).mono ?_
  rintro e w5 ⟨rfl, q5⟩
  have S4 := S3.qt q5
  clear S3 q5
  go_wp2_with fail
  refine (mul_v P B c ds mc _ g S4.f hc ks MC.out).mono ?_
  rintro e w6 ⟨rfl, q6⟩
  have S5 := S4.qt q6
  clear S4 q6
  go_wp2_with fail
  refine (add_v dx mc dy _ kx km XY.out).mono ?_
  rintro e wx ⟨rfl, rfl⟩
  go_wp2_with fail
  refine (addMul_any P B c len1 capa capb aa ab _ lb _ g S5.f hc (by omega) S5.ra S5.sa S5.rb).mono ?_
  rintro e w7 ⟨rfl, h7, r7, s7⟩
  rw [am_am P c la lb (by rw [HL.out.1, HL.out.2])] at r7
  have S6 := S5.turn h7 r7 s7
  clear S5 h7 r7 s7
  go_wp2_with fail
  go_loopw [20] (fun i wr => ∃ k : Nat, k ≤ len1 ∧ i = .int .i64 k ∧ Qt w7 wr) (fun i _ => len1 - (intOf i).toNat)
  case atStart => exact ⟨0, by omega, rfl, Qt.refl _⟩
  case round =>
    obtain ⟨k, hk, rfl, qr⟩ := hrel
    have S7 := S6.qt qr
    by_cases hlt : k < len1
    · obtain ⟨ga, oa, rfl, ca⟩ := S7.ra.cells (by omega)
      obtain ⟨gb, ob, rfl, cb⟩ := S7.rb.cells (by omega)
      obtain ⟨b1, o1, rfl, c1⟩ := S7.p1.cells (by omega)
      obtain ⟨b2, o2, rfl, c2⟩ := S7.p2.cells (by omega)
      have k1 := ca k hlt
      have k2 := cb k hlt
      have k3 := c1 k (by omega)
      have k4 := c2 k (by omega)
      rw [EA.out k hlt] at k3
      rw [EB.out k hlt] at k4
      clear ca cb c1 c2 S6 S7
      have e1 : (0 : Int) ≤ (k : Int) := Int.natCast_nonneg _
      have e2 : (k : Int) < (len1 : Int) := by omega
      have e3 : (k : Int) < (len2 : Int) := by omega
      generalize la.getD k 0 = x at *
      generalize lb.getD k 0 = y at *
      go_wp2_with fail
      go_quiet (fail)
      go_wp2_with fail
      go_roundw
      case rel => exact ⟨k + 1, by omega, by go_num, qr.trans (Qt.drewN _ _)⟩
      case measure => simp [intOf]; omega
    · have hk' : len1 = k := by omega
      subst hk'
      clear hlt hk S6 qr
      go_wp2_with fail
      refine (addMul_any P B c len1 capa capa aa aa la la _ g S7.f hc (by omega) S7.ra S7.sa S7.ra).mono ?_
      rintro e w8 ⟨rfl, h8, r8, s8⟩
      have S8 := S7.turn h8 r8 s8
      clear S7 h8 r8 s8
      go_wp2_with fail
      go_loopw [21] (fun i wr => ∃ k : Nat, k ≤ len1 ∧ i = .int .i64 k ∧ Qt w8 wr) (fun i _ => len1 - (intOf i).toNat)
      case atStart => exact ⟨0, by omega, rfl, Qt.refl _⟩
      case round =>
        obtain ⟨k, hk, rfl, qr⟩ := hrel
        have S9 := S8.qt qr
        by_cases hlt : k < len1
        · obtain ⟨ga, oa, rfl, ca⟩ := S9.ra.cells (by omega)
          obtain ⟨b1, o1, rfl, c1⟩ := S9.p1.cells (by omega)
          have k1 := ca k hlt
          have k3 := c1 k (by omega)
          rw [EA.out k hlt] at k3
          rw [am_getD P c la la k (by rw [HL.out.1]; exact hlt) (by rw [HL.out.1]; exact hlt)] at k1
          have kf := S9.f
          obtain ⟨x, hx⟩ : ∃ x, la.getD k 0 = x := ⟨_, rfl⟩
          have lx : x < 256 := by
            rw [← hx, ← EA.out k hlt]; exact getD_lt lp S9.p1.bytes k
          rw [hx] at k1 k3
          obtain ⟨m, hm⟩ : ∃ m, Gf.mul P c x = m := ⟨_, rfl⟩
          have lm : m < 256 := hm ▸ g.mul_lt _ _
          rw [hm] at k1
          have MM : Hid (∀ n, Calls Try.prog 10 #[.pointer (some ⟨B, 0, none⟩), .int .u8 (c : Int), .int .u8 (x : Int)] (wr.drewN n) fun e w' => e = .returned (.int .u8 (m : Int)) ∧ ∃ q, w' = (wr.drewN n).drewN q) := fun n => mul_n P B c x m (wr.drewN n) g ((Qt.drewN wr n).isF kf) hc lx hm
          have AA : Hid (∀ n, Calls Try.prog 8 #[.int .u8 (x : Int), .int .u8 (m : Int)] (wr.drewN n) fun e w' => e = .returned (.int .u8 ((x ^^^ m : Nat) : Int)) ∧ w' = wr.drewN n) := fun n => add_any x m (wr.drewN n) lx lm
          clear ca c1 S8 S9 hx hm kf
          have e1 : (0 : Int) ≤ (k : Int) := Int.natCast_nonneg _
          have e2 : (k : Int) < (len1 : Int) := by omega
          have e3 : (k : Int) < (len2 : Int) := by omega
          go_wp2_with fail
          go_quiet (first | (go_at_call 10; exact Calls.quiet_of (MM.out _)) | (go_at_call 8; exact Calls.quiet_of_same (AA.out _)) | fail)
          go_wp2_with fail
          go_roundw
          case rel => exact ⟨k + 1, by omega, by go_num, qr.trans (Qt.drewN _ _)⟩
          case measure => simp [intOf]; omega
        · have hk' : len1 = k := by omega
          subst hk'
          clear hlt hk S8 qr
          go_wp2_with (first | (at_builtin; refine wpList_append_reads _ rfl (.tmp 152) (.tmp 153) rfl wr.heap.size (.slice (some ⟨wr.heap.size, 0, none⟩) 0 0) 0 (cellsOf []) rfl (owns_bare wr _ (Nat.le_refl _)) (by simp) a1 len1 cap1 lp rfl (S9.p1.below ((Below.refl _ _).alloc (Nat.le_refl _) _)) (by omega) (by simp) ?_; intro vc wc hownc hgrowc hnnc; obtain ⟨cc, capc, rfl, rc, oc⟩ := bare_reads hownc S9.p1.bytes; have bc := below_bare hgrowc; clear hownc hgrowc hnnc) | fail)
          by_cases hlen : 2 ≤ len1
          · obtain ⟨gc, og, rfl, _⟩ := rc.cells (by omega)
            have hcap : len1 ≤ capc := rc.room
            have y1 : (1 : Int) ≤ (len1 : Int) := by omega
            have y2 : (len1 : Int) ≤ (capc : Int) := by omega
            have y3 : (0 : Int) ≤ (len1 : Int) - 1 := by omega
            have y4 : (len1 : Int) - 1 ≤ (capc : Int) := by omega
            have y5 : decide ((0 : Int) < (len1 : Int)) = true := by simp; omega
            have y6 : ¬ capc = 1 := by omega
            have y7 : decide (0 < len1) = true := by simp; omega
            have y8 : 0 < len1 := by omega
            have y9 : ¬ capc = 0 := by omega
            have y12 : IntKind.i64.wrap ((len1 : Int) - 1) = (len1 : Int) - 1 := by rw [IntKind.wrap_i64]; omega
            have y11 : 0 < capc := by omega
            have fp : wc.cell? ⟨B, 0, none⟩ = some (.int .i64 (P : Int)) := (S9.below bc).f.poly
            have CA : Hid (Calls Try.prog 12 #[.pointer (some ⟨B, 0, none⟩), .slice (some ⟨gc, og + 1, none⟩) (len1 - 1) (capc - 1), .int .u8 (c : Int), .slice (some ⟨gc, og, none⟩) (len1 - 1) capc] wc.drew fun e w' => e = .returned (.int .i64 0) ∧
              St P B w w' _ a1 len1 cap1 lp a2 len2 cap2 lq len1 aa capa _ ab capb lb ∧ (∀ j, j + 1 < len1 → w'.cell? ⟨gc, og + (j + 1), none⟩ = some (.int .u8 ((lp.getD (j + 1) 0 ^^^ Gf.mul P c (lp.getD j 0) : Nat) : Int))) ∧ w'.cell? ⟨B, 0, none⟩ = some (.int .i64 (P : Int))) := addMul_both g hc hz1 l1 hlen S9 bc rc oc
            clear S9 bc rc oc
            go_region_held3 (fun w' => w'.cell? ⟨B, 0, none⟩ = some (.int .i64 (P : Int))) (go_keep) (first | (go_at_call 12; refine CA.out.mono ?_; rintro e wd ⟨rfl, Sd, kc, fp'⟩) | fail)
            have KC : Hid (∀ j, j + 1 < len1 → wd.cell? ⟨gc, og + (j + 1), none⟩ = some (.int .u8 ((lp.getD (j + 1) 0 ^^^ Gf.mul P c (lp.getD j 0) : Nat) : Int))) := kc
            clear kc fp' fp CA y12
            go_wp2_with fail
            go_loopw [23] (fun i wr => ∃ j : Nat, j + 1 ≤ len1 ∧ i = .int .i64 ((j : Int) + 1) ∧ Qt wd wr) (fun i _ => len1 - (intOf i).toNat)
            case atStart => exact ⟨0, by omega, rfl, Qt.refl _⟩
            case round =>
              obtain ⟨k, hk, rfl, qr⟩ := hrel
              have Sy := Sd.qt qr
              by_cases hlt : k + 1 < len1
              · obtain ⟨b1, o1, rfl, c1⟩ := Sy.p1.cells (by omega)
                have k1 : wr.cell? ⟨gc, og + (k + 1), none⟩ = _ := (qr.cell _).trans (KC.out k hlt)
                have k2 := c1 (k + 1) hlt
                have k3 := c1 k (by omega)
                have kf := Sy.f
                have lx : lp.getD (k + 1) 0 < 256 := getD_lt lp Sy.p1.bytes _
                have ly : lp.getD k 0 < 256 := getD_lt lp Sy.p1.bytes _
                generalize lp.getD (k + 1) 0 = x at *
                generalize lp.getD k 0 = y at *
                obtain ⟨m, hm⟩ : ∃ m, Gf.mul P c y = m := ⟨_, rfl⟩
                have lm : m < 256 := hm ▸ g.mul_lt _ _
                rw [hm] at k1
                have MM : Hid (∀ n, Calls Try.prog 10 #[.pointer (some ⟨B, 0, none⟩), .int .u8 (c : Int), .int .u8 (y : Int)] (wr.drewN n) fun e w' => e = .returned (.int .u8 (m : Int)) ∧ ∃ q, w' = (wr.drewN n).drewN q) := fun n => mul_n P B c y m (wr.drewN n) g ((Qt.drewN wr n).isF kf) hc ly hm
                have AA : Hid (∀ n, Calls Try.prog 8 #[.int .u8 (x : Int), .int .u8 (m : Int)] (wr.drewN n) fun e w' => e = .returned (.int .u8 ((x ^^^ m : Nat) : Int)) ∧ w' = wr.drewN n) := fun n => add_any x m (wr.drewN n) lx lm
                clear c1 Sd Sy hm kf
                have e1 : (0 : Int) ≤ (k : Int) + 1 := by omega
                have e2 : (k : Int) + 1 < (len1 : Int) := by omega
                have e3 : (0 : Int) ≤ (k : Int) := by omega
                have e4 : (k : Int) < (len1 : Int) := by omega
                go_wp2_with fail
                go_quiet (first | (go_at_call 10; exact Calls.quiet_of (MM.out _)) | (go_at_call 8; exact Calls.quiet_of_same (AA.out _)) | fail)
                go_wp2_with fail
                go_roundw
                case rel => exact ⟨k + 1, by omega, by go_num, qr.trans (Qt.drewN _ _)⟩
                case measure => simp [intOf]; omega
              · have hx : ¬ (k : Int) + 1 < (len1 : Int) := by omega
                clear Sd qr
                go_wp2_with (first | (at_builtin; refine wpList_append_lies _ rfl (.tmp 198) (.tmp 199) 22 rfl SB 5 i5 _ 1 1 Try.underlying22 HI.out.1 HI.out.2.1 HI.out.2.2.1 HI.out.2.2.2 rfl (by omega) (.slice ab len1 capb) len1 (cellsOf lb) rfl (Sy.ob.alloc _) ⟨wr.heap.size, 0, none⟩ 1 1 [.int .u8 1] rfl rfl (World.news_of_block (cs := #[.int .u8 1]) (t := 5) (fr := (0, 0)) (heap_alloc_new wr _)) (by simp [Value.oneCell']) (by omega) (by unfold maxLen; omega) (by omega) (by have := Sy.sz; simp; omega) (wr.heap.size + 1) (by simp) ?_; intro gg capg wg howng hgrowg hatg hltg) | fail)
                have BZ : Below w.heap.size w wg := Below.grown (Sy.bl.alloc Sy.bl.size _) hgrowg (by have := Sy.bl.size; simp; omega) (fun k e => by
                  have k1 := (Sy.ob.lt k e).1
                  have k2 := Sy.wS
                  omega)
                have hne : (((len1 : Nat) : Int) != ((len1 + 1 : Nat) : Int)) = true := by simp; omega
                refine (addMul_shape B c len1 (len1 + 1) capa capg aa _ _ hne).mono ?_
                rintro e wz ⟨rfl, rfl⟩
                go_wp2_with fail
                go_ret
                exact ⟨rfl, BZ⟩
          · by_cases hone : len1 = 0
            · subst hone
              have Sx := S9.below bc
              clear S9 bc rc oc
              go_quiet (fail)
              have Sy := Sx.qt (Qt.drewN wc nq)
              clear Sx
              generalize wc.drewN nq = wr at *
              go_wp2_with fail
              refine wp_loop_rounds 1 ?_
              rw [rounds_succ]
              go_wp2_with (first | (at_builtin; refine wpList_append_lies _ rfl (.tmp 198) (.tmp 199) 22 rfl SB 5 i5 _ 1 1 Try.underlying22 HI.out.1 HI.out.2.1 HI.out.2.2.1 HI.out.2.2.2 rfl (by omega) (.slice ab 0 capb) 0 (cellsOf lb) rfl (Sy.ob.alloc _) ⟨wr.heap.size, 0, none⟩ 1 1 [.int .u8 1] rfl rfl (World.news_of_block (cs := #[.int .u8 1]) (t := 5) (fr := (0, 0)) (heap_alloc_new wr _)) (by simp [Value.oneCell']) (by omega) (by unfold maxLen; omega) (by omega) (by have := Sy.sz; simp; omega) (wr.heap.size + 1) (by simp) ?_; intro gg capg wg howng hgrowg hatg hltg) | fail)
              have BZ : Below w.heap.size w wg := Below.grown (Sy.bl.alloc Sy.bl.size _) hgrowg (by have := Sy.bl.size; simp; omega) (fun k e => by
                have k1 := (Sy.ob.lt k e).1
                have k2 := Sy.wS
                omega)
              have hne : (((0 : Nat) : Int) != ((0 + 1 : Nat) : Int)) = true := by simp
              refine (addMul_shape B c 0 (0 + 1) capa capg aa _ _ hne).mono ?_
              rintro e wz ⟨rfl, rfl⟩
              go_wp2_with fail
              go_ret
              exact ⟨rfl, BZ⟩
            · have hl0 : len1 - 1 = 0 := by omega
              obtain ⟨gc, og, rfl, _⟩ := rc.cells (by omega)
              have hcap : len1 ≤ capc := rc.room
              have Sx := S9.below bc
              have fp : wc.cell? ⟨B, 0, none⟩ = some (.int .i64 (P : Int)) := Sx.f.poly
              have CZ : Hid (∀ A1 A2 C1 C2, Calls Try.prog 12 #[.pointer (some ⟨B, 0, none⟩), .slice A1 0 C1, .int .u8 (c : Int), .slice A2 0 C2] wc.drew fun e w' => e = .returned (.int .i64 0) ∧
                St P B w w' _ a1 len1 cap1 lp a2 len2 cap2 lq len1 aa capa _ ab capb lb ∧ w'.cell? ⟨B, 0, none⟩ = some (.int .i64 (P : Int))) := fun A1 A2 C1 C2 => (addMul_none B c C1 C2 A1 A2 wc.drew).mono (fun e w' ⟨h1, h2⟩ => ⟨h1, (Sx.qt (Qt.drew wc)).below h2, ((Sx.qt (Qt.drew wc)).below h2).f.poly⟩)
              have CN : Hid (∀ A1 A2 C1 C2, Calls Try.prog 12 #[.pointer (some ⟨B, 0, none⟩), .slice A1 (len1 - 1) C1, .int .u8 (c : Int), .slice A2 (len1 - 1) C2] wc.drew fun e w' => e = .returned (.int .i64 0) ∧
                St P B w w' _ a1 len1 cap1 lp a2 len2 cap2 lq len1 aa capa _ ab capb lb ∧ w'.cell? ⟨B, 0, none⟩ = some (.int .i64 (P : Int))) := fun A1 A2 C1 C2 => by
                rw [hl0]
                exact CZ.out A1 A2 C1 C2
              have y1 : (1 : Int) ≤ (len1 : Int) := by omega
              have y2 : (len1 : Int) ≤ (capc : Int) := by omega
              have y3 : (0 : Int) ≤ (len1 : Int) - 1 := by omega
              have y4 : (len1 : Int) - 1 ≤ (capc : Int) := by omega
              have y5 : decide ((0 : Int) < (len1 : Int)) = true := by simp; omega
              have y7 : decide (0 < len1) = true := by simp; omega
              have y8 : 0 < len1 := by omega
              have y9 : ¬ capc = 0 := by omega
              have y12 : IntKind.i64.wrap ((len1 : Int) - 1) = (len1 : Int) - 1 := by rw [IntKind.wrap_i64]; omega
              have y11 : 0 < capc := by omega
              have hle : ¬ (1 : Int) < (len1 : Int) := by omega
              clear S9 bc rc oc hl0
              by_cases hc1 : capc = 1
              · subst hc1
                have y14 : (len1 : Int) - 1 ≤ 1 := by omega
                have y15 : (len1 : Int) ≤ 1 := by omega
                go_region_held3 (fun w' => w'.cell? ⟨B, 0, none⟩ = some (.int .i64 (P : Int))) (go_keep) (first | (go_at_call 12; refine (CZ.out _ _ _ _).mono ?_; rintro e wr ⟨rfl, Sy, fp'⟩) | fail)
                clear fp' fp CN CZ Sx y12
                go_wp2_with fail
                refine wp_loop_rounds 1 ?_
                rw [rounds_succ]
                go_wp2_with (first | (at_builtin; refine wpList_append_lies _ rfl (.tmp 198) (.tmp 199) 22 rfl SB 5 i5 _ 1 1 Try.underlying22 HI.out.1 HI.out.2.1 HI.out.2.2.1 HI.out.2.2.2 rfl (by omega) (.slice ab len1 capb) len1 (cellsOf lb) rfl (Sy.ob.alloc _) ⟨wr.heap.size, 0, none⟩ 1 1 [.int .u8 1] rfl rfl (World.news_of_block (cs := #[.int .u8 1]) (t := 5) (fr := (0, 0)) (heap_alloc_new wr _)) (by simp [Value.oneCell']) (by omega) (by unfold maxLen; omega) (by omega) (by have := Sy.sz; simp; omega) (wr.heap.size + 1) (by simp) ?_; intro gg capg wg howng hgrowg hatg hltg) | fail)
                have BZ : Below w.heap.size w wg := Below.grown (Sy.bl.alloc Sy.bl.size _) hgrowg (by have := Sy.bl.size; simp; omega) (fun k e => by
                  have k1 := (Sy.ob.lt k e).1
                  have k2 := Sy.wS
                  omega)
                have hne : (((len1 : Nat) : Int) != ((len1 + 1 : Nat) : Int)) = true := by simp; omega
                refine (addMul_shape B c len1 (len1 + 1) capa capg aa _ _ hne).mono ?_
                rintro e wz ⟨rfl, rfl⟩
                go_wp2_with fail
                go_ret
                exact ⟨rfl, BZ⟩
              · have y13 : ¬ (1 : Nat) = capc := by omega
                go_region_held3 (fun w' => w'.cell? ⟨B, 0, none⟩ = some (.int .i64 (P : Int))) (go_keep) (first | (go_at_call 12; refine (CN.out _ _ _ _).mono ?_; rintro e wr ⟨rfl, Sy, fp'⟩) | fail)
                clear fp' fp CN CZ Sx y12
                go_wp2_with fail
                refine wp_loop_rounds 1 ?_
                rw [rounds_succ]
                go_wp2_with (first | (at_builtin; refine wpList_append_lies _ rfl (.tmp 198) (.tmp 199) 22 rfl SB 5 i5 _ 1 1 Try.underlying22 HI.out.1 HI.out.2.1 HI.out.2.2.1 HI.out.2.2.2 rfl (by omega) (.slice ab len1 capb) len1 (cellsOf lb) rfl (Sy.ob.alloc _) ⟨wr.heap.size, 0, none⟩ 1 1 [.int .u8 1] rfl rfl (World.news_of_block (cs := #[.int .u8 1]) (t := 5) (fr := (0, 0)) (heap_alloc_new wr _)) (by simp [Value.oneCell']) (by omega) (by unfold maxLen; omega) (by omega) (by have := Sy.sz; simp; omega) (wr.heap.size + 1) (by simp) ?_; intro gg capg wg howng hgrowg hatg hltg) | fail)
                have BZ : Below w.heap.size w wg := Below.grown (Sy.bl.alloc Sy.bl.size _) hgrowg (by have := Sy.bl.size; simp; omega) (fun k e => by
                  have k1 := (Sy.ob.lt k e).1
                  have k2 := Sy.wS
                  omega)
                have hne : (((len1 : Nat) : Int) != ((len1 + 1 : Nat) : Int)) = true := by simp; omega
                refine (addMul_shape B c len1 (len1 + 1) capa capg aa _ _ hne).mono ?_
                rintro e wz ⟨rfl, rfl⟩
                go_wp2_with fail
                go_ret
                exact ⟨rfl, BZ⟩
end Go.Proofs.Ytankiipkkbihiaa
