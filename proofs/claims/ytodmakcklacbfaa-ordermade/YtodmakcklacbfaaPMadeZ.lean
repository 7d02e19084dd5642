import Derived.Test.YtodmakcklacbfaaPMadeX
namespace Go.Proofs.Ytodmakcklacbfaa
open Go.RowKit Go.Shelf Go.Lib Go.Sort

set_option maxRecDepth 100000 in
set_option maxHeartbeats 4000000 in
theorem madeW {w : World} {v : Md} {pw : Option Addr} {nw cw : Nat} {pv : Option Addr} {nv cv : Nat} {pr : Option Addr} {nr cr : Nat} {po : Option Addr} {no co : Nat} (R : MdR w v pw nw cw pv nv cv pr nr cr po no co) (hv : ∀ y ∈ v.vals, y.2.1 + 1 ≤ 140737488355328) (a : Int) :
    Calls Try.prog 3 #[.agg #[.slice pw nw cw, .slice pv nv cv, .slice pr nr cr, .slice po no co], .int .i64 a] w fun o w' => o = .returned (.bool true) ∧ Kept (fun _ => False) w w' := by
  have H : Hid (MdR w v pw nw cw pv nv cv pr nr cr po no co ∧ ∀ y ∈ v.vals, y.2.1 + 1 ≤ 140737488355328) := ⟨R, hv⟩
  clear R hv
  have KB : Hid (Kept (fun _ => False) w (w.alloc (Obj.cells #[.slice pw nw cw, .slice pv nv cv, .slice pr nr cr, .slice po no co] 25)) ∧ (w.alloc (Obj.cells #[.slice pw nw cw, .slice pv nv cv, .slice pr nr cr, .slice po no co] 25)).heap[w.heap.size]? = some (Obj.cells #[.slice pw nw cw, .slice pv nv cv, .slice pr nr cr, .slice po no co] 25 (0, 0))) := ⟨(Kept.refl _ _).alloc _, alloc_new _ _⟩
  go_enter Try.func3, Try.ntmps3
  go_wp2_with fail
  refine (oAwake _).mono ?_
  rintro o w1 ⟨rfl, K1'⟩
  have K1 : Hid (Kept (fun _ => False) w w1 ∧ w1.heap[w.heap.size]? = some (Obj.cells #[.slice pw nw cw, .slice pv nv cv, .slice pr nr cr, .slice po no co] 25 (0, 0))) := ⟨KB.out.1.trans K1' (fun _ _ z => z), K1'.get KB.out.2 (fun z => z)⟩
  clear K1' KB
  have m0 := cell_blk K1.out.2 0 (v := .slice pw nw cw) rfl
  have m1 := cell_blk K1.out.2 1 (v := .slice pv nv cv) rfl
  have m2 := cell_blk K1.out.2 2 (v := .slice pr nr cr) rfl
  have m3 := cell_blk K1.out.2 3 (v := .slice po no co) rfl
  have CH : Hid (Calls Try.prog 9 #[.agg #[.slice pw nw cw, .slice pv nv cv, .slice pr nr cr, .slice po no co]] w1 (RetH (HisQ w1 v nw))) := oHist (H.out.1.k0 K1.out.1)
  go_wp2_with fail
  refine CH.out.mono ?_
  rintro o w2 ⟨p, k, c, q, c', rfl, Q'⟩
  have Q : Hid (HisQ w1 v nw p k c q c' w2) := Q'
  clear Q' CH m0 m1 m2 m3
  have K2 : Hid (Kept (fun _ => False) w w2) := K1.out.1.trans Q.out.kept (fun _ _ z => z)
  have rd : Hid (∀ V, Kept (fun _ => False) w V → ∀ m ∈ v.hist k, Reads V m.va m.vn m.vc m.val) := fun V K m hm => Reads.kept K (Md.hist_rd H.out.1.vals k m hm) (fun _ _ z => z)
  have CR2 : Hid (CRd w2 p k c (v.hist k)) := Q.out.calls.rd (rd.out w2 K2.out)
  have k12 : k ≤ 12 := by have := Q.out.len; omega
  have rmc := CR2.out.room
  have smc := CR2.out.small
  unfold maxLen at smc
  have CT : Hid (Calls Try.prog 10 #[.slice p k c] w2 (RetY (ByQ w2 (v.hist k)))) := oByTags CR2.out (by omega) (v.ki k12).1 (v.ki k12).2
  go_wp2_with fail
  refine CT.out.mono ?_
  rintro o w3 ⟨qb, kb, cb, e3, rfl, ⟨L, hL, row⟩, K3'⟩
  obtain ⟨rfl, od⟩ := v.ord k12 hL
  have OD : Hid (v.Ord k L) := od
  have K3 : Hid (Kept (fun _ => False) w w3) := K2.out.trans K3' (fun _ _ z => z)
  have N3 : Hid (CRow w1.heap.size w3 p k c (v.hist k) ∧ NRow w1.heap.size w3 qb kb cb L ∧ NRow w1.heap.size w3 q k c' (List.range k)) := ⟨Q.out.calls.k0 K3', row.mono Q.out.kept.size, Q.out.nums.k0 K3'⟩
  clear CT hL row K3' od CR2 K2 Q
  have C4 : Hid (Calls Try.prog 11 #[.slice p k c, .slice q k c'] w3 (RetC fun e w' => CkA (v.hist k) ((List.range k).map fun r : Nat => (r : Int)) e ∧ Kept (fun _ => False) w3 w')) := oCheck (N3.out.1.rd (rd.out w3 K3.out)) (by omega) N3.out.2.2.ird
  go_wp2_with fail
  refine C4.out.mono ?_
  rintro o w4 ⟨e4, rfl, he4, K4'⟩
  have e5 := ck_yes (v.fit k) (v.explained k) he4
  subst e5
  have K4 : Hid (Kept (fun _ => False) w w4 ∧ Kept (fun _ => False) w3 w4) := ⟨K3.out.trans K4' (fun _ _ z => z), K4'⟩
  clear C4 he4 K4'
  have C5 : Hid (Calls Try.prog 11 #[.slice p k c, .slice qb kb cb] w4 (RetC fun e w' => CkA (v.hist k) (L.map fun r : Nat => (r : Int)) e ∧ Kept (fun _ => False) w4 w')) := oCheck ((N3.out.1.k0 K4.out.2).rd (rd.out w4 K4.out.1)) (by omega) (N3.out.2.1.k0 K4.out.2).ird
  go_wp2_with fail
  refine C5.out.mono ?_
  rintro o w5 ⟨e5, rfl, he5, K5'⟩
  have e6 := ck_yes (v.fit k) OD.out.explains he5
  subst e6
  obtain ⟨LB, hLB⟩ : ∃ LB, LB = w5.heap.size := ⟨_, rfl⟩
  obtain ⟨W6, hW6⟩ : ∃ W6, W6 = w5.alloc (Obj.cells #[.int .i64 0, .int .i64 0] 35) := ⟨_, rfl⟩
  have S0 : Hid (MS w v k p c L qb kb cb q c' w1.heap.size LB 0 0 W6) := by
    have K : Kept (fun _ => False) w3 W6 := K4.out.2.trans (K5'.trans (by rw [hW6]; exact (Kept.refl _ _).alloc _) (fun _ _ z => z)) (fun _ _ z => z)
    have s1 := K3.out.size
    have s2 := (K4.out.2.trans K5' (fun _ _ z => z)).size
    refine ⟨N3.out.1.k0 K, N3.out.2.1.k0 K, N3.out.2.2.k0 K, by rw [hW6, hLB]; exact alloc_new _ _, fun x _ => Nat.zero_le _, K3.out.trans K (fun _ _ z => z), by omega, K1.out.1.size⟩
  have E6 : Hid (W6 = w5.alloc (Obj.cells #[.int .i64 0, .int .i64 0] 35) ∧ LB = w5.heap.size) := ⟨hW6, hLB⟩
  have HL : Hid (L.length = kb ∧ kb ≤ cb ∧ cb ≤ maxLen ∧ w.heap.size ≤ w1.heap.size) := ⟨N3.out.2.1.len, (own_room N3.out.2.1.row).1, (own_room N3.out.2.1.row).2, K1.out.1.size⟩
  clear C5 he5 K5' K4 K3 N3 hLB hW6 K1
  have rb := HL.out.2.1
  have sb := HL.out.2.2.1
  unfold maxLen at sb
  go_wp2_with fail
  rw [← E6.out.1, ← E6.out.2]
  go_loopw [10, 11, 12] (fun u10 _ _ wr => ∃ (j g : Nat), u10 = .int .i64 (j : Int) ∧ j ≤ kb ∧ Hid (MS w v k p c L qb kb cb q c' w1.heap.size LB g j wr)) (fun u10 _ _ _ => kb - (intOf u10).toNat)
  case atStart => exact ⟨0, 0, rfl, Nat.zero_le _, S0⟩
  case round =>
    obtain ⟨j, g, rfl, hj, S⟩ := hrel
    clear S0
    obtain ⟨wo, hwo⟩ : ∃ wo, wo = wr := ⟨_, rfl⟩
    rw [← hwo] at S ⊢
    clear hwo
    have CRo : Hid (CRd wo p k c (v.hist k)) := S.out.calls.rd (rd.out wo S.out.kept)
    by_cases hlt : j < kb
    · have j1 : (j : Int) < (kb : Int) := by omega
      obtain ⟨gb, x, rfl, hx, cx⟩ := S.out.by_.at hlt
      have hxk : x < k := OD.out.lt x (List.mem_of_getElem? hx)
      obtain ⟨b, off, m, rfl, hm, c0', c1, c2, c3, c4, c5, c6, c7, c8, c9, c10, _⟩ := CRo.out.at hxk
      rw [v.at hxk] at hm
      have hm := Option.some.inj hm
      have x1 : (x : Int) < (k : Int) := by omega
      have HX : Hid (L[j]? = some x ∧ v.one x = m) := ⟨hx, hm⟩
      clear hx hm
      obtain ⟨W, hW⟩ : ∃ W, W = wo.alloc (.cells #[.int .i64 m.client, .int .i64 m.op, .bool m.put, .string m.key, .slice m.va m.vn m.vc, .int .i64 m.st, .int .i64 m.frm, .int .i64 m.to, .bool m.opn, .int .i64 m.tx, .int .i64 m.ty] 38) := ⟨_, rfl⟩
      obtain ⟨B, hB⟩ : ∃ B, B = wo.heap.size := ⟨_, rfl⟩
      have J : Hid (W.heap[B]? = some (.cells m.cs 38 (0, 0)) ∧ MS w v k (some ⟨b, off, none⟩) c L (some ⟨gb, 0, none⟩) kb cb q c' w1.heap.size LB g j W) := by
        have K : Kept (fun _ => False) wo W := by rw [hW]; exact (Kept.refl _ _).alloc _
        refine ⟨?_, S.out.k0 K⟩
        rw [hW, hB]
        exact alloc_new _ _
      have EW : Hid (W = wo.alloc (.cells #[.int .i64 m.client, .int .i64 m.op, .bool m.put, .string m.key, .slice m.va m.vn m.vc, .int .i64 m.st, .int .i64 m.frm, .int .i64 m.to, .bool m.opn, .int .i64 m.tx, .int .i64 m.ty] 38) ∧ B = wo.heap.size) := ⟨hW, hB⟩
      clear hW hB S
      go_upto_region 12 with fail
      rw [← EW.out.1, ← EW.out.2]
      clear c0' c1 c2 c3 c4 c5 c6 c7 c8 c9 c10 EW cx CRo
      have c9 := cell_blk J.out.1 9 (v := .int .i64 m.tx) rfl
      have c10 := cell_blk J.out.1 10 (v := .int .i64 m.ty) rfl
      obtain ⟨U, hU⟩ : ∃ U, U = W.alloc (.cells #[.int .i64 m.tx, .int .i64 m.ty] 35) := ⟨_, rfl⟩
      obtain ⟨TB, hTB⟩ : ∃ TB, TB = W.heap.size := ⟨_, rfl⟩
      have JU : Hid (U.heap[TB]? = some (.cells #[.int .i64 m.tx, .int .i64 m.ty] 35 (0, 0)) ∧ MS w v k (some ⟨b, off, none⟩) c L (some ⟨gb, 0, none⟩) kb cb q c' w1.heap.size LB g j U ∧ U.cell? ⟨B, 8, none⟩ = some (.bool m.opn) ∧ ¬ TB = LB) := by
        have K : Kept (fun _ => False) W U := by rw [hU]; exact (Kept.refl _ _).alloc _
        refine ⟨?_, J.out.2.k0 K, K.cell (cell_blk J.out.1 8 (v := .bool m.opn) rfl) (fun z => z), fun z => ?_⟩
        · rw [hU, hTB]
          exact alloc_new _ _
        · have := block_lt J.out.2.last
          omega
      have EU : Hid (U = W.alloc (.cells #[.int .i64 m.tx, .int .i64 m.ty] 35) ∧ TB = W.heap.size) := ⟨hU, hTB⟩
      clear hU hTB
      go_upto_region 13 with fail
      rw [← EU.out.1, ← EU.out.2]
      clear EU J c9 c10
      obtain ⟨op, hop⟩ : ∃ op, m.opn = op := ⟨_, rfl⟩
      obtain ⟨zz, hzz⟩ : ∃ zz, kIsZero m.tx m.ty = zz := ⟨_, rfl⟩
      obtain ⟨cm, hcm⟩ : ∃ cm, cm = kTcmp m.tx m.ty (tgx g) (tgy g) := ⟨_, rfl⟩
      have HC : Hid (cm = kTcmp m.tx m.ty (tgx g) (tgy g)) := hcm
      have HO : Hid (m.opn = op ∧ kIsZero m.tx m.ty = zz) := ⟨hop, hzz⟩
      have CZ : Hid (∀ V, Calls Try.prog 12 #[.agg #[.int .i64 m.tx, .int .i64 m.ty]] V fun o w' => o = .returned (.bool zz) ∧ Kept (fun _ => False) V w') := fun V => by
        rw [← hzz]
        exact (kZero _ _ V).mono (fun o w' ⟨e, h⟩ => ⟨e, keptB h⟩)
      have CC : Hid (∀ V, Calls Try.prog 13 #[.agg #[.int .i64 m.tx, .int .i64 m.ty], .agg #[.int .i64 (tgx g), .int .i64 (tgy g)]] V fun o w' => o = .returned (.int .i64 cm) ∧ Kept (fun _ => False) V w') := fun V => by
        rw [hcm]
        exact (kCompareGrow _ _ _ _ V).mono (fun o w' ⟨e, h⟩ => ⟨e, Grown.kept h⟩)
      have c8 := JU.out.2.2.1
      rw [hop] at c8
      have JT : Hid (U.heap[TB]? = some (.cells #[.int .i64 m.tx, .int .i64 m.ty] 35 (0, 0))) := JU.out.1
      have JM : Hid (MS w v k (some ⟨b, off, none⟩) c L (some ⟨gb, 0, none⟩) kb cb q c' w1.heap.size LB g j U) := JU.out.2.1
      have ntl : ¬ TB = LB := JU.out.2.2.2
      have ntl' : ¬ LB = TB := fun z => ntl z.symm
      clear hop hzz hcm JU
      cases op
      · have NS : Hid ((m.opn && kIsZero m.tx m.ty) = false) := by rw [HO.out.1]; rfl
        have TG : Hid (m.tx = tgx (v.gr x) ∧ m.ty = tgy (v.gr x)) := by
          have := v.tag_of x (by rw [HX.out.2]; exact NS.out)
          rw [HX.out.2] at this
          exact this
        have ncm : ¬ cm < 0 := by
          rw [HC.out, TG.out.1, TG.out.2]
          exact tg_le (JM.out.rise x (List.mem_of_getElem? (i := 0) (by rw [List.getElem?_drop, Nat.add_zero]; exact HX.out.1)))
        have t0 := cell_blk JT.out 0 (v := .int .i64 m.tx) rfl
        have t1 := cell_blk JT.out 1 (v := .int .i64 m.ty) rfl
        have l0 := cell_blk JM.out.last 0 (v := .int .i64 (tgx g)) rfl
        have l1 := cell_blk JM.out.last 1 (v := .int .i64 (tgy g)) rfl
        go_wp2_with fail
        refine (CC.out _).mono ?_
        rintro o w7 ⟨rfl, K7⟩
        have JT7 : Hid (w7.heap[TB]? = some (.cells #[.int .i64 m.tx, .int .i64 m.ty] 35 (0, 0))) := K7.get JT.out (fun z => z)
        have S7 : Hid (MS w v k (some ⟨b, off, none⟩) c L (some ⟨gb, 0, none⟩) kb cb q c' w1.heap.size LB g j w7) := JM.out.k0 K7
        clear K7 t0 t1 l0 l1
        have t0 := cell_blk JT7.out 0 (v := .int .i64 m.tx) rfl
        have t1 := cell_blk JT7.out 1 (v := .int .i64 m.ty) rfl
        have l0 := cell_blk S7.out.last 0 (v := .int .i64 (tgx g)) rfl
        have l1 := cell_blk S7.out.last 1 (v := .int .i64 (tgy g)) rfl
        have f0 := soft_blk S7.out.last 0
        have f1 := soft_blk S7.out.last 1
        have S8 : Hid (MS w v k (some ⟨b, off, none⟩) c L (some ⟨gb, 0, none⟩) kb cb q c' w1.heap.size LB (v.gr x) (j + 1) ((w7.setCell ⟨LB, 0, none⟩ (.int .i64 m.tx)).setCell ⟨LB, 1, none⟩ (.int .i64 m.ty))) := by
          rw [TG.out.1, TG.out.2]
          exact S7.out.step OD.out.rel HX.out.1
        go_wp2_with fail
        go_roundw
        case rel => exact ⟨j + 1, v.gr x, by go_num, by omega, S8⟩
        case measure => simp [intOf] <;> omega
      · have t0 := cell_blk JT.out 0 (v := .int .i64 m.tx) rfl
        have t1 := cell_blk JT.out 1 (v := .int .i64 m.ty) rfl
        go_wp2_with fail
        refine (CZ.out _).mono ?_
        rintro o w6 ⟨rfl, K6⟩
        have JT6 : Hid (w6.heap[TB]? = some (.cells #[.int .i64 m.tx, .int .i64 m.ty] 35 (0, 0))) := K6.get JT.out (fun z => z)
        have S6 : Hid (MS w v k (some ⟨b, off, none⟩) c L (some ⟨gb, 0, none⟩) kb cb q c' w1.heap.size LB g j w6) := JM.out.k0 K6
        clear K6 t0 t1 JT JM c8
        cases zz
        · have NS : Hid ((m.opn && kIsZero m.tx m.ty) = false) := by rw [HO.out.1, HO.out.2]; rfl
          have JT := JT6
          clear JT6
          have TG : Hid (m.tx = tgx (v.gr x) ∧ m.ty = tgy (v.gr x)) := by
            have := v.tag_of x (by rw [HX.out.2]; exact NS.out)
            rw [HX.out.2] at this
            exact this
          have ncm : ¬ cm < 0 := by
            rw [HC.out, TG.out.1, TG.out.2]
            exact tg_le (S6.out.rise x (List.mem_of_getElem? (i := 0) (by rw [List.getElem?_drop, Nat.add_zero]; exact HX.out.1)))
          have t0 := cell_blk JT.out 0 (v := .int .i64 m.tx) rfl
          have t1 := cell_blk JT.out 1 (v := .int .i64 m.ty) rfl
          have l0 := cell_blk S6.out.last 0 (v := .int .i64 (tgx g)) rfl
          have l1 := cell_blk S6.out.last 1 (v := .int .i64 (tgy g)) rfl
          go_wp2_with fail
          refine (CC.out _).mono ?_
          rintro o w7 ⟨rfl, K7⟩
          have JT7 : Hid (w7.heap[TB]? = some (.cells #[.int .i64 m.tx, .int .i64 m.ty] 35 (0, 0))) := K7.get JT.out (fun z => z)
          have S7 : Hid (MS w v k (some ⟨b, off, none⟩) c L (some ⟨gb, 0, none⟩) kb cb q c' w1.heap.size LB g j w7) := S6.out.k0 K7
          clear K7 t0 t1 l0 l1
          have t0 := cell_blk JT7.out 0 (v := .int .i64 m.tx) rfl
          have t1 := cell_blk JT7.out 1 (v := .int .i64 m.ty) rfl
          have l0 := cell_blk S7.out.last 0 (v := .int .i64 (tgx g)) rfl
          have l1 := cell_blk S7.out.last 1 (v := .int .i64 (tgy g)) rfl
          have f0 := soft_blk S7.out.last 0
          have f1 := soft_blk S7.out.last 1
          have S8 : Hid (MS w v k (some ⟨b, off, none⟩) c L (some ⟨gb, 0, none⟩) kb cb q c' w1.heap.size LB (v.gr x) (j + 1) ((w7.setCell ⟨LB, 0, none⟩ (.int .i64 m.tx)).setCell ⟨LB, 1, none⟩ (.int .i64 m.ty))) := by
            rw [TG.out.1, TG.out.2]
            exact S7.out.step OD.out.rel HX.out.1
          go_wp2_with fail
          go_roundw
          case rel => exact ⟨j + 1, v.gr x, by go_num, by omega, S8⟩
          case measure => simp [intOf] <;> omega
        · have S8 : Hid (MS w v k (some ⟨b, off, none⟩) c L (some ⟨gb, 0, none⟩) kb cb q c' w1.heap.size LB g (j + 1) w6) := S6.out.skip
          go_wp2_with fail
          go_roundw
          case rel => exact ⟨j + 1, g, by go_num, by omega, S8⟩
          case measure => simp [intOf] <;> omega
    · have j1 : ¬ (j : Int) < (kb : Int) := by omega
      by_cases k0 : k = 0
      · have kb0 : kb = 0 := by
          have h1 := HL.out.1
          cases q2 : L with
          | nil => rw [q2] at h1; exact h1.symm
          | cons x T => have := OD.out.lt x (by rw [q2]; simp); omega
        have F : Hid (Kept (fun _ => False) w wo) := S.out.kept
        clear S CRo HL OD
        subst kb0
        subst k0
        go_wp2_with fail
        go_ret
        exact ⟨rfl, F.out⟩
      · have k0' : ¬ (k : Int) = 0 := by omega
        have CM : Hid (Calls Try.prog 14 #[.int .i64 a, .int .i64 (k : Int)] wo fun o w' => (∃ r : Int, o = .returned (.int .i64 r) ∧ 0 ≤ r ∧ r < (k : Int) ∧ r = a % (k : Int)) ∧ w' = wo) := lModK a k (k : Int) rfl (by omega) (by omega) wo
        go_wp2_with fail
        refine CM.out.mono ?_
        rintro o w7 ⟨⟨r, rfl, hr0, hr1, er⟩, rfl⟩
        obtain ⟨i, rfl⟩ : ∃ i : Nat, r = (i : Int) := ⟨r.toNat, by omega⟩
        clear CM er
        have hi : i < k := by omega
        have BL : Hid ((0 + k ≤ maxLen ∧ ((0 + k) + (0 + k) / 4 + 192) * 8 ≤ 281474976710656) ∧ (k + 1 ≤ maxLen ∧ ((k + 1) + (k + 1) / 4 + 192) * 8 ≤ 281474976710656) ∧ (0 + i ≤ maxLen ∧ ((0 + i) + (0 + i) / 4 + 192) * 8 ≤ 281474976710656)) := by
          unfold maxLen
          exact ⟨⟨by omega, by omega⟩, ⟨by omega, by omega⟩, by omega, by omega⟩
        have KA : Hid (Kept (fun _ => False) w7 (w7.alloc (.cells #[] 3))) := (Kept.refl _ _).alloc _
        go_upto_region 21 with
          (first
            | (at_builtin; refine wpList_append_all _ rfl (.tmp 78) (.tmp 79) 22 3 22 _ 1 8 rfl Try.underlying22 Try.info3c rfl w7.heap.size (.slice (some ⟨w7.heap.size, 0, none⟩) 0 0) 0 [] rfl (own_empty w7 3) _ k (intsN (List.range k)) rfl (S.out.nums.k0 KA.out).src BL.out.1.1 BL.out.1.2 KA.out.size ?_; intro p9 c9 w9 ho hg hn; have K9 : Hid (Kept (fun _ => False) w7 w9 ∧ w9.ownsRow w7.heap.size 3 1 (.slice p9 k c9) k (intsN (List.range k))) := ⟨own_grown hg.out, own_zero ho.out⟩; clear ho hg hn)
            | (at_builtin; refine wpList_append_all _ rfl (.tmp 80) (.tmp 82) 22 3 22 _ 1 8 rfl Try.underlying22 Try.info3c rfl w7.heap.size (.slice p9 k c9) k (intsN (List.range k)) rfl (((Kept.refl (fun _ => False) w9).alloc _).owns K9.out.2 (fun _ _ z => z)) _ 1 (intsN [i]) rfl (src_one (heap_alloc_new w9 _)) BL.out.2.1.1 BL.out.2.1.2 (Nat.le_trans K9.out.1.size ((Kept.refl (fun _ => False) w9).alloc _).size) ?_; intro p10 c10 w10 ho2 hg2 hn2)
            | fail)
        have T10 : Hid (NRow w7.heap.size w10 p10 (k + 1) c10 (List.range k ++ [i]) ∧ Kept (fun _ => False) w7 w10) := by
          have n9 : NRow w7.heap.size w9 p9 k c9 (List.range k) := ⟨by simp, K9.out.2⟩
          have := n9.more ho2.out rfl hg2.out K9.out.1 (Nat.le_refl _)
          exact this
        have S10 : Hid (MS w v k p c L qb kb cb q c' w1.heap.size LB g j w10) := S.out.k0 T10.out.2
        clear ho2 hg2 hn2 K9 KA S CRo
        obtain ⟨gq, _, rfl, _, _⟩ := S10.out.nums.at (j := 0) (by omega)
        have rq := own_room S10.out.nums.row
        unfold maxLen at rq
        obtain ⟨rq1, rq2⟩ := rq
        have iq0 : (0 : Int) ≤ (i : Int) := by omega
        have iq1 : (i : Int) ≤ (k : Int) := by omega
        have iq2 : (i : Int) ≤ (c' : Int) := by omega
        have iq3 : (i : Int) + 1 ≤ (k : Int) := by omega
        have iq4 : (i : Int) + 1 ≤ (c' : Int) := by omega
        have iq5 : (k : Int) ≤ (c' : Int) := by omega
        have SC : Hid (Src Try.prog 1 22 (.slice (some ⟨gq, 0, none⟩) i c') i (intsN ((List.range k).take i)) w10) := (S10.out.nums.cut (by omega)).src
        go_upto_region 23 with
          (first
            | (at_builtin; refine wpList_append_all _ rfl (.tmp 84) (.tmp 87) 22 3 22 _ 1 8 rfl Try.underlying22 Try.info3c rfl w10.heap.size (.slice none 0 0) 0 [] rfl (NRow.nil w10.heap.size w10).row _ i (intsN ((List.range k).take i)) rfl SC.out BL.out.2.2.1 BL.out.2.2.2 (Nat.le_refl _) ?_; intro p11 c11 w11 ho hg hn)
            | fail)
        have K11 : Hid (Kept (fun _ => False) w10 w11 ∧ NRow w10.heap.size w11 p11 i c11 ((List.range k).take i)) := ⟨(Kept.refl _ _).grown hg.out (fun j _ z => by cases z), ⟨by rw [List.length_take, List.length_range]; omega, own_zero ho.out⟩⟩
        have S11 : Hid (MS w v k p c L qb kb cb (some ⟨gq, 0, none⟩) c' w1.heap.size LB g j w11) := S10.out.k0 K11.out.1
        have T11 : Hid (NRow w7.heap.size w11 p10 (k + 1) c10 (List.range k ++ [i])) := T10.out.1.k0 K11.out.1
        clear ho hg hn SC
        have BL2 : Hid (i + (k - (i + 1)) ≤ maxLen ∧ ((i + (k - (i + 1))) + (i + (k - (i + 1))) / 4 + 192) * 8 ≤ 281474976710656) := by
          unfold maxLen
          exact ⟨by omega, by omega⟩
        have ID : Hid (IRd w11 (some ⟨gq, 0 + (i + 1), none⟩) (k - (i + 1)) (c' - (i + 1)) (((List.range k).drop (i + 1)).map fun r : Nat => (r : Int))) := by
          have := S11.out.nums.ird.drop (s := i + 1) (by omega)
          rw [← List.map_drop] at this
          exact this
        go_cut [15] from 89 to 94 (fun x15 wc => ∃ (p12 : Option Addr) (k12' c12 : Nat), x15 = .slice p12 k12' c12 ∧ Hid (NRow w10.heap.size wc p12 k12' c12 ((List.range k).take i ++ (List.range k).drop (i + 1)) ∧ Kept (fun _ => False) w10 wc))
        case first =>
          by_cases ec : i + 1 = c'
          · have SC : Hid (Src Try.prog 1 22 (.slice (some ⟨gq, 0, none⟩) 0 0) 0 (intsN []) w11) := Src.ofSlice w11 Try.underlying22 ⟨gq, 0, none⟩ 0 0 [] rfl (fun j u hj => by simp at hj) (fun v hv => by simp at hv)
            have BL3 : Hid ((i + 0 ≤ maxLen ∧ ((i + 0) + (i + 0) / 4 + 192) * 8 ≤ 281474976710656) ∧ (List.range k).drop (i + 1) = []) := by
              unfold maxLen
              exact ⟨⟨by omega, by omega⟩, List.drop_eq_nil_of_le (by rw [List.length_range]; omega)⟩
            go_wp2_with
              (first
                | (at_builtin; refine wpList_append_all _ rfl (.tmp 89) (.tmp 93) 22 3 22 _ 1 8 rfl Try.underlying22 Try.info3c rfl w10.heap.size (.slice p11 i c11) i (intsN ((List.range k).take i)) rfl K11.out.2.row _ 0 (intsN []) rfl SC.out BL3.out.1.1 BL3.out.1.2 K11.out.1.size ?_; intro p12 c12 w12 ho hg hn)
                | fail)
            go_meet
            case rel => exact ⟨p12, i + 0, c12, rfl, by rw [BL3.out.2]; exact row_two K11.out.2 rfl ho.out, K_two K11.out.2 K11.out.1 hg.out⟩
          · have ec' : ¬ c' = i + 1 := fun z => ec z.symm
            have SC : Hid (Src Try.prog 1 22 (.slice (some ⟨gq, i + 1, none⟩) (k - (i + 1)) (c' - (i + 1))) (k - (i + 1)) (intsN ((List.range k).drop (i + 1))) w11) := by
              have := ID.out
              rw [Nat.zero_add] at this
              exact this.src
            go_wp2_with
              (first
                | (at_builtin; refine wpList_append_all _ rfl (.tmp 89) (.tmp 93) 22 3 22 _ 1 8 rfl Try.underlying22 Try.info3c rfl w10.heap.size (.slice p11 i c11) i (intsN ((List.range k).take i)) rfl K11.out.2.row _ (k - (i + 1)) (intsN ((List.range k).drop (i + 1))) rfl SC.out BL2.out.1 BL2.out.2 K11.out.1.size ?_; intro p12 c12 w12 ho hg hn)
                | fail)
            go_meet
            case rel => exact ⟨p12, i + (k - (i + 1)), c12, rfl, row_two K11.out.2 (by rw [List.length_drop, List.length_range]) ho.out, K_two K11.out.2 K11.out.1 hg.out⟩
        case rest =>
        obtain ⟨p12, k12', c12, rfl, T12⟩ := hcut
        obtain ⟨w12, hw12⟩ : ∃ w12, w12 = wc := ⟨_, rfl⟩
        rw [← hw12] at T12 ⊢
        clear hw12 ID BL2 K11 T11 S11
        have S12 : Hid (MS w v k p c L qb kb cb (some ⟨gq, 0, none⟩) c' w1.heap.size LB g j w12 ∧ NRow w7.heap.size w12 p10 (k + 1) c10 (List.range k ++ [i])) := ⟨S10.out.k0 T12.out.2, T10.out.1.k0 T12.out.2⟩
        clear S10 T10
        have KF : Hid (Kept (fun _ => False) w w12) := S12.out.1.kept
        obtain ⟨gl, rfl, _, _, _⟩ := S12.out.1.calls.ptr (by omega)
        have C13 : Hid (Calls Try.prog 11 #[.slice (some ⟨gl, 0, none⟩) k c, .slice p10 (k + 1) c10] w12 (RetC fun e w' => CkA (v.hist k) ((List.range k ++ [i]).map fun r : Nat => (r : Int)) e ∧ Kept (fun _ => False) w12 w')) := oCheck (S12.out.1.calls.rd (rd.out w12 KF.out)) (by omega) S12.out.2.ird
        go_wp2_with fail
        refine C13.out.mono ?_
        rintro o w13 ⟨e13, rfl, he13, K13'⟩
        have e14 := ck_no (v.fit k) (v.twice_no hi) he13
        subst e14
        have S13 : Hid (MS w v k (some ⟨gl, 0, none⟩) c L qb kb cb (some ⟨gq, 0, none⟩) c' w1.heap.size LB g j w13 ∧ NRow w10.heap.size w13 p12 k12' c12 ((List.range k).take i ++ (List.range k).drop (i + 1))) := ⟨S12.out.1.k0 K13', T12.out.1.k0 K13'⟩
        clear C13 he13 K13' S12 T12 KF
        have ca : Hid (∀ V, MS w v k (some ⟨gl, 0, none⟩) c L qb kb cb (some ⟨gq, 0, none⟩) c' w1.heap.size LB g j V → V.cell? ⟨gl, i * 11 + 2, none⟩ = some (.bool (v.one i).put) ∧ V.cell? ⟨gl, i * 11 + 4, none⟩ = some (.slice (v.one i).va (v.one i).vn (v.one i).vc) ∧ V.cell? ⟨gl, i * 11 + 5, none⟩ = some (.int .i64 (v.one i).st) ∧ V.cell? ⟨gl, i * 11 + 8, none⟩ = some (.bool (v.one i).opn) ∧ V.frozen? ⟨gl, i * 11 + 4, none⟩ = false) := by
          intro V hV
          obtain ⟨b, off, m, eb, hm, _, _, d2, _, d4, d5, _, _, d8, _⟩ := (hV.calls.rd (rd.out V hV.kept)).at hi
          cases eb
          rw [v.at hi] at hm
          rw [Option.some.inj hm]
          rw [Nat.zero_add] at d2 d4 d5 d8
          obtain ⟨cs, hc⟩ := own_type hV.calls.row gl rfl
          exact ⟨d2, d4, d5, d8, soft_blk hc _⟩
        obtain ⟨op, hop⟩ : ∃ op, (v.one i).opn = op := ⟨_, rfl⟩
        obtain ⟨pu, hpu⟩ : ∃ pu, (v.one i).put = pu := ⟨_, rfl⟩
        obtain ⟨st, hst⟩ : ∃ st, (v.one i).st = st := ⟨_, rfl⟩
        have HO : Hid ((v.one i).opn = op ∧ (v.one i).put = pu ∧ (v.one i).st = st) := ⟨hop, hpu, hst⟩
        obtain ⟨d2, d4, d5, d8, d9⟩ := ca.out w13 S13.out.1
        rw [hpu] at d2
        rw [hst] at d5
        rw [hop] at d8
        clear hop hpu hst
        have ik1 : (i : Int) < (k : Int) := by omega
        cases op
        · have C14 : Hid (Calls Try.prog 11 #[.slice (some ⟨gl, 0, none⟩) k c, .slice p12 k12' c12] w13 (RetC fun e w' => CkA (v.hist k) (((List.range k).take i ++ (List.range k).drop (i + 1)).map fun r : Nat => (r : Int)) e ∧ Kept (fun _ => False) w13 w')) := oCheck (S13.out.1.calls.rd (rd.out w13 S13.out.1.kept)) (by omega) S13.out.2.ird
          go_wp2_with fail
          refine C14.out.mono ?_
          rintro o w14 ⟨e14, rfl, he14, K14'⟩
          have e15 := ck_no (v.fit k) (v.less_no hi HO.out.1) he14
          subst e15
          have S14 : Hid (MS w v k (some ⟨gl, 0, none⟩) c L qb kb cb (some ⟨gq, 0, none⟩) c' w1.heap.size LB g j w14) := S13.out.1.k0 K14'
          clear C14 he14 K14' S13 d2 d4 d5 d8 d9
          obtain ⟨d2, d4, d5, d8, d9⟩ := ca.out w14 S14.out
          rw [HO.out.2.1] at d2
          rw [HO.out.2.2] at d5
          have KF : Hid (Kept (fun _ => False) w w14) := S14.out.kept
          cases pu
          · by_cases s0 : st = 0
            · subst s0
              obtain ⟨m, hm⟩ : ∃ m, m = v.one i := ⟨_, rfl⟩
              rw [← hm] at d4
              have HM : Hid (m = v.one i) := hm
              clear hm
              have RV : Hid (Reads w14 m.va m.vn m.vc m.val ∧ m.vn + 1 ≤ 140737488355328) := by
                rw [HM.out]
                exact ⟨rd.out w14 KF.out _ (List.mem_of_getElem? (v.at hi)), Md.one_small H.out.2 i⟩
              have BL4 : Hid ((0 + m.vn ≤ maxLen ∧ ((0 + m.vn) + (0 + m.vn) / 4 + 192) * 1 ≤ 281474976710656) ∧ (m.vn + 1 ≤ maxLen ∧ ((m.vn + 1) + (m.vn + 1) / 4 + 192) * 1 ≤ 281474976710656)) := by
                have := RV.out.2
                unfold maxLen
                exact ⟨⟨by omega, by omega⟩, by omega, by omega⟩
              have KA : Hid (Kept (fun _ => False) w14 (w14.alloc (.cells #[] 5))) := (Kept.refl _ _).alloc _
              have ng : ∀ V : World, V = w14.alloc (Obj.cells #[] 5) → V.cell? ⟨gl, i * 11 + 4, none⟩ = some (.slice m.va m.vn m.vc) := fun V e => by rw [e]; exact KA.out.cell d4 (fun z => z)
              have d4' := ng _ rfl
              clear ng
              go_upto_region 29 with
                (first
                  | (at_builtin; refine wpList_append_all _ rfl (.tmp 128) (.tmp 133) 36 5 36 _ 1 1 rfl Try.underlying36 Try.info5 rfl w14.heap.size (.slice (some ⟨w14.heap.size, 0, none⟩) 0 0) 0 [] rfl (own_empty w14 5) _ m.vn (cellsOf m.val) rfl (Reads.kept KA.out RV.out.1 (fun _ _ z => z)).src BL4.out.1.1 BL4.out.1.2 KA.out.size ?_; intro p15 c15 w15 ho hg hn; have K15 : Hid (Kept (fun _ => False) w14 w15 ∧ w15.ownsRow w14.heap.size 5 1 (.slice p15 m.vn c15) m.vn (cellsOf m.val)) := ⟨own_grown hg.out, own_zero ho.out⟩; clear ho hg hn)
                  | (at_builtin; refine wpList_append_all _ rfl (.tmp 134) (.tmp 135) 36 5 36 _ 1 1 rfl Try.underlying36 Try.info5 rfl w14.heap.size (.slice p15 m.vn c15) m.vn (cellsOf m.val) rfl (((Kept.refl (fun _ => False) w15).alloc _).owns K15.out.2 (fun _ _ z => z)) _ 1 (cellsOf [120]) rfl (src_byte w15 120 (by omega)) BL4.out.2.1 BL4.out.2.2 (Nat.le_trans K15.out.1.size ((Kept.refl (fun _ => False) w15).alloc _).size) ?_; intro p16 c16 w16 ho2 hg2 hn2; have K16 : Hid (Kept (fun _ => False) w14 w16 ∧ w16.ownsRow w14.heap.size 5 1 (.slice p16 (m.vn + 1) c16) (m.vn + 1) (cellsOf m.val ++ cellsOf [120])) := ⟨K_byte K15.out.2 K15.out.1 hg2.out, ho2.out⟩; clear ho2 hg2 hn2; have z4 := K16.out.1.cell d4 (fun z => z); have z9 := (ca.out w16 (S14.out.k0 K16.out.1)).2.2.2.2)
                  | fail)
              have BX : Hid (∃ m', m' = ({ v.one i with va := p16, vn := m.vn + 1, vc := c16, val := m.val ++ [120] } : Cm) ∧ CRd (w16.setCell ⟨gl, i * 11 + 4, none⟩ (.slice p16 (m.vn + 1) c16)) (some ⟨gl, 0, none⟩) k c ((v.hist k).set i m') ∧ IRd (w16.setCell ⟨gl, i * 11 + 4, none⟩ (.slice p16 (m.vn + 1) c16)) qb kb cb (L.map fun r : Nat => (r : Int)) ∧ IRd (w16.setCell ⟨gl, i * 11 + 4, none⟩ (.slice p16 (m.vn + 1) c16)) (some ⟨gq, 0, none⟩) k c' ((List.range k).map fun r : Nat => (r : Int)) ∧ Kept (fun _ => False) w (w16.setCell ⟨gl, i * 11 + 4, none⟩ (.slice p16 (m.vn + 1) c16))) := by
                refine ⟨_, rfl, (S14.out.k0 K16.out.1).val rd.out hi (xs := m.val ++ [120]) (by rw [cellsOf_append]; exact K16.out.2) (fun y hy => ?_) rfl ⟨rfl, rfl, rfl, rfl⟩⟩
                rcases List.mem_append.1 hy with z | z
                · exact RV.out.1.bytes y z
                · have : y = 120 := by simpa using z
                  omega
              generalize w16.setCell ⟨gl, i * 11 + 4, none⟩ (.slice p16 (m.vn + 1) c16) = w17 at BX ⊢
              clear z4 z9 K16 K15 d4' d4 d5 d2 d9 KA
              obtain ⟨m', hm', b1, b2, b3, b4⟩ := BX.out
              have NO : Hid (FitL ((v.hist k).set i m') ∧ ∀ R : List Nat, Expl (v.hist k) (R.map fun r : Nat => (r : Int)) → ¬ Expl ((v.hist k).set i m') (R.map fun r : Nat => (r : Int))) := by
                have f' : FitL ((v.hist k).set i m') := fit_set (v.fit k) (v.at hi) (by rw [hm']) (by rw [hm']; rfl)
                refine ⟨f', fun R x => changed_no (v.fit k) (v.at hi) HO.out.2.1 HO.out.2.2 ?_ (by rw [hm', HM.out]; rfl) f' x⟩
                unfold Cl.must
                rw [v.part i]
                unfold Cl.open_
                have e : (v.one i).cl.put = false := HO.out.2.1
                rw [e]
                rfl
              have B17 : Hid (CRd w17 (some ⟨gl, 0, none⟩) k c ((v.hist k).set i m') ∧ IRd w17 qb kb cb (L.map fun r : Nat => (r : Int)) ∧ Kept (fun _ => False) w w17) := ⟨b1, b2, b4⟩
              have C17 : Hid (Calls Try.prog 11 #[.slice (some ⟨gl, 0, none⟩) k c, .slice (some ⟨gq, 0, none⟩) k c'] w17 (RetC fun e w' => CkA ((v.hist k).set i m') ((List.range k).map fun r : Nat => (r : Int)) e ∧ Kept (fun _ => False) w17 w')) := oCheck b1 (by omega) b3
              clear BX b1 b2 b3 b4 hm'
              go_wp2_with fail
              refine C17.out.mono ?_
              rintro o w18 ⟨e18, rfl, he18, K18'⟩
              have e19 := ck_no NO.out.1 (NO.out.2 _ (v.explained k)) he18
              subst e19
              have B18 : Hid (CRd w18 (some ⟨gl, 0, none⟩) k c ((v.hist k).set i m') ∧ IRd w18 qb kb cb (L.map fun r : Nat => (r : Int)) ∧ Kept (fun _ => False) w w18) := ⟨B17.out.1.k0 K18', B17.out.2.1.k0 K18', B17.out.2.2.trans K18' (fun _ _ z => z)⟩
              clear C17 he18 K18' B17
              have C19 : Hid (Calls Try.prog 11 #[.slice (some ⟨gl, 0, none⟩) k c, .slice qb kb cb] w18 (RetC fun e w' => CkA ((v.hist k).set i m') (L.map fun r : Nat => (r : Int)) e ∧ Kept (fun _ => False) w18 w')) := oCheck B18.out.1 (by omega) B18.out.2.1
              go_wp2_with fail
              refine C19.out.mono ?_
              rintro o w19 ⟨e20, rfl, he20, K20'⟩
              have e21 := ck_no NO.out.1 (NO.out.2 _ OD.out.explains) he20
              subst e21
              have KE : Hid (Kept (fun _ => False) w w19) := B18.out.2.2.trans K20' (fun _ _ z => z)
              clear C19 he20 K20' B18
              go_wp2_with fail
              go_ret
              exact ⟨rfl, KE.out⟩
            · go_wp2_with fail
              go_ret
              exact ⟨rfl, KF.out⟩
          · go_wp2_with fail
            go_ret
            exact ⟨rfl, KF.out⟩
        · have pt : pu = true := by
            have h1 := HO.out
            rcases (v.one_f i).kind with ⟨_, z, _⟩ | ⟨z, _⟩
            · rw [← h1.2.1, z]
            · rw [h1.1] at z; cases z
          subst pt
          have KF : Hid (Kept (fun _ => False) w w13) := S13.out.1.kept
          go_wp2_with fail
          go_ret
          exact ⟨rfl, KF.out⟩
end Go.Proofs.Ytodmakcklacbfaa
