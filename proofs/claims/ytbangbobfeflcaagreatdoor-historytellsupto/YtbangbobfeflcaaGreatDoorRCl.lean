import Derived.Test.YtbangbobfeflcaaGreatDoorTCoJ
namespace Go.Proofs.YtbangbobfeflcaaGreatDoor
open Go.RowKit 

set_option maxRecDepth 100000 in
set_option maxHeartbeats 8000000 in
theorem hRefCalls {w : World} {p0 : Option Addr} {n c0 : Nat} {es : List Ev} (er : ERd w p0 n c0 es) (hb : n ≤ 1500000000000) (hv : ∀ x ∈ es, x.vn + 1 ≤ 140737488355328) : Calls Tryz.prog 22 #[.slice p0 n c0] w (RetK (ClQ w es)) := by
  have rm := er.room
  have sm := er.small
  unfold maxLen at sm
  have C1 : Hid (Calls Tryz.prog 20 #[.slice p0 n c0] w (RetI2 fun a b w' => (a, b) = chkE es noM 0 ∧ Kept (fun _ => False) w w')) := hRefCheck er hb
  have H : Hid (ERd w p0 n c0 es ∧ n ≤ 1500000000000 ∧ ∀ x ∈ es, x.vn + 1 ≤ 140737488355328) := ⟨er, hb, hv⟩
  clear er hb hv
  go_enter Tryz.func22, Tryz.ntmps22
  go_wp2_with fail
  refine C1.out.mono ?_
  rintro o w2 ⟨a, b, rfl, hab, K2'⟩
  have K2 : Hid (Kept (fun _ => False) w w2) := K2'
  have HAB : Hid ((a, b) = chkE es noM 0) := hab
  clear C1 K2' hab
  by_cases hb0 : b = 0
  · subst hb0
    have OK : Hid (chkE es noM 0 = (-1, 0)) := by
      have q := HAB.out.symm
      rw [chk_zero es noM 0 a q] at q
      exact q
    have S0 : Hid (LS w2 w2 es 0 none 0 0 []) := ⟨⟨rfl, ⟨rfl, .inl ⟨rfl, rfl⟩⟩, fun x h => absurd h (by simp)⟩, rfl, Kept.refl _ _⟩
    go_upto_region 6 with fail
    go_loopw [6, 7, 8, 9, 10, 11] (fun u6 u7 _ _ _ _ wr => ∃ (q : Option Addr) (k c i : Nat) (L : List Ca), u6 = .slice q k c ∧ u7 = .int .i64 (i : Int) ∧ i ≤ n ∧ k ≤ i ∧ Hid (LS w2 wr es i q k c L)) (fun _ u7 _ _ _ _ _ => n - (intOf u7).toNat)
    case atStart => exact ⟨none, 0, 0, 0, [], rfl, rfl, Nat.zero_le _, Nat.le_refl _, S0⟩
    case round =>
      obtain ⟨q, k, c, i, L, rfl, rfl, hi, hki, S⟩ := hrel
      clear S0
      obtain ⟨wo, hwo⟩ : ∃ wo, wo = wr := ⟨_, rfl⟩
      rw [← hwo] at S ⊢
      clear hwo
      have KO : Hid (Kept (fun _ => False) w wo) := K2.out.trans S.out.kept (fun _ _ z => z)
      by_cases hlt : i < n
      · have i1 : (i : Int) < (n : Int) := by omega
        obtain ⟨b8, off8, e, rfl, he, c0', c1', c2', c3', c4', c5', c6', c7', c8', rd⟩ := (H.out.1.k0 KO.out).at hlt
        have HE : Hid (es[i]? = some e) := he
        have EF : Hid (faultE e = 0 ∧ e.vn + 1 ≤ 140737488355328) := ⟨chk_fault es noM 0 OK.out e (List.mem_of_getElem? he), H.out.2.2 e (List.mem_of_getElem? he)⟩
        obtain ⟨pu, hpu⟩ : ∃ pu, e.put = pu := ⟨_, rfl⟩
        rw [hpu] at c3'
        clear he rd
        by_cases hk : e.kind = 1
        · have q1 : (e.kind != 1) = false := by simp [hk]
          have HK : Hid (e.kind = 1) := hk
          have LN : Hid (k + 1 ≤ maxLen ∧ ((k + 1) + (k + 1) / 4 + 192) * 112 ≤ 281474976710656) := by
            have q1 := H.out.2.1
            unfold maxLen
            exact ⟨by omega, by omega⟩
          clear hk
          obtain ⟨W8, hW8⟩ : ∃ W8, W8 = wo.alloc (.cells #[.int .i64 e.kind, .int .i64 e.client, .int .i64 e.op, .bool pu, .string e.key, .slice e.va e.vn e.vc, .int .i64 e.st, .int .i64 e.tx, .int .i64 e.ty] 39) := ⟨_, rfl⟩
          obtain ⟨B8, hB8⟩ : ∃ B8, B8 = wo.heap.size := ⟨_, rfl⟩
          have J8 : Hid (W8.heap[B8]? = some (.cells #[.int .i64 e.kind, .int .i64 e.client, .int .i64 e.op, .bool pu, .string e.key, .slice e.va e.vn e.vc, .int .i64 e.st, .int .i64 e.tx, .int .i64 e.ty] 39 (0, 0)) ∧ W8 = wo.alloc (.cells #[.int .i64 e.kind, .int .i64 e.client, .int .i64 e.op, .bool pu, .string e.key, .slice e.va e.vn e.vc, .int .i64 e.st, .int .i64 e.tx, .int .i64 e.ty] 39) ∧ B8 = wo.heap.size) := ⟨by rw [hW8, hB8]; exact alloc_new _ _, hW8, hB8⟩
          clear hW8 hB8
          go_upto_region 10 with fail
          rw [← J8.out.2.1, ← J8.out.2.2]
          clear c0' c1' c2' c3' c4' c5' c6' c7' c8'
          have x1 := cell_blk J8.out.1 1 (v := .int .i64 e.client) rfl
          have x2 := cell_blk J8.out.1 2 (v := .int .i64 e.op) rfl
          have x3 := cell_blk J8.out.1 3 (v := .bool pu) rfl
          have x4 := cell_blk J8.out.1 4 (v := .string e.key) rfl
          go_upto_region 11 with fail
          have R0 : Hid (RC wo (W8.alloc (.cells #[.int .i64 e.client, .int .i64 e.op, .bool pu, .string e.key, .slice none 0 0, .int .i64 0, .int .i64 (i : Int), .int .i64 (-1), .bool pu, .int .i64 0, .int .i64 0] 58)) W8.heap.size [(B8, #[.int .i64 e.kind, .int .i64 e.client, .int .i64 e.op, .bool pu, .string e.key, .slice e.va e.vn e.vc, .int .i64 e.st, .int .i64 e.tx, .int .i64 e.ty])] (⟨e.client, e.op, pu, e.key, none, 0, 0, 0, (i : Int), -1, pu, 0, 0, []⟩ : Ca)) := by
            have q := RC.begin wo #[.int .i64 e.kind, .int .i64 e.client, .int .i64 e.op, .bool pu, .string e.key, .slice e.va e.vn e.vc, .int .i64 e.st, .int .i64 e.tx, .int .i64 e.ty] (⟨e.client, e.op, pu, e.key, none, 0, 0, 0, (i : Int), -1, pu, 0, 0, []⟩ : Ca) ⟨rfl, rfl, rfl, rfl⟩ (Kept.refl (fun _ => False) (wo.alloc (.cells #[.int .i64 e.kind, .int .i64 e.client, .int .i64 e.op, .bool pu, .string e.key, .slice e.va e.vn e.vc, .int .i64 e.st, .int .i64 e.tx, .int .i64 e.ty] 39)))
            rw [← J8.out.2.1, ← J8.out.2.2] at q
            exact q
          obtain ⟨B9, hB9⟩ : ∃ B, W8.heap.size = B := ⟨_, rfl⟩
          obtain ⟨V, hV⟩ : ∃ V, W8.alloc (.cells #[.int .i64 e.client, .int .i64 e.op, .bool pu, .string e.key, .slice none 0 0, .int .i64 0, .int .i64 (i : Int), .int .i64 (-1), .bool pu, .int .i64 0, .int .i64 0] 58) = V := ⟨_, rfl⟩
          rw [hV, hB9] at R0 ⊢
          clear hV hB9 x1 x2 x3 x4 J8
          cases pu with
          | true =>
            have R1 : Hid (RC wo V B9 [(B8, #[.int .i64 e.kind, .int .i64 e.client, .int .i64 e.op, .bool true, .string e.key, .slice e.va e.vn e.vc, .int .i64 e.st, .int .i64 e.tx, .int .i64 e.ty])] (⟨e.client, e.op, true, e.key, none, 0, 0, 0, (i : Int), -1, true, 0, 0, []⟩ : Ca)) := R0
            clear R0
            have x3 := cell_blk (R1.out.oth (B8, #[.int .i64 e.kind, .int .i64 e.client, .int .i64 e.op, .bool true, .string e.key, .slice e.va e.vn e.vc, .int .i64 e.st, .int .i64 e.tx, .int .i64 e.ty]) (by simp)) 3 (v := .bool true) rfl
            go_upto_region 12 with fail
            obtain ⟨B8x, off8x, e', eb, he', d0, d1, d2, d3, d4, d5, d6, d7, d8, rde⟩ := (H.out.1.k0 (KO.out.trans R1.out.kept (fun _ _ z => z))).at hlt
            obtain rfl : e = e' := Option.some.inj (HE.out.symm.trans he')
            have AK : Hid (Kept (fun _ => False) V (V.alloc (.cells #[] 5))) := (Kept.refl _ _).alloc _
            have RW : Hid ((V.alloc (.cells #[] 5)).ownsRow V.heap.size 5 1 (.slice (some ⟨V.heap.size, 0, none⟩) 0 0) 0 (cellsOf []) ∧ Reads (V.alloc (.cells #[] 5)) e.va e.vn e.vc e.val) := ⟨⟨rfl, .inr ⟨V.heap.size, 0, #[], rfl, Nat.le_refl _, alloc_new _ _, Nat.le_refl _, by unfold maxLen; omega, rfl, rfl⟩⟩, Reads.kept AK.out rde (fun _ _ z => z)⟩
            have x5 := cell_blk (AK.out.get (R1.out.oth (B8, #[.int .i64 e.kind, .int .i64 e.client, .int .i64 e.op, .bool true, .string e.key, .slice e.va e.vn e.vc, .int .i64 e.st, .int .i64 e.tx, .int .i64 e.ty]) (by simp)) (fun z => z)) 5 (v := .slice e.va e.vn e.vc) rfl
            have LW : Hid (V.heap.size ≤ (V.alloc (.cells #[] 5)).heap.size) := AK.out.size
            have vz := EF.out.2
            clear d0 d1 d2 d3 d4 d5 d6 d7 d8 rde he' eb x3
            go_upto_region 13 with
              (first
                | (at_builtin; refine wpList_append_bytes _ rfl (.tmp 50) (.tmp 52) rfl V.heap.size (.slice (some ⟨V.heap.size, 0, none⟩) 0 0) 0 [] rfl RW.out.1 _ e.vn e.val rfl RW.out.2.src (by omega) LW.out ?_; intro p9 c9 w9 ho hg hn9; have O9 : Hid (RC wo w9 B9 [(B8, #[.int .i64 e.kind, .int .i64 e.client, .int .i64 e.op, .bool true, .string e.key, .slice e.va e.vn e.vc, .int .i64 e.st, .int .i64 e.tx, .int .i64 e.ty])] (⟨e.client, e.op, true, e.key, none, 0, 0, 0, (i : Int), -1, true, 0, 0, []⟩ : Ca) ∧ w9.ownsRow wo.heap.size 5 1 (.slice p9 e.vn c9) e.vn (cellsOf e.val)) := R1.out.mid ho.out hg.out; have y4 := cell_blk O9.out.1.blk 4 (v := .slice none 0 0) rfl; have ys := soft_blk O9.out.1.blk 4; clear ho hg hn9; rw [Nat.zero_add])
                | fail)
            have R : Hid (RC wo (w9.setCell ⟨B9, 4, none⟩ (.slice p9 e.vn c9)) B9 [(B8, #[.int .i64 e.kind, .int .i64 e.client, .int .i64 e.op, .bool true, .string e.key, .slice e.va e.vn e.vc, .int .i64 e.st, .int .i64 e.tx, .int .i64 e.ty])] (⟨e.client, e.op, true, e.key, p9, e.vn, c9, 0, (i : Int), -1, true, 0, 0, e.val⟩ : Ca)) := O9.out.1.val O9.out.2
            obtain ⟨V2, hV⟩ : ∃ V2, w9.setCell ⟨B9, 4, none⟩ (.slice p9 e.vn c9) = V2 := ⟨_, rfl⟩
            rw [hV] at R ⊢
            clear hV R1 AK RW x5 LW O9 y4 ys
            obtain ⟨V, hV⟩ : ∃ V, V = V2 := ⟨_, rfl⟩
            rw [← hV] at R ⊢
            clear hV
            have CE : Hid (Calls Tryz.prog 46 #[.slice (some ⟨b8, off8, none⟩) n c0, .int .i64 (i : Int)] V (RetE fun r w' => EndQ es e.client i r ∧ Kept (fun _ => False) V w')) := hEnd (H.out.1.k0 (KO.out.trans R.out.kept (fun _ _ z => z))) HE.out
            go_wp2_with fail
            refine CE.out.mono ?_
            rintro o V3 ⟨r, rfl, hr, K3⟩
            have R3 : Hid (RC wo V3 B9 [(B8, #[.int .i64 e.kind, .int .i64 e.client, .int .i64 e.op, .bool true, .string e.key, .slice e.va e.vn e.vc, .int .i64 e.st, .int .i64 e.tx, .int .i64 e.ty])] (⟨e.client, e.op, true, e.key, p9, e.vn, c9, 0, (i : Int), -1, true, 0, 0, e.val⟩ : Ca)) := R.out.k0 K3
            clear CE K3 R
            rcases call_end OK.out HE.out HK.out hr with ⟨er, cp⟩ | ⟨j, y, er, hy, hij, cp⟩
            · subst er
              have CP : Hid (callP es (placesE es (keyE e)) = some (beginC e i)) := cp
              clear cp hr
              obtain ⟨V, hV⟩ : ∃ V, V = V3 := ⟨_, rfl⟩
              rw [← hV] at R3 ⊢
              clear hV
              have R : Hid (RC wo V B9 [(B8, #[.int .i64 e.kind, .int .i64 e.client, .int .i64 e.op, .bool true, .string e.key, .slice e.va e.vn e.vc, .int .i64 e.st, .int .i64 e.tx, .int .i64 e.ty])] (⟨e.client, e.op, true, e.key, p9, e.vn, c9, 0, (i : Int), -1, true, 0, 0, e.val⟩ : Ca)) := R3
              clear R3
              have TLD : Hid (some (⟨e.client, e.op, true, e.key, p9, e.vn, c9, 0, (i : Int), (-1), true, 0, 0, e.val⟩ : Ca).cc = callP es (placesE es (keyE e))) := by
                rw [CP.out]
                unfold beginC Ca.cc
                rw [hpu]
                exact (rfl : some _ = some _)
              have RK : Hid (KaR w2.heap.size V q k c L) := S.out.row.k0 R.out.kept
              have ROW : Hid (V.ownsRow w2.heap.size 5 1 (.slice p9 e.vn c9) e.vn (cellsOf e.val)) := owns_mono R.out.row S.out.kept.size
              have KN : Hid (Kept (fun _ => False) w2 V) := S.out.kept.trans R.out.kept (fun _ _ z => z)
              have L0 := cell_blk R.out.blk 0 (v := .int .i64 e.client) rfl
              have L1 := cell_blk R.out.blk 1 (v := .int .i64 e.op) rfl
              have L2 := cell_blk R.out.blk 2 (v := .bool true) rfl
              have L3 := cell_blk R.out.blk 3 (v := .string e.key) rfl
              have L4 := cell_blk R.out.blk 4 (v := .slice p9 e.vn c9) rfl
              have L5 := cell_blk R.out.blk 5 (v := .int .i64 0) rfl
              have L6 := cell_blk R.out.blk 6 (v := .int .i64 (i : Int)) rfl
              have L7 := cell_blk R.out.blk 7 (v := .int .i64 (-1)) rfl
              have L8 := cell_blk R.out.blk 8 (v := .bool true) rfl
              have L9 := cell_blk R.out.blk 9 (v := .int .i64 0) rfl
              have L10 := cell_blk R.out.blk 10 (v := .int .i64 0) rfl
              clear R
              go_wp2_with
                (first
                  | (at_builtin; refine wpList_append_all _ rfl (.tmp 104) (.tmp 106) 25 58 25 _ 11 112 rfl Tryz.underlying25 Tryz.info58c rfl w2.heap.size (.slice q k c) k (kcs L) rfl ((RK.out.k0 ((Kept.refl (fun _ => False) V).alloc _)).row) _ 1 (kcs [(⟨e.client, e.op, true, e.key, p9, e.vn, c9, 0, (i : Int), (-1), true, 0, 0, e.val⟩ : Ca)]) rfl (src_ca (heap_alloc_new V _)) LN.out.1 LN.out.2 (Nat.le_trans KN.out.size ((Kept.refl (fun _ => False) V).alloc _).size) ?_; intro p7 c7 w7 ho hg hn7)
                  | fail)
              have NX : Hid (LS w2 w7 es (i + 1) p7 (k + 1) c7 (L ++ [(⟨e.client, e.op, true, e.key, p9, e.vn, c9, 0, (i : Int), (-1), true, 0, 0, e.val⟩ : Ca)])) := by
                have KA : Kept (fun _ => False) V (V.alloc (.cells (⟨e.client, e.op, true, e.key, p9, e.vn, c9, 0, (i : Int), (-1), true, 0, 0, e.val⟩ : Ca).cs 58)) := (Kept.refl _ _).alloc _
                have Q := (RK.out.k0 KA).more (x := (⟨e.client, e.op, true, e.key, p9, e.vn, c9, 0, (i : Int), (-1), true, 0, 0, e.val⟩ : Ca)) (W0 := w2) (KA.owns ROW.out (fun _ _ z => z)) ho.out hg.out (KN.out.trans KA (fun _ _ z => z)) (Nat.le_refl _)
                refine ⟨Q.1, ?_, Q.2⟩
                rw [callsTo_add HE.out, if_pos HK.out, List.map_append, S.out.told, ← TLD.out]
                rfl
              clear ho hg hn7 S RK ROW KN TLD L0 L1 L2 L3 L4 L5 L6 L7 L8 L9 L10
              go_roundw
              case rel => exact ⟨p7, k + 1, c7, i + 1, _, rfl, by go_num, by omega, by omega, NX⟩
              case measure => simp [intOf] <;> omega
            · subst er
              have HY : Hid (es[j]? = some y ∧ ¬ y.kind = 1) := by
                refine ⟨hy, ?_⟩
                rcases hr with ⟨z, _⟩ | ⟨j2, y2, z, h2, h3, h4, h5⟩
                · omega
                · obtain rfl : j = j2 := by omega
                  obtain rfl : y = y2 := Option.some.inj (hy.symm.trans h3)
                  exact end_k OK.out HE.out HK.out hy hij h4 h5
              have YF : Hid (faultE y = 0 ∧ y.vn + 1 ≤ 140737488355328) := ⟨chk_fault es noM 0 OK.out y (List.mem_of_getElem? hy), H.out.2.2 y (List.mem_of_getElem? hy)⟩
              have CP : Hid (callP es (placesE es (keyE e)) = some (endC (beginC e i) y j)) := cp
              have hjn : j < n := by rw [← H.out.1.len]; exact (List.getElem?_eq_some_iff.1 hy).1
              have j0 : (0 : Int) ≤ (j : Int) := by omega
              have j1 : (j : Int) < (n : Int) := by omega
              clear hr cp
              obtain ⟨b8', off8', y', eb, hy', d0, d1, d2, d3, d4, d5, d6, d7, d8, rdy⟩ := (H.out.1.k0 (KO.out.trans R3.out.kept (fun _ _ z => z))).at hjn
              obtain rfl : y = y' := Option.some.inj (hy.symm.trans hy')
              injection eb with eb
              injection eb with z1 z2 _
              subst z1
              subst z2
              clear hy' hy rdy
              go_upto_region 16 with fail
              have R4 : Hid (RC wo (V3.alloc (.cells #[.int .i64 y.kind, .int .i64 y.client, .int .i64 y.op, .bool y.put, .string y.key, .slice y.va y.vn y.vc, .int .i64 y.st, .int .i64 y.tx, .int .i64 y.ty] 39)) B9 ((V3.heap.size, #[.int .i64 y.kind, .int .i64 y.client, .int .i64 y.op, .bool y.put, .string y.key, .slice y.va y.vn y.vc, .int .i64 y.st, .int .i64 y.tx, .int .i64 y.ty]) :: [(B8, #[.int .i64 e.kind, .int .i64 e.client, .int .i64 e.op, .bool true, .string e.key, .slice e.va e.vn e.vc, .int .i64 e.st, .int .i64 e.tx, .int .i64 e.ty])]) (⟨e.client, e.op, true, e.key, p9, e.vn, c9, 0, (i : Int), -1, true, 0, 0, e.val⟩ : Ca)) := R3.out.more _
              obtain ⟨B11, hB⟩ : ∃ B, V3.heap.size = B := ⟨_, rfl⟩
              obtain ⟨V4, hV⟩ : ∃ V, V3.alloc (.cells #[.int .i64 y.kind, .int .i64 y.client, .int .i64 y.op, .bool y.put, .string y.key, .slice y.va y.vn y.vc, .int .i64 y.st, .int .i64 y.tx, .int .i64 y.ty] 39) = V := ⟨_, rfl⟩
              rw [hV, hB] at R4 ⊢
              clear hV hB R3 d0 d1 d2 d3 d4 d5 d6 d7 d8
              have y7 := cell_blk (R4.out.oth (B11, #[.int .i64 y.kind, .int .i64 y.client, .int .i64 y.op, .bool y.put, .string y.key, .slice y.va y.vn y.vc, .int .i64 y.st, .int .i64 y.tx, .int .i64 y.ty]) (by simp)) 7 (v := .int .i64 y.tx) rfl
              have y8 := cell_blk (R4.out.oth (B11, #[.int .i64 y.kind, .int .i64 y.client, .int .i64 y.op, .bool y.put, .string y.key, .slice y.va y.vn y.vc, .int .i64 y.st, .int .i64 y.tx, .int .i64 y.ty]) (by simp)) 8 (v := .int .i64 y.ty) rfl
              have g9 := cell_blk R4.out.blk 9 (v := .int .i64 0) rfl
              have g10 := cell_blk R4.out.blk 10 (v := .int .i64 0) rfl
              have f9 := soft_blk R4.out.blk 9
              have f10 := soft_blk R4.out.blk 10
              go_upto_region 17 with fail
              have R5 : Hid (RC wo ((V4.setCell ⟨B9, 9, none⟩ (.int .i64 y.tx)).setCell ⟨B9, 10, none⟩ (.int .i64 y.ty)) B9 ((B11, #[.int .i64 y.kind, .int .i64 y.client, .int .i64 y.op, .bool y.put, .string y.key, .slice y.va y.vn y.vc, .int .i64 y.st, .int .i64 y.tx, .int .i64 y.ty]) :: [(B8, #[.int .i64 e.kind, .int .i64 e.client, .int .i64 e.op, .bool true, .string e.key, .slice e.va e.vn e.vc, .int .i64 e.st, .int .i64 e.tx, .int .i64 e.ty])]) (⟨e.client, e.op, true, e.key, p9, e.vn, c9, 0, (i : Int), -1, true, y.tx, y.ty, e.val⟩ : Ca)) := (R4.out.set (c' := (⟨e.client, e.op, true, e.key, p9, e.vn, c9, 0, (i : Int), -1, true, y.tx, 0, e.val⟩ : Ca)) 9 (.int .i64 y.tx) rfl ⟨rfl, rfl, rfl, rfl⟩).set (c' := (⟨e.client, e.op, true, e.key, p9, e.vn, c9, 0, (i : Int), -1, true, y.tx, y.ty, e.val⟩ : Ca)) 10 (.int .i64 y.ty) rfl ⟨rfl, rfl, rfl, rfl⟩
              obtain ⟨V5, hV⟩ : ∃ V, (V4.setCell ⟨B9, 9, none⟩ (.int .i64 y.tx)).setCell ⟨B9, 10, none⟩ (.int .i64 y.ty) = V := ⟨_, rfl⟩
              rw [hV] at R5 ⊢
              clear hV R4 y7 y8 g9 g10 f9 f10
              have y6 := cell_blk (R5.out.oth (B11, #[.int .i64 y.kind, .int .i64 y.client, .int .i64 y.op, .bool y.put, .string y.key, .slice y.va y.vn y.vc, .int .i64 y.st, .int .i64 y.tx, .int .i64 y.ty]) (by simp)) 6 (v := .int .i64 y.st) rfl
              have g5 := cell_blk R5.out.blk 5 (v := .int .i64 0) rfl
              have f5 := soft_blk R5.out.blk 5
              go_upto_region 18 with fail
              have R6 : Hid (RC wo (V5.setCell ⟨B9, 5, none⟩ (.int .i64 y.st)) B9 ((B11, #[.int .i64 y.kind, .int .i64 y.client, .int .i64 y.op, .bool y.put, .string y.key, .slice y.va y.vn y.vc, .int .i64 y.st, .int .i64 y.tx, .int .i64 y.ty]) :: [(B8, #[.int .i64 e.kind, .int .i64 e.client, .int .i64 e.op, .bool true, .string e.key, .slice e.va e.vn e.vc, .int .i64 e.st, .int .i64 e.tx, .int .i64 e.ty])]) (⟨e.client, e.op, true, e.key, p9, e.vn, c9, y.st, (i : Int), -1, true, y.tx, y.ty, e.val⟩ : Ca)) := R5.out.set (c' := (⟨e.client, e.op, true, e.key, p9, e.vn, c9, y.st, (i : Int), -1, true, y.tx, y.ty, e.val⟩ : Ca)) 5 (.int .i64 y.st) rfl ⟨rfl, rfl, rfl, rfl⟩
              obtain ⟨V6, hV⟩ : ∃ V, V5.setCell ⟨B9, 5, none⟩ (.int .i64 y.st) = V := ⟨_, rfl⟩
              rw [hV] at R6 ⊢
              clear hV R5 y6 g5 f5
              have y0 := cell_blk (R6.out.oth (B11, #[.int .i64 y.kind, .int .i64 y.client, .int .i64 y.op, .bool y.put, .string y.key, .slice y.va y.vn y.vc, .int .i64 y.st, .int .i64 y.tx, .int .i64 y.ty]) (by simp)) 0 (v := .int .i64 y.kind) rfl
              have y6 := cell_blk (R6.out.oth (B11, #[.int .i64 y.kind, .int .i64 y.client, .int .i64 y.op, .bool y.put, .string y.key, .slice y.va y.vn y.vc, .int .i64 y.st, .int .i64 y.tx, .int .i64 y.ty]) (by simp)) 6 (v := .int .i64 y.st) rfl
              have x3 := cell_blk (R6.out.oth (B8, #[.int .i64 e.kind, .int .i64 e.client, .int .i64 e.op, .bool true, .string e.key, .slice e.va e.vn e.vc, .int .i64 e.st, .int .i64 e.tx, .int .i64 e.ty]) (by simp)) 3 (v := .bool true) rfl
              by_cases k3 : y.kind = 3
              · have q3 : (y.kind == 3) = true := by simp [k3]
                have g5 := cell_blk R6.out.blk 5 (v := .int .i64 y.st) rfl
                have f5 := soft_blk R6.out.blk 5
                go_upto_region 20 with fail
                have R : Hid (RC wo (V6.setCell ⟨B9, 5, none⟩ (.int .i64 77)) B9 ((B11, #[.int .i64 y.kind, .int .i64 y.client, .int .i64 y.op, .bool y.put, .string y.key, .slice y.va y.vn y.vc, .int .i64 y.st, .int .i64 y.tx, .int .i64 y.ty]) :: [(B8, #[.int .i64 e.kind, .int .i64 e.client, .int .i64 e.op, .bool true, .string e.key, .slice e.va e.vn e.vc, .int .i64 e.st, .int .i64 e.tx, .int .i64 e.ty])]) (⟨e.client, e.op, true, e.key, p9, e.vn, c9, 77, (i : Int), -1, true, y.tx, y.ty, e.val⟩ : Ca)) := R6.out.set (c' := (⟨e.client, e.op, true, e.key, p9, e.vn, c9, 77, (i : Int), -1, true, y.tx, y.ty, e.val⟩ : Ca)) 5 (.int .i64 77) rfl ⟨rfl, rfl, rfl, rfl⟩
                obtain ⟨V, hV⟩ : ∃ V, V6.setCell ⟨B9, 5, none⟩ (.int .i64 77) = V := ⟨_, rfl⟩
                rw [hV] at R ⊢
                clear hV R6 y0 y6 x3 g5 f5
                have y0 := cell_blk (R.out.oth (B11, #[.int .i64 y.kind, .int .i64 y.client, .int .i64 y.op, .bool y.put, .string y.key, .slice y.va y.vn y.vc, .int .i64 y.st, .int .i64 y.tx, .int .i64 y.ty]) (by simp)) 0 (v := .int .i64 y.kind) rfl
                have q2 : (y.kind == 2) = false := by simp [k3]
                have K3 : Hid (y.kind = 3) := k3
                clear k3 q3
                have TLD : Hid (some (⟨e.client, e.op, true, e.key, p9, e.vn, c9, 77, (i : Int), (-1), true, y.tx, y.ty, e.val⟩ : Ca).cc = callP es (placesE es (keyE e))) := by
                  rw [CP.out]
                  unfold endC
                  rw [if_pos K3.out]
                  unfold beginC Ca.cc
                  rw [hpu]
                  exact (rfl : some _ = some _)
                have RK : Hid (KaR w2.heap.size V q k c L) := S.out.row.k0 R.out.kept
                have ROW : Hid (V.ownsRow w2.heap.size 5 1 (.slice p9 e.vn c9) e.vn (cellsOf e.val)) := owns_mono R.out.row S.out.kept.size
                have KN : Hid (Kept (fun _ => False) w2 V) := S.out.kept.trans R.out.kept (fun _ _ z => z)
                have L0 := cell_blk R.out.blk 0 (v := .int .i64 e.client) rfl
                have L1 := cell_blk R.out.blk 1 (v := .int .i64 e.op) rfl
                have L2 := cell_blk R.out.blk 2 (v := .bool true) rfl
                have L3 := cell_blk R.out.blk 3 (v := .string e.key) rfl
                have L4 := cell_blk R.out.blk 4 (v := .slice p9 e.vn c9) rfl
                have L5 := cell_blk R.out.blk 5 (v := .int .i64 77) rfl
                have L6 := cell_blk R.out.blk 6 (v := .int .i64 (i : Int)) rfl
                have L7 := cell_blk R.out.blk 7 (v := .int .i64 (-1)) rfl
                have L8 := cell_blk R.out.blk 8 (v := .bool true) rfl
                have L9 := cell_blk R.out.blk 9 (v := .int .i64 y.tx) rfl
                have L10 := cell_blk R.out.blk 10 (v := .int .i64 y.ty) rfl
                clear R
                go_wp2_with
                  (first
                    | (at_builtin; refine wpList_append_all _ rfl (.tmp 104) (.tmp 106) 25 58 25 _ 11 112 rfl Tryz.underlying25 Tryz.info58c rfl w2.heap.size (.slice q k c) k (kcs L) rfl ((RK.out.k0 ((Kept.refl (fun _ => False) V).alloc _)).row) _ 1 (kcs [(⟨e.client, e.op, true, e.key, p9, e.vn, c9, 77, (i : Int), (-1), true, y.tx, y.ty, e.val⟩ : Ca)]) rfl (src_ca (heap_alloc_new V _)) LN.out.1 LN.out.2 (Nat.le_trans KN.out.size ((Kept.refl (fun _ => False) V).alloc _).size) ?_; intro p7 c7 w7 ho hg hn7)
                    | fail)
                have NX : Hid (LS w2 w7 es (i + 1) p7 (k + 1) c7 (L ++ [(⟨e.client, e.op, true, e.key, p9, e.vn, c9, 77, (i : Int), (-1), true, y.tx, y.ty, e.val⟩ : Ca)])) := by
                  have KA : Kept (fun _ => False) V (V.alloc (.cells (⟨e.client, e.op, true, e.key, p9, e.vn, c9, 77, (i : Int), (-1), true, y.tx, y.ty, e.val⟩ : Ca).cs 58)) := (Kept.refl _ _).alloc _
                  have Q := (RK.out.k0 KA).more (x := (⟨e.client, e.op, true, e.key, p9, e.vn, c9, 77, (i : Int), (-1), true, y.tx, y.ty, e.val⟩ : Ca)) (W0 := w2) (KA.owns ROW.out (fun _ _ z => z)) ho.out hg.out (KN.out.trans KA (fun _ _ z => z)) (Nat.le_refl _)
                  refine ⟨Q.1, ?_, Q.2⟩
                  rw [callsTo_add HE.out, if_pos HK.out, List.map_append, S.out.told, ← TLD.out]
                  rfl
                clear ho hg hn7 S RK ROW KN TLD L0 L1 L2 L3 L4 L5 L6 L7 L8 L9 L10
                go_roundw
                case rel => exact ⟨p7, k + 1, c7, i + 1, _, rfl, by go_num, by omega, by omega, NX⟩
                case measure => simp [intOf] <;> omega
              · have q3 : (y.kind == 3) = false := by simp [k3]
                have K3 : Hid (¬ y.kind = 3) := k3
                have q2 : (y.kind == 2) = true := by
                  have z := (fault_all YF.out.1).1
                  have z1 := HY.out.2
                  have z2 : y.kind = 2 := by
                    rcases z with z | z | z
                    · exact absurd z z1
                    · exact z
                    · exact absurd z k3
                  simp [z2]
                clear k3
                by_cases s0 : y.st = 0
                · have q6 : (y.st == 0) = true := by simp [s0]
                  have ST : Hid (y.st = 0) := s0
                  clear s0
                  have g7 := cell_blk R6.out.blk 7 (v := .int .i64 (-1)) rfl
                  have f7 := soft_blk R6.out.blk 7
                  go_upto_region 25 with fail
                  have R7 : Hid (RC wo (V6.setCell ⟨B9, 7, none⟩ (.int .i64 (j : Int))) B9 ((B11, #[.int .i64 y.kind, .int .i64 y.client, .int .i64 y.op, .bool y.put, .string y.key, .slice y.va y.vn y.vc, .int .i64 y.st, .int .i64 y.tx, .int .i64 y.ty]) :: [(B8, #[.int .i64 e.kind, .int .i64 e.client, .int .i64 e.op, .bool true, .string e.key, .slice e.va e.vn e.vc, .int .i64 e.st, .int .i64 e.tx, .int .i64 e.ty])]) (⟨e.client, e.op, true, e.key, p9, e.vn, c9, y.st, (i : Int), (j : Int), true, y.tx, y.ty, e.val⟩ : Ca)) := R6.out.set (c' := (⟨e.client, e.op, true, e.key, p9, e.vn, c9, y.st, (i : Int), (j : Int), true, y.tx, y.ty, e.val⟩ : Ca)) 7 (.int .i64 (j : Int)) rfl ⟨rfl, rfl, rfl, rfl⟩
                  obtain ⟨V7, hV⟩ : ∃ V, V6.setCell ⟨B9, 7, none⟩ (.int .i64 (j : Int)) = V := ⟨_, rfl⟩
                  rw [hV] at R7 ⊢
                  clear hV R6 y0 y6 x3 g7 f7 q3 q2 q6
                  have g8 := cell_blk R7.out.blk 8 (v := .bool true) rfl
                  have f8 := soft_blk R7.out.blk 8
                  go_upto_region 26 with fail
                  have R : Hid (RC wo (V7.setCell ⟨B9, 8, none⟩ (.bool false)) B9 ((B11, #[.int .i64 y.kind, .int .i64 y.client, .int .i64 y.op, .bool y.put, .string y.key, .slice y.va y.vn y.vc, .int .i64 y.st, .int .i64 y.tx, .int .i64 y.ty]) :: [(B8, #[.int .i64 e.kind, .int .i64 e.client, .int .i64 e.op, .bool true, .string e.key, .slice e.va e.vn e.vc, .int .i64 e.st, .int .i64 e.tx, .int .i64 e.ty])]) (⟨e.client, e.op, true, e.key, p9, e.vn, c9, y.st, (i : Int), (j : Int), false, y.tx, y.ty, e.val⟩ : Ca)) := R7.out.set (c' := (⟨e.client, e.op, true, e.key, p9, e.vn, c9, y.st, (i : Int), (j : Int), false, y.tx, y.ty, e.val⟩ : Ca)) 8 (.bool false) rfl ⟨rfl, rfl, rfl, rfl⟩
                  obtain ⟨V, hV⟩ : ∃ V, V7.setCell ⟨B9, 8, none⟩ (.bool false) = V := ⟨_, rfl⟩
                  rw [hV] at R ⊢
                  clear hV R7 g8 f8
                  have TLD : Hid (some (⟨e.client, e.op, true, e.key, p9, e.vn, c9, y.st, (i : Int), (j : Int), false, y.tx, y.ty, e.val⟩ : Ca).cc = callP es (placesE es (keyE e))) := by
                    rw [CP.out]
                    unfold endC
                    rw [if_neg K3.out, if_neg (show ¬ (beginC e i).put = false from fun z => by rw [show (beginC e i).put = e.put from rfl, hpu] at z; cases z), if_pos ST.out]
                    unfold beginC Ca.cc
                    rw [hpu]
                    exact (rfl : some _ = some _)
                  have RK : Hid (KaR w2.heap.size V q k c L) := S.out.row.k0 R.out.kept
                  have ROW : Hid (V.ownsRow w2.heap.size 5 1 (.slice p9 e.vn c9) e.vn (cellsOf e.val)) := owns_mono R.out.row S.out.kept.size
                  have KN : Hid (Kept (fun _ => False) w2 V) := S.out.kept.trans R.out.kept (fun _ _ z => z)
                  have L0 := cell_blk R.out.blk 0 (v := .int .i64 e.client) rfl
                  have L1 := cell_blk R.out.blk 1 (v := .int .i64 e.op) rfl
                  have L2 := cell_blk R.out.blk 2 (v := .bool true) rfl
                  have L3 := cell_blk R.out.blk 3 (v := .string e.key) rfl
                  have L4 := cell_blk R.out.blk 4 (v := .slice p9 e.vn c9) rfl
                  have L5 := cell_blk R.out.blk 5 (v := .int .i64 y.st) rfl
                  have L6 := cell_blk R.out.blk 6 (v := .int .i64 (i : Int)) rfl
                  have L7 := cell_blk R.out.blk 7 (v := .int .i64 (j : Int)) rfl
                  have L8 := cell_blk R.out.blk 8 (v := .bool false) rfl
                  have L9 := cell_blk R.out.blk 9 (v := .int .i64 y.tx) rfl
                  have L10 := cell_blk R.out.blk 10 (v := .int .i64 y.ty) rfl
                  clear R
                  go_wp2_with
                    (first
                      | (at_builtin; refine wpList_append_all _ rfl (.tmp 104) (.tmp 106) 25 58 25 _ 11 112 rfl Tryz.underlying25 Tryz.info58c rfl w2.heap.size (.slice q k c) k (kcs L) rfl ((RK.out.k0 ((Kept.refl (fun _ => False) V).alloc _)).row) _ 1 (kcs [(⟨e.client, e.op, true, e.key, p9, e.vn, c9, y.st, (i : Int), (j : Int), false, y.tx, y.ty, e.val⟩ : Ca)]) rfl (src_ca (heap_alloc_new V _)) LN.out.1 LN.out.2 (Nat.le_trans KN.out.size ((Kept.refl (fun _ => False) V).alloc _).size) ?_; intro p7 c7 w7 ho hg hn7)
                      | fail)
                  have NX : Hid (LS w2 w7 es (i + 1) p7 (k + 1) c7 (L ++ [(⟨e.client, e.op, true, e.key, p9, e.vn, c9, y.st, (i : Int), (j : Int), false, y.tx, y.ty, e.val⟩ : Ca)])) := by
                    have KA : Kept (fun _ => False) V (V.alloc (.cells (⟨e.client, e.op, true, e.key, p9, e.vn, c9, y.st, (i : Int), (j : Int), false, y.tx, y.ty, e.val⟩ : Ca).cs 58)) := (Kept.refl _ _).alloc _
                    have Q := (RK.out.k0 KA).more (x := (⟨e.client, e.op, true, e.key, p9, e.vn, c9, y.st, (i : Int), (j : Int), false, y.tx, y.ty, e.val⟩ : Ca)) (W0 := w2) (KA.owns ROW.out (fun _ _ z => z)) ho.out hg.out (KN.out.trans KA (fun _ _ z => z)) (Nat.le_refl _)
                    refine ⟨Q.1, ?_, Q.2⟩
                    rw [callsTo_add HE.out, if_pos HK.out, List.map_append, S.out.told, ← TLD.out]
                    rfl
                  clear ho hg hn7 S RK ROW KN TLD L0 L1 L2 L3 L4 L5 L6 L7 L8 L9 L10
                  go_roundw
                  case rel => exact ⟨p7, k + 1, c7, i + 1, _, rfl, by go_num, by omega, by omega, NX⟩
                  case measure => simp [intOf] <;> omega
                · have q6 : (y.st == 0) = false := by simp [s0]
                  have ST : Hid (¬ y.st = 0) := s0
                  clear s0
                  go_upto_region 26 with fail
                  obtain ⟨V, hV⟩ : ∃ V, V6 = V := ⟨_, rfl⟩
                  rw [hV] at R6 ⊢
                  have R : Hid (RC wo V B9 ((B11, #[.int .i64 y.kind, .int .i64 y.client, .int .i64 y.op, .bool y.put, .string y.key, .slice y.va y.vn y.vc, .int .i64 y.st, .int .i64 y.tx, .int .i64 y.ty]) :: [(B8, #[.int .i64 e.kind, .int .i64 e.client, .int .i64 e.op, .bool true, .string e.key, .slice e.va e.vn e.vc, .int .i64 e.st, .int .i64 e.tx, .int .i64 e.ty])]) (⟨e.client, e.op, true, e.key, p9, e.vn, c9, y.st, (i : Int), -1, true, y.tx, y.ty, e.val⟩ : Ca)) := R6
                  clear y0 y6 x3 R6 hV
                  have TLD : Hid (some (⟨e.client, e.op, true, e.key, p9, e.vn, c9, y.st, (i : Int), (-1), true, y.tx, y.ty, e.val⟩ : Ca).cc = callP es (placesE es (keyE e))) := by
                    rw [CP.out]
                    unfold endC
                    rw [if_neg K3.out, if_neg (show ¬ (beginC e i).put = false from fun z => by rw [show (beginC e i).put = e.put from rfl, hpu] at z; cases z), if_neg ST.out]
                    unfold beginC Ca.cc
                    rw [hpu]
                    exact (rfl : some _ = some _)
                  have RK : Hid (KaR w2.heap.size V q k c L) := S.out.row.k0 R.out.kept
                  have ROW : Hid (V.ownsRow w2.heap.size 5 1 (.slice p9 e.vn c9) e.vn (cellsOf e.val)) := owns_mono R.out.row S.out.kept.size
                  have KN : Hid (Kept (fun _ => False) w2 V) := S.out.kept.trans R.out.kept (fun _ _ z => z)
                  have L0 := cell_blk R.out.blk 0 (v := .int .i64 e.client) rfl
                  have L1 := cell_blk R.out.blk 1 (v := .int .i64 e.op) rfl
                  have L2 := cell_blk R.out.blk 2 (v := .bool true) rfl
                  have L3 := cell_blk R.out.blk 3 (v := .string e.key) rfl
                  have L4 := cell_blk R.out.blk 4 (v := .slice p9 e.vn c9) rfl
                  have L5 := cell_blk R.out.blk 5 (v := .int .i64 y.st) rfl
                  have L6 := cell_blk R.out.blk 6 (v := .int .i64 (i : Int)) rfl
                  have L7 := cell_blk R.out.blk 7 (v := .int .i64 (-1)) rfl
                  have L8 := cell_blk R.out.blk 8 (v := .bool true) rfl
                  have L9 := cell_blk R.out.blk 9 (v := .int .i64 y.tx) rfl
                  have L10 := cell_blk R.out.blk 10 (v := .int .i64 y.ty) rfl
                  clear R
                  go_wp2_with
                    (first
                      | (at_builtin; refine wpList_append_all _ rfl (.tmp 104) (.tmp 106) 25 58 25 _ 11 112 rfl Tryz.underlying25 Tryz.info58c rfl w2.heap.size (.slice q k c) k (kcs L) rfl ((RK.out.k0 ((Kept.refl (fun _ => False) V).alloc _)).row) _ 1 (kcs [(⟨e.client, e.op, true, e.key, p9, e.vn, c9, y.st, (i : Int), (-1), true, y.tx, y.ty, e.val⟩ : Ca)]) rfl (src_ca (heap_alloc_new V _)) LN.out.1 LN.out.2 (Nat.le_trans KN.out.size ((Kept.refl (fun _ => False) V).alloc _).size) ?_; intro p7 c7 w7 ho hg hn7)
                      | fail)
                  have NX : Hid (LS w2 w7 es (i + 1) p7 (k + 1) c7 (L ++ [(⟨e.client, e.op, true, e.key, p9, e.vn, c9, y.st, (i : Int), (-1), true, y.tx, y.ty, e.val⟩ : Ca)])) := by
                    have KA : Kept (fun _ => False) V (V.alloc (.cells (⟨e.client, e.op, true, e.key, p9, e.vn, c9, y.st, (i : Int), (-1), true, y.tx, y.ty, e.val⟩ : Ca).cs 58)) := (Kept.refl _ _).alloc _
                    have Q := (RK.out.k0 KA).more (x := (⟨e.client, e.op, true, e.key, p9, e.vn, c9, y.st, (i : Int), (-1), true, y.tx, y.ty, e.val⟩ : Ca)) (W0 := w2) (KA.owns ROW.out (fun _ _ z => z)) ho.out hg.out (KN.out.trans KA (fun _ _ z => z)) (Nat.le_refl _)
                    refine ⟨Q.1, ?_, Q.2⟩
                    rw [callsTo_add HE.out, if_pos HK.out, List.map_append, S.out.told, ← TLD.out]
                    rfl
                  clear ho hg hn7 S RK ROW KN TLD L0 L1 L2 L3 L4 L5 L6 L7 L8 L9 L10
                  go_roundw
                  case rel => exact ⟨p7, k + 1, c7, i + 1, _, rfl, by go_num, by omega, by omega, NX⟩
                  case measure => simp [intOf] <;> omega
          | false =>
            have R : Hid (RC wo V B9 [(B8, #[.int .i64 e.kind, .int .i64 e.client, .int .i64 e.op, .bool false, .string e.key, .slice e.va e.vn e.vc, .int .i64 e.st, .int .i64 e.tx, .int .i64 e.ty])] (⟨e.client, e.op, false, e.key, none, 0, 0, 0, (i : Int), -1, false, 0, 0, []⟩ : Ca)) := R0
            have VN : Hid (e.val = []) := by
              have q := val_none EF.out.1 HK.out hpu
              have l := ((H.out.1).rd e (List.mem_of_getElem? HE.out)).length
              rw [q] at l
              exact List.eq_nil_of_length_eq_zero l
            clear R0
            have x3 := cell_blk (R.out.oth (B8, #[.int .i64 e.kind, .int .i64 e.client, .int .i64 e.op, .bool false, .string e.key, .slice e.va e.vn e.vc, .int .i64 e.st, .int .i64 e.tx, .int .i64 e.ty]) (by simp)) 3 (v := .bool false) rfl
            go_upto_region 13 with fail
            clear x3
            have CE : Hid (Calls Tryz.prog 46 #[.slice (some ⟨b8, off8, none⟩) n c0, .int .i64 (i : Int)] V (RetE fun r w' => EndQ es e.client i r ∧ Kept (fun _ => False) V w')) := hEnd (H.out.1.k0 (KO.out.trans R.out.kept (fun _ _ z => z))) HE.out
            go_wp2_with fail
            refine CE.out.mono ?_
            rintro o V3 ⟨r, rfl, hr, K3⟩
            have R3 : Hid (RC wo V3 B9 [(B8, #[.int .i64 e.kind, .int .i64 e.client, .int .i64 e.op, .bool false, .string e.key, .slice e.va e.vn e.vc, .int .i64 e.st, .int .i64 e.tx, .int .i64 e.ty])] (⟨e.client, e.op, false, e.key, none, 0, 0, 0, (i : Int), -1, false, 0, 0, []⟩ : Ca)) := R.out.k0 K3
            clear CE K3 R
            rcases call_end OK.out HE.out HK.out hr with ⟨er, cp⟩ | ⟨j, y, er, hy, hij, cp⟩
            · subst er
              have CP : Hid (callP es (placesE es (keyE e)) = some (beginC e i)) := cp
              clear cp hr
              obtain ⟨V, hV⟩ : ∃ V, V = V3 := ⟨_, rfl⟩
              rw [← hV] at R3 ⊢
              clear hV
              have R : Hid (RC wo V B9 [(B8, #[.int .i64 e.kind, .int .i64 e.client, .int .i64 e.op, .bool false, .string e.key, .slice e.va e.vn e.vc, .int .i64 e.st, .int .i64 e.tx, .int .i64 e.ty])] (⟨e.client, e.op, false, e.key, none, 0, 0, 0, (i : Int), -1, false, 0, 0, []⟩ : Ca)) := R3
              clear R3
              have TLD : Hid (some (⟨e.client, e.op, false, e.key, none, 0, 0, 0, (i : Int), (-1), false, 0, 0, []⟩ : Ca).cc = callP es (placesE es (keyE e))) := by
                rw [CP.out]
                unfold beginC Ca.cc
                rw [hpu, VN.out]
                exact (rfl : some _ = some _)
              have RK : Hid (KaR w2.heap.size V q k c L) := S.out.row.k0 R.out.kept
              have ROW : Hid (V.ownsRow w2.heap.size 5 1 (.slice none 0 0) 0 (cellsOf [])) := owns_mono R.out.row S.out.kept.size
              have KN : Hid (Kept (fun _ => False) w2 V) := S.out.kept.trans R.out.kept (fun _ _ z => z)
              have L0 := cell_blk R.out.blk 0 (v := .int .i64 e.client) rfl
              have L1 := cell_blk R.out.blk 1 (v := .int .i64 e.op) rfl
              have L2 := cell_blk R.out.blk 2 (v := .bool false) rfl
              have L3 := cell_blk R.out.blk 3 (v := .string e.key) rfl
              have L4 := cell_blk R.out.blk 4 (v := .slice none 0 0) rfl
              have L5 := cell_blk R.out.blk 5 (v := .int .i64 0) rfl
              have L6 := cell_blk R.out.blk 6 (v := .int .i64 (i : Int)) rfl
              have L7 := cell_blk R.out.blk 7 (v := .int .i64 (-1)) rfl
              have L8 := cell_blk R.out.blk 8 (v := .bool false) rfl
              have L9 := cell_blk R.out.blk 9 (v := .int .i64 0) rfl
              have L10 := cell_blk R.out.blk 10 (v := .int .i64 0) rfl
              clear R
              go_wp2_with
                (first
                  | (at_builtin; refine wpList_append_all _ rfl (.tmp 104) (.tmp 106) 25 58 25 _ 11 112 rfl Tryz.underlying25 Tryz.info58c rfl w2.heap.size (.slice q k c) k (kcs L) rfl ((RK.out.k0 ((Kept.refl (fun _ => False) V).alloc _)).row) _ 1 (kcs [(⟨e.client, e.op, false, e.key, none, 0, 0, 0, (i : Int), (-1), false, 0, 0, []⟩ : Ca)]) rfl (src_ca (heap_alloc_new V _)) LN.out.1 LN.out.2 (Nat.le_trans KN.out.size ((Kept.refl (fun _ => False) V).alloc _).size) ?_; intro p7 c7 w7 ho hg hn7)
                  | fail)
              have NX : Hid (LS w2 w7 es (i + 1) p7 (k + 1) c7 (L ++ [(⟨e.client, e.op, false, e.key, none, 0, 0, 0, (i : Int), (-1), false, 0, 0, []⟩ : Ca)])) := by
                have KA : Kept (fun _ => False) V (V.alloc (.cells (⟨e.client, e.op, false, e.key, none, 0, 0, 0, (i : Int), (-1), false, 0, 0, []⟩ : Ca).cs 58)) := (Kept.refl _ _).alloc _
                have Q := (RK.out.k0 KA).more (x := (⟨e.client, e.op, false, e.key, none, 0, 0, 0, (i : Int), (-1), false, 0, 0, []⟩ : Ca)) (W0 := w2) (KA.owns ROW.out (fun _ _ z => z)) ho.out hg.out (KN.out.trans KA (fun _ _ z => z)) (Nat.le_refl _)
                refine ⟨Q.1, ?_, Q.2⟩
                rw [callsTo_add HE.out, if_pos HK.out, List.map_append, S.out.told, ← TLD.out]
                rfl
              clear ho hg hn7 S RK ROW KN TLD L0 L1 L2 L3 L4 L5 L6 L7 L8 L9 L10
              go_roundw
              case rel => exact ⟨p7, k + 1, c7, i + 1, _, rfl, by go_num, by omega, by omega, NX⟩
              case measure => simp [intOf] <;> omega
            · subst er
              have HY : Hid (es[j]? = some y ∧ ¬ y.kind = 1) := by
                refine ⟨hy, ?_⟩
                rcases hr with ⟨z, _⟩ | ⟨j2, y2, z, h2, h3, h4, h5⟩
                · omega
                · obtain rfl : j = j2 := by omega
                  obtain rfl : y = y2 := Option.some.inj (hy.symm.trans h3)
                  exact end_k OK.out HE.out HK.out hy hij h4 h5
              have YF : Hid (faultE y = 0 ∧ y.vn + 1 ≤ 140737488355328) := ⟨chk_fault es noM 0 OK.out y (List.mem_of_getElem? hy), H.out.2.2 y (List.mem_of_getElem? hy)⟩
              have CP : Hid (callP es (placesE es (keyE e)) = some (endC (beginC e i) y j)) := cp
              have hjn : j < n := by rw [← H.out.1.len]; exact (List.getElem?_eq_some_iff.1 hy).1
              have j0 : (0 : Int) ≤ (j : Int) := by omega
              have j1 : (j : Int) < (n : Int) := by omega
              clear hr cp
              obtain ⟨b8', off8', y', eb, hy', d0, d1, d2, d3, d4, d5, d6, d7, d8, rdy⟩ := (H.out.1.k0 (KO.out.trans R3.out.kept (fun _ _ z => z))).at hjn
              obtain rfl : y = y' := Option.some.inj (hy.symm.trans hy')
              injection eb with eb
              injection eb with z1 z2 _
              subst z1
              subst z2
              clear hy' hy rdy
              go_upto_region 16 with fail
              have R4 : Hid (RC wo (V3.alloc (.cells #[.int .i64 y.kind, .int .i64 y.client, .int .i64 y.op, .bool y.put, .string y.key, .slice y.va y.vn y.vc, .int .i64 y.st, .int .i64 y.tx, .int .i64 y.ty] 39)) B9 ((V3.heap.size, #[.int .i64 y.kind, .int .i64 y.client, .int .i64 y.op, .bool y.put, .string y.key, .slice y.va y.vn y.vc, .int .i64 y.st, .int .i64 y.tx, .int .i64 y.ty]) :: [(B8, #[.int .i64 e.kind, .int .i64 e.client, .int .i64 e.op, .bool false, .string e.key, .slice e.va e.vn e.vc, .int .i64 e.st, .int .i64 e.tx, .int .i64 e.ty])]) (⟨e.client, e.op, false, e.key, none, 0, 0, 0, (i : Int), -1, false, 0, 0, []⟩ : Ca)) := R3.out.more _
              obtain ⟨B11, hB⟩ : ∃ B, V3.heap.size = B := ⟨_, rfl⟩
              obtain ⟨V4, hV⟩ : ∃ V, V3.alloc (.cells #[.int .i64 y.kind, .int .i64 y.client, .int .i64 y.op, .bool y.put, .string y.key, .slice y.va y.vn y.vc, .int .i64 y.st, .int .i64 y.tx, .int .i64 y.ty] 39) = V := ⟨_, rfl⟩
              rw [hV, hB] at R4 ⊢
              clear hV hB R3 d0 d1 d2 d3 d4 d5 d6 d7 d8
              have y7 := cell_blk (R4.out.oth (B11, #[.int .i64 y.kind, .int .i64 y.client, .int .i64 y.op, .bool y.put, .string y.key, .slice y.va y.vn y.vc, .int .i64 y.st, .int .i64 y.tx, .int .i64 y.ty]) (by simp)) 7 (v := .int .i64 y.tx) rfl
              have y8 := cell_blk (R4.out.oth (B11, #[.int .i64 y.kind, .int .i64 y.client, .int .i64 y.op, .bool y.put, .string y.key, .slice y.va y.vn y.vc, .int .i64 y.st, .int .i64 y.tx, .int .i64 y.ty]) (by simp)) 8 (v := .int .i64 y.ty) rfl
              have g9 := cell_blk R4.out.blk 9 (v := .int .i64 0) rfl
              have g10 := cell_blk R4.out.blk 10 (v := .int .i64 0) rfl
              have f9 := soft_blk R4.out.blk 9
              have f10 := soft_blk R4.out.blk 10
              go_upto_region 17 with fail
              have R5 : Hid (RC wo ((V4.setCell ⟨B9, 9, none⟩ (.int .i64 y.tx)).setCell ⟨B9, 10, none⟩ (.int .i64 y.ty)) B9 ((B11, #[.int .i64 y.kind, .int .i64 y.client, .int .i64 y.op, .bool y.put, .string y.key, .slice y.va y.vn y.vc, .int .i64 y.st, .int .i64 y.tx, .int .i64 y.ty]) :: [(B8, #[.int .i64 e.kind, .int .i64 e.client, .int .i64 e.op, .bool false, .string e.key, .slice e.va e.vn e.vc, .int .i64 e.st, .int .i64 e.tx, .int .i64 e.ty])]) (⟨e.client, e.op, false, e.key, none, 0, 0, 0, (i : Int), -1, false, y.tx, y.ty, []⟩ : Ca)) := (R4.out.set (c' := (⟨e.client, e.op, false, e.key, none, 0, 0, 0, (i : Int), -1, false, y.tx, 0, []⟩ : Ca)) 9 (.int .i64 y.tx) rfl ⟨rfl, rfl, rfl, rfl⟩).set (c' := (⟨e.client, e.op, false, e.key, none, 0, 0, 0, (i : Int), -1, false, y.tx, y.ty, []⟩ : Ca)) 10 (.int .i64 y.ty) rfl ⟨rfl, rfl, rfl, rfl⟩
              obtain ⟨V5, hV⟩ : ∃ V, (V4.setCell ⟨B9, 9, none⟩ (.int .i64 y.tx)).setCell ⟨B9, 10, none⟩ (.int .i64 y.ty) = V := ⟨_, rfl⟩
              rw [hV] at R5 ⊢
              clear hV R4 y7 y8 g9 g10 f9 f10
              have y6 := cell_blk (R5.out.oth (B11, #[.int .i64 y.kind, .int .i64 y.client, .int .i64 y.op, .bool y.put, .string y.key, .slice y.va y.vn y.vc, .int .i64 y.st, .int .i64 y.tx, .int .i64 y.ty]) (by simp)) 6 (v := .int .i64 y.st) rfl
              have g5 := cell_blk R5.out.blk 5 (v := .int .i64 0) rfl
              have f5 := soft_blk R5.out.blk 5
              go_upto_region 18 with fail
              have R6 : Hid (RC wo (V5.setCell ⟨B9, 5, none⟩ (.int .i64 y.st)) B9 ((B11, #[.int .i64 y.kind, .int .i64 y.client, .int .i64 y.op, .bool y.put, .string y.key, .slice y.va y.vn y.vc, .int .i64 y.st, .int .i64 y.tx, .int .i64 y.ty]) :: [(B8, #[.int .i64 e.kind, .int .i64 e.client, .int .i64 e.op, .bool false, .string e.key, .slice e.va e.vn e.vc, .int .i64 e.st, .int .i64 e.tx, .int .i64 e.ty])]) (⟨e.client, e.op, false, e.key, none, 0, 0, y.st, (i : Int), -1, false, y.tx, y.ty, []⟩ : Ca)) := R5.out.set (c' := (⟨e.client, e.op, false, e.key, none, 0, 0, y.st, (i : Int), -1, false, y.tx, y.ty, []⟩ : Ca)) 5 (.int .i64 y.st) rfl ⟨rfl, rfl, rfl, rfl⟩
              obtain ⟨V6, hV⟩ : ∃ V, V5.setCell ⟨B9, 5, none⟩ (.int .i64 y.st) = V := ⟨_, rfl⟩
              rw [hV] at R6 ⊢
              clear hV R5 y6 g5 f5
              have y0 := cell_blk (R6.out.oth (B11, #[.int .i64 y.kind, .int .i64 y.client, .int .i64 y.op, .bool y.put, .string y.key, .slice y.va y.vn y.vc, .int .i64 y.st, .int .i64 y.tx, .int .i64 y.ty]) (by simp)) 0 (v := .int .i64 y.kind) rfl
              have y6 := cell_blk (R6.out.oth (B11, #[.int .i64 y.kind, .int .i64 y.client, .int .i64 y.op, .bool y.put, .string y.key, .slice y.va y.vn y.vc, .int .i64 y.st, .int .i64 y.tx, .int .i64 y.ty]) (by simp)) 6 (v := .int .i64 y.st) rfl
              have x3 := cell_blk (R6.out.oth (B8, #[.int .i64 e.kind, .int .i64 e.client, .int .i64 e.op, .bool false, .string e.key, .slice e.va e.vn e.vc, .int .i64 e.st, .int .i64 e.tx, .int .i64 e.ty]) (by simp)) 3 (v := .bool false) rfl
              by_cases k3 : y.kind = 3
              · have q3 : (y.kind == 3) = true := by simp [k3]
                have g5 := cell_blk R6.out.blk 5 (v := .int .i64 y.st) rfl
                have f5 := soft_blk R6.out.blk 5
                go_upto_region 20 with fail
                have R : Hid (RC wo (V6.setCell ⟨B9, 5, none⟩ (.int .i64 77)) B9 ((B11, #[.int .i64 y.kind, .int .i64 y.client, .int .i64 y.op, .bool y.put, .string y.key, .slice y.va y.vn y.vc, .int .i64 y.st, .int .i64 y.tx, .int .i64 y.ty]) :: [(B8, #[.int .i64 e.kind, .int .i64 e.client, .int .i64 e.op, .bool false, .string e.key, .slice e.va e.vn e.vc, .int .i64 e.st, .int .i64 e.tx, .int .i64 e.ty])]) (⟨e.client, e.op, false, e.key, none, 0, 0, 77, (i : Int), -1, false, y.tx, y.ty, []⟩ : Ca)) := R6.out.set (c' := (⟨e.client, e.op, false, e.key, none, 0, 0, 77, (i : Int), -1, false, y.tx, y.ty, []⟩ : Ca)) 5 (.int .i64 77) rfl ⟨rfl, rfl, rfl, rfl⟩
                obtain ⟨V, hV⟩ : ∃ V, V6.setCell ⟨B9, 5, none⟩ (.int .i64 77) = V := ⟨_, rfl⟩
                rw [hV] at R ⊢
                clear hV R6 y0 y6 x3 g5 f5
                have y0 := cell_blk (R.out.oth (B11, #[.int .i64 y.kind, .int .i64 y.client, .int .i64 y.op, .bool y.put, .string y.key, .slice y.va y.vn y.vc, .int .i64 y.st, .int .i64 y.tx, .int .i64 y.ty]) (by simp)) 0 (v := .int .i64 y.kind) rfl
                have q2 : (y.kind == 2) = false := by simp [k3]
                have K3 : Hid (y.kind = 3) := k3
                clear k3 q3
                have TLD : Hid (some (⟨e.client, e.op, false, e.key, none, 0, 0, 77, (i : Int), (-1), false, y.tx, y.ty, []⟩ : Ca).cc = callP es (placesE es (keyE e))) := by
                  rw [CP.out]
                  unfold endC
                  rw [if_pos K3.out]
                  unfold beginC Ca.cc
                  rw [hpu, VN.out]
                  exact (rfl : some _ = some _)
                have RK : Hid (KaR w2.heap.size V q k c L) := S.out.row.k0 R.out.kept
                have ROW : Hid (V.ownsRow w2.heap.size 5 1 (.slice none 0 0) 0 (cellsOf [])) := owns_mono R.out.row S.out.kept.size
                have KN : Hid (Kept (fun _ => False) w2 V) := S.out.kept.trans R.out.kept (fun _ _ z => z)
                have L0 := cell_blk R.out.blk 0 (v := .int .i64 e.client) rfl
                have L1 := cell_blk R.out.blk 1 (v := .int .i64 e.op) rfl
                have L2 := cell_blk R.out.blk 2 (v := .bool false) rfl
                have L3 := cell_blk R.out.blk 3 (v := .string e.key) rfl
                have L4 := cell_blk R.out.blk 4 (v := .slice none 0 0) rfl
                have L5 := cell_blk R.out.blk 5 (v := .int .i64 77) rfl
                have L6 := cell_blk R.out.blk 6 (v := .int .i64 (i : Int)) rfl
                have L7 := cell_blk R.out.blk 7 (v := .int .i64 (-1)) rfl
                have L8 := cell_blk R.out.blk 8 (v := .bool false) rfl
                have L9 := cell_blk R.out.blk 9 (v := .int .i64 y.tx) rfl
                have L10 := cell_blk R.out.blk 10 (v := .int .i64 y.ty) rfl
                clear R
                go_wp2_with
                  (first
                    | (at_builtin; refine wpList_append_all _ rfl (.tmp 104) (.tmp 106) 25 58 25 _ 11 112 rfl Tryz.underlying25 Tryz.info58c rfl w2.heap.size (.slice q k c) k (kcs L) rfl ((RK.out.k0 ((Kept.refl (fun _ => False) V).alloc _)).row) _ 1 (kcs [(⟨e.client, e.op, false, e.key, none, 0, 0, 77, (i : Int), (-1), false, y.tx, y.ty, []⟩ : Ca)]) rfl (src_ca (heap_alloc_new V _)) LN.out.1 LN.out.2 (Nat.le_trans KN.out.size ((Kept.refl (fun _ => False) V).alloc _).size) ?_; intro p7 c7 w7 ho hg hn7)
                    | fail)
                have NX : Hid (LS w2 w7 es (i + 1) p7 (k + 1) c7 (L ++ [(⟨e.client, e.op, false, e.key, none, 0, 0, 77, (i : Int), (-1), false, y.tx, y.ty, []⟩ : Ca)])) := by
                  have KA : Kept (fun _ => False) V (V.alloc (.cells (⟨e.client, e.op, false, e.key, none, 0, 0, 77, (i : Int), (-1), false, y.tx, y.ty, []⟩ : Ca).cs 58)) := (Kept.refl _ _).alloc _
                  have Q := (RK.out.k0 KA).more (x := (⟨e.client, e.op, false, e.key, none, 0, 0, 77, (i : Int), (-1), false, y.tx, y.ty, []⟩ : Ca)) (W0 := w2) (KA.owns ROW.out (fun _ _ z => z)) ho.out hg.out (KN.out.trans KA (fun _ _ z => z)) (Nat.le_refl _)
                  refine ⟨Q.1, ?_, Q.2⟩
                  rw [callsTo_add HE.out, if_pos HK.out, List.map_append, S.out.told, ← TLD.out]
                  rfl
                clear ho hg hn7 S RK ROW KN TLD L0 L1 L2 L3 L4 L5 L6 L7 L8 L9 L10
                go_roundw
                case rel => exact ⟨p7, k + 1, c7, i + 1, _, rfl, by go_num, by omega, by omega, NX⟩
                case measure => simp [intOf] <;> omega
              · have q3 : (y.kind == 3) = false := by simp [k3]
                have K3 : Hid (¬ y.kind = 3) := k3
                have q2 : (y.kind == 2) = true := by
                  have z := (fault_all YF.out.1).1
                  have z1 := HY.out.2
                  have z2 : y.kind = 2 := by
                    rcases z with z | z | z
                    · exact absurd z z1
                    · exact z
                    · exact absurd z k3
                  simp [z2]
                clear k3
                have g7 := cell_blk R6.out.blk 7 (v := .int .i64 (-1)) rfl
                have f7 := soft_blk R6.out.blk 7
                go_upto_region 22 with fail
                have R7 : Hid (RC wo (V6.setCell ⟨B9, 7, none⟩ (.int .i64 (j : Int))) B9 ((B11, #[.int .i64 y.kind, .int .i64 y.client, .int .i64 y.op, .bool y.put, .string y.key, .slice y.va y.vn y.vc, .int .i64 y.st, .int .i64 y.tx, .int .i64 y.ty]) :: [(B8, #[.int .i64 e.kind, .int .i64 e.client, .int .i64 e.op, .bool false, .string e.key, .slice e.va e.vn e.vc, .int .i64 e.st, .int .i64 e.tx, .int .i64 e.ty])]) (⟨e.client, e.op, false, e.key, none, 0, 0, y.st, (i : Int), (j : Int), false, y.tx, y.ty, []⟩ : Ca)) := R6.out.set (c' := (⟨e.client, e.op, false, e.key, none, 0, 0, y.st, (i : Int), (j : Int), false, y.tx, y.ty, []⟩ : Ca)) 7 (.int .i64 (j : Int)) rfl ⟨rfl, rfl, rfl, rfl⟩
                obtain ⟨V7, hV⟩ : ∃ V, V6.setCell ⟨B9, 7, none⟩ (.int .i64 (j : Int)) = V := ⟨_, rfl⟩
                rw [hV] at R7 ⊢
                clear hV R6 y0 y6 x3 g7 f7
                obtain ⟨B8x, off8x, y', eb, hy', d0, d1, d2, d3, d4, d5, d6, d7, d8, rdy⟩ := (H.out.1.k0 (KO.out.trans R7.out.kept (fun _ _ z => z))).at hjn
                obtain rfl : y = y' := Option.some.inj (HY.out.1.symm.trans hy')
                have AK : Hid (Kept (fun _ => False) V7 (V7.alloc (.cells #[] 5))) := (Kept.refl _ _).alloc _
                have RW : Hid ((V7.alloc (.cells #[] 5)).ownsRow V7.heap.size 5 1 (.slice (some ⟨V7.heap.size, 0, none⟩) 0 0) 0 (cellsOf []) ∧ Reads (V7.alloc (.cells #[] 5)) y.va y.vn y.vc y.val) := ⟨⟨rfl, .inr ⟨V7.heap.size, 0, #[], rfl, Nat.le_refl _, alloc_new _ _, Nat.le_refl _, by unfold maxLen; omega, rfl, rfl⟩⟩, Reads.kept AK.out rdy (fun _ _ z => z)⟩
                have x5 := cell_blk (AK.out.get (R7.out.oth (B11, #[.int .i64 y.kind, .int .i64 y.client, .int .i64 y.op, .bool y.put, .string y.key, .slice y.va y.vn y.vc, .int .i64 y.st, .int .i64 y.tx, .int .i64 y.ty]) (by simp)) (fun z => z)) 5 (v := .slice y.va y.vn y.vc) rfl
                have LW : Hid (V7.heap.size ≤ (V7.alloc (.cells #[] 5)).heap.size) := AK.out.size
                have vz := YF.out.2
                clear d0 d1 d2 d3 d4 d5 d6 d7 d8 rdy hy' eb
                go_upto_region 23 with
                  (first
                    | (at_builtin; refine wpList_append_bytes _ rfl (.tmp 84) (.tmp 86) rfl V7.heap.size (.slice (some ⟨V7.heap.size, 0, none⟩) 0 0) 0 [] rfl RW.out.1 _ y.vn y.val rfl RW.out.2.src (by omega) LW.out ?_; intro p9 c9 w9 ho hg hn9; have O9 : Hid (RC wo w9 B9 ((B11, #[.int .i64 y.kind, .int .i64 y.client, .int .i64 y.op, .bool y.put, .string y.key, .slice y.va y.vn y.vc, .int .i64 y.st, .int .i64 y.tx, .int .i64 y.ty]) :: [(B8, #[.int .i64 e.kind, .int .i64 e.client, .int .i64 e.op, .bool false, .string e.key, .slice e.va e.vn e.vc, .int .i64 e.st, .int .i64 e.tx, .int .i64 e.ty])]) (⟨e.client, e.op, false, e.key, none, 0, 0, y.st, (i : Int), (j : Int), false, y.tx, y.ty, []⟩ : Ca) ∧ w9.ownsRow wo.heap.size 5 1 (.slice p9 y.vn c9) y.vn (cellsOf y.val)) := R7.out.mid ho.out hg.out; have y4 := cell_blk O9.out.1.blk 4 (v := .slice none 0 0) rfl; have ys := soft_blk O9.out.1.blk 4; clear ho hg hn9; rw [Nat.zero_add])
                    | fail)
                have R : Hid (RC wo (w9.setCell ⟨B9, 4, none⟩ (.slice p9 y.vn c9)) B9 ((B11, #[.int .i64 y.kind, .int .i64 y.client, .int .i64 y.op, .bool y.put, .string y.key, .slice y.va y.vn y.vc, .int .i64 y.st, .int .i64 y.tx, .int .i64 y.ty]) :: [(B8, #[.int .i64 e.kind, .int .i64 e.client, .int .i64 e.op, .bool false, .string e.key, .slice e.va e.vn e.vc, .int .i64 e.st, .int .i64 e.tx, .int .i64 e.ty])]) (⟨e.client, e.op, false, e.key, p9, y.vn, c9, y.st, (i : Int), (j : Int), false, y.tx, y.ty, y.val⟩ : Ca)) := O9.out.1.val O9.out.2
                obtain ⟨V, hV⟩ : ∃ V2, w9.setCell ⟨B9, 4, none⟩ (.slice p9 y.vn c9) = V2 := ⟨_, rfl⟩
                rw [hV] at R ⊢
                clear hV R7 AK RW x5 LW O9 y4 ys
                have y0 := cell_blk (R.out.oth (B11, #[.int .i64 y.kind, .int .i64 y.client, .int .i64 y.op, .bool y.put, .string y.key, .slice y.va y.vn y.vc, .int .i64 y.st, .int .i64 y.tx, .int .i64 y.ty]) (by simp)) 0 (v := .int .i64 y.kind) rfl
                have x3 := cell_blk (R.out.oth (B8, #[.int .i64 e.kind, .int .i64 e.client, .int .i64 e.op, .bool false, .string e.key, .slice e.va e.vn e.vc, .int .i64 e.st, .int .i64 e.tx, .int .i64 e.ty]) (by simp)) 3 (v := .bool false) rfl
                have TLD : Hid (some (⟨e.client, e.op, false, e.key, p9, y.vn, c9, y.st, (i : Int), (j : Int), false, y.tx, y.ty, y.val⟩ : Ca).cc = callP es (placesE es (keyE e))) := by
                  rw [CP.out]
                  unfold endC
                  rw [if_neg K3.out, if_pos (show (beginC e i).put = false from hpu)]
                  unfold beginC Ca.cc
                  rw [hpu]
                  exact (rfl : some _ = some _)
                have RK : Hid (KaR w2.heap.size V q k c L) := S.out.row.k0 R.out.kept
                have ROW : Hid (V.ownsRow w2.heap.size 5 1 (.slice p9 y.vn c9) y.vn (cellsOf y.val)) := owns_mono R.out.row S.out.kept.size
                have KN : Hid (Kept (fun _ => False) w2 V) := S.out.kept.trans R.out.kept (fun _ _ z => z)
                have L0 := cell_blk R.out.blk 0 (v := .int .i64 e.client) rfl
                have L1 := cell_blk R.out.blk 1 (v := .int .i64 e.op) rfl
                have L2 := cell_blk R.out.blk 2 (v := .bool false) rfl
                have L3 := cell_blk R.out.blk 3 (v := .string e.key) rfl
                have L4 := cell_blk R.out.blk 4 (v := .slice p9 y.vn c9) rfl
                have L5 := cell_blk R.out.blk 5 (v := .int .i64 y.st) rfl
                have L6 := cell_blk R.out.blk 6 (v := .int .i64 (i : Int)) rfl
                have L7 := cell_blk R.out.blk 7 (v := .int .i64 (j : Int)) rfl
                have L8 := cell_blk R.out.blk 8 (v := .bool false) rfl
                have L9 := cell_blk R.out.blk 9 (v := .int .i64 y.tx) rfl
                have L10 := cell_blk R.out.blk 10 (v := .int .i64 y.ty) rfl
                clear R
                go_wp2_with
                  (first
                    | (at_builtin; refine wpList_append_all _ rfl (.tmp 104) (.tmp 106) 25 58 25 _ 11 112 rfl Tryz.underlying25 Tryz.info58c rfl w2.heap.size (.slice q k c) k (kcs L) rfl ((RK.out.k0 ((Kept.refl (fun _ => False) V).alloc _)).row) _ 1 (kcs [(⟨e.client, e.op, false, e.key, p9, y.vn, c9, y.st, (i : Int), (j : Int), false, y.tx, y.ty, y.val⟩ : Ca)]) rfl (src_ca (heap_alloc_new V _)) LN.out.1 LN.out.2 (Nat.le_trans KN.out.size ((Kept.refl (fun _ => False) V).alloc _).size) ?_; intro p7 c7 w7 ho hg hn7)
                    | fail)
                have NX : Hid (LS w2 w7 es (i + 1) p7 (k + 1) c7 (L ++ [(⟨e.client, e.op, false, e.key, p9, y.vn, c9, y.st, (i : Int), (j : Int), false, y.tx, y.ty, y.val⟩ : Ca)])) := by
                  have KA : Kept (fun _ => False) V (V.alloc (.cells (⟨e.client, e.op, false, e.key, p9, y.vn, c9, y.st, (i : Int), (j : Int), false, y.tx, y.ty, y.val⟩ : Ca).cs 58)) := (Kept.refl _ _).alloc _
                  have Q := (RK.out.k0 KA).more (x := (⟨e.client, e.op, false, e.key, p9, y.vn, c9, y.st, (i : Int), (j : Int), false, y.tx, y.ty, y.val⟩ : Ca)) (W0 := w2) (KA.owns ROW.out (fun _ _ z => z)) ho.out hg.out (KN.out.trans KA (fun _ _ z => z)) (Nat.le_refl _)
                  refine ⟨Q.1, ?_, Q.2⟩
                  rw [callsTo_add HE.out, if_pos HK.out, List.map_append, S.out.told, ← TLD.out]
                  rfl
                clear ho hg hn7 S RK ROW KN TLD L0 L1 L2 L3 L4 L5 L6 L7 L8 L9 L10
                go_roundw
                case rel => exact ⟨p7, k + 1, c7, i + 1, _, rfl, by go_num, by omega, by omega, NX⟩
                case measure => simp [intOf] <;> omega
        · have q1 : (e.kind != 1) = true := by simp [hk]
          have NX : Hid (LS w2 wo es (i + 1) q k c L) := by
            refine ⟨S.out.row, ?_, S.out.kept⟩
            rw [callsTo_add HE.out, if_neg hk]
            exact S.out.told
          clear hk S c1' c2' c3' c4' c5' c6' c7' c8'
          go_wp2_with fail
          go_roundw
          case rel => exact ⟨q, k, c, i + 1, L, rfl, by go_num, by omega, by omega, NX⟩
          case measure => simp [intOf] <;> omega
      · have i1 : ¬ (i : Int) < (n : Int) := by omega
        have F : Hid (ClQ w es q k c 0 wo) := by
          have ei : i = es.length := by have := H.out.1.len; omega
          refine ⟨⟨L, S.out.row.mono K2.out.size, .inr ⟨rfl, OK.out, ?_⟩⟩, KO.out⟩
          have := S.out.told
          rw [ei, callsTo_all] at this
          exact this
        clear S
        go_wp2_with fail
        go_ret2
        exact RetK.mk q k c 0 rfl F.out
  · have q0 : (b != 0) = true := by simp [hb0]
    have F : Hid (ClQ w es none 0 0 b w2) := ⟨⟨[], ⟨rfl, ⟨rfl, .inl ⟨rfl, rfl⟩⟩, fun x h => absurd h (by simp)⟩, .inl ⟨hb0, rfl, a, HAB.out.symm⟩⟩, K2.out⟩
    go_wp2_with fail
    go_ret2
    exact RetK.mk none 0 0 b rfl F.out
end Go.Proofs.YtbangbobfeflcaaGreatDoor
