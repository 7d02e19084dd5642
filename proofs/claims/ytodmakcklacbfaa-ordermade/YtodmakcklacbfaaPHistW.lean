import Derived.Test.YtodmakcklacbfaaPHist
namespace Go.Proofs.Ytodmakcklacbfaa
open Go.RowKit Go.Shelf Go.Lib Go.Sort

/-- What history tells. -/
structure HisQ (w : World) (v : Md) (nw : Nat) (pl : Option Addr) (k cl : Nat) (pq : Option Addr) (cq : Nat) (w' : World) : Prop where
  len : k = min nw 12
  calls : CRow w.heap.size w' pl k cl (v.hist k)
  nums : NRow w.heap.size w' pq k cq (List.range k)
  kept : Kept (fun _ => False) w w'
def RetH (Q : Option Addr → Nat → Nat → Option Addr → Nat → World → Prop) (o : Ending) (w : World) : Prop := ∃ (p : Option Addr) (k c : Nat) (q : Option Addr) (c' : Nat), o = .returned (.tuple #[.slice p k c, .slice q k c']) ∧ Q p k c q c' w
theorem RetH.mk {Q : Option Addr → Nat → Nat → Option Addr → Nat → World → Prop} {o : Ending} {w : World} (p : Option Addr) (k c : Nat) (q : Option Addr) (c' : Nat) (h : o = .returned (.tuple #[.slice p k c, .slice q k c'])) (hq : Q p k c q c' w) : RetH Q o w := ⟨p, k, c, q, c', h, hq⟩
theorem lModK (a : Int) (n : Nat) (N : Int) (e : N = (n : Int)) (h0 : 0 < n) (h1 : n < 4611686018427387904) (w : World) : Calls Try.prog 14 #[.int .i64 a, .int .i64 N] w fun o w' => (∃ r : Int, o = .returned (.int .i64 r) ∧ 0 ≤ r ∧ r < N ∧ r = a % N) ∧ w' = w := by
  subst e
  refine (lMod a n h0 h1 w).mono ?_
  rintro o w2 ⟨⟨r, rfl, h2, h3⟩, h4⟩
  exact ⟨⟨(r : Int), rfl, by omega, by omega, h3⟩, h4⟩
theorem lMod300 (a : Int) (w : World) : Calls Try.prog 14 #[.int .i64 a, .int .i64 300] w fun o w' => (∃ r : Int, o = .returned (.int .i64 r) ∧ 0 ≤ r ∧ r < 300 ∧ r = a % 300) ∧ w' = w := lModK a 300 300 (by decide) (by decide) (by decide) w
theorem lMod24 (a : Int) (w : World) : Calls Try.prog 14 #[.int .i64 a, .int .i64 24] w fun o w' => (∃ r : Int, o = .returned (.int .i64 r) ∧ 0 ≤ r ∧ r < 24 ∧ r = a % 24) ∧ w' = w := lModK a 24 24 (by decide) (by decide) (by decide) w
set_option maxRecDepth 100000 in
set_option maxHeartbeats 8000000 in
theorem oHist {w : World} {v : Md} {pw : Option Addr} {nw cw : Nat} {pv : Option Addr} {nv cv : Nat} {pr : Option Addr} {nr cr : Nat} {po : Option Addr} {no co : Nat} (R : MdR w v pw nw cw pv nv cv pr nr cr po no co) :
    Calls Try.prog 9 #[.agg #[.slice pw nw cw, .slice pv nv cv, .slice pr nr cr, .slice po no co]] w (RetH (HisQ w v nw)) := by
  have r1 := R.who.room
  have r2 := R.who.small
  have r3 := R.vals.room
  have r4 := R.vals.small
  have r5 := R.reach.room
  have r6 := R.reach.small
  have r7 := R.opn.room
  have r8 := R.opn.small
  unfold maxLen at r2 r4 r6 r8
  have H : Hid (MdR w v pw nw cw pv nv cv pr nr cr po no co) := R
  clear R
  obtain ⟨MC, hMC⟩ : ∃ MC : Array Value, MC = #[.slice pw nw cw, .slice pv nv cv, .slice pr nr cr, .slice po no co] := ⟨_, rfl⟩
  obtain ⟨MB, hMB⟩ : ∃ MB, MB = w.heap.size := ⟨_, rfl⟩
  obtain ⟨LB, hLB⟩ : ∃ LB, LB = w.heap.size + 1 := ⟨_, rfl⟩
  obtain ⟨W, hW⟩ : ∃ W, W = (w.alloc (Obj.cells #[.slice pw nw cw, .slice pv nv cv, .slice pr nr cr, .slice po no co] 25)).alloc (Obj.cells #[.int .i64 0, .int .i64 0, .bool false, .string ⟨#[]⟩, .slice none 0 0, .int .i64 0, .int .i64 0, .int .i64 0, .bool false, .int .i64 0, .int .i64 0] 38) := ⟨_, rfl⟩
  have E0 : Hid (W = (w.alloc (Obj.cells #[.slice pw nw cw, .slice pv nv cv, .slice pr nr cr, .slice po no co] 25)).alloc (Obj.cells #[.int .i64 0, .int .i64 0, .bool false, .string ⟨#[]⟩, .slice none 0 0, .int .i64 0, .int .i64 0, .int .i64 0, .bool false, .int .i64 0, .int .i64 0] 38) ∧ MB = w.heap.size ∧ LB = w.heap.size + 1 ∧ MC = #[.slice pw nw cw, .slice pv nv cv, .slice pr nr cr, .slice po no co]) := ⟨hW, hMB, hLB, hMC⟩
  have S0 : Hid (HS w v LB MC 0 none 0 none 0 W) := by
    refine ⟨⟨rfl, ⟨rfl, .inl ⟨rfl, rfl⟩⟩⟩, NRow.nil _ _, ?_, ?_, ?_, hLB⟩
    · rw [hW, hMC]
      exact get_alloc (alloc_new _ _)
    · refine ⟨#[.int .i64 0, .int .i64 0, .bool false, .string ⟨#[]⟩, .slice none 0 0, .int .i64 0, .int .i64 0, .int .i64 0, .bool false, .int .i64 0, .int .i64 0], ?_, rfl, fun l z => by cases z⟩
      have := alloc_new (w.alloc (Obj.cells #[.slice pw nw cw, .slice pv nv cv, .slice pr nr cr, .slice po no co] 25)) (Obj.cells #[.int .i64 0, .int .i64 0, .bool false, .string ⟨#[]⟩, .slice none 0 0, .int .i64 0, .int .i64 0, .int .i64 0, .bool false, .int .i64 0, .int .i64 0] 38)
      rw [alloc_size] at this
      rw [hW, hLB]
      exact this
    · rw [hW]
      exact ((Kept.refl _ _).alloc _).alloc _
  clear hW hMB hLB hMC
  go_enter Try.func9, Try.ntmps9
  go_wp2_with fail
  rw [← E0.out.1, ← E0.out.2.1]
  have eL : MB + 1 = LB := by rw [E0.out.2.1, E0.out.2.2.1]
  rw [eL]
  clear eL
  go_loopw [4, 5, 7, 8, 9, 10, 11, 12] (fun u4 u5 u7 u8 _ _ _ _ wr => ∃ (i cl cq : Nat) (pl pq : Option Addr), u4 = .slice pl i cl ∧ u5 = .slice pq i cq ∧ u7 = .bool (v.last i).isSome ∧ u8 = .int .i64 (i : Int) ∧ i ≤ nw ∧ i ≤ 12 ∧ Hid (HS w v LB MC i pl cl pq cq wr)) (fun _ _ _ u8 _ _ _ _ _ => 12 - (intOf u8).toNat)
  case atStart => exact ⟨0, 0, 0, none, none, rfl, rfl, rfl, rfl, Nat.zero_le _, Nat.zero_le _, S0⟩
  case round =>
    obtain ⟨i, cl, cq, pl, pq, rfl, rfl, rfl, rfl, hi1, hi2, S⟩ := hrel
    clear S0
    obtain ⟨wo, hwo⟩ : ∃ wo, wo = wr := ⟨_, rfl⟩
    rw [← hwo] at S ⊢
    clear hwo
    obtain ⟨sm, hsm⟩ : ∃ sm, sm = (v.last i).isSome := ⟨_, rfl⟩
    rw [← hsm]
    have HM : Hid (sm = (v.last i).isSome) := hsm
    clear hsm
    have mm : wo.heap[MB]? = some (.cells #[.slice pw nw cw, .slice pv nv cv, .slice pr nr cr, .slice po no co] 25 (0, 0)) := by
      rw [E0.out.2.1, ← E0.out.2.2.2]
      exact S.out.made
    have m0 := cell_blk mm 0 (v := .slice pw nw cw) rfl
    have m1 := cell_blk mm 1 (v := .slice pv nv cv) rfl
    have m2 := cell_blk mm 2 (v := .slice pr nr cr) rfl
    have m3 := cell_blk mm 3 (v := .slice po no co) rfl
    clear mm
    have RW : Hid (MdR wo v pw nw cw pv nv cv pr nr cr po no co) := H.out.k0 S.out.kept
    by_cases h1 : i < nw
    · by_cases h2 : i < 12
      · have i1 : (i : Int) < (nw : Int) := by omega
        have i2 : (i : Int) < 12 := by omega
        obtain ⟨z, hz⟩ : ∃ z, decide ((i : Int) < (nr : Int)) = z := ⟨_, rfl⟩
        have HZ : Hid (decide ((i : Int) < (nr : Int)) = z) := hz
        go_upto_if 31 with fail
        clear hz
        go_cut [10] from 32 to 36 (fun x10 wc => x10 = .int .i64 (v.rch i) ∧ wc = wo)
        case first =>
          cases z
          case true =>
            have h3 : i < nr := by have := HZ.out; simp at this; omega
            have i3 : (i : Int) < (nr : Int) := by omega
            obtain ⟨b, off, x, rfl, hx, cx⟩ := RW.out.reach.at h3
            have HX : Hid (v.reach[i]? = some x) := hx
            clear hx
            go_wp2_with fail
            go_meet
            case rel => exact ⟨by unfold Md.rch; rw [List.getD_eq_getElem?_getD, HX.out]; rfl, rfl⟩
          case false =>
            have h3 : ¬ i < nr := by have := HZ.out; simp at this; omega
            go_wp2_with fail
            go_meet
            case rel => exact ⟨by unfold Md.rch; rw [List.getD_eq_getElem?_getD, List.getElem?_eq_none (by rw [RW.out.reach.len]; omega)]; rfl, rfl⟩
        case rest =>
        obtain ⟨rfl, hw⟩ := hcut
        rw [hw]
        clear hw
        obtain ⟨rr, hrr⟩ : ∃ rr, rr = v.rch i := ⟨_, rfl⟩
        rw [← hrr]
        have HR : Hid (rr = v.rch i) := hrr
        clear hrr
        go_upto_region 12 with fail
        go_cut [11] from 37 to 50 (fun x11 wc => ∃ B, x11 = .pointer (some ⟨B, 0, none⟩) ∧ Hid (HB w v LB MC i pl cl pq cq B (v.base i) (v.last i) wc))
        case first =>
          go_wp2_with fail
          refine (lMod300 rr _).mono ?_
          rintro o w2 ⟨⟨a1, rfl, b1, b2, e1⟩, rfl⟩
          go_wp2_with fail
          refine (lMod300 (wrap64 (rr.tdiv 300)) _).mono ?_
          rintro o w3 ⟨⟨a2, rfl, b3, b4, e2⟩, rfl⟩
          go_wp2_with fail
          go_meet
          case rel => exact ⟨w3.heap.size, rfl, S.out.new (by unfold Md.base Md.fr Md.to0 Cm.cs keyK; rw [← HR.out])⟩
        case rest =>
        obtain ⟨B, rfl, G⟩ := hcut
        obtain ⟨wb, hwb⟩ : ∃ wb, wb = wc := ⟨_, rfl⟩
        rw [← hwb] at G ⊢
        clear hwb m0 m1 m2 m3 RW HR HZ
        have RW : Hid (MdR wb v pw nw cw pv nv cv pr nr cr po no co) := H.out.k0 G.out.kept
        have mm : wb.heap[MB]? = some (.cells #[.slice pw nw cw, .slice pv nv cv, .slice pr nr cr, .slice po no co] 25 (0, 0)) := by
          rw [E0.out.2.1, ← E0.out.2.2.2]
          exact G.out.made
        have m0 := cell_blk mm 0 (v := .slice pw nw cw) rfl
        have m1 := cell_blk mm 1 (v := .slice pv nv cv) rfl
        have m3 := cell_blk mm 3 (v := .slice po no co) rfl
        clear mm
        obtain ⟨b, off, x, rfl, hx, cx⟩ := RW.out.who.at h1
        obtain ⟨y, hy⟩ : ∃ y, decide (0 < x) = y := ⟨_, rfl⟩
        have HY : Hid (decide (0 < x) = y ∧ v.who.getD i 0 = x) := ⟨hy, by rw [List.getD_eq_getElem?_getD, hx]; rfl⟩
        go_upto_if 56 with fail
        clear hy hx cx
        go_cut [7] from 57 to 122 (fun x7 wc => x7 = .bool (v.last (i + 1)).isSome ∧ Hid (HB w v LB MC i pl cl pq cq B (v.one i) (v.last (i + 1)) wc))
        case first =>
          cases y
          case true =>
            have hb0 := cell_blk G.out.box 2 (v := .bool false) rfl
            have fz := soft_blk G.out.box 2
            go_upto_region 15 with fail
            have G2 : Hid (HB w v LB MC i pl cl pq cq B (v.putB i) (v.last i) (wb.setCell ⟨B, 2, none⟩ (.bool true))) := G.out.set 2 _ rfl
            generalize wb.setCell ⟨B, 2, none⟩ (.bool true) = wd at G2 ⊢
            clear hb0 fz m0 m1 m3 G RW
            have mm : wd.heap[MB]? = some (.cells #[.slice (some ⟨b, off, none⟩) nw cw, .slice pv nv cv, .slice pr nr cr, .slice po no co] 25 (0, 0)) := by
              rw [E0.out.2.1, ← E0.out.2.2.2]
              exact G2.out.made
            have m1 := cell_blk mm 1 (v := .slice pv nv cv) rfl
            have m3 := cell_blk mm 3 (v := .slice po no co) rfl
            clear mm
            have RV : Hid (VRd wd pv nv cv v.vals) := H.out.vals.k0 G2.out.kept
            obtain ⟨z, hz⟩ : ∃ z, decide ((i : Int) < (nv : Int)) = z := ⟨_, rfl⟩
            have HZ : Hid (decide ((i : Int) < (nv : Int)) = z) := hz
            go_upto_if 62 with fail
            clear hz
            go_cut [11] from 63 to 68 (fun x11 wc => x11 = .pointer (some ⟨B, 0, none⟩) ∧ Hid (HB w v LB MC i pl cl pq cq B (v.put1 i) (v.last i) wc))
            case first =>
              cases z
              case true =>
                have h4 : i < nv := by have := HZ.out; simp at this; omega
                have i4 : (i : Int) < (nv : Int) := by omega
                obtain ⟨b4, off4, x4, rfl, hx4, cx4⟩ := RV.out.at h4
                have HX : Hid (v.vl i = x4) := by unfold Md.vl; rw [List.getD_eq_getElem?_getD, hx4]; rfl
                clear hx4
                have hb0 := cell_blk G2.out.box 4 (v := .slice none 0 0) rfl
                have fz := soft_blk G2.out.box 4
                go_wp2_with fail
                go_meet
                case rel => exact ⟨rfl, G2.out.set 4 _ (by unfold Md.put1 Cm.cs; rw [HX.out]; rfl)⟩
              case false =>
                have h4 : ¬ i < nv := by have := HZ.out; simp at this; omega
                have HX : Hid (v.put1 i = v.putB i) := by
                  show v.put1 i = v.putB i
                  have e : v.vl i = (.none, 0, 0, []) := by unfold Md.vl; rw [List.getD_eq_getElem?_getD, List.getElem?_eq_none (by rw [RV.out.len]; omega)]; rfl
                  unfold Md.put1 Md.putB
                  rw [e]
                go_wp2_with fail
                go_meet
                case rel => exact ⟨rfl, by rw [HX.out]; exact G2⟩
            case rest =>
            obtain ⟨rfl, G3⟩ := hcut
            obtain ⟨we, hwe⟩ : ∃ we, we = wc := ⟨_, rfl⟩
            rw [← hwe] at G3 ⊢
            clear hwe m1 m3 RV HZ G2
            have q0 := cell_blk G3.out.box 0 (v := .int .i64 (100 + (i : Int))) rfl
            have q9 := cell_blk G3.out.box 9 (v := .int .i64 0) rfl
            have q10 := cell_blk G3.out.box 10 (v := .int .i64 0) rfl
            have f9 := soft_blk G3.out.box 9
            have f10 := soft_blk G3.out.box 10
            go_upto_region 18 with fail
            have G4 : Hid (HB w v LB MC i pl cl pq cq B (v.put 0 i) (v.last i) ((we.setCell ⟨B, 9, none⟩ (.int .i64 ((i : Int) + 1))).setCell ⟨B, 10, none⟩ (.int .i64 (100 + (i : Int))))) := (G3.out.set 9 (.int .i64 ((i : Int) + 1)) (m' := ⟨100 + (i : Int), 1, true, keyK, (v.vl i).1, (v.vl i).2.1, (v.vl i).2.2.1, 0, v.fr i, v.to0 i, false, (i : Int) + 1, 0, (v.vl i).2.2.2⟩) rfl).set 10 _ rfl
            generalize (we.setCell ⟨B, 9, none⟩ (.int .i64 ((i : Int) + 1))).setCell ⟨B, 10, none⟩ (.int .i64 (100 + (i : Int))) = wf at G4 ⊢
            clear q0 q9 q10 f9 f10 G3
            have q0 := cell_blk G4.out.box 0 (v := .int .i64 (100 + (i : Int))) rfl
            have q1 := cell_blk G4.out.box 1 (v := .int .i64 1) rfl
            have q2 := cell_blk G4.out.box 2 (v := .bool true) rfl
            have q3 := cell_blk G4.out.box 3 (v := .string keyK) rfl
            have q4 := cell_blk G4.out.box 4 (v := .slice (v.vl i).1 (v.vl i).2.1 (v.vl i).2.2.1) rfl
            have q5 := cell_blk G4.out.box 5 (v := .int .i64 0) rfl
            have q6 := cell_blk G4.out.box 6 (v := .int .i64 (v.fr i)) rfl
            have q7 := cell_blk G4.out.box 7 (v := .int .i64 (v.to0 i)) rfl
            have q8 := cell_blk G4.out.box 8 (v := .bool false) rfl
            have q9 := cell_blk G4.out.box 9 (v := .int .i64 ((i : Int) + 1)) rfl
            have q10 := cell_blk G4.out.box 10 (v := .int .i64 (100 + (i : Int))) rfl
            obtain ⟨CL, hCL, hCs, _⟩ := G4.out.last
            obtain ⟨y0, y1, y2, y3, y4, y5, y6, y7, y8, y9, y10, rfl⟩ := arr11 hCs
            clear hCs
            have l0 := cell_blk hCL 0 (v := y0) rfl
            have f0 := soft_blk hCL 0
            have l1 := cell_blk hCL 1 (v := y1) rfl
            have f1 := soft_blk hCL 1
            have l2 := cell_blk hCL 2 (v := y2) rfl
            have f2 := soft_blk hCL 2
            have l3 := cell_blk hCL 3 (v := y3) rfl
            have f3 := soft_blk hCL 3
            have l4 := cell_blk hCL 4 (v := y4) rfl
            have f4 := soft_blk hCL 4
            have l5 := cell_blk hCL 5 (v := y5) rfl
            have f5 := soft_blk hCL 5
            have l6 := cell_blk hCL 6 (v := y6) rfl
            have f6 := soft_blk hCL 6
            have l7 := cell_blk hCL 7 (v := y7) rfl
            have f7 := soft_blk hCL 7
            have l8 := cell_blk hCL 8 (v := y8) rfl
            have f8 := soft_blk hCL 8
            have l9 := cell_blk hCL 9 (v := y9) rfl
            have f9 := soft_blk hCL 9
            have l10 := cell_blk hCL 10 (v := y10) rfl
            have f10 := soft_blk hCL 10
            have G5 : Hid (HB w v LB MC i pl cl pq cq B (v.put 0 i) (some (v.put 0 i)) (((((((((((wf.setCell ⟨LB, 0, none⟩ (.int .i64 (100 + (i : Int)))).setCell ⟨LB, 1, none⟩ (.int .i64 1)).setCell ⟨LB, 2, none⟩ (.bool true)).setCell ⟨LB, 3, none⟩ (.string keyK)).setCell ⟨LB, 4, none⟩ (.slice (v.vl i).1 (v.vl i).2.1 (v.vl i).2.2.1)).setCell ⟨LB, 5, none⟩ (.int .i64 0)).setCell ⟨LB, 6, none⟩ (.int .i64 (v.fr i))).setCell ⟨LB, 7, none⟩ (.int .i64 (v.to0 i))).setCell ⟨LB, 8, none⟩ (.bool false)).setCell ⟨LB, 9, none⟩ (.int .i64 ((i : Int) + 1))).setCell ⟨LB, 10, none⟩ (.int .i64 (100 + (i : Int))))) := by
              have x := set11 hCL rfl (.int .i64 (100 + (i : Int))) (.int .i64 1) (.bool true) (.string keyK) (.slice (v.vl i).1 (v.vl i).2.1 (v.vl i).2.2.1) (.int .i64 0) (.int .i64 (v.fr i)) (.int .i64 (v.to0 i)) (.bool false) (.int .i64 ((i : Int) + 1)) (.int .i64 (100 + (i : Int)))
              refine G4.out.keep x.2 ?_
              rw [Md.put0_cs]
              exact x.1
            have hne : ¬ B = LB := by have := G4.out.ne.1; omega
            have hne' : ¬ LB = B := by have := G4.out.ne.1; omega
            go_upto_region 19 with fail
            generalize ((((((((((wf.setCell ⟨LB, 0, none⟩ (.int .i64 (100 + (i : Int)))).setCell ⟨LB, 1, none⟩ (.int .i64 1)).setCell ⟨LB, 2, none⟩ (.bool true)).setCell ⟨LB, 3, none⟩ (.string keyK)).setCell ⟨LB, 4, none⟩ (.slice (v.vl i).1 (v.vl i).2.1 (v.vl i).2.2.1)).setCell ⟨LB, 5, none⟩ (.int .i64 0)).setCell ⟨LB, 6, none⟩ (.int .i64 (v.fr i))).setCell ⟨LB, 7, none⟩ (.int .i64 (v.to0 i))).setCell ⟨LB, 8, none⟩ (.bool false)).setCell ⟨LB, 9, none⟩ (.int .i64 ((i : Int) + 1))).setCell ⟨LB, 10, none⟩ (.int .i64 (100 + (i : Int))) = wf2 at G5 ⊢
            clear q0 l0 f0 q1 l1 f1 q2 l2 f2 q3 l3 f3 q4 l4 f4 q5 l5 f5 q6 l6 f6 q7 l7 f7 q8 l8 f8 q9 l9 f9 q10 l10 f10 hCL hne hne' G4
            go_wp2_with fail
            go_loopw [12] (fun u12 wr => ∃ j : Nat, u12 = .int .i64 (j : Int) ∧ j ≤ no ∧ Hid (HB w v LB MC i pl cl pq cq B (v.put j i) (some (v.put 0 i)) wr)) (fun u12 _ => no - (intOf u12).toNat)
            case atStart => exact ⟨0, rfl, Nat.zero_le _, G5⟩
            case round =>
              obtain ⟨j, rfl, hj, L6⟩ := hrel
              clear G5
              obtain ⟨wl, hwl⟩ : ∃ wl, wl = wr := ⟨_, rfl⟩
              rw [← hwl] at L6 ⊢
              clear hwl
              have mm : wl.heap[MB]? = some (.cells #[.slice (some ⟨b, off, none⟩) nw cw, .slice pv nv cv, .slice pr nr cr, .slice po no co] 25 (0, 0)) := by
                rw [E0.out.2.1, ← E0.out.2.2.2]
                exact L6.out.made
              have m3 := cell_blk mm 3 (v := .slice po no co) rfl
              clear mm
              have RO : Hid (IRd wl po no co v.opn) := H.out.opn.k0 L6.out.kept
              by_cases h5 : j < no
              · have i5 : (j : Int) < (no : Int) := by omega
                obtain ⟨b5, off5, x5, rfl, hx5, cx5⟩ := RO.out.at h5
                have HX : Hid (v.opn[j]? = some x5) := hx5
                have nb : ¬ B = b5 := by
                  intro z
                  obtain ⟨b6, off6, x6, e6, _, c6⟩ := H.out.opn.at h5
                  cases e6
                  have l6 := World.block_lt_of_cell? w _ c6
                  have l7 := L6.out.ne.1
                  have l8 := L6.out.lb
                  have l6 : b5 < w.heap.size := l6
                  omega
                have nb' : ¬ b5 = B := fun z => nb z.symm
                clear hx5 RO
                by_cases e1 : x5 % 24 = (i : Int)
                · have HE : Hid (x5 % 24 = (i : Int)) := e1
                  have C14 : Hid (∀ V : World, Calls Try.prog 14 #[.int .i64 x5, .int .i64 24] V fun o w' => o = .returned (.int .i64 (i : Int)) ∧ w' = V) := fun V => by
                    refine (lMod24 x5 V).mono ?_
                    rintro o w2 ⟨⟨r, rfl, _, _, er⟩, h4⟩
                    exact ⟨by rw [er, HE.out], h4⟩
                  clear e1
                  have e3 : ¬ (i : Int) = (i : Int) + 12 := by omega
                  have b8 := cell_blk L6.out.box 8 (v := .bool (v.op j i)) rfl
                  have f8 := soft_blk L6.out.box 8
                  have b7 := cell_blk L6.out.box 7 (v := .int .i64 (if v.op j i = true then -1 else v.to0 i)) rfl
                  have f7 := soft_blk L6.out.box 7
                  have G7 : Hid (HB w v LB MC i pl cl pq cq B (v.put (j + 1) i) (some (v.put 0 i)) ((wl.setCell ⟨B, 8, none⟩ (.bool true)).setCell ⟨B, 7, none⟩ (.int .i64 (-1)))) := (L6.out.set 8 (.bool true) (m' := { v.put j i with opn := true }) rfl).set 7 _ (Md.put_open HX.out HE.out)
                  have nm : ¬ B = MB := by have h1 := L6.out.ne.1; have h2 := L6.out.lb; have h3 := E0.out.2.1; omega
                  have nm' : ¬ MB = B := by omega
                  go_wp2_with fail
                  refine (C14.out _).mono ?_
                  rintro o w7 ⟨rfl, rfl⟩
                  go_wp2_with fail
                  refine (C14.out _).mono ?_
                  rintro o w8 ⟨rfl, rfl⟩
                  go_wp2_with fail
                  go_roundw
                  case rel => exact ⟨j + 1, by go_num, by omega, G7⟩
                  case measure => simp [intOf] <;> omega
                · by_cases e2 : x5 % 24 = (i : Int) + 12
                  · have e1 := e2
                    have HE : Hid (x5 % 24 = ((i : Int) + 12)) := e1
                    have C14 : Hid (∀ V : World, Calls Try.prog 14 #[.int .i64 x5, .int .i64 24] V fun o w' => o = .returned (.int .i64 ((i : Int) + 12)) ∧ w' = V) := fun V => by
                      refine (lMod24 x5 V).mono ?_
                      rintro o w2 ⟨⟨r, rfl, _, _, er⟩, h4⟩
                      exact ⟨by rw [er, HE.out], h4⟩
                    clear e1
                    have e3 : ¬ (i : Int) + 12 = (i : Int) := by omega
                    clear e2
                    have b8 := cell_blk L6.out.box 8 (v := .bool (v.op j i)) rfl
                    have f8 := soft_blk L6.out.box 8
                    have b7 := cell_blk L6.out.box 7 (v := .int .i64 (if v.op j i = true then -1 else v.to0 i)) rfl
                    have f7 := soft_blk L6.out.box 7
                    have b9 := cell_blk L6.out.box 9 (v := .int .i64 (if v.sil j i = true then 0 else (i : Int) + 1)) rfl
                    have f9 := soft_blk L6.out.box 9
                    have b10 := cell_blk L6.out.box 10 (v := .int .i64 (if v.sil j i = true then 0 else 100 + (i : Int))) rfl
                    have f10 := soft_blk L6.out.box 10
                    have G7 : Hid (HB w v LB MC i pl cl pq cq B (v.put (j + 1) i) (some (v.put 0 i)) ((((wl.setCell ⟨B, 8, none⟩ (.bool true)).setCell ⟨B, 7, none⟩ (.int .i64 (-1))).setCell ⟨B, 9, none⟩ (.int .i64 0)).setCell ⟨B, 10, none⟩ (.int .i64 0))) := (((L6.out.set 8 (.bool true) (m' := { v.put j i with opn := true }) rfl).set 7 (.int .i64 (-1)) (m' := (⟨(v.put j i).client, (v.put j i).op, (v.put j i).put, (v.put j i).key, (v.put j i).va, (v.put j i).vn, (v.put j i).vc, (v.put j i).st, (v.put j i).frm, -1, true, (v.put j i).tx, (v.put j i).ty, (v.put j i).val⟩ : Cm)) rfl).set 9 (.int .i64 0) (m' := (⟨(v.put j i).client, (v.put j i).op, (v.put j i).put, (v.put j i).key, (v.put j i).va, (v.put j i).vn, (v.put j i).vc, (v.put j i).st, (v.put j i).frm, -1, true, 0, (v.put j i).ty, (v.put j i).val⟩ : Cm)) rfl).set 10 _ (Md.put_sil HX.out HE.out)
                    have nm : ¬ B = MB := by have h1 := L6.out.ne.1; have h2 := L6.out.lb; have h3 := E0.out.2.1; omega
                    have nm' : ¬ MB = B := by omega
                    go_wp2_with fail
                    refine (C14.out _).mono ?_
                    rintro o w7 ⟨rfl, rfl⟩
                    go_wp2_with fail
                    refine (C14.out _).mono ?_
                    rintro o w7 ⟨rfl, rfl⟩
                    go_wp2_with fail
                    refine (C14.out _).mono ?_
                    rintro o w8 ⟨rfl, rfl⟩
                    go_wp2_with fail
                    go_roundw
                    case rel => exact ⟨j + 1, by go_num, by omega, G7⟩
                    case measure => simp [intOf] <;> omega
                  · have HE : Hid (¬ x5 % 24 = (i : Int) ∧ ¬ x5 % 24 = (i : Int) + 12) := ⟨e1, e2⟩
                    obtain ⟨r, hr⟩ : ∃ r, r = x5 % 24 := ⟨_, rfl⟩
                    rw [← hr] at e1 e2
                    have C14 : Hid (∀ V : World, Calls Try.prog 14 #[.int .i64 x5, .int .i64 24] V fun o w' => o = .returned (.int .i64 r) ∧ w' = V) := fun V => by
                      refine (lMod24 x5 V).mono ?_
                      rintro o w2 ⟨⟨r', rfl, _, _, er⟩, h4⟩
                      exact ⟨by rw [er, hr], h4⟩
                    have G7 : Hid (HB w v LB MC i pl cl pq cq B (v.put (j + 1) i) (some (v.put 0 i)) wl) := by
                      rw [Md.put_same HX.out HE.out.1 HE.out.2]
                      exact L6
                    have e1b : (r == (i : Int)) = false := by simpa using e1
                    have e2b : (r == (i : Int) + 12) = false := by simpa using e2
                    clear hr
                    go_wp2_with fail
                    refine (C14.out _).mono ?_
                    rintro o w7 ⟨rfl, rfl⟩
                    go_wp2_with fail
                    refine (C14.out _).mono ?_
                    rintro o w8 ⟨rfl, rfl⟩
                    go_wp2_with fail
                    go_roundw
                    case rel => exact ⟨j + 1, by go_num, by omega, G7⟩
                    case measure => simp [intOf] <;> omega
              · have i5 : ¬ (j : Int) < (no : Int) := by omega
                have hl : v.opn.length = j := by have := RO.out.len; omega
                have GL : Hid (HB w v LB MC i pl cl pq cq B (v.one i) (v.last (i + 1)) wl ∧ (v.last (i + 1)).isSome = true) := by
                  have hw : 0 < v.who.getD i 0 := by have h := HY.out; rw [h.2]; simpa using h.1
                  have e1 : v.last (i + 1) = some (v.put 0 i) := by
                    show (if 0 < v.who.getD i 0 then some (v.put 0 i) else v.last i) = _
                    rw [if_pos hw]
                  have e2 : v.one i = v.put j i := by
                    unfold Md.one
                    rw [if_pos hw, hl]
                  rw [e1, e2]
                  exact ⟨L6.out, rfl⟩
                go_wp2_with fail
                go_meet
                case rel => exact ⟨by rw [GL.out.2], GL.out.1⟩
          case false =>
            have EL : Hid (v.last (i + 1) = v.last i ∧ ¬ 0 < v.who.getD i 0) := by
              have hw : ¬ 0 < v.who.getD i 0 := by have h := HY.out; rw [h.2]; simpa using h.1
              refine ⟨?_, hw⟩
              show (if 0 < v.who.getD i 0 then some (v.put 0 i) else v.last i) = _
              rw [if_neg hw]
            cases sm
            case true =>
              obtain ⟨l, hl⟩ : ∃ l, v.last i = some l := by
                have := HM.out
                cases q : v.last i with
                | none => rw [q] at this; cases this
                | some l => exact ⟨l, rfl⟩
              obtain ⟨CL, hCL, hCs, hC⟩ := G.out.last
              have eC := hC l hl
              subst eC
              have HL : Hid (v.last i = some l) := hl
              clear hl hC hCs
              have l4 := cell_blk hCL 4 (v := .slice l.va l.vn l.vc) rfl
              have l9 := cell_blk hCL 9 (v := .int .i64 l.tx) rfl
              have l10 := cell_blk hCL 10 (v := .int .i64 l.ty) rfl
              have b4 := cell_blk G.out.box 4 (v := .slice none 0 0) rfl
              have b9 := cell_blk G.out.box 9 (v := .int .i64 0) rfl
              have b10 := cell_blk G.out.box 10 (v := .int .i64 0) rfl
              have f4 := soft_blk G.out.box 4
              have f9 := soft_blk G.out.box 9
              have f10 := soft_blk G.out.box 10
              have hne : ¬ B = LB := by have := G.out.ne.1; omega
              have hne' : ¬ LB = B := by have := G.out.ne.1; omega
              have GL : Hid (HB w v LB MC i pl cl pq cq B (v.one i) (v.last (i + 1)) (((wb.setCell ⟨B, 4, none⟩ (.slice l.va l.vn l.vc)).setCell ⟨B, 9, none⟩ (.int .i64 l.tx)).setCell ⟨B, 10, none⟩ (.int .i64 l.ty))) := by
                have e2 : v.one i = v.get i l := by
                  unfold Md.one
                  rw [if_neg EL.out.2, HL.out]
                rw [EL.out.1, e2]
                exact ((G.out.set 4 (.slice l.va l.vn l.vc) (m' := { v.base i with va := l.va, vn := l.vn, vc := l.vc }) rfl).set 9 (.int .i64 l.tx) (m' := { v.base i with va := l.va, vn := l.vn, vc := l.vc, tx := l.tx }) rfl).set 10 (.int .i64 l.ty) rfl
              clear hCL
              go_wp2_with fail
              go_meet
              case rel => exact ⟨by rw [EL.out.1, HL.out]; rfl, GL⟩
            case false =>
              have HL : Hid (v.last i = .none) := by
                have := HM.out
                cases q : v.last i with
                | none => rfl
                | some l => rw [q] at this; cases this
              have b5 := cell_blk G.out.box 5 (v := .int .i64 0) rfl
              have f5 := soft_blk G.out.box 5
              have GL : Hid (HB w v LB MC i pl cl pq cq B (v.one i) (v.last (i + 1)) (wb.setCell ⟨B, 5, none⟩ (.int .i64 76))) := by
                have e2 : v.one i = v.none i := by
                  unfold Md.one
                  rw [if_neg EL.out.2, HL.out]
                rw [EL.out.1, e2]
                exact G.out.set 5 (.int .i64 76) rfl
              go_wp2_with fail
              go_meet
              case rel => exact ⟨by rw [EL.out.1, HL.out]; rfl, GL⟩
        case rest =>
        obtain ⟨rfl, GR⟩ := hcut
        obtain ⟨wg, hwg⟩ : ∃ wg, wg = wc := ⟨_, rfl⟩
        rw [← hwg] at GR ⊢
        clear hwg m0 m1 m3 RW G HY HM
        obtain ⟨M, hM⟩ : ∃ M, M = v.one i := ⟨_, rfl⟩
        have HMM : Hid (M = v.one i) := hM
        rw [← hM] at GR
        clear hM
        have q0 := cell_blk GR.out.box 0 (v := .int .i64 M.client) rfl
        have q1 := cell_blk GR.out.box 1 (v := .int .i64 M.op) rfl
        have q2 := cell_blk GR.out.box 2 (v := .bool M.put) rfl
        have q3 := cell_blk GR.out.box 3 (v := .string M.key) rfl
        have q4 := cell_blk GR.out.box 4 (v := .slice M.va M.vn M.vc) rfl
        have q5 := cell_blk GR.out.box 5 (v := .int .i64 M.st) rfl
        have q6 := cell_blk GR.out.box 6 (v := .int .i64 M.frm) rfl
        have q7 := cell_blk GR.out.box 7 (v := .int .i64 M.to) rfl
        have q8 := cell_blk GR.out.box 8 (v := .bool M.opn) rfl
        have q9 := cell_blk GR.out.box 9 (v := .int .i64 M.tx) rfl
        have q10 := cell_blk GR.out.box 10 (v := .int .i64 M.ty) rfl
        have BL : Hid ((i + 1 ≤ maxLen ∧ ((i + 1) + (i + 1) / 4 + 192) * 112 ≤ 281474976710656) ∧ ((i + 1 ≤ maxLen ∧ ((i + 1) + (i + 1) / 4 + 192) * 8 ≤ 281474976710656))) := by
          unfold maxLen
          exact ⟨⟨by omega, by omega⟩, by omega, by omega⟩
        have SZ : Hid (LB + 1 ≤ wg.heap.size) := by have h1 := GR.out.ne.1; have h2 := block_lt GR.out.box; show LB + 1 ≤ wg.heap.size; omega
        go_upto_region 33 with
          (first
            | (at_builtin; refine wpList_append_all _ rfl (.tmp 123) (.tmp 125) 27 38 27 _ 11 112 rfl Try.underlying27 Try.info38c rfl (LB + 1) (.slice pl i cl) i (ccells (v.hist i)) rfl (((Kept.refl (fun _ => False) wg).alloc _).owns GR.out.calls.row (fun _ _ z => z)) _ 1 (ccells [M]) rfl (src_call (m := M) (heap_alloc_new wg _)) BL.out.1.1 BL.out.1.2 (Nat.le_trans SZ.out ((Kept.refl (fun _ => False) wg).alloc _).size) ?_; intro p9 c9 w9 ho hg hn)
            | fail)
        have N9 : Hid (NRow (LB + 1) w9 pq i cq (List.range i) ∧ LB + 1 ≤ w9.heap.size) := by
          have KG1 : Kept (fun j => blockOf pl = some j) wg w9 := ((Kept.refl (fun j => blockOf pl = some j) wg).alloc _).grown hg.out (fun j _ z => by rw [blockOf_own] at z; exact z)
          refine ⟨GR.out.nums.off KG1 (fun j z y => ?_), Nat.le_trans SZ.out KG1.size⟩
          obtain ⟨c1, h1⟩ := own_type GR.out.nums.row j z
          obtain ⟨c2, h2⟩ := own_type GR.out.calls.row j y
          rw [h1] at h2
          simp at h2
        have X9 : Hid (w9.ownsRow (LB + 1) 38 11 (.slice p9 (i + 1) c9) (i + 1) (ccells (v.hist i) ++ ccells [M]) ∧ (wg.alloc (.cells M.cs 38)).grownBy w9 (Value.slice pl i cl).ownBlock) := ⟨ho.out, hg.out⟩
        clear ho hg hn q0 q1 q2 q3 q4 q5 q6 q7 q8 q9 q10
        go_upto_region 7 with
          (first
            | (at_builtin; refine wpList_append_all _ rfl (.tmp 127) (.tmp 129) 22 3 22 _ 1 8 rfl Try.underlying22 Try.info3c rfl (LB + 1) (.slice pq i cq) i (intsN (List.range i)) rfl (((Kept.refl (fun _ => False) w9).alloc _).owns N9.out.1.row (fun _ _ z => z)) _ 1 (intsN [i]) rfl (src_one (heap_alloc_new w9 _)) BL.out.2.1 BL.out.2.2 (Nat.le_trans N9.out.2 ((Kept.refl (fun _ => False) w9).alloc _).size) ?_; intro p10 c10 w10 ho hg hn)
            | fail)
        have T10 : Hid (HS w v LB MC (i + 1) p9 c9 p10 c10 w10) := by
          have e := HMM.out
          subst e
          exact GR.out.next rfl X9.out.1 X9.out.2 rfl ho.out hg.out
        clear ho hg hn X9 N9 SZ BL
        go_wp2_with fail
        go_roundw
        case rel => exact ⟨i + 1, c9, c10, p9, p10, rfl, rfl, rfl, by go_num, by omega, by omega, T10⟩
        case measure => simp [intOf] <;> omega
      · have i1 : (i : Int) < (nw : Int) := by omega
        have i2 : ¬ (i : Int) < 12 := by omega
        have F : Hid (HisQ w v nw pl i cl pq cq wo) := ⟨by omega, ⟨S.out.calls.len, owns_mono S.out.calls.row (by have := S.out.lb; omega)⟩, S.out.nums.mono (by have := S.out.lb; omega), S.out.kept⟩
        clear RW
        go_wp2_with fail
        go_ret2
        exact RetH.mk pl i cl pq cq rfl F.out
    · have i1 : ¬ (i : Int) < (nw : Int) := by omega
      have F : Hid (HisQ w v nw pl i cl pq cq wo) := ⟨by omega, ⟨S.out.calls.len, owns_mono S.out.calls.row (by have := S.out.lb; omega)⟩, S.out.nums.mono (by have := S.out.lb; omega), S.out.kept⟩
      clear RW
      go_wp2_with fail
      go_ret2
      exact RetH.mk pl i cl pq cq rfl F.out
end Go.Proofs.Ytodmakcklacbfaa
