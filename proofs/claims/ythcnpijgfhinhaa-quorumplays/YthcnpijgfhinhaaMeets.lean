import Derived.Test.YthcnpijgfhinhaaShare
import Derived.Deep.DeepCutAuto
namespace Go.Proofs.Ythcnpijgfhinhaa
open Go.RowKit

/-- The next server that is in stands where as many have come. -/
theorem pick_snoc (m : Nat → Bool) (x : Bool) (k : Nat) : pick m x (k + 1) = pick m x k ++ (if m k = x then [(k : Int)] else []) := by
  by_cases h : m k = x
  · rw [pick_hit m x k h, if_pos h]
  · rw [pick_miss m x k h, if_neg h]; simp
theorem pick_length (m : Nat → Bool) (x : Bool) (k : Nat) : (pick m x k).length = Q.cnt (fun i => m i == x) k := by
  unfold pick; rw [List.length_map, Q.cnt_list]
theorem pick_at (m : Nat → Bool) (x : Bool) (k n : Nat) (h : k < n) (e : m k = x) : Q.cnt (fun i => m i == x) k < (pick m x n).length ∧ (pick m x n).getD (Q.cnt (fun i => m i == x) k) 0 = (k : Int) := by
  have l := pick_lt m x k n h e
  rw [pick_length m x k] at l
  refine ⟨l, ?_⟩
  have pr := pick_prefix m x (k + 1) n h
  rw [pick_hit m x k e] at pr
  obtain ⟨t, ht⟩ := pr
  rw [← ht, List.getD_eq_getElem?_getD, ← pick_length m x k]
  simp
theorem pick_mem (m : Nat → Bool) (x : Bool) (n : Nat) (y : Int) (h : y ∈ pick m x n) : m y.toNat = x := by
  unfold pick at h
  obtain ⟨i, hi, rfl⟩ := List.mem_map.1 h
  have := (List.mem_filter.1 hi).2
  simpa using this
theorem pick_not (m : Nat → Bool) (x : Bool) (k n j : Nat) (hj : j < (pick m x n).length) (e : ¬ m k = x) : ¬ (pick m x n).getD j 0 = (k : Int) := by
  intro q
  have hm : (pick m x n).getD j 0 ∈ pick m x n := by rw [getD_at _ _ hj]; exact List.getElem_mem hj
  rw [q] at hm
  have := pick_mem m x n _ hm
  rw [Int.toNat_natCast] at this
  exact e this
theorem cnt_true (m : Nat → Bool) (k : Nat) : Q.cnt (fun i => m i == true) k = Q.cnt m k := by congr 1; funext i; simp
theorem cnt_false (m : Nat → Bool) (k : Nat) : Q.cnt (fun i => m i == false) k + Q.cnt m k = k := by
  have := Q.cnt_not m k
  have e : (fun i => m i == false) = (fun i => !m i) := by funext i; cases m i <;> rfl
  rw [e]; exact this
/-- Reading a list's end. -/
theorem lset_drop (l : List Int) (N : Int) (i : Nat) (h : i < l.length) : lset (l.getD (l.length - 1 - i) 0 :: l.drop (l.length - i)) N = lset (l.drop (l.length - (i + 1))) N := by
  have e : l.length - i = (l.length - 1 - i) + 1 := by omega
  have e2 : l.length - (i + 1) = l.length - 1 - i := by omega
  rw [e, e2, getD_at _ _ (by omega), List.getElem_cons_drop]
theorem lset_take (l : List Int) (N : Int) (i : Nat) (h : i < l.length) : lset (l.getD i 0 :: l.take i) N = lset (l.take (i + 1)) N := by
  apply lset_congr
  intro x
  rw [List.take_succ_eq_append_getElem h, getD_at _ _ h]
  simp only [List.mem_cons, List.mem_append, List.not_mem_nil, or_false]
  exact or_comm
/-- The set twice, and its two lists. -/
structure Ms (w wr : World) (N K D : Int) (b1 b2 : Nat) (m : Nat → Bool) (ai ao : Option Addr) (zi ci zo co : Nat) : Prop where
  sh : Sh w wr N K D b1 b2 m m
  ri : IReads wr ai zi ci (pick m true N.toNat)
  ro : IReads wr ao zo co (pick m false N.toNat)
theorem Ms.by {w wr w' : World} {N K D : Int} {b1 b2 : Nat} {m : Nat → Bool} {ai ao : Option Addr} {zi ci zo co : Nat} (h : Ms w wr N K D b1 b2 m ai ao zi ci zo co) (B : Below wr.heap.size wr w') : Ms w w' N K D b1 b2 m ai ao zi ci zo co := ⟨h.sh.by B, h.ri.by B, h.ro.by B⟩
theorem Ms.sizes {w wr : World} {N K D : Int} {b1 b2 : Nat} {m : Nat → Bool} {ai ao : Option Addr} {zi ci zo co : Nat} (h : Ms w wr N K D b1 b2 m ai ao zi ci zo co) : zi = sz m N ∧ zi + zo = N.toNat ∧ zi ≤ ci ∧ zo ≤ co := by
  have a := h.ri.length
  have b := h.ro.length
  rw [pick_length, cnt_true] at a
  rw [pick_length] at b
  have c := cnt_false m N.toNat
  exact ⟨a.symm, by omega, h.ri.room, h.ro.room⟩
set_option maxRecDepth 100000 in
set_option maxHeartbeats 4000000 in
theorem meets (N0 K0 D0 : Int) (a1 a2 : Option Addr) (len1 cap1 len2 cap2 : Nat) (l1 l2 : List Int) (w : World) (r1 : IReads w a1 len1 cap1 l1) (r2 : IReads w a2 len2 cap2 l2) :
    Calls Try.prog 3 #[.agg #[.int .i64 N0, .int .i64 K0, .int .i64 D0], .slice a1 len1 cap1, .slice a2 len2 cap2] w fun x w' => x = .returned (.bool true) ∧ Below w.heap.size w w' := by
  have k1 := r1.room
  have k2 := r2.room
  have s1 := r1.small
  have s2 := r2.small
  unfold maxLen at s1 s2
  have L1 := r1.length
  have L2 := r2.length
  have R1 : Hid (IReads w a1 len1 cap1 l1) := r1
  have R2 : Hid (IReads w a2 len2 cap2 l2) := r2
  clear r1 r2
  have C0 : Hid (Cf w (w.alloc (Obj.cells #[.int .i64 N0, .int .i64 K0, .int .i64 D0] 23)) N0 K0 D0) := Cf.start w N0 K0 D0
  go_enter Try.func3, Try.ntmps3
  go_wp2_with fail
  refine (may N0 K0 D0 _).mono ?_
  rintro e w1 ⟨N, K, D, rfl, hok, b1⟩
  have OK : Hid (okC N K D) := hok
  have C1 : Hid (Cf w w1 N0 K0 D0) := C0.out.by b1
  obtain ⟨q0, q1, q2⟩ := C1.out.cells
  obtain ⟨f0, f1, f2⟩ := C1.out.soft
  have C2 : Hid (Cf w (((w1.setCell ⟨w.heap.size, 0, none⟩ (.int .i64 N)).setCell ⟨w.heap.size, 1, none⟩ (.int .i64 K)).setCell ⟨w.heap.size, 2, none⟩ (.int .i64 D)) N K D) := C1.out.store N K D
  clear b1 C0 C1 hok
  go_upto_region 2 with fail
  clear q0 q1 q2 f0 f1 f2
  obtain ⟨w2, hw2⟩ : ∃ w2, (((w1.setCell ⟨w.heap.size, 0, none⟩ (.int .i64 N)).setCell ⟨w.heap.size, 1, none⟩ (.int .i64 K)).setCell ⟨w.heap.size, 2, none⟩ (.int .i64 D)) = w2 := ⟨_, rfl⟩
  rw [hw2] at C2 ⊢
  clear hw2
  obtain ⟨q0, q1, q2⟩ := C2.out.cells
  obtain ⟨Q1, Q2, Q3, Q4⟩ := quo_low N K D OK.out
  have Q5 : 2 * (quo N K - 1) < N + K := by have := OK.out; unfold quo; omega
  obtain ⟨qv, hq⟩ : ∃ x, quo N K = x := ⟨_, rfl⟩
  have HQ : Hid (quo N K = qv) := hq
  rw [hq] at Q1 Q2 Q3 Q4 Q5
  clear hq
  have nb : 1 ≤ K ∧ K ≤ N ∧ N ≤ 255 := ⟨OK.out.1, OK.out.2.1, OK.out.2.2.1⟩
  go_wp2_with fail
  refine (new_ok N K D _ OK.out).mono ?_
  rintro e w11 ⟨A2, hA, rfl, hS, b11⟩
  have CB : Hid (Cf w w11 N K D ∧ IsS w11 A2 N K D (fun _ => false) ∧ w.heap.size < A2) := ⟨C2.out.by b11, hS, by have := block_lt C2.out.blk; omega⟩
  clear b11 C2 q0 q1 q2 hS hA
  obtain ⟨q0, q1, q2⟩ := CB.out.1.cells
  go_wp2_with fail
  refine (new_ok N K D _ OK.out).mono ?_
  rintro e w12 ⟨B2, hB, rfl, hS, b12⟩
  have CC : Hid (Sh w w12 N K D A2 B2 (fun _ => false) (fun _ => false)) := ⟨CB.out.1.by b12, CB.out.2.1.by b12, hS, CB.out.2.2, by have := CB.out.2.1.lt; omega⟩
  clear b12 CB q0 q1 q2 hS hB
  obtain ⟨q0, q1, q2⟩ := CC.out.cf.cells
  go_wp2_with fail
  refine (down_ok N K D _ OK.out).mono ?_
  rw [HQ.out]
  rintro e w3 ⟨rfl, b3⟩
  have C3 : Hid (Sh w w3 N K D A2 B2 (fun _ => false) (fun _ => false)) := CC.out.by b3
  clear b3 CC q0 q1 q2
  obtain ⟨q0, q1, q2⟩ := C3.out.cf.cells
  go_wp2_with fail
  refine (size_ok N K D _ OK.out).mono ?_
  rw [HQ.out]
  rintro e w4 ⟨rfl, b4⟩
  have C4 : Hid (Sh w w4 N K D A2 B2 (lset (l1.take 0) N) (fun _ => false)) := by
    have := C3.out.by b4
    rw [List.take_zero, lset_nil]
    exact this
  clear b4 C3 q0 q1 q2
  obtain ⟨q0, q1, q2⟩ := C4.out.cf.cells
  go_upto_region 8 with fail
  clear q0 q1 q2
  go_wp2_with fail
  go_loopw [16, 92] (fun _ x wr => ∃ i : Nat, x = .int .i64 (i : Int) ∧ i ≤ len1 ∧ Hid (Sh w wr N K D A2 B2 (lset (l1.take i) N) (fun _ => false))) (fun _ x _ => len1 - (intOf x).toNat)
  case atStart => exact ⟨0, rfl, by omega, C4⟩
  case round =>
    obtain ⟨i, rfl, hi, F⟩ := hrel
    clear C4
    by_cases hlt : i < len1
    · obtain ⟨g, off, rfl, hc⟩ := R1.out.cells (by omega)
      have e0 := hc i hlt
      have lb : g < w.heap.size := World.block_lt_of_cell? w _ e0
      obtain ⟨y, hy⟩ : ∃ y, l1.getD i 0 = y := ⟨_, rfl⟩
      rw [hy] at e0
      have d0 : wr.cell? ⟨g, off + i, none⟩ = some (.int .i64 y) := (F.out.cf.bel.cell lb).trans e0
      have i1 : (i : Int) < (len1 : Int) := by omega
      have HT : Hid (addM (lset (l1.take i) N) N y = lset (l1.take (i + 1)) N) := by
        show addM (lset (l1.take i) N) N y = lset (l1.take (i + 1)) N
        rw [addM_lset, ← hy, lset_take l1 N i (by omega)]
      clear e0 hy hc
      go_wp2_with fail
      refine (add_any y _ F.out.s1).mono ?_
      rintro e w13 ⟨rfl, h1, h2⟩
      have F2 : Hid (Sh w w13 N K D A2 B2 (lset (l1.take (i + 1)) N) (fun _ => false)) := F.out.add1 (by rw [HT.out] at h1; exact h1) h2
      clear h1 h2 F HT
      go_wp2_with fail
      go_roundw
      case rel => exact ⟨i + 1, by go_num, by omega, F2⟩
      case measure => simp [intOf]; omega
    · have F1 : Hid (Sh w wr N K D A2 B2 (lset l1 N) (lset (l1.drop (l1.length - 0)) N)) := by
        have := F.out
        rw [List.take_of_length_le (by omega)] at this
        rw [Nat.sub_zero, List.drop_length, lset_nil]
        exact this
      clear F
      have he : i = len1 := by omega
      subst he
      clear hlt hi
      go_wp2_with fail
      go_loopw [17, 102] (fun _ x wr => ∃ j : Nat, x = .int .i64 (j : Int) ∧ j ≤ i ∧ Hid (Sh w wr N K D A2 B2 (lset l1 N) (lset (l1.drop (l1.length - j)) N))) (fun _ x _ => i - (intOf x).toNat)
      case atStart => exact ⟨0, rfl, by omega, F1⟩
      case round =>
        obtain ⟨j, rfl, hj, F⟩ := hrel
        clear F1
        by_cases hlt : j < i
        · obtain ⟨g, off, rfl, hc⟩ := R1.out.cells (by omega)
          have e0 := hc (i - 1 - j) (by omega)
          have lb : g < w.heap.size := World.block_lt_of_cell? w _ e0
          obtain ⟨y, hy⟩ : ∃ y, l1.getD (i - 1 - j) 0 = y := ⟨_, rfl⟩
          rw [hy] at e0
          have d0 : wr.cell? ⟨g, off + (i - 1 - j), none⟩ = some (.int .i64 y) := (F.out.cf.bel.cell lb).trans e0
          have HT : Hid (addM (lset (l1.drop (l1.length - j)) N) N y = lset (l1.drop (l1.length - (j + 1))) N) := by
            show addM (lset (l1.drop (l1.length - j)) N) N y = lset (l1.drop (l1.length - (j + 1))) N
            rw [addM_lset, ← hy, ← L1, lset_drop l1 N j (by omega)]
          obtain ⟨t, ht⟩ : ∃ t : Nat, t = i - 1 - j := ⟨_, rfl⟩
          rw [← ht] at d0
          have et : (i : Int) - 1 - (j : Int) = (t : Int) := by omega
          have et1 : IntKind.i64.wrap ((i : Int) - 1) = (i : Int) - 1 := by rw [IntKind.wrap_i64]; omega
          have et2 : (t : Int) < (i : Int) := by omega
          clear e0 hy hc ht
          go_wp2_with fail
          refine (add_any y _ F.out.s2).mono ?_
          rintro e w13 ⟨rfl, h1, h2⟩
          have F2 : Hid (Sh w w13 N K D A2 B2 (lset l1 N) (lset (l1.drop (l1.length - (j + 1))) N)) := F.out.add2 (by rw [HT.out] at h1; exact h1) h2
          clear h1 h2 F HT et et1 et2
          go_wp2_with fail
          go_roundw
          case rel => exact ⟨j + 1, by go_num, by omega, F2⟩
          case measure => simp [intOf]; omega
        · have F2 : Hid (Sh w wr N K D A2 B2 (lset l1 N) (lset l1 N)) := by
            have := F.out
            have e : l1.length - j = 0 := by omega
            rw [e, List.drop_zero] at this
            exact this
          have he : j = i := by omega
          subst he
          clear hlt hj F
          go_wp2_with fail
          go_loopw [19, 118] (fun _ x wr => ∃ k : Nat, x = .int .i64 (k : Int) ∧ k ≤ len2 ∧ Hid (Sh w wr N K D A2 B2 (lset l1 N) (lset l1 N))) (fun _ x _ => len2 - (intOf x).toNat)
          case atStart => exact ⟨0, rfl, by omega, F2⟩
          case round =>
            obtain ⟨k, rfl, hk, F⟩ := hrel
            clear F2
            by_cases hlt : k < len2
            · obtain ⟨g, off, rfl, hc⟩ := R2.out.cells (by omega)
              have e0 := hc k hlt
              have lb : g < w.heap.size := World.block_lt_of_cell? w _ e0
              obtain ⟨y, hy⟩ : ∃ y, l2.getD k 0 = y := ⟨_, rfl⟩
              rw [hy] at e0
              have d0 : wr.cell? ⟨g, off + k, none⟩ = some (.int .i64 y) := (F.out.cf.bel.cell lb).trans e0
              have i1 : (k : Int) < (len2 : Int) := by omega
              clear e0 hy hc
              cases hm : memI (lset l1 N) y
              · go_wp2_with fail
                refine (has y _ F.out.s1).mono ?_
                rw [hm]
                rintro e w13 ⟨rfl, rfl⟩
                clear hm
                go_wp2_with fail
                go_roundw
                case rel => exact ⟨k + 1, by go_num, by omega, F⟩
                case measure => simp [intOf]; omega
              · have HT : Hid (addM (lset l1 N) N y = lset l1 N) := by
                  show addM (lset l1 N) N y = lset l1 N
                  rw [addM_lset]
                  apply lset_congr
                  intro z
                  rw [lset_mem] at hm
                  simp at hm
                  simp only [List.mem_cons]
                  constructor
                  · rintro (rfl | q)
                    · exact hm.2
                    · exact q
                  · exact fun q => .inr q
                go_wp2_with fail
                refine (has y _ F.out.s1).mono ?_
                rw [hm]
                rintro e w13 ⟨rfl, rfl⟩
                clear hm
                go_wp2_with fail
                refine (add_any y _ F.out.s2).mono ?_
                rintro e w14 ⟨rfl, h1, h2⟩
                have F2 : Hid (Sh w w14 N K D A2 B2 (lset l1 N) (lset l1 N)) := F.out.add2 (by rw [HT.out] at h1; exact h1) h2
                clear h1 h2 F HT
                go_wp2_with fail
                go_roundw
                case rel => exact ⟨k + 1, by go_num, by omega, F2⟩
                case measure => simp [intOf]; omega
            · have he : k = len2 := by omega
              subst he
              clear hlt hk
              obtain ⟨m, hm⟩ : ∃ m, lset l1 N = m := ⟨_, rfl⟩
              rw [hm] at F
              clear hm R1 R2 s1 s2 L1 L2 k1 k2
              go_wp2_with fail
              refine (list _ F.out.s1).mono ?_
              rintro e w15 ⟨v, rfl, ho, b15⟩
              obtain ⟨ai, ci, rfl, hri, _⟩ := owns_ireads ho
              obtain ⟨zi, hzi⟩ : ∃ z, (pick m true N.toNat).length = z := ⟨_, rfl⟩
              rw [hzi] at hri ⊢
              have G1 : Hid (Sh w w15 N K D A2 B2 m m ∧ IReads w15 ai zi ci (pick m true N.toNat)) := ⟨F.out.by b15, hri⟩
              clear F ho hri b15 hzi
              go_wp2_with fail
              refine (rest _ G1.out.1.s1).mono ?_
              rintro e w16 ⟨v, rfl, ho, b16⟩
              obtain ⟨ao, co, rfl, hro, _⟩ := owns_ireads ho
              obtain ⟨zo, hzo⟩ : ∃ z, (pick m false N.toNat).length = z := ⟨_, rfl⟩
              rw [hzo] at hro ⊢
              have G2 : Hid (Ms w w16 N K D A2 B2 m ai ao zi ci zo co) := ⟨G1.out.1.by b16, G1.out.2.by b16, hro⟩
              clear G1 ho hro b16 hzo
              obtain ⟨g1, g2, g3, g4⟩ := G2.out.sizes
              have ME : Hid (metB m N K = decide (qv ≤ (zi : Int))) := by
                show metB m N K = decide (qv ≤ (zi : Int))
                unfold metB; rw [HQ.out, g1]
              clear g1
              go_upto_region 26 with fail
              go_cut [172] from 133 to 171 (fun x wc => x = .bool false ∧ Hid (Ms w wc N K D A2 B2 m ai ao zi ci zo co))
              case first =>
                obtain ⟨q0, q1, q2⟩ := G2.out.sh.cf.cells
                have zN : (zi : Int) + (zo : Int) = N := by omega
                go_wp2_with fail
                refine (list _ G2.out.sh.s2).mono ?_
                rintro e w17 ⟨v, rfl, ho, b17⟩
                obtain ⟨at', ct, rfl, hrt, _⟩ := owns_ireads ho
                have G3 : Hid (Ms w w17 N K D A2 B2 m ai ao zi ci zo co ∧ IReads w17 at' (pick m true N.toNat).length ct (pick m true N.toNat)) := ⟨G2.out.by b17, hrt⟩
                obtain ⟨zt, hzt⟩ : ∃ z, (pick m true N.toNat).length = z := ⟨_, rfl⟩
                rw [hzt] at G3 ⊢
                clear G2 ho hrt b17 q0 q1 q2 hzt
                go_wp2_with fail
                refine (sameInts ai at' zi ci zt ct _ _ _ G3.out.1.ri G3.out.2).mono ?_
                rintro e w18 ⟨rfl, kd, rfl⟩
                rw [decide_eq_true rfl]
                have G4 : Hid (Ms w (w17.drewN kd) N K D A2 B2 m ai ao zi ci zo co) := G3.out.1.by (below_drewN _ _)
                clear G3
                obtain ⟨w18, hw18⟩ : ∃ x, w17.drewN kd = x := ⟨_, rfl⟩
                rw [hw18] at G4 ⊢
                clear hw18
                by_cases hmet : qv ≤ (zi : Int)
                · have hm2 : metB m N K = true := ME.out.trans (decide_eq_true hmet)
                  have hm3 : (zo : Int) ≤ N - qv := by omega
                  go_wp2_with fail
                  refine (met _ G4.out.sh.s1).mono ?_
                  rw [hm2]
                  rintro e w19 ⟨rfl, b19⟩
                  have G5 : Hid (Ms w w19 N K D A2 B2 m ai ao zi ci zo co) := G4.out.by b19
                  clear b19 G4
                  go_wp2_with fail
                  refine (met _ G5.out.sh.s1).mono ?_
                  rw [hm2]
                  rintro e w20 ⟨rfl, b20⟩
                  have G6 : Hid (Ms w w20 N K D A2 B2 m ai ao zi ci zo co) := G5.out.by b20
                  clear b20 G5 hm2
                  obtain ⟨q0, q1, q2⟩ := G6.out.sh.cf.cells
                  go_wp2_with fail
                  refine (len _ G6.out.sh.s1).mono ?_
                  rw [← G6.out.sizes.1]
                  rintro e w21 ⟨rfl, rfl⟩
                  go_wp2_with fail
                  go_meet
                  case rel => exact ⟨rfl, G6⟩
                · have hm2 : metB m N K = false := ME.out.trans (decide_eq_false hmet)
                  have hm3 : ¬ (zo : Int) ≤ N - qv := by omega
                  go_wp2_with fail
                  refine (met _ G4.out.sh.s1).mono ?_
                  rw [hm2]
                  rintro e w19 ⟨rfl, b19⟩
                  have G5 : Hid (Ms w w19 N K D A2 B2 m ai ao zi ci zo co) := G4.out.by b19
                  clear b19 G4
                  go_wp2_with fail
                  refine (met _ G5.out.sh.s1).mono ?_
                  rw [hm2]
                  rintro e w20 ⟨rfl, b20⟩
                  have G6 : Hid (Ms w w20 N K D A2 B2 m ai ao zi ci zo co) := G5.out.by b20
                  clear b20 G5 hm2
                  obtain ⟨q0, q1, q2⟩ := G6.out.sh.cf.cells
                  go_wp2_with fail
                  refine (len _ G6.out.sh.s1).mono ?_
                  rw [← G6.out.sizes.1]
                  rintro e w21 ⟨rfl, rfl⟩
                  go_wp2_with fail
                  go_meet
                  case rel => exact ⟨by simp; omega, G6⟩
              case rest =>
              obtain ⟨rfl, G⟩ := hcut
              clear G2 ME
              obtain ⟨q0, q1, q2⟩ := G.out.sh.cf.cells
              have z5 : zi ≤ 255 ∧ zo ≤ 255 := by omega
              go_wp2_with fail
              clear q0 q1 q2
              go_loopw [22, 23, 24, 175] (fun s22 s23 _ s175 wr => ∃ x ci' co' : Nat, s175 = .int .i64 (x : Int) ∧ s22 = .int .i64 (ci' : Int) ∧ s23 = .int .i64 (co' : Int) ∧ (x : Int) ≤ N ∧ ci' ≤ zi ∧ co' ≤ zo ∧ Hid (ci' = Q.cnt (fun i => m i == true) x ∧ co' = Q.cnt (fun i => m i == false) x ∧ wr = wc)) (fun _ _ _ s175 _ => N.toNat - (intOf s175).toNat)
              case atStart => exact ⟨0, 0, 0, rfl, rfl, rfl, by omega, by omega, by omega, rfl, rfl, rfl⟩
              case round =>
                obtain ⟨x, xi, xo, rfl, rfl, rfl, hx, hxi, hxo, H⟩ := hrel
                obtain ⟨h1, h2, rfl⟩ := H.out
                clear H
                by_cases hlt : (x : Int) < N
                · by_cases hmx : m x = true
                  · obtain ⟨p1, p2⟩ := pick_at m true x N.toNat (by omega) hmx
                    rw [← h1, G.out.ri.length] at p1
                    rw [← h1] at p2
                    obtain ⟨g, off, rfl, hc⟩ := G.out.ri.cells (by omega)
                    have d0 := hc xi p1
                    rw [p2] at d0
                    have N1 : Hid (xi + 1 = Q.cnt (fun i => m i == true) (x + 1) ∧ xo = Q.cnt (fun i => m i == false) (x + 1)) := by
                      refine ⟨?_, ?_⟩
                      · simp only [Q.cnt]; rw [hmx, ← h1]; rfl
                      · simp only [Q.cnt]; rw [hmx, ← h2]; rfl
                    have i1 : (xi : Int) < (zi : Int) := by omega
                    clear hc p2 h1 h2 hmx
                    go_wp2_with fail
                    go_roundw
                    case rel => exact ⟨x + 1, xi + 1, xo, by go_num, by go_num, rfl, by omega, by omega, by omega, N1.out.1, N1.out.2, trivial⟩
                    case measure => simp [intOf]; omega
                  · have hmf : m x = false := by simpa using hmx
                    obtain ⟨p1, p2⟩ := pick_at m false x N.toNat (by omega) hmf
                    rw [← h2, G.out.ro.length] at p1
                    rw [← h2] at p2
                    obtain ⟨g, off, rfl, hc⟩ := G.out.ro.cells (by omega)
                    have d0 := hc xo p1
                    rw [p2] at d0
                    have N1 : Hid (xi = Q.cnt (fun i => m i == true) (x + 1) ∧ xo + 1 = Q.cnt (fun i => m i == false) (x + 1)) := by
                      refine ⟨?_, ?_⟩
                      · simp only [Q.cnt]; rw [hmf, ← h1]; rfl
                      · simp only [Q.cnt]; rw [hmf, ← h2]; rfl
                    have i1 : (xo : Int) < (zo : Int) := by omega
                    by_cases hxz : xi < zi
                    · have pn := pick_not m true x N.toNat xi (by rw [G.out.ri.length]; exact hxz) hmx
                      obtain ⟨g2, off2, rfl, hc2⟩ := G.out.ri.cells (by omega)
                      have d1 := hc2 xi hxz
                      obtain ⟨y, hy⟩ : ∃ y, (pick m true N.toNat).getD xi 0 = y := ⟨_, rfl⟩
                      rw [hy] at d1 pn
                      have i2 : (xi : Int) < (zi : Int) := by omega
                      clear hc p2 h1 h2 hmx hmf hc2 hy
                      go_wp2_with fail
                      go_roundw
                      case rel => exact ⟨x + 1, xi, xo + 1, by go_num, rfl, by go_num, by omega, by omega, by omega, N1.out.1, N1.out.2, trivial⟩
                      case measure => simp [intOf]; omega
                    · have i2 : ¬ (xi : Int) < (zi : Int) := by omega
                      clear hc p2 h1 h2 hmx hmf
                      go_wp2_with fail
                      go_roundw
                      case rel => exact ⟨x + 1, xi, xo + 1, by go_num, rfl, by go_num, by omega, by omega, by omega, N1.out.1, N1.out.2, trivial⟩
                      case measure => simp [intOf]; omega
                · clear h1 h2
                  go_wp2_with fail
                  refine (taken _).mono ?_
                  rintro e w22 ⟨rfl, b22⟩
                  have BB : Hid (Below w.heap.size w w22) := G.out.sh.cf.bel.trans (b22.mono G.out.sh.cf.bel.size)
                  clear b22
                  go_wp2_with fail
                  go_ret
                  exact ⟨rfl, BB.out⟩
end Go.Proofs.Ythcnpijgfhinhaa
