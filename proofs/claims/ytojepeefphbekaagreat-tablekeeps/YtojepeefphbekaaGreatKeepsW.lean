import Derived.Test.YtojepeefphbekaaGreatDoneWJ
import Derived.Test.YtojepeefphbekaaGreatTurns
namespace Go.Proofs.YtojepeefphbekaaGreat
open Go.RowKit 

def mv0 : Mv := ⟨0, false, false, 0, 0⟩
def mv3 : Mv := ⟨0, false, false, 3, 0⟩
theorem src_mv2 {w : World} {b : Nat} (h : w.heap[b]? = some (.cells #[.int .i64 0, .bool false, .bool false, .int .i64 0, .int .i64 0, .int .i64 0, .bool false, .bool false, .int .i64 3, .int .i64 0] 28 (0, 0))) : Src Tryz.prog 5 22 (.slice (some ⟨b, 0, none⟩) 2 2) 2 (mcells [mv0, mv3]) w :=
  Src.ofSlice w Tryz.underlying22 ⟨b, 0, none⟩ 2 2 (mcells [mv0, mv3]) rfl (fun j u hj => by
    rw [Addr.add_none, Nat.zero_add, cell_of_row w b j _ 28 (0, 0) h]
    simpa [mcells, encM, mv0, mv3] using hj) (fun v hv => by simp [mcells, encM, mv0, mv3] at hv; rcases hv with rfl | rfl | rfl | rfl | rfl | rfl <;> rfl)
set_option maxRecDepth 100000 in
set_option maxHeartbeats 16000000 in
/-- TableKeeps. -/
theorem keepsWalk (d : Int) (a : Option Addr) (len cap : Nat) (l : List Mv) (w : World) (r : MReads w a len cap l) (hl : len ≤ 4398046510976) : Calls Tryz.prog 3 #[.int .i64 d, .slice a len cap] w fun o w' => o = .returned (.bool true) ∧ Kept (fun _ => False) w w' := by
  obtain ⟨dd, hdd⟩ : ∃ dd, dd = d % 5 := ⟨_, rfl⟩
  have d0 : 0 ≤ dd := by rw [hdd]; exact Int.emod_nonneg d (by omega)
  have d4 : dd < 5 := by rw [hdd]; exact Int.emod_lt_of_pos d (by omega)
  have SM : Hid (∀ V : World, Calls Tryz.prog 8 #[.int .i64 d] V fun o w' => o = .returned (.int .i64 dd) ∧ w' = V) := by rw [hdd]; exact fun V => small d V
  have HM : Hid (MReads w a len cap l) := r
  have lL := r.length
  have BL1 : Hid (0 + len ≤ maxLen ∧ ((0 + len) + (0 + len) / 4 + 192) * 32 ≤ 281474976710656) := by
    unfold maxLen
    exact ⟨by omega, by omega⟩
  have BL2 : Hid (len + 2 ≤ maxLen ∧ ((len + 2) + (len + 2) / 4 + 192) * 32 ≤ 281474976710656) := by
    unfold maxLen
    exact ⟨by omega, by omega⟩
  clear hdd r
  go_enter Tryz.func3, Tryz.ntmps3
  go_wp2_with fail
  refine (SM.out w).mono ?_
  rintro o w0 ⟨rfl, hw0⟩
  subst hw0
  obtain ⟨eb, heb⟩ : ∃ eb, eb = w0.heap.size := ⟨_, rfl⟩
  have OE : Hid ((w0.alloc (.cells #[] 28)).ownsRow eb 28 5 (.slice (some ⟨eb, 0, none⟩) 0 0) 0 [] ∧ MReads (w0.alloc (.cells #[] 28)) a len cap l ∧ eb = w0.heap.size) := by
    refine ⟨⟨rfl, .inr ⟨eb, 0, #[], rfl, Nat.le_refl _, by rw [heb]; exact heap_alloc_new _ _, Nat.le_refl _, by unfold maxLen; omega, rfl, rfl⟩⟩, HM.out.by (k0_alloc _ _) (fun _ _ z => z), heb⟩
  go_wp2_with
    (first
      | (at_builtin; rw [← heb]; refine wpList_append_all _ rfl (.tmp 29) (.tmp 30) 22 28 22 _ 5 32 rfl Tryz.underlying22 Tryz.info28c rfl eb (.slice (some ⟨eb, 0, none⟩) 0 0) 0 [] rfl OE.out.1 _ len (mcells l) rfl (src_moves OE.out.2.1) BL1.out.1 BL1.out.2 (by rw [OE.out.2.2]; exact (k0_alloc w0 _).size) ?_; intro p9 c9 w9 ho hg hn
         have G9 : Hid (w9.ownsRow eb 28 5 (.slice p9 len c9) len (mcells l) ∧ Kept (fun _ => False) w0 w9) := by
           have K9 : Kept (fun _ => False) w0 w9 := ((k0_alloc w0 (.cells #[] 28)).mono (fun _ _ z => z.elim)).trans ((Kept.refl (fun k => k = eb) _).grown hg.out (fun k _ z => by simp [Value.ownBlock] at z; exact z.symm)) (fun j hj z => by have z : j = eb := z; omega)
           exact ⟨by have := ho.out; rw [Nat.zero_add, List.nil_append] at this; exact this, K9⟩
         clear ho hg hn)
      | (at_builtin; refine wpList_append_all _ rfl (.tmp 31) (.tmp 34) 22 28 22 _ 5 32 rfl Tryz.underlying22 Tryz.info28c rfl eb (.slice p9 len c9) len (mcells l) rfl ((k0_alloc w9 _).owns G9.out.1 (fun _ _ z => z)) _ 2 (mcells [mv0, mv3]) rfl (src_mv2 (heap_alloc_new w9 _)) BL2.out.1 BL2.out.2 (by rw [OE.out.2.2]; exact Nat.le_trans G9.out.2.size (k0_alloc w9 _).size) ?_; intro p10 c10 w10 ho hg hn
         have G10 : Hid (MReads w10 p10 (len + 2) c10 (l ++ [mv0, mv3]) ∧ Kept (fun _ => False) w0 w10) := by
           refine ⟨mreads_of (b0 := eb) (L := l ++ [mv0, mv3]) ?_ (by rw [List.length_append, lL]; rfl), G9.out.2.trans (((Kept.refl (fun k => blockOf p9 = some k) _).alloc _).grown hg.out (fun k _ z => by rw [blockOf_own] at z; exact z)) (fun j hj z => ?_)⟩
           · have := ho.out
             rw [← mcells_append] at this
             exact this
           · have := (own_lt G9.out.1 j z).1
             have := OE.out.2.2
             omega
         clear ho hg hn)
      | fail)
  refine (tDoneW dd p10 (len + 2) c10 (l ++ [mv0, mv3]) w10 G10.out.1 (by omega) d0 (by omega)).mono ?_
  rintro o w11 ⟨tb, rfl, Q11⟩
  obtain ⟨L2, hL2⟩ : ∃ L2, L2 = l ++ [mv0, mv3] := ⟨_, rfl⟩
  have HD : Hid ((∃ t, Dst w10 w11 dd t L2 ∧ t.tb = tb) ∧ L2.length ≤ 4398046511000 ∧ Kept (fun _ => False) w0 w11 ∧ L2 = l ++ [mv0, mv3]) := by
    obtain ⟨t, q1, q2⟩ := Q11.out
    rw [hL2]
    exact ⟨⟨t, q1, q2⟩, by rw [List.length_append, lL]; show len + 2 ≤ _; omega, G10.out.2.and0 q1.kept, rfl⟩
  clear Q11 G10 OE heb hL2 SM
  obtain ⟨eb2, heb⟩ : ∃ eb2, eb2 = w11.heap.size := ⟨_, rfl⟩
  have OE : Hid ((w11.alloc (.cells #[] 28)).ownsRow eb2 28 5 (.slice (some ⟨eb2, 0, none⟩) 0 0) 0 [] ∧ MReads (w11.alloc (.cells #[] 28)) a len cap l ∧ eb2 = w11.heap.size) := by
    refine ⟨⟨rfl, .inr ⟨eb2, 0, #[], rfl, Nat.le_refl _, by rw [heb]; exact heap_alloc_new _ _, Nat.le_refl _, by unfold maxLen; omega, rfl, rfl⟩⟩, HM.out.by (HD.out.2.2.1.and0 (k0_alloc _ _)) (fun _ _ z => z), heb⟩
  go_wp2_with
    (first
      | (at_builtin; rw [← heb]; refine wpList_append_all _ rfl (.tmp 43) (.tmp 44) 22 28 22 _ 5 32 rfl Tryz.underlying22 Tryz.info28c rfl eb2 (.slice (some ⟨eb2, 0, none⟩) 0 0) 0 [] rfl OE.out.1 _ len (mcells l) rfl (src_moves OE.out.2.1) BL1.out.1 BL1.out.2 (by rw [OE.out.2.2]; exact (k0_alloc w11 _).size) ?_; intro p12 c12 w12 ho hg hn
         have G12 : Hid (w12.ownsRow eb2 28 5 (.slice p12 len c12) len (mcells l) ∧ Kept (fun _ => False) w11 w12) := by
           have K9 : Kept (fun _ => False) w11 w12 := ((k0_alloc w11 (.cells #[] 28)).mono (fun _ _ z => z.elim)).trans ((Kept.refl (fun k => k = eb2) _).grown hg.out (fun k _ z => by simp [Value.ownBlock] at z; exact z.symm)) (fun j hj z => by have z : j = eb2 := z; omega)
           exact ⟨by have := ho.out; rw [Nat.zero_add, List.nil_append] at this; exact this, K9⟩
         clear ho hg hn)
      | (at_builtin; refine wpList_append_all _ rfl (.tmp 45) (.tmp 48) 22 28 22 _ 5 32 rfl Tryz.underlying22 Tryz.info28c rfl eb2 (.slice p12 len c12) len (mcells l) rfl ((k0_alloc w12 _).owns G12.out.1 (fun _ _ z => z)) _ 2 (mcells [mv0, mv3]) rfl (src_mv2 (heap_alloc_new w12 _)) BL2.out.1 BL2.out.2 (by rw [OE.out.2.2]; exact Nat.le_trans G12.out.2.size (k0_alloc w12 _).size) ?_; intro p13 c13 w13 ho hg hn
         have G13 : Hid (MReads w13 p13 (len + 2) c13 L2 ∧ Kept (fun _ => False) w11 w13) := by
           rw [HD.out.2.2.2]
           refine ⟨mreads_of (b0 := eb2) (L := l ++ [mv0, mv3]) ?_ (by rw [List.length_append, lL]; rfl), G12.out.2.trans (((Kept.refl (fun k => blockOf p12 = some k) _).alloc _).grown hg.out (fun k _ z => by rw [blockOf_own] at z; exact z)) (fun j hj z => ?_)⟩
           · have := ho.out
             rw [← mcells_append] at this
             exact this
           · have := (own_lt G12.out.1 j z).1
             have := OE.out.2.2
             omega
         clear ho hg hn)
      | fail)
  refine (tDoneW dd p13 (len + 2) c13 L2 w13 G13.out.1 (by omega) d0 (by omega)).mono ?_
  rintro o w14 ⟨tbW, rfl, Q14⟩
  obtain ⟨t, dt, et⟩ := HD.out.1
  obtain ⟨tw, dw, ew⟩ := Q14.out
  have X0 : Hid (Dst w10 w14 dd t L2 ∧ t.tb = tb ∧ Dst w13 w14 dd tw L2 ∧ tw.tb = tbW ∧ Kept (fun _ => False) w0 w14 ∧ L2.length ≤ 4398046511000) := by
    have K := G13.out.2.and0 dw.kept
    exact ⟨dt.k0 K, et, dw, ew, HD.out.2.2.1.and0 K, HD.out.2.1⟩
  clear Q14 G13 OE heb HD dt et dw ew BL1 BL2 HM lL hl
  go_wp2_with fail
  refine (dCopy X0.out.1 X0.out.2.1 (by have := X0.out.2.2.2.2.2; omega)).mono ?_
  rintro o WB ⟨tbC, rfl, Q15⟩
  obtain ⟨cc, dc, ec⟩ := Q15.out
  have X : Hid (Dst w10 WB dd t L2 ∧ t.tb = tb ∧ Dst w13 WB dd tw L2 ∧ tw.tb = tbW ∧ Dst w14 WB dd cc L2 ∧ cc.tb = tbC ∧ Kept (fun _ => False) w0 WB ∧ L2.length ≤ 4398046511000) := ⟨X0.out.1.k0 dc.kept, X0.out.2.1, X0.out.2.2.1.k0 dc.kept, X0.out.2.2.2.1, dc, ec, X0.out.2.2.2.2.1.and0 dc.kept, X0.out.2.2.2.2.2⟩
  have L2l : L2.length ≤ 4398046511104 := by have := X0.out.2.2.2.2.2; omega
  clear Q15 X0 dc ec
  have T0 : Hid (∃ T, Tld WB WB none 0 0 T []) := ⟨[], Tld.nil WB⟩
  go_wp2_with fail
  go_loopw [10, 12, 13, 14, 16, 18, 20, 21, 22, 55] (fun y _ _ _ _ _ _ _ _ z wr => ∃ (r n c : Nat) (p : Option Addr), y = .slice p n c ∧ z = .int .i64 (r : Int) ∧ r ≤ 2 ∧ n ≤ 720 * r ∧ Hid (∃ T, Tld WB wr p n c T [])) (fun _ _ _ _ _ _ _ _ _ z _ => 2 - (intOf z).toNat)
  case atStart => exact ⟨0, 0, 0, none, rfl, rfl, by omega, by omega, T0⟩
  case round =>
    obtain ⟨rd, n, c, p, rfl, rfl, hr, hn, S⟩ := hrel
    obtain ⟨wq, hwq⟩ : ∃ wq, wq = wr := ⟨_, rfl⟩
    rw [← hwq] at S ⊢
    clear hwq T0
    by_cases hrl : rd < 2
    · have r1 : (rd : Int) < 2 := by omega
      obtain ⟨T, tl⟩ := S.out
      have Y : Hid (Tld WB wq p n c T [] ∧ Dst w10 wq dd t L2) := ⟨tl, X.out.1.k0 tl.kept⟩
      clear tl S
      go_wp2_with fail
      refine (dAllO Y.out.2 X.out.2.1 L2l).mono ?_
      rintro o w16 ⟨p1, n1, c1, hs, rfl, A1⟩
      have n3 : n1 ≤ 3 := A1.out.2.2.1
      have rm := own_room A1.out.1.row
      unfold maxLen at rm
      obtain ⟨rm1, rm2⟩ := rm
      have U0 : Hid (∃ T, Tld WB w16 p n c T (((hs.drop 0).flatMap fun h => h.2).map d3) ∧ AX wq.heap.size w16 p1 n1 c1 hs 0 ∧ n + ((hs.drop 0).flatMap fun h => h.2).length ≤ 720 * rd + 180 ∧ WB.heap.size ≤ wq.heap.size) := by
        refine ⟨T, ?_, A1.out.1.ax, ?_, Y.out.1.kept.size⟩
        · have := Y.out.1.add A1.out.2.2.2 A1.out.1.data.ol
          rw [List.nil_append] at this
          exact this
        · have := A1.out.2.1
          rw [List.drop_zero]
          omega
      clear A1 Y
      go_wp2_with fail
      go_loopw [10, 12, 13, 14, 60] (fun y _ _ _ z wr => ∃ (i n c : Nat) (p : Option Addr), y = .slice p n c ∧ z = .int .i64 (i : Int) ∧ i ≤ n1 ∧ Hid (∃ T, Tld WB wr p n c T (((hs.drop i).flatMap fun h => h.2).map d3) ∧ AX wq.heap.size wr p1 n1 c1 hs i ∧ n + ((hs.drop i).flatMap fun h => h.2).length ≤ 720 * rd + 180 ∧ WB.heap.size ≤ wq.heap.size)) (fun _ _ _ _ z _ => n1 - (intOf z).toNat)
      case atStart => exact ⟨0, n, c, p, rfl, rfl, Nat.zero_le _, U0⟩
      case round =>
        obtain ⟨i, n2, c2, p2, rfl, rfl, hi, S⟩ := hrel
        obtain ⟨wp, hwp⟩ : ∃ wp, wp = wr := ⟨_, rfl⟩
        rw [← hwp] at S ⊢
        clear hwp U0
        by_cases hil : i < n1
        · have i1 : (i : Int) < (n1 : Int) := by omega
          obtain ⟨T2, tl, ax, nb, wb⟩ := S.out
          obtain ⟨b1, key, ea, em, eq, L, rfl, hv, d0', d1'⟩ := ax.at hil
          obtain ⟨hv1, hv2⟩ := List.getElem?_eq_some_iff.1 hv
          obtain ⟨le, ow⟩ := ax.ents i hv1 (Nat.le_refl _)
          rw [hv2] at le ow
          have le : L.length = em := le
          have ow : wp.ownsRow wq.heap.size 40 5 (.slice ea em eq) em (ecells L) := ow
          have mq := own_room ow
          unfold maxLen at mq
          obtain ⟨mq1, mq2⟩ := mq
          have dr : hs.drop i = ((key, ea, em, eq), L) :: hs.drop (i + 1) := by rw [List.drop_eq_getElem_cons hv1, hv2]
          obtain ⟨W1, hW1⟩ : ∃ W1, W1 = wp.alloc (.cells #[.string key, .slice ea em eq] 35) := ⟨_, rfl⟩
          obtain ⟨X1, hX1⟩ : ∃ X1, X1 = wp.heap.size := ⟨_, rfl⟩
          have HX : Hid (∃ hi2 : i < hs.length, hs[i] = ((key, ea, em, eq), L)) := ⟨hv1, hv2⟩
          have V0 : Hid (∃ T, Tld WB W1 p2 n2 c2 T ((L.drop 0 ++ ((hs.drop (i + 1)).flatMap fun h => h.2)).map d3) ∧ AX wq.heap.size W1 (some ⟨b1, 0, none⟩) n1 c1 hs (i + 1) ∧ W1.ownsRow wq.heap.size 40 5 (.slice ea em eq) em (ecells (List.replicate 0 E0 ++ L.drop 0)) ∧ W1.heap[X1]? = some (.cells #[.string key, .slice ea em eq] 35 (0, 0)) ∧ n2 + (L.drop 0 ++ ((hs.drop (i + 1)).flatMap fun h => h.2)).length ≤ 720 * rd + 180 ∧ WB.heap.size ≤ wq.heap.size ∧ wq.heap.size ≤ X1) := by
            have K1 : Kept (fun _ => False) wp W1 := by rw [hW1]; exact k0_alloc _ _
            have e1 : (hs.drop i).flatMap (fun h => h.2) = L.drop 0 ++ ((hs.drop (i + 1)).flatMap fun h => h.2) := by rw [dr]; simp
            rw [e1] at tl nb
            refine ⟨T2, tl.k0 K1, ?_, ?_, by rw [hW1, hX1]; exact heap_alloc_new _ _, nb, wb, ?_⟩
            · have a2 := ax.k K1 (fun _ _ _ _ _ z => z)
              exact ⟨a2.len, a2.row, fun j hj z => a2.ents j hj (by omega), a2.apart⟩
            · exact K1.owns ow (fun _ _ z => z)
            · have := (own_lt ax.row b1 rfl)
              omega
          have EW1 : Hid (W1 = wp.alloc (.cells #[.string key, .slice ea em eq] 35) ∧ X1 = wp.heap.size ∧ L.length = em) := ⟨hW1, hX1, le⟩
          clear hW1 hX1 tl ax nb wb hv hv1 hv2 ow dr S le
          go_upto_region 13 with fail
          rw [← EW1.out.1, ← EW1.out.2.1]
          clear d0' d1'
          have g1 : W1.cell? ⟨X1, 1, none⟩ = some (.slice ea em eq) := by
            obtain ⟨_, _, _, _, hb, _⟩ := V0.out
            exact cell_blk hb 1 rfl
          go_wp2_with fail
          go_loopw [10, 13, 14, 67] (fun y _ _ z wr => ∃ (j n c : Nat) (p : Option Addr), y = .slice p n c ∧ z = .int .i64 (j : Int) ∧ j ≤ em ∧ Hid (∃ T, Tld WB wr p n c T ((L.drop j ++ ((hs.drop (i + 1)).flatMap fun h => h.2)).map d3) ∧ AX wq.heap.size wr (some ⟨b1, 0, none⟩) n1 c1 hs (i + 1) ∧ wr.ownsRow wq.heap.size 40 5 (.slice ea em eq) em (ecells (List.replicate j E0 ++ L.drop j)) ∧ wr.heap[X1]? = some (.cells #[.string key, .slice ea em eq] 35 (0, 0)) ∧ n + (L.drop j ++ ((hs.drop (i + 1)).flatMap fun h => h.2)).length ≤ 720 * rd + 180 ∧ WB.heap.size ≤ wq.heap.size ∧ wq.heap.size ≤ X1)) (fun _ _ _ z _ => em - (intOf z).toNat)
          case atStart => exact ⟨0, n2, c2, p2, rfl, rfl, Nat.zero_le _, V0⟩
          case round =>
            obtain ⟨j, n4, c4, p4, rfl, rfl, hj, S⟩ := hrel
            obtain ⟨wx, hwx⟩ : ∃ wx, wx = wr := ⟨_, rfl⟩
            rw [← hwx] at S ⊢
            clear hwx V0
            by_cases hjl : j < em
            · have j1 : (j : Int) < (em : Int) := by omega
              obtain ⟨T4, tl, ax, ow, hb, nb, wb, wx1⟩ := S.out
              have hjL : j < L.length := by rw [EW1.out.2.2]; exact hjl
              obtain ⟨g, x, y, f, h, fa, fn, fc, rfl, hv, e0, e1, e2, e3, e4⟩ := own_ent ow (by rw [zero_len L j (by omega)]; exact EW1.out.2.2) hjl
              rw [zero_at L j hjL] at hv
              have hv : L[j] = ((x, y), f, h, fa, fn, fc) := Option.some.inj hv
              have ed : L.drop j = ((x, y), f, h, fa, fn, fc) :: L.drop (j + 1) := by rw [List.drop_eq_getElem_cons hjL, hv]
              obtain ⟨W2, hW2⟩ : ∃ W2, W2 = wx.alloc (.cells #[.int .i64 x, .int .i64 y, .bool f, .bool h, .slice fa fn fc] 40) := ⟨_, rfl⟩
              obtain ⟨X2, hX2⟩ : ∃ X2, X2 = wx.heap.size := ⟨_, rfl⟩
              have J : Hid (Tld WB wx p4 n4 c4 T4 ((fa, fn, fc) :: (L.drop (j + 1) ++ ((hs.drop (i + 1)).flatMap fun h => h.2)).map d3) ∧ AX wq.heap.size wx (some ⟨b1, 0, none⟩) n1 c1 hs (i + 1) ∧ wx.ownsRow wq.heap.size 40 5 (.slice (some ⟨g, 0, none⟩) em eq) em (ecells (List.replicate j E0 ++ L.drop j)) ∧ wx.heap[X1]? = some (.cells #[.string key, .slice (some ⟨g, 0, none⟩) em eq] 35 (0, 0)) ∧ n4 + 1 + (L.drop (j + 1) ++ ((hs.drop (i + 1)).flatMap fun h => h.2)).length ≤ 720 * rd + 180 ∧ WB.heap.size ≤ wq.heap.size ∧ wq.heap.size ≤ X1 ∧ W2.heap[X2]? = some (.cells #[.int .i64 x, .int .i64 y, .bool f, .bool h, .slice fa fn fc] 40 (0, 0)) ∧ Kept (fun _ => False) wx W2 ∧ j < L.length) := by
                rw [ed] at tl nb
                refine ⟨tl, ax, ow, hb, ?_, wb, wx1, by rw [hW2, hX2]; exact heap_alloc_new _ _, by rw [hW2]; exact k0_alloc _ _, hjL⟩
                rw [List.cons_append, List.length_cons] at nb
                omega
              have n4b : n4 ≤ 2000 := by have := J.out.2.2.2.2.1; omega
              have EW2 : Hid (W2 = wx.alloc (.cells #[.int .i64 x, .int .i64 y, .bool f, .bool h, .slice fa fn fc] 40) ∧ X2 = wx.heap.size) := ⟨hW2, hX2⟩
              have BL : Hid (n4 + 1 ≤ maxLen ∧ ((n4 + 1) + (n4 + 1) / 4 + 192) * 24 ≤ 281474976710656) := by
                unfold maxLen
                exact ⟨by omega, by omega⟩
              clear hW2 hX2 tl ax ow hb nb wb wx1 ed hv S
              go_upto_region 16 with fail
              rw [← EW2.out.1, ← EW2.out.2]
              clear e0 e1 e2 e3 e4
              have k4 := cell_blk J.out.2.2.2.2.2.2.2.1 4 (v := .slice fa fn fc) rfl
              go_upto_region 17 with
                (first
                  | (at_builtin; refine wpList_append_all _ rfl (.tmp 72) (.tmp 75) 30 38 30 _ 1 24 rfl Tryz.underlying30 Tryz.info38c rfl WB.heap.size (.slice p4 n4 c4) n4 (bcells T4) rfl ((k0_alloc W2 _).owns (J.out.2.2.2.2.2.2.2.2.1.owns J.out.1.row (fun _ _ z => z)) (fun _ _ z => z)) _ 1 [.slice fa fn fc] rfl (src_sl (heap_alloc_new W2 _)) BL.out.1 BL.out.2 (Nat.le_trans (J.out.1.kept.and0 J.out.2.2.2.2.2.2.2.2.1).size (k0_alloc W2 _).size) ?_; intro p9' c9' w17 ho hg hn')
                  | fail)
              have Q : Hid (Tld WB w17 p9' (n4 + 1) c9' (T4 ++ [(fa, fn, fc)]) ((L.drop (j + 1) ++ ((hs.drop (i + 1)).flatMap fun h => h.2)).map d3) ∧ AX wq.heap.size w17 (some ⟨b1, 0, none⟩) n1 c1 hs (i + 1) ∧ w17.ownsRow wq.heap.size 40 5 (.slice (some ⟨g, 0, none⟩) em eq) em (ecells (List.replicate j E0 ++ L.drop j)) ∧ w17.heap[X1]? = some (.cells #[.string key, .slice (some ⟨g, 0, none⟩) em eq] 35 (0, 0))) := by
                obtain ⟨t1, KG⟩ := J.out.1.push J.out.2.2.2.2.2.2.2.2.1 ho.out hg.out
                have K2 := J.out.2.2.2.2.2.2.2.2.1
                have rw2 := K2.owns J.out.1.row (fun _ _ z => z)
                have ng : ∀ k cs ty, ty ≠ 38 → W2.heap[k]? = some (.cells cs ty (0, 0)) → ¬ blockOf p4 = some k := fun k cs ty ht hc z => by
                  obtain ⟨c3, h3⟩ := own_typ rw2 z
                  rw [h3] at hc
                  simp at hc
                  exact ht hc.2.symm
                have ow2 := K2.owns J.out.2.2.1 (fun _ _ z => z)
                have hb2 := K2.get J.out.2.2.2.1 (fun z => z)
                refine ⟨t1, (J.out.2.1.k K2 (fun _ _ _ _ _ z => z)).k KG (fun k cs ty ht hc => ng k cs ty (by rcases ht with rfl | rfl <;> decide) hc), KG.owns ow2 (fun k hk => ?_), KG.get hb2 (ng X1 _ 35 (by decide) hb2)⟩
                obtain ⟨c3, h3⟩ := own_typ ow2 (by rw [← blockOf_own]; exact hk)
                exact ng k c3 40 (by decide) h3
              clear ho hg hn' k4
              obtain ⟨g', x', y', f', h', fa', fn', fc', eg, _, e0, e1, e2, e3, e4⟩ := own_ent Q.out.2.2.1 (by rw [zero_len L j (by omega)]; exact EW1.out.2.2) hjl
              have eg2 : g = g' := congrArg Addr.block (Option.some.inj eg)
              subst eg2
              clear eg
              have z0 := Q.out.2.2.1.frozenAt (j * 5)
              have z1 := Q.out.2.2.1.frozenAt (j * 5 + 1)
              have z2 := Q.out.2.2.1.frozenAt (j * 5 + 2)
              have z3 := Q.out.2.2.1.frozenAt (j * 5 + 3)
              have z4 := Q.out.2.2.1.frozenAt (j * 5 + 4)
              have g1' := cell_blk Q.out.2.2.2 1 (v := .slice (some ⟨g, 0, none⟩) em eq) rfl
              have F : Hid (∃ T, Tld WB (((((w17.setCell ⟨g, j * 5, none⟩ (.int .i64 0)).setCell ⟨g, j * 5 + 1, none⟩ (.int .i64 0)).setCell ⟨g, j * 5 + 2, none⟩ (.bool false)).setCell ⟨g, j * 5 + 3, none⟩ (.bool false)).setCell ⟨g, j * 5 + 4, none⟩ (.slice none 0 0)) p9' (n4 + 1) c9' T ((L.drop (j + 1) ++ ((hs.drop (i + 1)).flatMap fun h => h.2)).map d3) ∧ AX wq.heap.size (((((w17.setCell ⟨g, j * 5, none⟩ (.int .i64 0)).setCell ⟨g, j * 5 + 1, none⟩ (.int .i64 0)).setCell ⟨g, j * 5 + 2, none⟩ (.bool false)).setCell ⟨g, j * 5 + 3, none⟩ (.bool false)).setCell ⟨g, j * 5 + 4, none⟩ (.slice none 0 0)) (some ⟨b1, 0, none⟩) n1 c1 hs (i + 1) ∧ (((((w17.setCell ⟨g, j * 5, none⟩ (.int .i64 0)).setCell ⟨g, j * 5 + 1, none⟩ (.int .i64 0)).setCell ⟨g, j * 5 + 2, none⟩ (.bool false)).setCell ⟨g, j * 5 + 3, none⟩ (.bool false)).setCell ⟨g, j * 5 + 4, none⟩ (.slice none 0 0)).ownsRow wq.heap.size 40 5 (.slice (some ⟨g, 0, none⟩) em eq) em (ecells (List.replicate (j + 1) E0 ++ L.drop (j + 1))) ∧ (((((w17.setCell ⟨g, j * 5, none⟩ (.int .i64 0)).setCell ⟨g, j * 5 + 1, none⟩ (.int .i64 0)).setCell ⟨g, j * 5 + 2, none⟩ (.bool false)).setCell ⟨g, j * 5 + 3, none⟩ (.bool false)).setCell ⟨g, j * 5 + 4, none⟩ (.slice none 0 0)).heap[X1]? = some (.cells #[.string key, .slice (some ⟨g, 0, none⟩) em eq] 35 (0, 0)) ∧ n4 + 1 + (L.drop (j + 1) ++ ((hs.drop (i + 1)).flatMap fun h => h.2)).length ≤ 720 * rd + 180 ∧ WB.heap.size ≤ wq.heap.size ∧ wq.heap.size ≤ X1) := by
                have K5 := five_kept w17 g (j * 5) (j * 5 + 1) (j * 5 + 2) (j * 5 + 3) (j * 5 + 4) (.int .i64 0) (.int .i64 0) (.bool false) (.bool false) (.slice none 0 0)
                obtain ⟨cg, hg4⟩ := own_typ Q.out.2.2.1 (k := g) rfl
                have gl := own_lt Q.out.2.2.1 g rfl
                have ng : ∀ k cs ty, ty ≠ 40 → w17.heap[k]? = some (.cells cs ty (0, 0)) → ¬ k = g := fun k cs ty ht hc z => by
                  rw [z, hg4] at hc
                  simp at hc
                  exact ht hc.2.symm
                obtain ⟨hi2, hx2⟩ := HX.out
                refine ⟨_, Q.out.1.k K5 (fun k cs ty ht hc => ng k cs ty (by rcases ht with rfl | rfl <;> decide) hc) (fun k z => by have z : k = g := z; have := J.out.2.2.2.2.2.1; omega), ?_, ?_, K5.get Q.out.2.2.2 (ng X1 _ 35 (by decide) Q.out.2.2.2), J.out.2.2.2.2.1, J.out.2.2.2.2.2.1, J.out.2.2.2.2.2.2.1⟩
                · refine ⟨Q.out.2.1.len, K5.owns Q.out.2.1.row (fun k hk => ?_), fun j2 hj2 z => ⟨(Q.out.2.1.ents j2 hj2 z).1, K5.owns (Q.out.2.1.ents j2 hj2 z).2 (fun k hk y => ?_)⟩, Q.out.2.1.apart⟩
                  · obtain ⟨c3, h3⟩ := own_typ Q.out.2.1.row (by rw [← blockOf_own]; exact hk)
                    exact ng k c3 35 (by decide) h3
                  · have y : k = g := y
                    refine Q.out.2.1.apart i j2 hi2 hj2 (by omega) g ?_ ?_
                    · rw [hx2]; rfl
                    · rw [← y, ← blockOf_own]; exact hk
                · rw [← set_zero L j J.out.2.2.2.2.2.2.2.2.2]
                  exact row_zero Q.out.2.2.1 j (by rw [zero_len L j (by omega)]; exact J.out.2.2.2.2.2.2.2.2.2)
              go_wp2_with fail
              go_roundw
              case rel => exact ⟨j + 1, n4 + 1, c9', p9', rfl, by go_num, by omega, F⟩
              case measure => simp [intOf] <;> omega
            · have j1 : ¬ (j : Int) < (em : Int) := by omega
              have G : Hid (∃ T, Tld WB wx p4 n4 c4 T (((hs.drop (i + 1)).flatMap fun h => h.2).map d3) ∧ AX wq.heap.size wx (some ⟨b1, 0, none⟩) n1 c1 hs (i + 1) ∧ n4 + ((hs.drop (i + 1)).flatMap fun h => h.2).length ≤ 720 * rd + 180 ∧ WB.heap.size ≤ wq.heap.size) := by
                obtain ⟨T4, tl, ax, ow, hb, nb, wb, wx1⟩ := S.out
                rw [List.drop_of_length_le (by rw [EW1.out.2.2]; omega), List.nil_append] at tl nb
                exact ⟨T4, tl, ax, nb, wb⟩
              clear S
              go_wp2_with fail
              go_roundw
              case rel => exact ⟨i + 1, n4, c4, p4, rfl, by go_num, by omega, G⟩
              case measure => simp [intOf] <;> omega
        · have i1 : ¬ (i : Int) < (n1 : Int) := by omega
          have Y2 : Hid ((∃ T, Tld WB wp p2 n2 c2 T []) ∧ n2 ≤ 720 * rd + 180) := by
            obtain ⟨T2, tl, ax, nb, wb⟩ := S.out
            rw [List.drop_of_length_le (by rw [ax.len]; omega)] at tl nb
            exact ⟨⟨T2, tl⟩, by simpa using nb⟩
          clear S
          have nb2 : n2 ≤ 720 * rd + 180 := Y2.out.2
          obtain ⟨T2, tl2⟩ := Y2.out.1
          have Y3 : Hid (Tld WB wp p2 n2 c2 T2 [] ∧ Dst w10 wp dd t L2) := ⟨tl2, X.out.1.k0 tl2.kept⟩
          clear tl2 Y2 rm1 rm2
          go_wp2_with fail
          refine (dUpdatesO Y3.out.2 X.out.2.1 L2l).mono ?_
          rintro o w20 ⟨pu, nu, cu, rfl, LU, A4⟩
          have nu1 : nu ≤ 180 := A4.out.2.1
          have rm := own_room A4.out.2.2.1
          unfold maxLen at rm
          obtain ⟨rm1, rm2⟩ := rm
          have U0 : Hid ((∃ T, Tld WB w20 p2 n2 c2 T (((LU.drop 0).map fun u => u.2).map d3)) ∧ w20.ownsRow wp.heap.size 44 7 (.slice pu nu cu) nu (ucells LU) ∧ LU.length = nu) := by
            refine ⟨⟨T2, ?_⟩, A4.out.2.2.1, A4.out.1⟩
            have := Y3.out.1.add A4.out.2.2.2.2 A4.out.2.2.2.1.ol
            rw [List.nil_append] at this
            exact this
          clear A4 Y3
          go_wp2_with fail
          go_loopw [10, 16, 87] (fun y _ z wr => ∃ (j n c : Nat) (p : Option Addr), y = .slice p n c ∧ z = .int .i64 (j : Int) ∧ j ≤ nu ∧ n ≤ 720 * rd + 180 + j ∧ Hid ((∃ T, Tld WB wr p n c T (((LU.drop j).map fun u => u.2).map d3)) ∧ wr.ownsRow wp.heap.size 44 7 (.slice pu nu cu) nu (ucells LU) ∧ LU.length = nu)) (fun _ _ z _ => nu - (intOf z).toNat)
          case atStart => exact ⟨0, n2, c2, p2, rfl, rfl, Nat.zero_le _, nb2, U0⟩
          case round =>
            obtain ⟨j, n4, c4, p4, rfl, rfl, hj, nb4, S⟩ := hrel
            obtain ⟨wx, hwx⟩ : ∃ wx, wx = wr := ⟨_, rfl⟩
            rw [← hwx] at S ⊢
            clear hwx U0
            by_cases hjl : j < nu
            · have j1 : (j : Int) < (nu : Int) := by omega
              obtain ⟨⟨T4, tl⟩, ow, ll⟩ := S.out
              obtain ⟨g, kk, x, y, f, h, fa, fn, fc, rfl, hv, e0, e1, e2, e3, e4, e5, e6⟩ := own_upd ow ll hjl
              obtain ⟨hv1, hv2⟩ := List.getElem?_eq_some_iff.1 hv
              have ed : LU.drop j = (kk, (x, y), f, h, fa, fn, fc) :: LU.drop (j + 1) := by rw [List.drop_eq_getElem_cons hv1, hv2]
              obtain ⟨W2, hW2⟩ : ∃ W2, W2 = wx.alloc (.cells #[.int .i64 3, .string kk, .int .i64 x, .int .i64 y, .bool f, .bool h, .slice fa fn fc] 44) := ⟨_, rfl⟩
              obtain ⟨X2, hX2⟩ : ∃ X2, X2 = wx.heap.size := ⟨_, rfl⟩
              have J : Hid (Tld WB wx p4 n4 c4 T4 ((fa, fn, fc) :: ((LU.drop (j + 1)).map fun u => u.2).map d3) ∧ wx.ownsRow wp.heap.size 44 7 (.slice (some ⟨g, 0, none⟩) nu cu) nu (ucells LU) ∧ LU.length = nu ∧ W2.heap[X2]? = some (.cells #[.int .i64 3, .string kk, .int .i64 x, .int .i64 y, .bool f, .bool h, .slice fa fn fc] 44 (0, 0)) ∧ Kept (fun _ => False) wx W2) := by
                rw [ed] at tl
                exact ⟨tl, ow, ll, by rw [hW2, hX2]; exact heap_alloc_new _ _, by rw [hW2]; exact k0_alloc _ _⟩
              have EW2 : Hid (W2 = wx.alloc (.cells #[.int .i64 3, .string kk, .int .i64 x, .int .i64 y, .bool f, .bool h, .slice fa fn fc] 44) ∧ X2 = wx.heap.size) := ⟨hW2, hX2⟩
              have BL : Hid (n4 + 1 ≤ maxLen ∧ ((n4 + 1) + (n4 + 1) / 4 + 192) * 24 ≤ 281474976710656) := by
                unfold maxLen
                exact ⟨by omega, by omega⟩
              clear hW2 hX2 tl ow ll ed hv hv1 hv2 S
              go_upto_region 23 with fail
              rw [← EW2.out.1, ← EW2.out.2]
              clear e0 e1 e2 e3 e4 e5 e6
              have k6 := cell_blk J.out.2.2.2.1 6 (v := .slice fa fn fc) rfl
              go_wp2_with
                (first
                  | (at_builtin; refine wpList_append_all _ rfl (.tmp 91) (.tmp 95) 30 38 30 _ 1 24 rfl Tryz.underlying30 Tryz.info38c rfl WB.heap.size (.slice p4 n4 c4) n4 (bcells T4) rfl ((k0_alloc W2 _).owns (J.out.2.2.2.2.owns J.out.1.row (fun _ _ z => z)) (fun _ _ z => z)) _ 1 [.slice fa fn fc] rfl (src_sl (heap_alloc_new W2 _)) BL.out.1 BL.out.2 (Nat.le_trans (J.out.1.kept.and0 J.out.2.2.2.2).size (k0_alloc W2 _).size) ?_; intro p9' c9' w17 ho hg hn')
                  | fail)
              have Q : Hid ((∃ T, Tld WB w17 p9' (n4 + 1) c9' T (((LU.drop (j + 1)).map fun u => u.2).map d3)) ∧ w17.ownsRow wp.heap.size 44 7 (.slice (some ⟨g, 0, none⟩) nu cu) nu (ucells LU) ∧ LU.length = nu) := by
                obtain ⟨t1, KG⟩ := J.out.1.push J.out.2.2.2.2 ho.out hg.out
                exact ⟨⟨_, t1⟩, own_ng (J.out.1.k0 J.out.2.2.2.2) KG (by decide) (J.out.2.2.2.2.owns J.out.2.1 (fun _ _ z => z)), J.out.2.2.1⟩
              clear ho hg hn' k6
              go_roundw
              case rel => exact ⟨j + 1, n4 + 1, c9', p9', rfl, by go_num, by omega, by omega, Q⟩
              case measure => simp [intOf] <;> omega
            · have j1 : ¬ (j : Int) < (nu : Int) := by omega
              have nb5 : n4 ≤ 720 * rd + 360 := by omega
              obtain ⟨⟨T4, tl⟩, _, ll⟩ := S.out
              have Y4 : Hid (Tld WB wx p4 n4 c4 T4 [] ∧ Dst w10 wx dd t L2) := by
                rw [List.drop_of_length_le (by rw [ll]; omega)] at tl
                exact ⟨tl, X.out.1.k0 tl.kept⟩
              clear tl ll S rm1 rm2
              go_wp2_with fail
              refine (dKeys Y4.out.2 X.out.2.1 L2l).mono ?_
              rintro o w21 ⟨gk, ck, nk, rfl, A5⟩
              obtain ⟨ks, kl, nk3, ke, _, kow, kK⟩ := A5.out
              have nk3 : nk ≤ 3 := nk3
              have rm := own_room kow
              unfold maxLen at rm
              obtain ⟨rm1, rm2⟩ := rm
              have HK : Hid (ks.length = nk ∧ KE t.rv (fun _ => False) ks) := ⟨kl, ke⟩
              have U0 : Hid ((∃ T, Tld WB w21 p4 n4 c4 T []) ∧ w21.ownsRow wx.heap.size 9 1 (.slice (some ⟨gk, 0, none⟩) nk ck) nk (strs ks)) := ⟨⟨T4, Y4.out.1.k0 kK⟩, kow⟩
              clear A5 kl ke kow kK Y4
              go_wp2_with fail
              go_loopw [10, 18, 20, 21, 22, 101] (fun y _ _ _ _ z wr => ∃ (i n c : Nat) (p : Option Addr), y = .slice p n c ∧ z = .int .i64 (i : Int) ∧ i ≤ nk ∧ n ≤ 720 * rd + 360 + 120 * i ∧ Hid ((∃ T, Tld WB wr p n c T []) ∧ wr.ownsRow wx.heap.size 9 1 (.slice (some ⟨gk, 0, none⟩) nk ck) nk (strs ks))) (fun _ _ _ _ _ z _ => nk - (intOf z).toNat)
              case atStart => exact ⟨0, n4, c4, p4, rfl, rfl, Nat.zero_le _, by omega, U0⟩
              case round =>
                obtain ⟨m, n6, c6, p6, rfl, rfl, hm, nb6, S⟩ := hrel
                obtain ⟨wy, hwy⟩ : ∃ wy, wy = wr := ⟨_, rfl⟩
                rw [← hwy] at S ⊢
                clear hwy U0
                by_cases hml : m < nk
                · have m1 : (m : Int) < (nk : Int) := by omega
                  obtain ⟨⟨T6, tl⟩, kow⟩ := S.out
                  obtain ⟨gk', egk, dk⟩ := own_str kow HK.out.1 hml
                  have egk2 : gk = gk' := congrArg Addr.block (Option.some.inj egk)
                  subst egk2
                  clear egk
                  obtain ⟨key, hkey⟩ : ∃ key, key = ks[m]'(by rw [HK.out.1]; exact hml) := ⟨_, rfl⟩
                  rw [← hkey] at dk
                  have kn : t.rv key ≠ none := (HK.out.2.each key (by rw [hkey]; exact List.getElem_mem _)).2
                  have J : Hid (Tld WB wy p6 n6 c6 T6 [] ∧ wy.ownsRow wx.heap.size 9 1 (.slice (some ⟨gk, 0, none⟩) nk ck) nk (strs ks) ∧ t.rv key ≠ none ∧ key.size ≤ maxLen ∧ Dst w14 wy dd cc L2) := ⟨tl, kow, kn, X.out.1.ksize kn, X.out.2.2.2.2.1.k0 tl.kept⟩
                  clear tl kow kn hkey S
                  go_wp2_with fail
                  refine (dEntriesO J.out.2.2.2.2 X.out.2.2.2.2.2.1 L2l key J.out.2.2.2.1).mono ?_
                  rintro o w22 ⟨pe, ne, ce, rfl, A6⟩
                  obtain ⟨LE, el, en6, eow, eeo, eft, eK⟩ := A6.out
                  have en6 : ne ≤ 60 := en6
                  have rme := own_room eow
                  unfold maxLen at rme
                  obtain ⟨rme1, rme2⟩ := rme
                  have HE : Hid (LE.length = ne ∧ (∀ e ∈ LE, TFit e.1)) := ⟨el, eft⟩
                  have V0 : Hid ((∃ T, Tld WB w22 p6 n6 c6 T ((LE.drop 0).map d3)) ∧ w22.ownsRow wy.heap.size 40 5 (.slice pe ne ce) ne (ecells LE) ∧ w22.ownsRow wx.heap.size 9 1 (.slice (some ⟨gk, 0, none⟩) nk ck) nk (strs ks)) := by
                    refine ⟨⟨T6, ?_⟩, eow, eK.owns J.out.2.1 (fun _ _ z => z)⟩
                    have := J.out.1.add eK eeo.ol
                    rw [List.nil_append] at this
                    exact this
                  clear A6 el eow eeo eft eK dk
                  go_wp2_with fail
                  go_loopw [10, 20, 21, 22, 109] (fun y _ _ _ z wr => ∃ (q n c : Nat) (p : Option Addr), y = .slice p n c ∧ z = .int .i64 (q : Int) ∧ q ≤ ne ∧ n ≤ 720 * rd + 360 + 120 * m + 2 * q ∧ Hid ((∃ T, Tld WB wr p n c T ((LE.drop q).map d3)) ∧ wr.ownsRow wy.heap.size 40 5 (.slice pe ne ce) ne (ecells LE) ∧ wr.ownsRow wx.heap.size 9 1 (.slice (some ⟨gk, 0, none⟩) nk ck) nk (strs ks))) (fun _ _ _ _ z _ => ne - (intOf z).toNat)
                  case atStart => exact ⟨0, n6, c6, p6, rfl, rfl, Nat.zero_le _, by omega, V0⟩
                  case round =>
                    obtain ⟨q, n7, c7, p7, rfl, rfl, hq, nb7, S⟩ := hrel
                    obtain ⟨wz, hwz⟩ : ∃ wz, wz = wr := ⟨_, rfl⟩
                    rw [← hwz] at S ⊢
                    clear hwz V0
                    by_cases hql : q < ne
                    · have q1 : (q : Int) < (ne : Int) := by omega
                      obtain ⟨⟨T7, tl⟩, ow, kow⟩ := S.out
                      obtain ⟨g, x, y, f, h, fa, fn, fc, rfl, hv, e0, e1, e2, e3, e4⟩ := own_ent ow HE.out.1 hql
                      obtain ⟨hv1, hv2⟩ := List.getElem?_eq_some_iff.1 hv
                      have ed : LE.drop q = ((x, y), f, h, fa, fn, fc) :: LE.drop (q + 1) := by rw [List.drop_eq_getElem_cons hv1, hv2]
                      have ft : TFit (x, y) := by have := HE.out.2 _ (List.getElem_mem hv1); rw [hv2] at this; exact this
                      obtain ⟨W2, hW2⟩ : ∃ W2, W2 = wz.alloc (.cells #[.int .i64 x, .int .i64 y, .bool f, .bool h, .slice fa fn fc] 40) := ⟨_, rfl⟩
                      obtain ⟨X2, hX2⟩ : ∃ X2, X2 = wz.heap.size := ⟨_, rfl⟩
                      have I2 : Hid (Tld WB W2 p7 n7 c7 T7 ((fa, fn, fc) :: (LE.drop (q + 1)).map d3) ∧ W2.ownsRow wy.heap.size 40 5 (.slice (some ⟨g, 0, none⟩) ne ce) ne (ecells LE) ∧ W2.ownsRow wx.heap.size 9 1 (.slice (some ⟨gk, 0, none⟩) nk ck) nk (strs ks) ∧ W2.heap[X2]? = some (.cells #[.int .i64 x, .int .i64 y, .bool f, .bool h, .slice fa fn fc] 40 (0, 0)) ∧ TFit (x, y) ∧ Dst w10 W2 dd t L2) := by
                        have K2 : Kept (fun _ => False) wz W2 := by rw [hW2]; exact k0_alloc _ _
                        rw [ed] at tl
                        have t2 := tl.k0 K2
                        exact ⟨t2, K2.owns ow (fun _ _ z => z), K2.owns kow (fun _ _ z => z), by rw [hW2, hX2]; exact heap_alloc_new _ _, ft, X.out.1.k0 t2.kept⟩
                      have EW2 : Hid (W2 = wz.alloc (.cells #[.int .i64 x, .int .i64 y, .bool f, .bool h, .slice fa fn fc] 40) ∧ X2 = wz.heap.size) := ⟨hW2, hX2⟩
                      have BL : Hid (n7 + 2 ≤ maxLen ∧ ((n7 + 2) + (n7 + 2) / 4 + 192) * 24 ≤ 281474976710656) := by
                        unfold maxLen
                        exact ⟨by omega, by omega⟩
                      clear hW2 hX2 tl ow kow ed hv hv1 hv2 ft S
                      go_upto_region 31 with fail
                      rw [← EW2.out.1, ← EW2.out.2]
                      clear e0 e1 e2 e3 e4
                      have k0 := cell_blk I2.out.2.2.2.1 0 (v := .int .i64 x) rfl
                      have k1 := cell_blk I2.out.2.2.2.1 1 (v := .int .i64 y) rfl
                      go_wp2_with fail
                      refine (dGetO I2.out.2.2.2.2.2 X.out.2.1 key J.out.2.2.1 x y I2.out.2.2.2.2.1).mono ?_
                      rintro o w23 ⟨x', y', f', h', fa', fn', fc', bb, rfl, A7⟩
                      obtain ⟨W4, hW4⟩ : ∃ W4, W4 = w23.alloc (.cells #[.int .i64 x', .int .i64 y', .bool f', .bool h', .slice fa' fn' fc'] 40) := ⟨_, rfl⟩
                      obtain ⟨X4, hX4⟩ : ∃ X4, X4 = w23.heap.size := ⟨_, rfl⟩
                      have I4 : Hid (Tld WB W4 p7 n7 c7 T7 ((fa, fn, fc) :: (fa', fn', fc') :: (LE.drop (q + 1)).map d3) ∧ W4.ownsRow wy.heap.size 40 5 (.slice (some ⟨g, 0, none⟩) ne ce) ne (ecells LE) ∧ W4.ownsRow wx.heap.size 9 1 (.slice (some ⟨gk, 0, none⟩) nk ck) nk (strs ks) ∧ W4.heap[X2]? = some (.cells #[.int .i64 x, .int .i64 y, .bool f, .bool h, .slice fa fn fc] 40 (0, 0)) ∧ W4.heap[X4]? = some (.cells #[.int .i64 x', .int .i64 y', .bool f', .bool h', .slice fa' fn' fc'] 40 (0, 0))) := by
                        have K4 : Kept (fun _ => False) w23 W4 := by rw [hW4]; exact k0_alloc _ _
                        have K24 := A7.out.2.and0 K4
                        have t2 := (I2.out.1.add A7.out.2 A7.out.1).k0 K4
                        rw [List.cons_append] at t2
                        exact ⟨t2.swap, K24.owns I2.out.2.1 (fun _ _ z => z), K24.owns I2.out.2.2.1 (fun _ _ z => z), K24.get I2.out.2.2.2.1 (fun z => z), by rw [hW4, hX4]; exact heap_alloc_new _ _⟩
                      have EW4 : Hid (W4 = w23.alloc (.cells #[.int .i64 x', .int .i64 y', .bool f', .bool h', .slice fa' fn' fc'] 40) ∧ X4 = w23.heap.size) := ⟨hW4, hX4⟩
                      clear hW4 hX4 A7 k0 k1 I2
                      go_upto_region 32 with fail
                      rw [← EW4.out.1, ← EW4.out.2]
                      have k4 := cell_blk I4.out.2.2.2.1 4 (v := .slice fa fn fc) rfl
                      have k5 := cell_blk I4.out.2.2.2.2 4 (v := .slice fa' fn' fc') rfl
                      go_wp2_with
                        (first
                          | (at_builtin; refine wpList_append_all _ rfl (.tmp 121) (.tmp 126) 30 38 30 _ 1 24 rfl Tryz.underlying30 Tryz.info38c rfl WB.heap.size (.slice p7 n7 c7) n7 (bcells T7) rfl ((k0_alloc W4 _).owns I4.out.1.row (fun _ _ z => z)) _ 2 [.slice fa fn fc, .slice fa' fn' fc'] rfl (src_sl2 (heap_alloc_new W4 _)) BL.out.1 BL.out.2 (Nat.le_trans I4.out.1.kept.size (k0_alloc W4 _).size) ?_; intro p9' c9' w17 ho hg hn')
                          | fail)
                      have Q : Hid ((∃ T, Tld WB w17 p9' (n7 + 2) c9' T ((LE.drop (q + 1)).map d3)) ∧ w17.ownsRow wy.heap.size 40 5 (.slice (some ⟨g, 0, none⟩) ne ce) ne (ecells LE) ∧ w17.ownsRow wx.heap.size 9 1 (.slice (some ⟨gk, 0, none⟩) nk ck) nk (strs ks)) := by
                        obtain ⟨t1, KG⟩ := I4.out.1.push2 (Kept.refl _ _) ho.out hg.out
                        exact ⟨⟨_, t1⟩, own_ng I4.out.1 KG (by decide) I4.out.2.1, own_ng I4.out.1 KG (by decide) I4.out.2.2.1⟩
                      clear ho hg hn' k4 k5
                      go_roundw
                      case rel => exact ⟨q + 1, n7 + 2, c9', p9', rfl, by go_num, by omega, by omega, Q⟩
                      case measure => simp [intOf] <;> omega
                    · have q1 : ¬ (q : Int) < (ne : Int) := by omega
                      have G : Hid ((∃ T, Tld WB wz p7 n7 c7 T []) ∧ wz.ownsRow wx.heap.size 9 1 (.slice (some ⟨gk, 0, none⟩) nk ck) nk (strs ks)) := by
                        obtain ⟨⟨T7, tl⟩, _, kow⟩ := S.out
                        rw [List.drop_of_length_le (by rw [HE.out.1]; omega)] at tl
                        exact ⟨⟨T7, tl⟩, kow⟩
                      clear S
                      go_wp2_with fail
                      go_roundw
                      case rel => exact ⟨m + 1, n7, c7, p7, rfl, by go_num, by omega, by omega, G⟩
                      case measure => simp [intOf] <;> omega
                · have m1 : ¬ (m : Int) < (nk : Int) := by omega
                  have G : Hid (∃ T, Tld WB wy p6 n6 c6 T []) := S.out.1
                  clear S
                  go_wp2_with fail
                  go_roundw
                  case rel => exact ⟨rd + 1, n6, c6, p6, rfl, by go_num, by omega, by omega, G⟩
                  case measure => simp [intOf] <;> omega
    · have r1 : ¬ (rd : Int) < 2 := by omega
      have nb : n ≤ 1440 := by omega
      obtain ⟨T, tl⟩ := S.out
      have Y : Hid (Tld WB wq p n c T [] ∧ Dst w10 wq dd t L2) := ⟨tl, X.out.1.k0 tl.kept⟩
      clear tl S
      go_wp2_with fail
      refine (dKeys Y.out.2 X.out.2.1 L2l).mono ?_
      rintro o w30 ⟨gk, ck, nk, rfl, A5⟩
      obtain ⟨ks, kl, nk3, _, _, kow, kK⟩ := A5.out
      have nk3 : nk ≤ 3 := nk3
      have rm := own_room kow
      unfold maxLen at rm
      obtain ⟨rm1, rm2⟩ := rm
      have U0 : Hid ((∃ xs, w30.ownsRow wq.heap.size 9 1 (.slice (some ⟨gk, 0, none⟩) nk ck) nk xs) ∧ Tld WB w30 p n c T [] ∧ WB.heap.size ≤ wq.heap.size) := ⟨⟨_, kow⟩, Y.out.1.k0 kK, Y.out.1.kept.size⟩
      clear A5 kl kow kK Y
      go_wp2_with fail
      go_loopw [24, 135] (fun _ z wr => ∃ (i : Nat), z = .int .i64 (i : Int) ∧ i ≤ nk ∧ Hid ((∃ xs, wr.ownsRow wq.heap.size 9 1 (.slice (some ⟨gk, 0, none⟩) nk ck) nk xs) ∧ Tld WB wr p n c T [] ∧ WB.heap.size ≤ wq.heap.size)) (fun _ z _ => nk - (intOf z).toNat)
      case atStart => exact ⟨0, rfl, Nat.zero_le _, U0⟩
      case round =>
        obtain ⟨i, rfl, hi, S⟩ := hrel
        obtain ⟨wy, hwy⟩ : ∃ wy, wy = wr := ⟨_, rfl⟩
        rw [← hwy] at S ⊢
        clear hwy U0
        by_cases hil : i < nk
        · have i1 : (i : Int) < (nk : Int) := by omega
          obtain ⟨⟨xs, ow⟩, tl, wb⟩ := S.out
          obtain ⟨gk', egk, v, _, dk⟩ := own_at ow hil
          have egk2 : gk = gk' := congrArg Addr.block (Option.some.inj egk)
          subst egk2
          clear egk
          have fk := ow.frozenAt i
          have F : Hid ((∃ xs, (wy.setCell ⟨gk, i, none⟩ (.string ⟨#[63]⟩)).ownsRow wq.heap.size 9 1 (.slice (some ⟨gk, 0, none⟩) nk ck) nk xs) ∧ Tld WB (wy.setCell ⟨gk, i, none⟩ (.string ⟨#[63]⟩)) p n c T [] ∧ WB.heap.size ≤ wq.heap.size) := by
            have K1 : Kept (fun k => k = gk) wy (wy.setCell ⟨gk, i, none⟩ (.string ⟨#[63]⟩)) := (Kept.refl (fun k => k = gk) wy).setCell (p := ⟨gk, i, none⟩) (fun _ => rfl) _
            obtain ⟨cg, hg⟩ := own_typ ow (k := gk) rfl
            refine ⟨⟨_, (ow.stored i (.string ⟨#[63]⟩)).1⟩, tl.k K1 (fun k cs ty ht hc z => ?_) (fun k z => ?_), wb⟩
            · have z : k = gk := z
              rw [z, hg] at hc
              simp at hc
              rcases ht with rfl | rfl
              · exact absurd hc.2 (by decide)
              · exact absurd hc.2 (by decide)
            · have z : k = gk := z
              have := (own_lt ow gk rfl).1
              omega
          clear ow tl wb S
          go_wp2_with fail
          go_roundw
          case rel => exact ⟨i + 1, by go_num, by omega, F⟩
          case measure => simp [intOf] <;> omega
        · have i1 : ¬ (i : Int) < (nk : Int) := by omega
          have tl := S.out.2.1
          have Z : Hid (OL WB.heap.size wy T ∧ wy.ownsRow WB.heap.size 38 1 (.slice p n c) n (bcells T) ∧ Kept (fun _ => False) WB wy) := ⟨by have := tl.ol; rw [List.append_nil] at this; exact this, tl.row, tl.kept⟩
          clear tl S rm1 rm2
          go_wp2_with fail
          refine (apartW WB.heap.size p n c T wy Z.out.1 Z.out.2.1 (by omega) Z.out.2.2.size).mono ?_
          rintro o w31 ⟨rfl, K31⟩
          have K40 : Hid (Kept (fun _ => False) WB w31) := Z.out.2.2.trans K31 (fun j hj z => by have z : WB.heap.size ≤ j := z; omega)
          clear K31 Z
          go_wp2_with fail
          refine (dAll (X.out.1.k0 K40.out) X.out.2.1 L2l).mono ?_
          rintro o v40 ⟨p40a, n40a, c40a, q40a, rfl, A40⟩
          have K40' : Hid (Kept (fun _ => False) WB v40) := K40.out.and0 A40.out.2.2
          go_wp2_with fail
          refine (dAll (X.out.2.2.1.k0 K40'.out) X.out.2.2.2.1 L2l).mono ?_
          rintro o u40 ⟨p40b, n40b, c40b, q40b, rfl, B40⟩
          have SA : Hid (Calls Tryz.prog 17 #[.slice p40a n40a c40a, .slice p40b n40b c40b] u40 fun o w' => o = .returned (.bool true) ∧ Kept (fun _ => False) u40 w') := by
            refine (sameAllG p40a p40b n40a n40b c40a c40b q40a q40b u40 (A40.out.1.k0 B40.out.2.2) B40.out.1).mono ?_
            rintro o w' ⟨⟨yb, rfl, hyb⟩, K⟩
            have SH := same_hist X.out.1 X.out.2.2.1 d0 (fun _ => Iff.rfl)
            have : yb = true := hyb.2 (all_one A40.out.2.1 B40.out.2.1 SH.1 SH.2)
            rw [this]
            exact ⟨rfl, K⟩
          have K40'' : Hid (Kept (fun _ => False) WB u40) := K40'.out.and0 B40.out.2.2
          clear A40 B40 K40'
          go_wp2_with fail
          refine SA.out.mono ?_
          rintro o z40 ⟨rfl, KZ⟩
          have K41 : Hid (Kept (fun _ => False) WB z40) := K40''.out.and0 KZ
          clear KZ SA K40 K40''
          go_wp2_with fail
          refine (dAll (X.out.2.2.2.2.1.k0 K41.out) X.out.2.2.2.2.2.1 L2l).mono ?_
          rintro o v41 ⟨p41a, n41a, c41a, q41a, rfl, A41⟩
          have K41' : Hid (Kept (fun _ => False) WB v41) := K41.out.and0 A41.out.2.2
          go_wp2_with fail
          refine (dAll (X.out.2.2.1.k0 K41'.out) X.out.2.2.2.1 L2l).mono ?_
          rintro o u41 ⟨p41b, n41b, c41b, q41b, rfl, B41⟩
          have SA : Hid (Calls Tryz.prog 17 #[.slice p41a n41a c41a, .slice p41b n41b c41b] u41 fun o w' => o = .returned (.bool true) ∧ Kept (fun _ => False) u41 w') := by
            refine (sameAllG p41a p41b n41a n41b c41a c41b q41a q41b u41 (A41.out.1.k0 B41.out.2.2) B41.out.1).mono ?_
            rintro o w' ⟨⟨yb, rfl, hyb⟩, K⟩
            have SH := same_hist X.out.2.2.2.2.1 X.out.2.2.1 d0 (fun _ => Iff.rfl)
            have : yb = true := hyb.2 (all_one A41.out.2.1 B41.out.2.1 SH.1 SH.2)
            rw [this]
            exact ⟨rfl, K⟩
          have K41'' : Hid (Kept (fun _ => False) WB u41) := K41'.out.and0 B41.out.2.2
          clear A41 B41 K41'
          go_wp2_with fail
          refine SA.out.mono ?_
          rintro o z41 ⟨rfl, KZ⟩
          have K42 : Hid (Kept (fun _ => False) WB z41) := K41''.out.and0 KZ
          clear KZ SA K41 K41''
          go_wp2_with fail
          refine (dKeys (X.out.1.k0 K42.out) X.out.2.1 L2l).mono ?_
          rintro o w50 ⟨g5, c5, n5, rfl, A50⟩
          have K50 : Hid (Kept (fun _ => False) WB w50) := by
            obtain ⟨_, _, _, _, _, _, K⟩ := A50.out
            exact K42.out.and0 K
          go_wp2_with fail
          refine (dKeys (X.out.2.2.1.k0 K50.out) X.out.2.2.2.1 L2l).mono ?_
          rintro o w51 ⟨g6, c6, n6, rfl, A51⟩
          have SK : Hid (Calls Tryz.prog 18 #[.slice (some ⟨g5, 0, none⟩) n5 c5, .slice (some ⟨g6, 0, none⟩) n6 c6] w51 fun o w' => o = .returned (.bool true) ∧ Kept (fun _ => False) w51 w') := by
            obtain ⟨ks5, l5, _, e5, s5, o5, _⟩ := A50.out
            obtain ⟨ks6, l6, _, e6, s6, o6, k6⟩ := A51.out
            have e := keys_same X.out.1 X.out.2.2.1 e5 s5 e6 s6
            subst e
            have en : n5 = n6 := l5.symm.trans l6
            subst en
            exact sameKeysE _ _ _ _ n5 c5 c6 ks5 w51 (k6.owns o5 (fun _ _ z => z)) o6 l5
          have K51 : Hid (Kept (fun _ => False) WB w51) := by
            obtain ⟨_, _, _, _, _, _, K⟩ := A51.out
            exact K50.out.and0 K
          clear A50 A51 K50 K42
          go_wp2_with fail
          refine SK.out.mono ?_
          rintro o w52 ⟨rfl, K52'⟩
          have K52 : Hid (Kept (fun _ => False) WB w52) := K51.out.and0 K52'
          clear K52' SK K51
          go_wp2_with fail
          refine (taken w52).mono ?_
          rintro o w53 ⟨rfl, K53⟩
          have KE : Hid (Kept (fun _ => False) w0 w53) := (X.out.2.2.2.2.2.2.1.and0 K52.out).and0 K53
          clear K53
          go_wp2_with fail
          go_ret
          exact ⟨rfl, KE.out⟩
end Go.Proofs.YtojepeefphbekaaGreat
