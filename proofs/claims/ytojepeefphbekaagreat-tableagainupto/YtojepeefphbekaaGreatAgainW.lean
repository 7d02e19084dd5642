import Derived.Test.YtojepeefphbekaaGreatAgain1
import Derived.Test.YtojepeefphbekaaGreatTurns
import Derived.BigQuiet
namespace Go.Proofs.YtojepeefphbekaaGreat
open Go.RowKit 

set_option maxRecDepth 100000 in
set_option maxHeartbeats 8000000 in
/-- TableAgain. -/
theorem againWalk (d : Int) (a : Option Addr) (len cap : Nat) (l : List Mv) (ma : Option Addr) (mlen mcap : Nat) (ml : List Mv) (cut : Int) (w : World) (r : MReads w a len cap l) (hl : len ≤ 1048576) (rm : MReads w ma mlen mcap ml) (hm : mlen ≤ 1048576) : Calls Tryz.prog 6 #[.int .i64 d, .slice a len cap, .agg #[.slice ma mlen mcap, .int .i64 cut]] w fun o w' => o = .returned (.bool true) ∧ Kept (fun _ => False) w w' := by
  obtain ⟨dd, hdd⟩ : ∃ dd, dd = d % 5 := ⟨_, rfl⟩
  have d0 : 0 ≤ dd := by rw [hdd]; exact Int.emod_nonneg d (by omega)
  have d4 : dd < 5 := by rw [hdd]; exact Int.emod_lt_of_pos d (by omega)
  have SM : Hid (∀ V : World, Calls Tryz.prog 8 #[.int .i64 d] V fun o w' => o = .returned (.int .i64 dd) ∧ w' = V) := by rw [hdd]; exact fun V => small d V
  obtain ⟨W, hW⟩ : ∃ W, W = w.alloc (.cells #[.slice ma mlen mcap, .int .i64 cut] 63) := ⟨_, rfl⟩
  have H0 : Hid (W.heap[w.heap.size]? = some (.cells #[.slice ma mlen mcap, .int .i64 cut] 63 (0, 0)) ∧ Kept (fun _ => False) w W) := by
    rw [hW]
    exact ⟨heap_alloc_new _ _, k0_alloc _ _⟩
  have EW : Hid (W = w.alloc (.cells #[.slice ma mlen mcap, .int .i64 cut] 63)) := hW
  have HM : Hid (MReads W a len cap l ∧ MReads W ma mlen mcap ml) := ⟨r.by H0.out.2 (fun _ _ z => z), rm.by H0.out.2 (fun _ _ z => z)⟩
  clear hdd r rm hW
  go_enter Tryz.func6, Tryz.ntmps6
  go_upto_region 1 with fail
  rw [← EW.out]
  have c0 := cell_blk H0.out.1 0 (v := .slice ma mlen mcap) rfl
  have c1 := cell_blk H0.out.1 1 (v := .int .i64 cut) rfl
  go_quiet (fail)
  obtain ⟨V0, hV0⟩ : ∃ V0, V0 = W.drewN nq := ⟨_, rfl⟩
  have HV : Hid (MReads V0 a len cap l ∧ MReads V0 ma mlen mcap ml ∧ Kept (fun _ => False) w V0) := by
    have K : Kept (fun _ => False) W V0 := by rw [hV0]; exact k0_of (below_dN (Below.refl _ _) nq)
    exact ⟨HM.out.1.by K (fun _ _ z => z), HM.out.2.by K (fun _ _ z => z), H0.out.2.and0 K⟩
  rw [← hV0]
  clear hV0 c0 c1 HM H0 EW
  go_wp2_with fail
  refine (SM.out V0).mono ?_
  rintro o w0 ⟨rfl, hw0⟩
  subst hw0
  go_wp2_with fail
  refine (tDone dd a len cap l w0 HV.out.1 (by omega) d0 (by omega)).mono ?_
  rintro o w1 ⟨tb, rfl, D1⟩
  obtain ⟨t, dst, et⟩ := D1.out
  have HD : Hid (Dst w0 w1 dd t l ∧ t.tb = tb ∧ l.length ≤ 4398046511104) := ⟨dst, et, by rw [HV.out.1.length]; omega⟩
  clear dst et D1 SM
  go_wp2_with fail
  refine (dAll HD.out.1 HD.out.2.1 HD.out.2.2).mono ?_
  rintro o w2 ⟨p2, n2, c2, vs, rfl, A2⟩
  go_wp2_with fail
  refine (dUpdates (HD.out.1.k0 A2.out.2.2) HD.out.2.1 HD.out.2.2).mono ?_
  rintro o w3 ⟨p3, n3, c3, rfl, vs3, U3⟩
  have ev : vs3 = vs := all_same U3.out.2.1 A2.out.2.1
  subst ev
  have H3 : Hid (Dst w0 w3 dd t l ∧ AllOf t (datOf t) vs3 ∧ AllRd w3 p2 n2 c2 vs3 ∧ UpRd 0 w3 p3 n3 c3 (flat vs3) ∧ (flat vs3).length ≤ 180) := ⟨(HD.out.1.k0 A2.out.2.2).k0 U3.out.2.2, A2.out.2.1, A2.out.1.k0 U3.out.2.2, U3.out.1, flat_few HD.out.1 A2.out.2.1⟩
  have n180 : n3 ≤ 180 := by rw [← U3.out.1.len]; exact H3.out.2.2.2.2
  have c3r : n3 ≤ c3 := U3.out.1.small.1
  have c3m : c3 ≤ maxLen := U3.out.1.small.2
  unfold maxLen at c3m
  clear A2 U3
  go_wp2_with fail
  refine (new_good dd w3 d0 (by omega)).mono ?_
  rintro o w4 ⟨tbA, rbA, rfl, iA, KA, eA1, eA2⟩
  have HA : Hid (IsT w4 0 ⟨tbA, rbA, dd, fun _ => none⟩ ∧ Kept (fun _ => False) w3 w4 ∧ w3.heap.size ≤ tbA ∧ w3.heap.size ≤ rbA) := ⟨iA, KA, eA1, eA2⟩
  clear iA KA eA1 eA2
  go_wp2_with fail
  refine (new_good dd w4 d0 (by omega)).mono ?_
  rintro o w5 ⟨tbB, rbB, rfl, iB, KB, eB1, eB2⟩
  have D5 : Hid (∃ ta tb', Duo w3 w5 dd ta tb' (((flat vs3).take 0).map mvOf) [] ∧ ta.tb = tbA ∧ tb'.tb = tbB) := ⟨_, _, duo_new d0 HA.out.1 HA.out.2.1 HA.out.2.2.1 HA.out.2.2.2 iB KB eB1 eB2, rfl, rfl⟩
  clear iB KB eB1 eB2 HA
  go_wp2_with fail
  go_loopw [6, 18, 19, 20, 59] (fun _ _ _ _ z wr => ∃ (i : Nat), z = .int .i64 (i : Int) ∧ i ≤ n3 ∧ Hid (∃ ta tb', Duo w3 wr dd ta tb' (((flat vs3).take i).map mvOf) [] ∧ ta.tb = tbA ∧ tb'.tb = tbB)) (fun _ _ _ _ z _ => n3 - (intOf z).toNat)
  case atStart => exact ⟨0, rfl, Nat.zero_le _, D5⟩
  case round =>
    obtain ⟨i, rfl, hi, S⟩ := hrel
    obtain ⟨wq, hwq⟩ : ∃ wq, wq = wr := ⟨_, rfl⟩
    rw [← hwq] at S ⊢
    clear D5 hwq
    by_cases hlt : i < n3
    · have i1 : (i : Int) < (n3 : Int) := by omega
      obtain ⟨ta, tb', du, ea, eb⟩ := S.out
      obtain ⟨b, k, x, y, f, g, ld, ua, um, uc, rfl, hv, e0, e1, e2, e3, e4, e5, e6, rd⟩ := (H3.out.2.2.2.1.k0 du.a.kept).at hlt
      obtain ⟨W1, hW1⟩ : ∃ W1, W1 = wq.alloc (.cells #[.int .i64 3, .string k, .int .i64 x, .int .i64 y, .bool f, .bool g, .slice ua um uc] 44) := ⟨_, rfl⟩
      obtain ⟨X1, hX1⟩ : ∃ X1, X1 = wq.heap.size := ⟨_, rfl⟩
      have J : Hid (W1.heap[X1]? = some (.cells #[.int .i64 3, .string k, .int .i64 x, .int .i64 y, .bool f, .bool g, .slice ua um uc] 44 (0, 0)) ∧ Duo w3 W1 dd ta tb' (((flat vs3).take i).map mvOf) [] ∧ ta.tb = tbA ∧ tb'.tb = tbB ∧ Reads W1 ua um uc ld ∧ (flat vs3)[i]? = some (k, entV x y f g ld)) := by
        have K1 : Kept (fun _ => False) wq W1 := by rw [hW1]; exact k0_alloc _ _
        exact ⟨by rw [hW1, hX1]; exact heap_alloc_new _ _, du.k0 K1, ea, eb, rd.kept K1 (fun _ _ z => z), hv⟩
      have EW1 : Hid (W1 = wq.alloc (.cells #[.int .i64 3, .string k, .int .i64 x, .int .i64 y, .bool f, .bool g, .slice ua um uc] 44) ∧ X1 = wq.heap.size) := ⟨hW1, hX1⟩
      clear hW1 hX1 du ea eb rd hv
      go_upto_region 13 with fail
      rw [← EW1.out.1, ← EW1.out.2]
      clear e0 e1 e2 e3 e4 e5 e6
      have g0 := cell_blk J.out.1 0 (v := .int .i64 3) rfl
      have g1 := cell_blk J.out.1 1 (v := .string k) rfl
      have g2 := cell_blk J.out.1 2 (v := .int .i64 x) rfl
      have g3 := cell_blk J.out.1 3 (v := .int .i64 y) rfl
      have g4 := cell_blk J.out.1 4 (v := .bool f) rfl
      have g5 := cell_blk J.out.1 5 (v := .bool g) rfl
      have g6 := cell_blk J.out.1 6 (v := .slice ua um uc) rfl
      go_wp2_with fail
      refine (againA H3.out.1 H3.out.2.1 d0 J.out.2.1 J.out.2.2.1 H3.out.2.2.2.2 J.out.2.2.2.2.2 J.out.2.2.2.2.1).mono ?_
      rintro o w6 ⟨rfl, Q6⟩
      have S6 : Hid (∃ ta tb', Duo w3 w6 dd ta tb' (((flat vs3).take (i + 1)).map mvOf) [] ∧ ta.tb = tbA ∧ tb'.tb = tbB) := by
        obtain ⟨ta', q1, q2⟩ := Q6.out
        exact ⟨ta', tb', q1, q2, J.out.2.2.2.1⟩
      clear Q6 g0 g1 g2 g3 g4 g5 g6
      go_wp2_with fail
      go_roundw
      case rel => exact ⟨i + 1, by go_num, by omega, S6⟩
      case measure => simp [intOf] <;> omega
    · have i1 : ¬ (i : Int) < (n3 : Int) := by omega
      have E1 : Hid (∃ (ta tb' : TK) (L : List Uv), Duo w3 wq dd ta tb' ((flat vs3).map mvOf) (L.map mvOf) ∧ ta.tb = tbA ∧ tb'.tb = tbB ∧ (∀ u ∈ L, u ∈ flat vs3) ∧ L.length ≤ 0) := by
        obtain ⟨ta, tb', du, ea, eb⟩ := S.out
        rw [List.take_of_length_le (by rw [H3.out.2.2.2.1.len]; omega)] at du
        exact ⟨ta, tb', [], du, ea, eb, fun u hu => (by cases hu), Nat.le_refl _⟩
      obtain ⟨q1, q2⟩ := mdB cut 9 (by omega) (by omega)
      clear S
      go_wp2_with fail
      go_loopw [21, 78] (fun _ z wr => ∃ (j : Nat), z = .int .i64 (j : Int) ∧ j ≤ n3 ∧ Hid (∃ (ta tb' : TK) (L : List Uv), Duo w3 wr dd ta tb' ((flat vs3).map mvOf) (L.map mvOf) ∧ ta.tb = tbA ∧ tb'.tb = tbB ∧ (∀ u ∈ L, u ∈ flat vs3) ∧ L.length ≤ j)) (fun _ z _ => n3 - (intOf z).toNat)
      case atStart => exact ⟨0, rfl, Nat.zero_le _, E1⟩
      case round =>
        obtain ⟨j, rfl, hj, S⟩ := hrel
        obtain ⟨wp, hwp⟩ : ∃ wp, wp = wr := ⟨_, rfl⟩
        rw [← hwp] at S ⊢
        clear E1 hwp
        by_cases hjl : j < n3
        · have j1 : (j : Int) < (n3 : Int) := by omega
          by_cases hjc : (j : Int) < cut % 9
          · obtain ⟨ta, tb', L, du, ea, eb, hL, ll⟩ := S.out
            obtain ⟨b, k, x, y, f, g, ld, ua, um, uc, rfl, hv, e0, e1, e2, e3, e4, e5, e6, rd⟩ := (H3.out.2.2.2.1.k0 du.a.kept).at hjl
            have J : Hid (Duo w3 wp dd ta tb' ((flat vs3).map mvOf) (L.map mvOf) ∧ ta.tb = tbA ∧ tb'.tb = tbB ∧ Reads wp ua um uc ld ∧ (flat vs3)[j]? = some (k, entV x y f g ld) ∧ (∀ u ∈ L, u ∈ flat vs3) ∧ L.length ≤ j ∧ L.length ≤ 1000) := ⟨du, ea, eb, rd, hv, hL, ll, by omega⟩
            clear du ea eb rd hv hL ll
            go_wp2_with fail
            refine (againB H3.out.1 H3.out.2.1 d0 J.out.1 J.out.2.2.1 J.out.2.2.2.2.2.2.2 J.out.2.2.2.2.1 J.out.2.2.2.1).mono ?_
            rintro o w6 ⟨b0, rfl, Q6⟩
            have S6 : Hid (∃ (ta tb' : TK) (L : List Uv), Duo w3 w6 dd ta tb' ((flat vs3).map mvOf) (L.map mvOf) ∧ ta.tb = tbA ∧ tb'.tb = tbB ∧ (∀ u ∈ L, u ∈ flat vs3) ∧ L.length ≤ j + 1) := by
              obtain ⟨tb2, q1, q2⟩ := Q6.out
              refine ⟨ta, tb2, _, q1, J.out.2.1, q2, fun u hu => ?_, by rw [List.length_append]; have := J.out.2.2.2.2.2.2.1; show L.length + 1 ≤ _; omega⟩
              rcases List.mem_append.1 hu with z | z
              · exact J.out.2.2.2.2.2.1 u z
              · rw [List.mem_singleton] at z
                rw [z]
                exact List.mem_of_getElem? J.out.2.2.2.2.1
            clear Q6 e0 e1 e2 e3 e4 e5 e6
            go_wp2_with fail
            go_roundw
            case rel => exact ⟨j + 1, by go_num, by omega, S6⟩
            case measure => simp [intOf] <;> omega
          · have S6 : Hid (∃ (ta tb' : TK) (L : List Uv), Duo w3 wp dd ta tb' ((flat vs3).map mvOf) (L.map mvOf) ∧ ta.tb = tbA ∧ tb'.tb = tbB ∧ (∀ u ∈ L, u ∈ flat vs3) ∧ L.length ≤ j + 1) := by
              obtain ⟨ta, tb', L, du, ea, eb, hL, ll⟩ := S.out
              exact ⟨ta, tb', L, du, ea, eb, hL, by omega⟩
            go_wp2_with fail
            go_roundw
            case rel => exact ⟨j + 1, by go_num, by omega, S6⟩
            case measure => simp [intOf] <;> omega
        · have j1 : ¬ (j : Int) < (n3 : Int) := by omega
          clear q1 q2
          obtain ⟨ta0, tb0, L0, du0, ea0, eb0, hL0, ll0⟩ := S.out
          have B0 : Hid ((∀ u ∈ L0, u ∈ flat vs3) ∧ L0.length ≤ 180) := ⟨hL0, by omega⟩
          have E2 : Hid (∃ ta tb', Duo w3 wp dd ta tb' ((flat vs3).map mvOf) ((L0 ++ (flat vs3).take 0).map mvOf) ∧ ta.tb = tbA ∧ tb'.tb = tbB) := ⟨ta0, tb0, by rw [List.take_zero, List.append_nil]; exact du0, ea0, eb0⟩
          clear S du0 ea0 eb0 hL0 ll0
          go_wp2_with fail
          go_loopw [23, 96] (fun _ z wr => ∃ (j : Nat), z = .int .i64 (j : Int) ∧ j ≤ n3 ∧ Hid (∃ ta tb', Duo w3 wr dd ta tb' ((flat vs3).map mvOf) ((L0 ++ (flat vs3).take j).map mvOf) ∧ ta.tb = tbA ∧ tb'.tb = tbB)) (fun _ z _ => n3 - (intOf z).toNat)
          case atStart => exact ⟨0, rfl, Nat.zero_le _, E2⟩
          case round =>
            obtain ⟨m, rfl, hmm, S⟩ := hrel
            obtain ⟨wq2, hwq⟩ : ∃ wq2, wq2 = wr := ⟨_, rfl⟩
            rw [← hwq] at S ⊢
            clear E2 hwq
            by_cases hml : m < n3
            · have m1 : (m : Int) < (n3 : Int) := by omega
              obtain ⟨ta, tb', du, ea, eb⟩ := S.out
              obtain ⟨b, k, x, y, f, g, ld, ua, um, uc, rfl, hv, e0, e1, e2, e3, e4, e5, e6, rd⟩ := (H3.out.2.2.2.1.k0 du.a.kept).at hml
              obtain ⟨W1, hW1⟩ : ∃ W1, W1 = wq2.alloc (.cells #[.int .i64 3, .string k, .int .i64 x, .int .i64 y, .bool f, .bool g, .slice ua um uc] 44) := ⟨_, rfl⟩
              obtain ⟨X1, hX1⟩ : ∃ X1, X1 = wq2.heap.size := ⟨_, rfl⟩
              have J : Hid (W1.heap[X1]? = some (.cells #[.int .i64 3, .string k, .int .i64 x, .int .i64 y, .bool f, .bool g, .slice ua um uc] 44 (0, 0)) ∧ Duo w3 W1 dd ta tb' ((flat vs3).map mvOf) ((L0 ++ (flat vs3).take m).map mvOf) ∧ ta.tb = tbA ∧ tb'.tb = tbB ∧ Reads W1 ua um uc ld ∧ (flat vs3)[m]? = some (k, entV x y f g ld) ∧ (L0 ++ (flat vs3).take m).length ≤ 1000) := by
                have K1 : Kept (fun _ => False) wq2 W1 := by rw [hW1]; exact k0_alloc _ _
                exact ⟨by rw [hW1, hX1]; exact heap_alloc_new _ _, du.k0 K1, ea, eb, rd.kept K1 (fun _ _ z => z), hv, by rw [List.length_append, List.length_take]; have := B0.out.2; omega⟩
              have EW1 : Hid (W1 = wq2.alloc (.cells #[.int .i64 3, .string k, .int .i64 x, .int .i64 y, .bool f, .bool g, .slice ua um uc] 44) ∧ X1 = wq2.heap.size) := ⟨hW1, hX1⟩
              clear hW1 hX1 du ea eb rd hv
              go_upto_region 26 with fail
              rw [← EW1.out.1, ← EW1.out.2]
              clear e0 e1 e2 e3 e4 e5 e6
              have g0 := cell_blk J.out.1 0 (v := .int .i64 3) rfl
              have g1 := cell_blk J.out.1 1 (v := .string k) rfl
              have g2 := cell_blk J.out.1 2 (v := .int .i64 x) rfl
              have g3 := cell_blk J.out.1 3 (v := .int .i64 y) rfl
              have g4 := cell_blk J.out.1 4 (v := .bool f) rfl
              have g5 := cell_blk J.out.1 5 (v := .bool g) rfl
              have g6 := cell_blk J.out.1 6 (v := .slice ua um uc) rfl
              go_wp2_with fail
              refine (againB H3.out.1 H3.out.2.1 d0 J.out.2.1 J.out.2.2.2.1 J.out.2.2.2.2.2.2 J.out.2.2.2.2.2.1 J.out.2.2.2.2.1).mono ?_
              rintro o w6 ⟨b0, rfl, Q6⟩
              have S6 : Hid (∃ ta tb', Duo w3 w6 dd ta tb' ((flat vs3).map mvOf) ((L0 ++ (flat vs3).take (m + 1)).map mvOf) ∧ ta.tb = tbA ∧ tb'.tb = tbB) := by
                obtain ⟨tb2, q1, q2⟩ := Q6.out
                refine ⟨ta, tb2, ?_, J.out.2.2.1, q2⟩
                rw [List.append_assoc] at q1
                rw [List.take_add_one, J.out.2.2.2.2.2.1]
                exact q1
              clear Q6 g0 g1 g2 g3 g4 g5 g6
              go_wp2_with fail
              go_roundw
              case rel => exact ⟨m + 1, by go_num, by omega, S6⟩
              case measure => simp [intOf] <;> omega
            · have m1 : ¬ (m : Int) < (n3 : Int) := by omega
              obtain ⟨ta, tB, du, ea, eb⟩ := S.out
              have D6 : Hid (Duo w3 wq2 dd ta tB ((flat vs3).map mvOf) ((L0 ++ flat vs3).map mvOf) ∧ ta.tb = tbA ∧ tB.tb = tbB ∧ Dst w0 wq2 dd t l ∧ AllRd wq2 p2 n2 c2 vs3 ∧ Kept (fun _ => False) w0 wq2) := by
                have du2 := du
                rw [List.take_of_length_le (by rw [H3.out.2.2.2.1.len]; omega)] at du2
                exact ⟨du2, ea, eb, H3.out.1.k0 du.a.kept, H3.out.2.2.1.k0 du.a.kept, H3.out.1.kept.and0 du.a.kept⟩
              clear S du ea eb
              go_wp2_with fail
              refine (dCopy D6.out.2.2.2.1 HD.out.2.1 HD.out.2.2).mono ?_
              rintro o w7 ⟨tbC, rfl, Q7⟩
              have C7 : Hid (∃ c, Dst wq2 w7 dd c (l ++ ml.take 0) ∧ c.tb = tbC) := by
                obtain ⟨c, q1, q2⟩ := Q7.out
                exact ⟨c, by rw [List.take_zero, List.append_nil]; exact q1, q2⟩
              have smM := HV.out.2.1.small
              have rmM := HV.out.2.1.room
              have lM := HV.out.2.1.length
              have lL := HV.out.1.length
              unfold maxLen at smM
              clear Q7
              go_wp2_with fail
              go_loopw [26, 108] (fun _ z wr => ∃ (i : Nat), z = .int .i64 (i : Int) ∧ i ≤ mlen ∧ Hid (∃ c, Dst wq2 wr dd c (l ++ ml.take i) ∧ c.tb = tbC)) (fun _ z _ => mlen - (intOf z).toNat)
              case atStart => exact ⟨0, rfl, Nat.zero_le _, C7⟩
              case round =>
                obtain ⟨i2, rfl, hi2, S⟩ := hrel
                obtain ⟨wz, hwz⟩ : ∃ wz, wz = wr := ⟨_, rfl⟩
                rw [← hwz] at S ⊢
                clear C7 hwz
                by_cases hil : i2 < mlen
                · have i3 : (i2 : Int) < (mlen : Int) := by omega
                  obtain ⟨c, dc, ec⟩ := S.out
                  have kz : Kept (fun _ => False) w0 wz := D6.out.2.2.2.2.2.and0 dc.kept
                  obtain ⟨mb, off, rfl, hc0⟩ := (HV.out.2.1.by kz (fun _ _ z => z)).cells (by omega)
                  obtain ⟨⟨mk, mf, mo, mc, mj⟩, hmv⟩ : ∃ m, m = ml.getD i2 Mv.zero := ⟨_, rfl⟩
                  have B1 : Hid (Dst wq2 wz dd c (l ++ ml.take i2) ∧ c.tb = tbC ∧ (l ++ ml.take i2).length < 4398046511104 ∧ l ++ ml.take i2 ++ [⟨mk, mf, mo, mc, mj⟩] = l ++ ml.take (i2 + 1)) := by
                    refine ⟨dc, ec, by rw [List.length_append, List.length_take]; omega, ?_⟩
                    have hil2 : i2 < ml.length := by omega
                    rw [hmv, List.getD_eq_getElem?_getD, List.getElem?_eq_getElem hil2, List.take_add_one, List.getElem?_eq_getElem hil2, List.append_assoc]
                    rfl
                  have hc := hc0 i2 hil
                  clear hc0
                  rw [← hmv] at hc
                  obtain ⟨m0, m1', m2, m3, m4⟩ := hc
                  clear hmv dc ec S kz
                  dsimp only at m0 m1' m2 m3 m4
                  rw [Nat.add_zero] at m0
                  go_upto_region 32 with fail
                  obtain ⟨W9, hW9⟩ : ∃ W9, W9 = wz.alloc (.cells #[.int .i64 mk, .bool mf, .bool mo, .int .i64 mc, .int .i64 mj] 28) := ⟨_, rfl⟩
                  obtain ⟨X9, hX9⟩ : ∃ X9, X9 = wz.heap.size := ⟨_, rfl⟩
                  have B2 : Hid (Dst wq2 W9 dd c (l ++ ml.take i2) ∧ W9.heap[X9]? = some (.cells #[.int .i64 mk, .bool mf, .bool mo, .int .i64 mc, .int .i64 mj] 28 (0, 0))) := by
                    rw [hW9, hX9]
                    exact ⟨B1.out.1.k0 (k0_alloc _ _), heap_alloc_new _ _⟩
                  rw [← hW9, ← hX9]
                  clear hW9 hX9 m0 m1' m2 m3 m4
                  have g0 := cell_blk B2.out.2 0 (v := .int .i64 mk) rfl
                  have g1 := cell_blk B2.out.2 1 (v := .bool mf) rfl
                  have g2 := cell_blk B2.out.2 2 (v := .bool mo) rfl
                  have g3 := cell_blk B2.out.2 3 (v := .int .i64 mc) rfl
                  have g4 := cell_blk B2.out.2 4 (v := .int .i64 mj) rfl
                  go_wp2_with fail
                  refine (dUpdate ⟨mk, mf, mo, mc, mj⟩ W9).mono ?_
                  rintro o w8 ⟨kd, key, x, y, fin, has, ua, un, uc, lu, rfl, U8⟩
                  have B3 : Hid (Dst wq2 w8 dd c (l ++ ml.take i2)) := B2.out.1.k0 U8.out.2.2
                  clear g0 g1 g2 g3 g4
                  go_wp2_with fail
                  refine (dApplyK B3.out B1.out.2.1 d0 B1.out.2.2.1 U8.out.1.ok U8.out.2.1).mono ?_
                  rintro o w9 ⟨rfl, Q9⟩
                  have S9 : Hid (∃ c, Dst wq2 w9 dd c (l ++ ml.take (i2 + 1)) ∧ c.tb = tbC) := by
                    obtain ⟨c', q1, q2, _, _⟩ := Q9.out
                    rw [B1.out.2.2.2] at q1
                    exact ⟨c', q1, q2⟩
                  clear Q9
                  go_wp2_with fail
                  go_roundw
                  case rel => exact ⟨i2 + 1, by go_num, by omega, S9⟩
                  case measure => simp [intOf] <;> omega
                · have i3 : ¬ (i2 : Int) < (mlen : Int) := by omega
                  obtain ⟨c, dc, ec⟩ := S.out
                  have F : Hid (Dst wq2 wz dd c (l ++ ml) ∧ c.tb = tbC ∧ (l ++ ml).length ≤ 4398046510976 ∧ Kept (fun _ => False) w0 wz ∧ Kept (fun _ => False) wq2 wz) := by
                    have q := dc
                    rw [List.take_of_length_le (by omega)] at q
                    exact ⟨q, ec, by rw [List.length_append]; omega, D6.out.2.2.2.2.2.and0 dc.kept, dc.kept⟩
                  clear S dc ec
                  have BL1 : Hid (0 + len ≤ maxLen ∧ ((0 + len) + (0 + len) / 4 + 192) * 32 ≤ 281474976710656) := by
                    unfold maxLen
                    exact ⟨by omega, by omega⟩
                  have BL2 : Hid (len + mlen ≤ maxLen ∧ ((len + mlen) + (len + mlen) / 4 + 192) * 32 ≤ 281474976710656) := by
                    unfold maxLen
                    exact ⟨by omega, by omega⟩
                  obtain ⟨eb, heb⟩ : ∃ eb, eb = wz.heap.size := ⟨_, rfl⟩
                  have OE : Hid ((wz.alloc (.cells #[] 28)).ownsRow eb 28 5 (.slice (some ⟨eb, 0, none⟩) 0 0) 0 [] ∧ MReads (wz.alloc (.cells #[] 28)) a len cap l ∧ eb = wz.heap.size) := by
                    refine ⟨⟨rfl, .inr ⟨eb, 0, #[], rfl, Nat.le_refl _, by rw [heb]; exact heap_alloc_new _ _, Nat.le_refl _, by unfold maxLen; omega, rfl, rfl⟩⟩, HV.out.1.by (F.out.2.2.2.1.and0 (k0_alloc _ _)) (fun _ _ z => z), heb⟩
                  go_wp2_with
                    (first
                      | (at_builtin; rw [← heb]; refine wpList_append_all _ rfl (.tmp 119) (.tmp 120) 22 28 22 _ 5 32 rfl Tryz.underlying22 Tryz.info28c rfl eb (.slice (some ⟨eb, 0, none⟩) 0 0) 0 [] rfl OE.out.1 _ len (mcells l) rfl (src_moves OE.out.2.1) BL1.out.1 BL1.out.2 (by rw [OE.out.2.2]; exact (k0_alloc wz _).size) ?_; intro p9 c9 w9 ho hg hn
                         have G9 : Hid (w9.ownsRow eb 28 5 (.slice p9 len c9) len (mcells l) ∧ Kept (fun _ => False) wz w9 ∧ MReads w9 ma mlen mcap ml) := by
                           have K9 : Kept (fun _ => False) wz w9 := ((k0_alloc wz (.cells #[] 28)).mono (fun _ _ z => z.elim)).trans ((Kept.refl (fun k => k = eb) _).grown hg.out (fun k _ z => by simp [Value.ownBlock] at z; exact z.symm)) (fun j hj z => by have z : j = eb := z; omega)
                           exact ⟨by have := ho.out; rw [Nat.zero_add, List.nil_append] at this; exact this, K9, HV.out.2.1.by (F.out.2.2.2.1.and0 K9) (fun _ _ z => z)⟩
                         clear ho hg hn)
                      | (at_builtin; refine wpList_append_all _ rfl (.tmp 121) (.tmp 122) 22 28 22 _ 5 32 rfl Tryz.underlying22 Tryz.info28c rfl eb (.slice p9 len c9) len (mcells l) rfl G9.out.1 _ mlen (mcells ml) rfl (src_moves G9.out.2.2) BL2.out.1 BL2.out.2 (by rw [OE.out.2.2]; exact G9.out.2.1.size) ?_; intro p10 c10 w10 ho hg hn
                         have G10 : Hid (MReads w10 p10 (len + mlen) c10 (l ++ ml) ∧ Kept (fun _ => False) wz w10) := by
                           refine ⟨mreads_of (b0 := eb) (L := l ++ ml) ?_ (by rw [List.length_append]; omega), G9.out.2.1.trans ((Kept.refl (fun k => blockOf p9 = some k) _).grown hg.out (fun k _ z => by rw [blockOf_own] at z; exact z)) (fun j hj z => ?_)⟩
                           · have := ho.out
                             rw [← mcells_append] at this
                             exact this
                           · have := (own_lt G9.out.1 j z).1
                             have := OE.out.2.2
                             omega
                         clear ho hg hn)
                      | fail)
                  refine (tDone dd p10 (len + mlen) c10 (l ++ ml) w10 G10.out.1 (by omega) d0 (by omega)).mono ?_
                  rintro o w11 ⟨tbD, rfl, Q11⟩
                  obtain ⟨tD, dD, eD⟩ := Q11.out
                  have K11 : Kept (fun _ => False) wz w11 := G10.out.2.and0 dD.kept
                  have KQ : Kept (fun _ => False) wq2 w11 := F.out.2.2.2.2.and0 K11
                  have N : Hid (Dst w10 w11 dd tD (l ++ ml) ∧ tD.tb = tbD ∧ Dst wq2 w11 dd c (l ++ ml) ∧ Dst w3 w11 dd ta ((flat vs3).map mvOf) ∧ Dst w3 w11 dd tB ((L0 ++ flat vs3).map mvOf) ∧ Dst w0 w11 dd t l ∧ AllRd w11 p2 n2 c2 vs3 ∧ Kept (fun _ => False) w w11) := ⟨dD, eD, F.out.1.k0 K11, D6.out.1.a.k0 KQ, D6.out.1.b.k0 KQ, D6.out.2.2.2.1.k0 KQ, D6.out.2.2.2.2.1.k0 KQ, (HV.out.2.2.and0 D6.out.2.2.2.2.2).and0 KQ⟩
                  have LN : Hid (((flat vs3).map mvOf).length ≤ 4398046511104 ∧ ((L0 ++ flat vs3).map mvOf).length ≤ 4398046511104 ∧ (l ++ ml).length ≤ 4398046511104) := by
                    have h1 := H3.out.2.2.2.2
                    have h2 := B0.out.2
                    have h3 := F.out.2.2.1
                    refine ⟨by rw [List.length_map]; omega, by rw [List.length_map, List.length_append]; omega, by omega⟩
                  clear Q11 dD eD K11 KQ
                  go_wp2_with fail
                  refine (dAll N.out.2.2.2.1 D6.out.2.1 LN.out.1).mono ?_
                  rintro o w12 ⟨p12, n12, c12, v12, rfl, A12⟩
                  have SA : Hid (Calls Tryz.prog 17 #[.slice p12 n12 c12, .slice p2 n2 c2] w12 fun o w' => o = .returned (.bool true) ∧ Kept (fun _ => False) w12 w') := by
                    refine (sameAllG p12 p2 n12 n2 c12 c2 v12 vs3 w12 A12.out.1 (N.out.2.2.2.2.2.2.1.k0 A12.out.2.2)).mono ?_
                    rintro o w' ⟨⟨yb, rfl, hyb⟩, K⟩
                    have : yb = true := hyb.2 (told_want H3.out.1 H3.out.2.1 N.out.2.2.2.1 d0 (fun _ => Iff.rfl) A12.out.2.1)
                    rw [this]
                    exact ⟨rfl, K⟩
                  have K12 : Hid (Kept (fun _ => False) w11 w12) := A12.out.2.2
                  clear A12
                  go_wp2_with fail
                  refine SA.out.mono ?_
                  rintro o w13 ⟨rfl, K13'⟩
                  have K13 : Hid (Kept (fun _ => False) w11 w13) := K12.out.and0 K13'
                  clear K13' SA K12
                  go_wp2_with fail
                  refine (dAll (N.out.2.2.2.2.1.k0 K13.out) D6.out.2.2.1 LN.out.2.1).mono ?_
                  rintro o w14 ⟨p14, n14, c14, v14, rfl, A14⟩
                  have SA : Hid (Calls Tryz.prog 17 #[.slice p14 n14 c14, .slice p2 n2 c2] w14 fun o w' => o = .returned (.bool true) ∧ Kept (fun _ => False) w14 w') := by
                    refine (sameAllG p14 p2 n14 n2 c14 c2 v14 vs3 w14 A14.out.1 ((N.out.2.2.2.2.2.2.1.k0 K13.out).k0 A14.out.2.2)).mono ?_
                    rintro o w' ⟨⟨yb, rfl, hyb⟩, K⟩
                    have : yb = true := hyb.2 (told_want H3.out.1 H3.out.2.1 N.out.2.2.2.2.1 d0 (fun u => ⟨fun hu => (List.mem_append.1 hu).elim (fun z => B0.out.1 u z) id, fun hu => List.mem_append.2 (.inr hu)⟩) A14.out.2.1)
                    rw [this]
                    exact ⟨rfl, K⟩
                  have K14 : Hid (Kept (fun _ => False) w11 w14) := K13.out.and0 A14.out.2.2
                  clear A14 K13
                  go_wp2_with fail
                  refine SA.out.mono ?_
                  rintro o w15 ⟨rfl, K15'⟩
                  have K15 : Hid (Kept (fun _ => False) w11 w15) := K14.out.and0 K15'
                  clear K15' SA K14
                  go_wp2_with fail
                  refine (dAll (N.out.2.2.2.2.2.1.k0 K15.out) HD.out.2.1 HD.out.2.2).mono ?_
                  rintro o w16 ⟨p16, n16, c16, v16, rfl, A16⟩
                  have SA : Hid (Calls Tryz.prog 17 #[.slice p16 n16 c16, .slice p2 n2 c2] w16 fun o w' => o = .returned (.bool true) ∧ Kept (fun _ => False) w16 w') := by
                    refine (sameAllG p16 p2 n16 n2 c16 c2 v16 vs3 w16 A16.out.1 ((N.out.2.2.2.2.2.2.1.k0 K15.out).k0 A16.out.2.2)).mono ?_
                    rintro o w' ⟨⟨yb, rfl, hyb⟩, K⟩
                    have : yb = true := hyb.2 (all_same A16.out.2.1 H3.out.2.1)
                    rw [this]
                    exact ⟨rfl, K⟩
                  have K16 : Hid (Kept (fun _ => False) w11 w16) := K15.out.and0 A16.out.2.2
                  clear A16 K15
                  go_wp2_with fail
                  refine SA.out.mono ?_
                  rintro o w17 ⟨rfl, K17'⟩
                  have K17 : Hid (Kept (fun _ => False) w11 w17) := K16.out.and0 K17'
                  clear K17' SA K16
                  go_wp2_with fail
                  refine (dAll (N.out.2.2.1.k0 K17.out) F.out.2.1 LN.out.2.2).mono ?_
                  rintro o w18 ⟨p18, n18, c18, v18, rfl, A18⟩
                  have K18 : Hid (Kept (fun _ => False) w11 w18) := K17.out.and0 A18.out.2.2
                  clear K17
                  go_wp2_with fail
                  refine (dAll (N.out.1.k0 K18.out) N.out.2.1 LN.out.2.2).mono ?_
                  rintro o w19 ⟨p19, n19, c19, v19, rfl, A19⟩
                  have SA : Hid (Calls Tryz.prog 17 #[.slice p18 n18 c18, .slice p19 n19 c19] w19 fun o w' => o = .returned (.bool true) ∧ Kept (fun _ => False) w19 w') := by
                    refine (sameAllG p18 p19 n18 n19 c18 c19 v18 v19 w19 (A18.out.1.k0 A19.out.2.2) A19.out.1).mono ?_
                    rintro o w' ⟨⟨yb, rfl, hyb⟩, K⟩
                    have SH := same_hist N.out.2.2.1 N.out.1 d0 (fun _ => Iff.rfl)
                    have : yb = true := hyb.2 (all_one A18.out.2.1 A19.out.2.1 SH.1 SH.2)
                    rw [this]
                    exact ⟨rfl, K⟩
                  have K19 : Hid (Kept (fun _ => False) w11 w19) := K18.out.and0 A19.out.2.2
                  clear A18 A19 K18
                  go_wp2_with fail
                  refine SA.out.mono ?_
                  rintro o w20 ⟨rfl, K20'⟩
                  have K20 : Hid (Kept (fun _ => False) w11 w20) := K19.out.and0 K20'
                  clear K20' SA K19
                  go_wp2_with fail
                  refine (taken w20).mono ?_
                  rintro o w21 ⟨rfl, K21⟩
                  have KE : Hid (Kept (fun _ => False) w w21) := (N.out.2.2.2.2.2.2.2.and0 K20.out).and0 K21
                  clear K21
                  go_wp2_with fail
                  go_ret
                  exact ⟨rfl, KE.out⟩
end Go.Proofs.YtojepeefphbekaaGreat
