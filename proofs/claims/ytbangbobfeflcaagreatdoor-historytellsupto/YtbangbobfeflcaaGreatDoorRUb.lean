import Derived.Test.YtbangbobfeflcaaGreatDoorRUa
namespace Go.Proofs.YtbangbobfeflcaaGreatDoor
open Go.RowKit 

theorem rows_cell {b0 : Nat} {ty : TypeId} {W : World} {g n C : Nat} {R : List Rw} (h : W.ownsRow b0 ty 1 (.slice (some ⟨g, 0, none⟩) n C) n (slv R)) {a : Nat} {r : Rw} (hr : R[a]? = some r) : W.cell? ⟨g, a, none⟩ = some (.slice r.p r.n r.c) := by
  have q := h.cells (g := g) rfl a _ (slv_at hr)
  rw [Addr.add_none, Nat.zero_add] at q
  exact q
theorem own_room2 {W : World} {b0 : Nat} {ty : TypeId} {s n c : Nat} {p : Option Addr} {xs : List Value} (h : W.ownsRow b0 ty s (.slice p n c) n xs) : n ≤ c ∧ c ≤ 9223372036854775807 := by
  have q := own_room h
  unfold maxLen at q
  exact q
set_option maxRecDepth 100000 in
set_option maxHeartbeats 8000000 in
theorem hOuterA {w : World} {b0 : Nat} {Pc : Option Addr} {nc Cc : Nat} {Rc : List Rw} {Pe : Option Addr} {n Ce : Nat} {Re : List Rw} (h0 : OW b0 w w Pc nc Cc Rc Pe n Ce Re 0 0 0 0 0 0) (st : OSt Rc Re) (hnc : nc ≤ 1500000000000) (hn : n ≤ 1500000000000) (hb : b0 ≤ w.heap.size) : Calls Tryz.prog 11 #[.slice Pc nc Cc, .slice Pe n Ce] w fun o w' => o = .returned (.bool true) ∧ Kept (RBk Rc Re) w w' := by
  have S0 : Hid (OW b0 w w Pc nc Cc Rc Pe n Ce Re 0 0 0 0 0 0) := h0
  have ST : Hid (OSt Rc Re) := st
  have HB : Hid (b0 ≤ w.heap.size) := hb
  clear h0 hb st
  go_enter Tryz.func11, Tryz.ntmps11
  go_wp2_with fail
  go_loopw [5, 6] (fun u5 _ wr => ∃ k : Nat, u5 = .int .i64 (k : Int) ∧ k ≤ nc ∧ Hid (OW b0 w wr Pc nc Cc Rc Pe n Ce Re k k 0 0 0 0)) (fun u5 _ _ => nc - (intOf u5).toNat)
  case atStart => exact ⟨0, rfl, Nat.zero_le _, S0⟩
  case round =>
    clear S0
    obtain ⟨k, rfl, hk, S⟩ := hrel
    obtain ⟨wo, hwo⟩ : ∃ wo, wo = wr := ⟨_, rfl⟩
    rw [← hwo] at S ⊢
    clear hwo
    by_cases hkn : k < nc
    · have ltk : (k : Int) < (nc : Int) := by omega
      obtain ⟨gc, r, epc, hr', cr⟩ := rows_at S.out.ac hkn
      have hr : Hid (Rc[k]? = some r) := hr'
      subst epc
      have rb := ST.out.bc k r hr'
      clear hr'
      go_upto_region 5 with fail
      go_loopw [6] (fun u6 wr => ∃ j : Nat, u6 = .int .i64 (j : Int) ∧ j ≤ r.n ∧ Hid (OW b0 w wr (some ⟨gc, 0, none⟩) nc Cc Rc Pe n Ce Re k k j 0 0 0)) (fun u6 _ => r.n - (intOf u6).toNat)
      case atStart => exact ⟨0, rfl, Nat.zero_le _, S⟩
      case round =>
        clear S cr
        obtain ⟨j, rfl, hj, S⟩ := hrel
        obtain ⟨wq, hwq⟩ : ∃ wq, wq = wr := ⟨_, rfl⟩
        rw [← hwq] at S ⊢
        clear hwq
        have cr := rows_cell S.out.ac hr.out
        have rmc := own_room2 S.out.ac
        obtain ⟨rm1, rm2⟩ := rmc
        by_cases hjn : j < r.n
        · have ltj : (j : Int) < (r.n : Int) := by omega
          obtain ⟨g, ep, ⟨v, cv⟩, cf, N'⟩ := S.out.setC ST.out (Nat.le_refl _) hr.out hjn
          have N9 : Hid (OW b0 w (wq.setCell ⟨g, j * 11, none⟩ (.int .i64 (-100 - (k : Int)))) (some ⟨gc, 0, none⟩) nc Cc Rc Pe n Ce Re k k (j + 1) 0 0 0) := N'
          obtain ⟨xs, ow, _⟩ := S.out.c.own k r (Nat.le_refl _) hr.out
          obtain ⟨rm3, rm4⟩ := own_room2 ow
          rw [ep] at cr
          clear N' ow S
          go_wp2_with fail
          go_roundw
          case rel => exact ⟨j + 1, by go_num, by omega, N9⟩
          case measure => simp [intOf] <;> omega
        · have ltj : ¬ (j : Int) < (r.n : Int) := by omega
          obtain rfl : j = r.n := by omega
          have S2 : Hid (OW b0 w wq (some ⟨gc, 0, none⟩) nc Cc Rc Pe n Ce Re k (k + 1) 0 0 0 0) := ⟨S.out.ac, S.out.ae, S.out.c.next hr.out, S.out.e, S.out.kept⟩
          clear S
          obtain ⟨X, hX⟩ : ∃ X, wq.alloc (.cells #[.int .i64 (-100 - (k : Int)), .int .i64 0, .bool false, .string ⟨#[]⟩, .slice none 0 0, .int .i64 0, .int .i64 0, .int .i64 0, .bool false, .int .i64 0, .int .i64 0] 58) = X := ⟨_, rfl⟩
          have KX : Hid (Kept (fun _ => False) wq X) := by rw [← hX]; exact (Kept.refl _ _).alloc _
          have SR : Hid (Src Tryz.prog 11 25 (.slice (some ⟨wq.heap.size, 0, none⟩) 1 1) 1 (kcs [⟨-100 - (k : Int), 0, false, ⟨#[]⟩, none, 0, 0, 0, 0, 0, false, 0, 0, []⟩]) X) := by rw [← hX]; exact src_ca (c := ⟨-100 - (k : Int), 0, false, ⟨#[]⟩, none, 0, 0, 0, 0, 0, false, 0, 0, []⟩) (alloc_new _ _)
          have SX : Hid (OW b0 w X (some ⟨gc, 0, none⟩) nc Cc Rc Pe n Ce Re k (k + 1) 0 0 0 0) := S2.out.k0 KX.out
          obtain ⟨xs, ow, mk, _⟩ := SX.out.c.own k r (Nat.le_refl _) hr.out
          have OX : Hid (X.ownsRow b0 58 11 (.slice r.p r.n r.c) r.n xs ∧ ∀ i, i < r.n → xs[i * 11 + 0]? = some (mrk k)) := ⟨ow, mk (Nat.lt_succ_self _)⟩
          have BB : Hid (b0 ≤ X.heap.size) := Nat.le_trans HB.out SX.out.kept.size
          have EX : Hid (wq.alloc (.cells #[.int .i64 (-100 - (k : Int)), .int .i64 0, .bool false, .string ⟨#[]⟩, .slice none 0 0, .int .i64 0, .int .i64 0, .int .i64 0, .bool false, .int .i64 0, .int .i64 0] 58) = X) := hX
          clear hX ow mk S2
          go_upto_region 8 with fail
          go_upto_region 3 with
            (first
              | (at_builtin; rw [EX.out]; refine wpList_append_all _ rfl (.tmp 41) (.tmp 45) 25 58 25 _ 11 112 rfl Tryz.underlying25 Tryz.info58c rfl b0 (.slice r.p r.n r.c) r.n xs rfl OX.out.1 _ 1 (kcs [⟨-100 - (k : Int), 0, false, ⟨#[]⟩, none, 0, 0, 0, 0, 0, false, 0, 0, []⟩]) rfl SR.out (by unfold maxLen; omega) (by omega) BB.out ?_; intro p9 c9 w9 ho hg hn9)
              | fail)
          have N9 : Hid (OW b0 w w9 (some ⟨gc, 0, none⟩) nc Cc Rc Pe n Ce Re (k + 1) (k + 1) 0 0 0 0) := SX.out.appC ST.out hr.out OX.out.1 OX.out.2 ho.out hg.out hn9.out
          clear ho hg hn9 SX OX SR BB EX KX cr
          go_wp2_with fail
          go_roundw
          case rel => exact ⟨k + 1, by go_num, by omega, N9⟩
          case measure => simp [intOf] <;> omega
    · have ltk : ¬ (k : Int) < (nc : Int) := by omega
      have ek : k = nc := by omega
      have S : Hid (OW b0 w wo Pc nc Cc Rc Pe n Ce Re nc nc 0 0 0 0) := by rw [ek] at S; exact S
      clear hk
      go_upto_region 10 with fail
      go_loopw [7, 8] (fun u7 _ wr => ∃ k : Nat, u7 = .int .i64 (k : Int) ∧ k ≤ n ∧ Hid (OW b0 w wr Pc nc Cc Rc Pe n Ce Re nc nc 0 0 k 0)) (fun u7 _ _ => n - (intOf u7).toNat)
      case atStart => exact ⟨0, rfl, Nat.zero_le _, S⟩
      case round =>
        clear S
        obtain ⟨k, rfl, hk, S⟩ := hrel
        obtain ⟨wo, hwo⟩ : ∃ wo, wo = wr := ⟨_, rfl⟩
        rw [← hwo] at S ⊢
        clear hwo
        by_cases hkn : k < n
        · have ltk : (k : Int) < (n : Int) := by omega
          obtain ⟨ge, r, epe, hr', cr⟩ := rows_at S.out.ae hkn
          have hr : Hid (Re[k]? = some r) := hr'
          subst epe
          clear hr'
          go_upto_region 13 with fail
          go_loopw [8] (fun u8 wr => ∃ j : Nat, u8 = .int .i64 (j : Int) ∧ j ≤ r.n ∧ Hid (OW b0 w wr Pc nc Cc Rc (some ⟨ge, 0, none⟩) n Ce Re nc nc 0 0 k j)) (fun u8 _ => r.n - (intOf u8).toNat)
          case atStart => exact ⟨0, rfl, Nat.zero_le _, S⟩
          case round =>
            clear S cr
            obtain ⟨j, rfl, hj, S⟩ := hrel
            obtain ⟨wq, hwq⟩ : ∃ wq, wq = wr := ⟨_, rfl⟩
            rw [← hwq] at S ⊢
            clear hwq
            have cr := rows_cell S.out.ae hr.out
            obtain ⟨rm1, rm2⟩ := own_room2 S.out.ae
            by_cases hjn : j < r.n
            · have ltj : (j : Int) < (r.n : Int) := by omega
              obtain ⟨g, ep, ⟨v, cv⟩, cf, N'⟩ := S.out.setE ST.out (Nat.zero_le _) hr.out hjn
              have N9 : Hid (OW b0 w (wq.setCell ⟨g, j * 9 + 1, none⟩ (.int .i64 (-100 - (k : Int)))) Pc nc Cc Rc (some ⟨ge, 0, none⟩) n Ce Re nc nc 0 0 k (j + 1)) := N'
              obtain ⟨xs, ow, _⟩ := S.out.e.own k r (Nat.zero_le _) hr.out
              obtain ⟨rm3, rm4⟩ := own_room2 ow
              rw [ep] at cr
              clear N' ow S
              go_wp2_with fail
              go_roundw
              case rel => exact ⟨j + 1, by go_num, by omega, N9⟩
              case measure => simp [intOf] <;> omega
            · have ltj : ¬ (j : Int) < (r.n : Int) := by omega
              obtain rfl : j = r.n := by omega
              have S2 : Hid (OW b0 w wq Pc nc Cc Rc (some ⟨ge, 0, none⟩) n Ce Re nc nc 0 0 (k + 1) 0) := ⟨S.out.ac, S.out.ae, S.out.c, S.out.e.next hr.out, S.out.kept⟩
              clear S
              go_wp2_with fail
              go_roundw
              case rel => exact ⟨k + 1, by go_num, by omega, S2⟩
              case measure => simp [intOf] <;> omega
        · have ltk : ¬ (k : Int) < (n : Int) := by omega
          obtain rfl : k = n := by omega
          go_upto_region 17 with fail
          go_loopw [9] (fun u9 wr => ∃ d : Nat, u9 = .int .i64 (d : Int) ∧ d ≤ k ∧ Hid (OW b0 w wr Pc nc Cc Rc Pe k Ce Re nc nc 0 d k 0)) (fun u9 _ => k - (intOf u9).toNat)
          case atStart => exact ⟨0, rfl, Nat.zero_le _, S⟩
          case round =>
            clear S
            obtain ⟨d, rfl, hd, S⟩ := hrel
            obtain ⟨wq, hwq⟩ : ∃ wq, wq = wr := ⟨_, rfl⟩
            rw [← hwq] at S ⊢
            clear hwq
            by_cases hdn : d < k
            · have ltd : (d : Int) < (k : Int) := by omega
              obtain ⟨ge, r, epe, hr', cr⟩ := rows_at S.out.ae hdn
              have hr : Hid (Re[d]? = some r) := hr'
              have rb := ST.out.be d r hr'
              obtain ⟨rm1, rm2⟩ := own_room2 S.out.ae
              subst epe
              clear hr'
              obtain ⟨X, hX⟩ : ∃ X, wq.alloc (.cells #[.int .i64 0, .int .i64 (-100 - (d : Int)), .int .i64 0, .bool false, .string ⟨#[]⟩, .slice none 0 0, .int .i64 0, .int .i64 0, .int .i64 0] 39) = X := ⟨_, rfl⟩
              have KX : Hid (Kept (fun _ => False) wq X) := by rw [← hX]; exact (Kept.refl _ _).alloc _
              have SR : Hid (Src Tryz.prog 9 22 (.slice (some ⟨wq.heap.size, 0, none⟩) 1 1) 1 (ecs [⟨0, -100 - (d : Int), 0, false, ⟨#[]⟩, none, 0, 0, 0, 0, 0, []⟩]) X) := by rw [← hX]; exact src_ev (e := ⟨0, -100 - (d : Int), 0, false, ⟨#[]⟩, none, 0, 0, 0, 0, 0, []⟩) (alloc_new _ _)
              have SX : Hid (OW b0 w X Pc nc Cc Rc (some ⟨ge, 0, none⟩) k Ce Re nc nc 0 d k 0) := S.out.k0 KX.out
              obtain ⟨xs, ow, mk, _⟩ := SX.out.e.own d r (Nat.le_refl _) hr.out
              have OX : Hid (X.ownsRow b0 39 9 (.slice r.p r.n r.c) r.n xs ∧ ∀ i, i < r.n → xs[i * 9 + 1]? = some (mrk d)) := ⟨ow, mk hdn⟩
              have BB : Hid (b0 ≤ X.heap.size) := Nat.le_trans HB.out SX.out.kept.size
              have EX : Hid (wq.alloc (.cells #[.int .i64 0, .int .i64 (-100 - (d : Int)), .int .i64 0, .bool false, .string ⟨#[]⟩, .slice none 0 0, .int .i64 0, .int .i64 0, .int .i64 0] 39) = X) := hX
              clear hX ow mk S
              go_upto_region 19 with fail
              go_upto_region 18 with
                (first
                  | (at_builtin; rw [EX.out]; refine wpList_append_all _ rfl (.tmp 80) (.tmp 84) 22 39 22 _ 9 96 rfl Tryz.underlying22 Tryz.info39c rfl b0 (.slice r.p r.n r.c) r.n xs rfl OX.out.1 _ 1 (ecs [⟨0, -100 - (d : Int), 0, false, ⟨#[]⟩, none, 0, 0, 0, 0, 0, []⟩]) rfl SR.out (by unfold maxLen; omega) (by omega) BB.out ?_; intro p9 c9 w9 ho hg hn9)
                  | fail)
              have N9 : Hid (OW b0 w w9 Pc nc Cc Rc (some ⟨ge, 0, none⟩) k Ce Re nc nc 0 (d + 1) k 0) := SX.out.appE ST.out hr.out OX.out.1 OX.out.2 ho.out hg.out hn9.out
              clear ho hg hn9 SX OX SR BB EX KX cr
              go_wp2_with fail
              go_roundw
              case rel => exact ⟨d + 1, by go_num, by omega, N9⟩
              case measure => simp [intOf] <;> omega
            · have ltd : ¬ (d : Int) < (k : Int) := by omega
              obtain rfl : d = k := by omega
              go_upto_region 21 with fail
              go_loopw [10, 11] (fun u10 _ wr' => ∃ a : Nat, u10 = .int .i64 (a : Int) ∧ a ≤ nc ∧ wr' = wq) (fun u10 _ _ => nc - (intOf u10).toNat)
              case atStart => exact ⟨0, rfl, Nat.zero_le _, by first | rfl | trivial⟩
              case round =>
                obtain ⟨a, rfl, ha, hwr⟩ := hrel
                have hwr := hwr.symm
                subst hwr
                by_cases han : a < nc
                · have lta : (a : Int) < (nc : Int) := by omega
                  obtain ⟨gc, r, epc, hr', cr⟩ := rows_at S.out.ac han
                  have hr : Hid (Rc[a]? = some r) := hr'
                  obtain ⟨rm1, rm2⟩ := own_room2 S.out.ac
                  subst epc
                  have rb := ST.out.bc a r hr'
                  clear hr'
                  go_upto_region 24 with fail
                  go_loopw [11] (fun u11 wr' => ∃ i : Nat, u11 = .int .i64 (i : Int) ∧ i ≤ r.n ∧ wr' = wq) (fun u11 _ => r.n - (intOf u11).toNat)
                  case atStart => exact ⟨0, rfl, Nat.zero_le _, by first | rfl | trivial⟩
                  case round =>
                    obtain ⟨i, rfl, hi, hwr⟩ := hrel
                    have hwr := hwr.symm
                    subst hwr
                    by_cases hit : i < r.n
                    · have lti : (i : Int) < (r.n : Int) := by omega
                      obtain ⟨g, eg, cg'⟩ := S.out.c.rd a r han hr.out i hit
                      have cg : wq.cell? ⟨g, i * 11, none⟩ = some (.int .i64 (-100 - (a : Int))) := cg'
                      rw [eg] at cr
                      clear cg'
                      go_wp2_with fail
                      go_roundw
                      case rel => exact ⟨i + 1, by go_num, by omega, by trivial⟩
                      case measure => simp [intOf] <;> omega
                    · have lti : ¬ (i : Int) < (r.n : Int) := by omega
                      go_wp2_with fail
                      go_roundw
                      case rel => exact ⟨a + 1, by go_num, by omega, by trivial⟩
                      case measure => simp [intOf] <;> omega
                · have lta : ¬ (a : Int) < (nc : Int) := by omega
                  go_upto_region 29 with fail
                  go_loopw [12, 13] (fun u12 _ wr' => ∃ a : Nat, u12 = .int .i64 (a : Int) ∧ a ≤ d ∧ wr' = wq) (fun u12 _ _ => d - (intOf u12).toNat)
                  case atStart => exact ⟨0, rfl, Nat.zero_le _, by first | rfl | trivial⟩
                  case round =>
                    obtain ⟨a, rfl, ha, hwr⟩ := hrel
                    have hwr := hwr.symm
                    subst hwr
                    by_cases han : a < d
                    · have lta : (a : Int) < (d : Int) := by omega
                      obtain ⟨ge, r, epe, hr', cr⟩ := rows_at S.out.ae han
                      have hr : Hid (Re[a]? = some r) := hr'
                      obtain ⟨rm1, rm2⟩ := own_room2 S.out.ae
                      subst epe
                      have rb := ST.out.be a r hr'
                      clear hr'
                      go_upto_region 32 with fail
                      go_loopw [13] (fun u13 wr' => ∃ i : Nat, u13 = .int .i64 (i : Int) ∧ i ≤ r.n ∧ wr' = wq) (fun u13 _ => r.n - (intOf u13).toNat)
                      case atStart => exact ⟨0, rfl, Nat.zero_le _, by first | rfl | trivial⟩
                      case round =>
                        obtain ⟨i, rfl, hi, hwr⟩ := hrel
                        have hwr := hwr.symm
                        subst hwr
                        by_cases hit : i < r.n
                        · have lti : (i : Int) < (r.n : Int) := by omega
                          obtain ⟨g, eg, cg'⟩ := S.out.e.rd a r han hr.out i hit
                          have cg : wq.cell? ⟨g, i * 9 + 1, none⟩ = some (.int .i64 (-100 - (a : Int))) := cg'
                          rw [eg] at cr
                          clear cg'
                          go_wp2_with fail
                          go_roundw
                          case rel => exact ⟨i + 1, by go_num, by omega, by trivial⟩
                          case measure => simp [intOf] <;> omega
                        · have lti : ¬ (i : Int) < (r.n : Int) := by omega
                          go_wp2_with fail
                          go_roundw
                          case rel => exact ⟨a + 1, by go_num, by omega, by trivial⟩
                          case measure => simp [intOf] <;> omega
                    · have lta : ¬ (a : Int) < (d : Int) := by omega
                      have KF : Hid (Kept (RBk Rc Re) w wq) := S.out.kept
                      clear S
                      go_wp2_with fail
                      go_ret
                      exact ⟨by first | rfl | simp, KF.out⟩
end Go.Proofs.YtbangbobfeflcaaGreatDoor
