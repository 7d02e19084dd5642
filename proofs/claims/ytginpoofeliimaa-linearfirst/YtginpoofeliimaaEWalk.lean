import Derived.Test.YtginpoofeliimaaEPre
namespace Go.Proofs.Ytginpoofeliimaa
open Go.RowKit 

set_option maxRecDepth 100000 in
set_option maxHeartbeats 8000000 in
theorem explains {w : World} {p0 q0 : Option Addr} {n c0 k kc b1 : Nat} {ms : List Cm} {R : List Nat} (cr : CRd w p0 n c0 ms) (nr : NRow b1 w q0 k kc R) (v : Bool) (hv : EH (ms.map Cm.cl) R v) (hb : n ≤ 1000000) : Calls Try.prog 14 #[.slice p0 n c0, .slice q0 k kc] w fun o w' => o = .returned (.bool v) ∧ Kept (fun _ => False) w w' := by
  have rm := cr.room
  have sm := cr.small
  unfold maxLen at sm
  have r4 := own_room nr.row
  unfold maxLen at r4
  obtain ⟨r41, r42⟩ := r4
  have mA : ∀ W : World, (Instr.makeSlice 25 (.int .i64 (n : Int)) (.int .i64 (n : Int))).run Try.prog W = .ok (.slice (some ⟨W.heap.size, 0, none⟩) n n) (W.alloc (.cells (madeCells #[.int .i64 0] n) 3)) := run_make_row' 25 3 (.int .i64 0) 8 Try.underlying25 Try.info3c rfl .i64 .i64 n (by omega) (by omega)
  rw [vrow_made] at mA
  have H : Hid (CRd w p0 n c0 ms ∧ NRow b1 w q0 k kc R ∧ EH (ms.map Cm.cl) R v ∧ (ms.map Cm.cl).length = n ∧ R.length = k) := ⟨cr, nr, hv, by rw [List.length_map]; exact cr.len, nr.len⟩
  obtain ⟨ab, hab⟩ : ∃ ab, ab = w.heap.size := ⟨_, rfl⟩
  have S0 : Hid (EW w (w.alloc (.cells (vrow (fun _ => Value.int .i64 0) n) 3)) ab n (fun _ => 0)) := ⟨by rw [hab]; exact alloc_new _ _, (Kept.refl _ _).alloc _, by omega⟩
  have HAB : Hid (ab = w.heap.size) := hab
  clear cr nr hv hab hb
  go_enter Try.func14, Try.ntmps14
  go_upto_region 2 with fail
  rw [← HAB.out]
  clear HAB mA
  go_wp2_with fail
  go_loopw [6, 24] (fun _ u24 wr => ∃ i : Nat, u24 = .int .i64 (i : Int) ∧ i ≤ n ∧ Hid (∃ A, EW w wr ab n A ∧ ∀ j, j < i → A j = -1)) (fun _ u24 _ => n - (intOf u24).toNat)
  case atStart => exact ⟨0, rfl, Nat.zero_le _, ⟨_, S0.out, fun j hj => absurd hj (Nat.not_lt_zero _)⟩⟩
  case round =>
    obtain ⟨i, rfl, hi, S⟩ := hrel
    clear S0
    obtain ⟨A, E, hA⟩ := S.out
    by_cases hlt : i < n
    · have i1 : (i : Int) < (n : Int) := by omega
      have cx := E.at hlt
      have fz := soft_blk E.blk i
      have T : Hid (EW w wr ab n A ∧ ∀ j, j < i → A j = -1) := ⟨E, hA⟩
      clear E hA S
      go_wp2_with fail
      go_roundw
      case rel =>
        refine ⟨i + 1, by go_num, by omega, ⟨_, T.out.1.set i (-1), fun j hj => ?_⟩⟩
        unfold put1
        by_cases e : j = i
        · rw [if_pos e]
        · rw [if_neg e]
          exact T.out.2 j (by omega)
      case measure => simp [intOf] <;> omega
    · have i1 : ¬ (i : Int) < (n : Int) := by omega
      have S1 : Hid (∃ A, EW w wr ab n A ∧ AtOk (R.take 0) A ∧ ExA (ms.map Cm.cl) R 0) := by
        refine ⟨fun _ => -1, ⟨?_, E.kept, E.ge⟩, ⟨fun m r hr => by simp at hr, fun i _ => rfl⟩, fun j hj => absurd hj (Nat.not_lt_zero _)⟩
        rw [E.blk, vrow_same (g := i64v A) (h := i64v fun _ => -1) (fun j hj => by unfold i64v; rw [hA j (by omega)])]
      clear E hA S
      go_wp2_with fail
      go_loopw [7, 8, 33] (fun _ _ u33 wx => ∃ m : Nat, u33 = .int .i64 (m : Int) ∧ m ≤ k ∧ Hid (∃ A, EW w wx ab n A ∧ AtOk (R.take m) A ∧ ExA (ms.map Cm.cl) R m)) (fun _ _ u33 _ => k - (intOf u33).toNat)
      case atStart => exact ⟨0, rfl, Nat.zero_le _, S1⟩
      case round =>
        obtain ⟨m, rfl, hm, S⟩ := hrel
        clear S1 i1 hi
        obtain ⟨wo, hwo⟩ : ∃ wo, wo = wr := ⟨_, rfl⟩
        rw [← hwo] at S ⊢
        clear hwo
        obtain ⟨A, E, at0, hA⟩ := S.out
        by_cases hlt : m < k
        · have m1 : (m : Int) < (k : Int) := by omega
          obtain ⟨g, r, rfl, hr, co⟩ := (H.out.2.1.k0 E.kept).at hlt
          have rn : r < n := by have := H.out.2.2.1.lt r (List.mem_of_getElem? hr); have := H.out.2.2.2.1; omega
          have r1 : (r : Int) < (n : Int) := by omega
          have r2 : ¬ (n : Int) ≤ (r : Int) := by omega
          have cx := E.at rn
          have fz := soft_blk E.blk r
          obtain ⟨b, off, mr, rfl, hmr, c0', c1, c2, c3, c4, c5, c6, c7, c8, c9, c10, _⟩ := (H.out.1.k0 E.kept).at rn
          have T : Hid (EW w wo ab n A ∧ AtOk (R.take m) A ∧ ExA (ms.map Cm.cl) R m ∧ R[m]? = some r ∧ (ms.map Cm.cl)[r]? = some mr.cl) := ⟨E, at0, hA, hr, by rw [List.getElem?_map, hmr]; rfl⟩
          clear E hr hmr S at0 hA
          obtain ⟨ar, har⟩ : ∃ ar, ar = A r := ⟨_, rfl⟩
          rw [← har] at cx
          have HA : Hid (ar = A r) := har
          clear har
          by_cases h0 : 0 ≤ ar
          · have vF : v = false := by
              refine H.out.2.2.1.noA (fun z => ?_)
              have h1 := (z m (by have := H.out.2.2.2.2; omega) r T.out.2.2.2.1).1
              exact h1 ((T.out.2.1.mem r).2 (by have := HA.out; omega))
            subst vF
            go_wp2_with fail
            go_ret
            exact ⟨rfl, T.out.1.kept⟩
          · have NI : Hid (r ∉ R.take m) := fun z => h0 (by have := (T.out.2.1.mem r).1 z; have := HA.out; omega)
            obtain ⟨mu, hmu⟩ : ∃ mu, mr.cl.must = mu := ⟨_, rfl⟩
            obtain ⟨ma, hma⟩ : ∃ ma, (mr.put && mr.opn) = ma := ⟨_, rfl⟩
            have CM : Hid (∀ V : World, Calls Try.prog 25 #[.agg #[.int .i64 mr.client, .int .i64 mr.op, .bool mr.put, .string mr.key, .slice mr.va mr.vn mr.vc, .int .i64 mr.st, .int .i64 mr.frm, .int .i64 mr.to, .bool mr.opn, .int .i64 mr.tx, .int .i64 mr.ty]] V fun o w' => o = .returned (.bool mu) ∧ Kept (fun _ => False) V w') := by
              intro V
              rw [← hmu]
              exact mustC mr V
            have CY : Hid (∀ V : World, Calls Try.prog 26 #[.agg #[.int .i64 mr.client, .int .i64 mr.op, .bool mr.put, .string mr.key, .slice mr.va mr.vn mr.vc, .int .i64 mr.st, .int .i64 mr.frm, .int .i64 mr.to, .bool mr.opn, .int .i64 mr.tx, .int .i64 mr.ty]] V fun o w' => o = .returned (.bool ma) ∧ Kept (fun _ => False) V w') := by
              intro V
              rw [← hma]
              exact mayC mr V
            have HP : Hid (mr.cl.part = (mu || ma)) := by
              have := Cl.part_iff mr.cl
              rw [hmu] at this
              rw [← hma]
              exact this
            clear hmu hma
            go_wp2_with fail
            refine (CM.out wo).mono ?_
            rintro o w2 ⟨rfl, K2⟩
            have E2 : Hid (EW w w2 ab n A) := T.out.1.k0 K2
            replace c0' := K2.cell c0' (fun z => z)
            replace c1 := K2.cell c1 (fun z => z)
            replace c2 := K2.cell c2 (fun z => z)
            replace c3 := K2.cell c3 (fun z => z)
            replace c4 := K2.cell c4 (fun z => z)
            replace c5 := K2.cell c5 (fun z => z)
            replace c6 := K2.cell c6 (fun z => z)
            replace c7 := K2.cell c7 (fun z => z)
            replace c8 := K2.cell c8 (fun z => z)
            replace c9 := K2.cell c9 (fun z => z)
            replace c10 := K2.cell c10 (fun z => z)
            replace cx := K2.cell cx (fun z => z)
            replace fz := soft_blk E2.out.blk r
            clear K2
            have GO : Hid (∀ W, Kept (fun _ => False) w2 W → (mu || ma) = true → ∃ A', EW w (W.setCell ⟨ab, r, none⟩ (.int .i64 (m : Int))) ab n A' ∧ AtOk (R.take (m + 1)) A' ∧ ExA (ms.map Cm.cl) R (m + 1)) := by
              intro W kw hp
              refine ⟨_, (E2.out.k0 kw).set r (m : Int), ?_, T.out.2.2.1.step T.out.2.2.2.1 NI.out T.out.2.2.2.2 (by rw [HP.out]; exact hp)⟩
              have := T.out.2.1.add NI.out
              rw [take_len T.out.2.2.2.1] at this
              rw [take_add T.out.2.2.2.1]
              exact this
            cases mu
            · go_wp2_with fail
              refine (CY.out w2).mono ?_
              rintro o w3 ⟨rfl, K3⟩
              have E3 : Hid (EW w w3 ab n A ∧ Kept (fun _ => False) w2 w3) := ⟨E2.out.k0 K3, K3⟩
              replace cx := K3.cell cx (fun z => z)
              replace fz := soft_blk E3.out.1.blk r
              clear K3
              cases ma
              · have vF : v = false := by
                  refine H.out.2.2.1.noA (fun z => ?_)
                  obtain ⟨_, c, hc, hp⟩ := z m (by have := H.out.2.2.2.2; omega) r T.out.2.2.2.1
                  rw [T.out.2.2.2.2] at hc
                  have hc := Option.some.inj hc
                  subst hc
                  rw [HP.out] at hp
                  cases hp
                subst vF
                go_wp2_with fail
                go_ret
                exact ⟨rfl, E3.out.1.kept⟩
              · go_wp2_with fail
                go_roundw
                case rel => exact ⟨m + 1, by go_num, by omega, GO.out _ E3.out.2 rfl⟩
                case measure => simp [intOf] <;> omega
            · go_wp2_with fail
              go_roundw
              case rel => exact ⟨m + 1, by go_num, by omega, GO.out _ (Kept.refl _ _) rfl⟩
              case measure => simp [intOf] <;> omega
        · have m1 : ¬ (m : Int) < (k : Int) := by omega
          have T : Hid (EW w wo ab n A ∧ AtOk R A ∧ ExA (ms.map Cm.cl) R R.length) := by
            have ek : R.length = m := by have := H.out.2.2.2.2; omega
            rw [← ek, List.take_length] at at0
            rw [← ek] at hA
            exact ⟨E, at0, hA⟩
          clear E at0 hA S
          clear m1 hm
          have S0 : Hid (EW w wo ab n A ∧ ExB (ms.map Cm.cl) R 0) := ⟨T.out.1, fun j hj => absurd hj (Nat.not_lt_zero _)⟩
          have AT : Hid (AtOk R A ∧ ExA (ms.map Cm.cl) R R.length) := T.out.2
          clear T
          go_wp2_with fail
          go_loopw [9, 10, 76] (fun _ _ u76 wx => ∃ i : Nat, u76 = .int .i64 (i : Int) ∧ i ≤ n ∧ Hid (EW w wx ab n A ∧ ExB (ms.map Cm.cl) R i)) (fun _ _ u76 _ => n - (intOf u76).toNat)
          case atStart => exact ⟨0, rfl, Nat.zero_le _, S0⟩
          case round =>
            obtain ⟨i, rfl, hi, S⟩ := hrel
            clear S0
            by_cases hlt : i < n
            · have i1 : (i : Int) < (n : Int) := by omega
              obtain ⟨b, off, mr, rfl, hmr, c0', c1, c2, c3, c4, c5, c6, c7, c8, c9, c10, _⟩ := (H.out.1.k0 S.out.1.kept).at hlt
              obtain ⟨W, hW⟩ : ∃ W, W = wr.alloc (.cells #[.int .i64 mr.client, .int .i64 mr.op, .bool mr.put, .string mr.key, .slice mr.va mr.vn mr.vc, .int .i64 mr.st, .int .i64 mr.frm, .int .i64 mr.to, .bool mr.opn, .int .i64 mr.tx, .int .i64 mr.ty] 33) := ⟨_, rfl⟩
              obtain ⟨B, hB⟩ : ∃ B, B = wr.heap.size := ⟨_, rfl⟩
              have T : Hid (EW w W ab n A ∧ ExB (ms.map Cm.cl) R i ∧ (ms.map Cm.cl)[i]? = some mr.cl ∧ W.heap[B]? = some (.cells mr.cs 33 (0, 0))) := ⟨S.out.1.k0 (by rw [hW]; exact (Kept.refl _ _).alloc _), S.out.2, by rw [List.getElem?_map, hmr]; rfl, by rw [hW, hB]; exact alloc_new _ _⟩
              have EWH : Hid (W = wr.alloc (.cells #[.int .i64 mr.client, .int .i64 mr.op, .bool mr.put, .string mr.key, .slice mr.va mr.vn mr.vc, .int .i64 mr.st, .int .i64 mr.frm, .int .i64 mr.to, .bool mr.opn, .int .i64 mr.tx, .int .i64 mr.ty] 33) ∧ B = wr.heap.size) := ⟨hW, hB⟩
              clear hW hB S hmr
              go_upto_region 17 with fail
              rw [← EWH.out.1, ← EWH.out.2]
              clear EWH c0' c1 c2 c3 c4 c5 c6 c7 c8 c9 c10
              have c0 := cell_blk T.out.2.2.2 0 (v := .int .i64 mr.client) rfl
              have c1 := cell_blk T.out.2.2.2 1 (v := .int .i64 mr.op) rfl
              have c2 := cell_blk T.out.2.2.2 2 (v := .bool mr.put) rfl
              have c3 := cell_blk T.out.2.2.2 3 (v := .string mr.key) rfl
              have c4 := cell_blk T.out.2.2.2 4 (v := .slice mr.va mr.vn mr.vc) rfl
              have c5 := cell_blk T.out.2.2.2 5 (v := .int .i64 mr.st) rfl
              have c6 := cell_blk T.out.2.2.2 6 (v := .int .i64 mr.frm) rfl
              have c7 := cell_blk T.out.2.2.2 7 (v := .int .i64 mr.to) rfl
              have c8 := cell_blk T.out.2.2.2 8 (v := .bool mr.opn) rfl
              have c9 := cell_blk T.out.2.2.2 9 (v := .int .i64 mr.tx) rfl
              have c10 := cell_blk T.out.2.2.2 10 (v := .int .i64 mr.ty) rfl
              have cx := T.out.1.at hlt
              obtain ⟨ai, hai⟩ : ∃ ai, ai = A i := ⟨_, rfl⟩
              rw [← hai] at cx
              have HA : Hid (ai = A i) := hai
              clear hai
              obtain ⟨mu, hmu⟩ : ∃ mu, mr.cl.must = mu := ⟨_, rfl⟩
              have CM : Hid (∀ V : World, Calls Try.prog 25 #[.agg #[.int .i64 mr.client, .int .i64 mr.op, .bool mr.put, .string mr.key, .slice mr.va mr.vn mr.vc, .int .i64 mr.st, .int .i64 mr.frm, .int .i64 mr.to, .bool mr.opn, .int .i64 mr.tx, .int .i64 mr.ty]] V fun o w' => o = .returned (.bool mu) ∧ Kept (fun _ => False) V w') := by
                intro V
                rw [← hmu]
                exact mustC mr V
              have HM : Hid (mr.cl.must = mu) := hmu
              clear hmu
              go_wp2_with fail
              refine (CM.out W).mono ?_
              rintro o w2 ⟨rfl, K2⟩
              have E2 : Hid (EW w w2 ab n A) := T.out.1.k0 K2
              replace cx := K2.cell cx (fun z => z)
              clear K2
              cases mu
              · go_wp2_with fail
                go_roundw
                case rel => exact ⟨i + 1, by go_num, by omega, E2.out, T.out.2.1.step T.out.2.2.1 (fun z => by rw [HM.out] at z; cases z)⟩
                case measure => simp [intOf] <;> omega
              · by_cases h0 : ai < 0
                · have vF : v = false := by
                    refine H.out.2.2.1.noB (fun z => ?_)
                    have h1 := z i (by have := H.out.2.2.2.1; omega) mr.cl T.out.2.2.1 HM.out
                    have := (AT.out.1.mem i).1 h1
                    have := HA.out
                    omega
                  subst vF
                  go_wp2_with fail
                  go_ret
                  exact ⟨rfl, E2.out.kept⟩
                · go_wp2_with fail
                  go_roundw
                  case rel => exact ⟨i + 1, by go_num, by omega, E2.out, T.out.2.1.step T.out.2.2.1 (fun _ => (AT.out.1.mem i).2 (by have := HA.out; omega))⟩
                  case measure => simp [intOf] <;> omega
            · have i1 : ¬ (i : Int) < (n : Int) := by omega
              have BB : Hid (ExB (ms.map Cm.cl) R (ms.map Cm.cl).length) := by
                have : i = (ms.map Cm.cl).length := by have := H.out.2.2.2.1; omega
                rw [← this]
                exact S.out.2
              have S1 : Hid (EW w wr ab n A ∧ ExC (ms.map Cm.cl) R 0) := ⟨S.out.1, fun j hj => absurd hj (Nat.not_lt_zero _)⟩
              clear S i1 hi
              go_wp2_with fail
              go_loopw [11, 12, 13, 14, 93] (fun _ _ _ _ u93 wx => ∃ i : Nat, u93 = .int .i64 (i : Int) ∧ i ≤ n ∧ Hid (EW w wx ab n A ∧ ExC (ms.map Cm.cl) R i)) (fun _ _ _ _ u93 _ => n - (intOf u93).toNat)
              case atStart => exact ⟨0, rfl, Nat.zero_le _, S1⟩
              case round =>
                obtain ⟨i, rfl, hi, S⟩ := hrel
                clear S1
                by_cases hlt : i < n
                · have i1 : (i : Int) < (n : Int) := by omega
                  obtain ⟨wq, hwq⟩ : ∃ wq, wq = wr := ⟨_, rfl⟩
                  rw [← hwq] at S ⊢
                  clear hwq
                  obtain ⟨b, off, ma, rfl, hma, c0', c1, c2, c3, c4, c5, c6, c7, c8, c9, c10, _⟩ := (H.out.1.k0 S.out.1.kept).at hlt
                  obtain ⟨W, hW⟩ : ∃ W, W = wq.alloc (.cells #[.int .i64 ma.client, .int .i64 ma.op, .bool ma.put, .string ma.key, .slice ma.va ma.vn ma.vc, .int .i64 ma.st, .int .i64 ma.frm, .int .i64 ma.to, .bool ma.opn, .int .i64 ma.tx, .int .i64 ma.ty] 33) := ⟨_, rfl⟩
                  obtain ⟨B, hB⟩ : ∃ B, B = wq.heap.size := ⟨_, rfl⟩
                  have T : Hid (EW w W ab n A ∧ W.heap[B]? = some (.cells ma.cs 33 (0, 0)) ∧ ExC (ms.map Cm.cl) R i ∧ (ms.map Cm.cl)[i]? = some ma.cl) := ⟨S.out.1.k0 (by rw [hW]; exact (Kept.refl _ _).alloc _), by rw [hW, hB]; exact alloc_new _ _, S.out.2, by rw [List.getElem?_map, hma]; rfl⟩
                  have EWH : Hid (W = wq.alloc (.cells #[.int .i64 ma.client, .int .i64 ma.op, .bool ma.put, .string ma.key, .slice ma.va ma.vn ma.vc, .int .i64 ma.st, .int .i64 ma.frm, .int .i64 ma.to, .bool ma.opn, .int .i64 ma.tx, .int .i64 ma.ty] 33) ∧ B = wq.heap.size) := ⟨hW, hB⟩
                  clear hW hB S hma
                  go_upto_region 23 with fail
                  rw [← EWH.out.1, ← EWH.out.2]
                  clear EWH c0' c1 c2 c3 c4 c5 c6 c7 c8 c9 c10
                  obtain ⟨mu, hmu⟩ : ∃ mu, ma.cl.must = mu := ⟨_, rfl⟩
                  have CM : Hid (∀ V : World, Calls Try.prog 25 #[.agg #[.int .i64 ma.client, .int .i64 ma.op, .bool ma.put, .string ma.key, .slice ma.va ma.vn ma.vc, .int .i64 ma.st, .int .i64 ma.frm, .int .i64 ma.to, .bool ma.opn, .int .i64 ma.tx, .int .i64 ma.ty]] V fun o w' => o = .returned (.bool mu) ∧ Kept (fun _ => False) V w') := by
                    intro V
                    rw [← hmu]
                    exact mustC ma V
                  have HM : Hid (ma.cl.must = mu) := hmu
                  clear hmu
                  have S2 : Hid (EW w W ab n A ∧ W.heap[B]? = some (.cells ma.cs 33 (0, 0)) ∧ ExC1 (ms.map Cm.cl) R i 0) := ⟨T.out.1, T.out.2.1, fun j hj => absurd hj (Nat.not_lt_zero _)⟩
                  have TI : Hid (ExC (ms.map Cm.cl) R i ∧ (ms.map Cm.cl)[i]? = some ma.cl) := T.out.2.2
                  clear T
                  obtain ⟨ai, hai⟩ : ∃ ai, ai = A i := ⟨_, rfl⟩
                  have HA : Hid (ai = A i) := hai
                  clear hai
                  go_wp2_with fail
                  go_loopw [13, 14, 100] (fun _ _ u100 wx => ∃ j : Nat, u100 = .int .i64 (j : Int) ∧ j ≤ n ∧ Hid (EW w wx ab n A ∧ wx.heap[B]? = some (.cells ma.cs 33 (0, 0)) ∧ ExC1 (ms.map Cm.cl) R i j)) (fun _ _ u100 _ => n - (intOf u100).toNat)
                  case atStart => exact ⟨0, rfl, Nat.zero_le _, S2⟩
                  case round =>
                    obtain ⟨j, rfl, hj, S⟩ := hrel
                    clear S2
                    obtain ⟨wp, hwp⟩ : ∃ wp, wp = wr := ⟨_, rfl⟩
                    rw [← hwp] at S ⊢
                    clear hwp
                    by_cases hlj : j < n
                    · have j1 : (j : Int) < (n : Int) := by omega
                      obtain ⟨b9, off9, mb, e9, hmb, c0', c1, c2, c3, c4, c5, c6, c7, c8, c9, c10, _⟩ := (H.out.1.k0 S.out.1.kept).at hlj
                      have e9 : b = b9 ∧ off = off9 := by simpa using e9
                      obtain ⟨rfl, rfl⟩ := e9
                      obtain ⟨X, hX⟩ : ∃ X, X = wp.alloc (.cells #[.int .i64 mb.client, .int .i64 mb.op, .bool mb.put, .string mb.key, .slice mb.va mb.vn mb.vc, .int .i64 mb.st, .int .i64 mb.frm, .int .i64 mb.to, .bool mb.opn, .int .i64 mb.tx, .int .i64 mb.ty] 33) := ⟨_, rfl⟩
                      obtain ⟨D, hD⟩ : ∃ D, D = wp.heap.size := ⟨_, rfl⟩
                      have T : Hid (EW w X ab n A ∧ X.heap[B]? = some (.cells ma.cs 33 (0, 0)) ∧ X.heap[D]? = some (.cells mb.cs 33 (0, 0)) ∧ ExC1 (ms.map Cm.cl) R i j ∧ (ms.map Cm.cl)[j]? = some mb.cl) := ⟨S.out.1.k0 (by rw [hX]; exact (Kept.refl _ _).alloc _), by rw [hX]; exact get_alloc S.out.2.1, by rw [hX, hD]; exact alloc_new _ _, S.out.2.2, by rw [List.getElem?_map, hmb]; rfl⟩
                      have EXH : Hid (X = wp.alloc (.cells #[.int .i64 mb.client, .int .i64 mb.op, .bool mb.put, .string mb.key, .slice mb.va mb.vn mb.vc, .int .i64 mb.st, .int .i64 mb.frm, .int .i64 mb.to, .bool mb.opn, .int .i64 mb.tx, .int .i64 mb.ty] 33) ∧ D = wp.heap.size) := ⟨hX, hD⟩
                      clear hX hD S hmb
                      go_upto_region 26 with fail
                      rw [← EXH.out.1, ← EXH.out.2]
                      clear EXH c0' c1 c2 c3 c4 c5 c6 c7 c8 c9 c10
                      have c0 := cell_blk T.out.2.1 0 (v := .int .i64 ma.client) rfl
                      have c1 := cell_blk T.out.2.1 1 (v := .int .i64 ma.op) rfl
                      have c2 := cell_blk T.out.2.1 2 (v := .bool ma.put) rfl
                      have c3 := cell_blk T.out.2.1 3 (v := .string ma.key) rfl
                      have c4 := cell_blk T.out.2.1 4 (v := .slice ma.va ma.vn ma.vc) rfl
                      have c5 := cell_blk T.out.2.1 5 (v := .int .i64 ma.st) rfl
                      have c6 := cell_blk T.out.2.1 6 (v := .int .i64 ma.frm) rfl
                      have c7 := cell_blk T.out.2.1 7 (v := .int .i64 ma.to) rfl
                      have c8 := cell_blk T.out.2.1 8 (v := .bool ma.opn) rfl
                      have c9 := cell_blk T.out.2.1 9 (v := .int .i64 ma.tx) rfl
                      have c10 := cell_blk T.out.2.1 10 (v := .int .i64 ma.ty) rfl
                      have d6 := cell_blk T.out.2.2.1 6 (v := .int .i64 mb.frm) rfl
                      have xi := T.out.1.at hlt
                      have xj := T.out.1.at hlj
                      rw [← HA.out] at xi
                      obtain ⟨aj, haj⟩ : ∃ aj, aj = A j := ⟨_, rfl⟩
                      rw [← haj] at xj
                      have HJ : Hid (aj = A j) := haj
                      clear haj
                      have ST : Hid (Kept (fun _ => False) X X.drew) := (Kept.refl _ _).drew
                      have NEXT : Hid (∀ W, Kept (fun _ => False) X W → (ma.cl.ahead mb.cl = true → 0 ≤ aj → ai ≤ aj) → EW w W ab n A ∧ W.heap[B]? = some (.cells ma.cs 33 (0, 0)) ∧ ExC1 (ms.map Cm.cl) R i (j + 1)) := by
                        intro W kw ok
                        refine ⟨T.out.1.k0 kw, kw.get T.out.2.1 (fun z => z), T.out.2.2.2.1.step TI.out.2 T.out.2.2.2.2 (fun hab x y hx hy => ?_)⟩
                        have h1 := AT.out.1.yes x j hx
                        have h2 := AT.out.1.yes y i hy
                        have h3 := HA.out
                        have h4 := HJ.out
                        have := ok hab (by omega)
                        omega
                      have AH : Hid (ma.cl.ahead mb.cl = (mu && decide (0 ≤ ma.to) && decide (ma.to < mb.frm))) := by
                        have := HM.out
                        rw [← this]
                        rfl
                      obtain ⟨zz, hzz⟩ : ∃ zz, (mu && decide (0 ≤ ma.to) && decide (ma.to < mb.frm) && decide (0 ≤ aj) && decide (aj < ai)) = zz := ⟨_, rfl⟩
                      have HZ : Hid ((mu && decide (0 ≤ ma.to) && decide (ma.to < mb.frm) && decide (0 ≤ aj) && decide (aj < ai)) = zz) := hzz
                      clear hzz
                      go_cut [136] from 105 to 135 (fun x wc => x = .bool zz ∧ Hid (Kept (fun _ => False) X wc))
                      case first =>
                        clear NEXT AH HA HJ AT H BB
                        cases mu
                        · skip
                          refine wp_region_held_drew (S := (fun V => V.cell? ⟨B, 0, none⟩ = some (.int .i64 ma.client) ∧ V.cell? ⟨B, 1, none⟩ = some (.int .i64 ma.op) ∧ V.cell? ⟨B, 2, none⟩ = some (.bool ma.put) ∧ V.cell? ⟨B, 3, none⟩ = some (.string ma.key) ∧ V.cell? ⟨B, 4, none⟩ = some (.slice ma.va ma.vn ma.vc) ∧ V.cell? ⟨B, 5, none⟩ = some (.int .i64 ma.st) ∧ V.cell? ⟨B, 6, none⟩ = some (.int .i64 ma.frm) ∧ V.cell? ⟨B, 7, none⟩ = some (.int .i64 ma.to) ∧ V.cell? ⟨B, 8, none⟩ = some (.bool ma.opn) ∧ V.cell? ⟨B, 9, none⟩ = some (.int .i64 ma.tx) ∧ V.cell? ⟨B, 10, none⟩ = some (.int .i64 ma.ty) ∧ V.cell? ⟨D, 6, none⟩ = some (.int .i64 mb.frm) ∧ V.cell? ⟨ab, i, none⟩ = some (.int .i64 ai) ∧ V.cell? ⟨ab, j, none⟩ = some (.int .i64 aj))) (by kernel_rfl) ?_ (fun hHeld => ?_)
                          · exact ⟨c0, c1, c2, c3, c4, c5, c6, c7, c8, c9, c10, d6, xi, xj⟩
                          refine wpAnyH_take (i := 0) (oi := { dst := some 105, op := Op.load 33 (Operand.tmp 12), type := 33, pos := "outright.go:39", after := #[], guard := none }) (v := .agg #[.int .i64 ma.client, .int .i64 ma.op, .bool ma.put, .string ma.key, .slice ma.va ma.vn ma.vc, .int .i64 ma.st, .int .i64 ma.frm, .int .i64 ma.to, .bool ma.opn, .int .i64 ma.tx, .int .i64 ma.ty]) rfl (by kernel_rfl) (by kernel_rfl) (by kernel_rfl) (fun _ _ _ h => h) (Or.inl ⟨by rfl, ?_⟩) (by assumption) ?_
                          · intro w9 hSw
                            (try dsimp only at hSw)
                            go_simp
                          (try simp only [Act.put, List.setIfInBounds_toArray, List.set_cons_zero, List.set_cons_succ])
                          refine wpAnyH_ready (rs := [1]) (by kernel_rfl) (by simp) ?_
                          refine AllReadyH.cons (o := { dst := some 106, op := Op.call { callee := Callee.value (Operand.func 25), args := #[Operand.tmp 105], argTypes := #[33] }, type := 4, pos := "outright.go:39", after := #[{ on := 0, ground := Ground.data }], guard := none }) rfl (fun K hK => ?_) AllReadyH.nil
                          go_simp
                          refine (CM.out X.drew).mono ?_
                          rintro o w4 ⟨rfl, K4⟩
                          have K5 : Hid (Kept (fun _ => False) X w4) := ((Kept.refl _ _).drew).trans K4 (fun _ _ z => z)
                          replace c0 := K5.out.cell c0 (fun z => z)
                          replace c1 := K5.out.cell c1 (fun z => z)
                          replace c2 := K5.out.cell c2 (fun z => z)
                          replace c3 := K5.out.cell c3 (fun z => z)
                          replace c4 := K5.out.cell c4 (fun z => z)
                          replace c5 := K5.out.cell c5 (fun z => z)
                          replace c6 := K5.out.cell c6 (fun z => z)
                          replace c7 := K5.out.cell c7 (fun z => z)
                          replace c8 := K5.out.cell c8 (fun z => z)
                          replace c9 := K5.out.cell c9 (fun z => z)
                          replace c10 := K5.out.cell c10 (fun z => z)
                          replace d6 := K5.out.cell d6 (fun z => z)
                          replace xi := K5.out.cell xi (fun z => z)
                          replace xj := K5.out.cell xj (fun z => z)
                          clear K4
                          refine hK.out _ _ ?_ (fun hHeld => ?_)
                          · exact ⟨c0, c1, c2, c3, c4, c5, c6, c7, c8, c9, c10, d6, xi, xj⟩
                          clear hK K
                          (try simp only [Act.put, List.setIfInBounds_toArray, List.set_cons_zero, List.set_cons_succ])
                          refine wpAnyH_take (i := 2) (oi := { dst := some 107, op := Op.move (Operand.tmp 106), type := 4, pos := "outright.go:39", after := #[{ on := 1, ground := Ground.data }, { on := 1, ground := Ground.chain }], guard := none }) (v := .bool false) rfl (by kernel_rfl) (by kernel_rfl) (by kernel_rfl) (fun _ _ _ h => h) (Or.inl ⟨by rfl, ?_⟩) (by assumption) ?_
                          · intro w9 hSw
                            (try dsimp only at hSw)
                            go_simp
                          (try simp only [Act.put, List.setIfInBounds_toArray, List.set_cons_zero, List.set_cons_succ])
                          refine wpAnyH_take (i := 3) (oi := { dst := some 108, op := Op.fieldAddr 33 (Operand.tmp 12) 7, type := 0, pos := "outright.go:39", after := #[{ on := 2, ground := Ground.guard }], guard := some (2, true) }) (v := undef) rfl (by kernel_rfl) (by kernel_rfl) (by kernel_rfl) (fun _ _ _ h => h) (Or.inr ⟨by rfl, rfl⟩) (by assumption) ?_
                          (try simp only [Act.put, List.setIfInBounds_toArray, List.set_cons_zero, List.set_cons_succ])
                          refine wpAnyH_take (i := 4) (oi := { dst := some 109, op := Op.load 3 (Operand.tmp 108), type := 3, pos := "outright.go:39", after := #[{ on := 3, ground := Ground.data }, { on := 2, ground := Ground.guard }], guard := some (2, true) }) (v := undef) rfl (by kernel_rfl) (by kernel_rfl) (by kernel_rfl) (fun _ _ _ h => h) (Or.inr ⟨by rfl, rfl⟩) (by assumption) ?_
                          (try simp only [Act.put, List.setIfInBounds_toArray, List.set_cons_zero, List.set_cons_succ])
                          refine wpAnyH_take (i := 5) (oi := { dst := some 110, op := Op.binOp BinOp.geq 3 (Operand.tmp 109) (Operand.const (Value.int IntKind.i64 0)) 3, type := 4, pos := "outright.go:39", after := #[{ on := 4, ground := Ground.data }, { on := 2, ground := Ground.guard }], guard := some (2, true) }) (v := undef) rfl (by kernel_rfl) (by kernel_rfl) (by kernel_rfl) (fun _ _ _ h => h) (Or.inr ⟨by rfl, rfl⟩) (by assumption) ?_
                          (try simp only [Act.put, List.setIfInBounds_toArray, List.set_cons_zero, List.set_cons_succ])
                          refine wpAnyH_take (i := 6) (oi := { dst := some 111, op := Op.pick (Operand.tmp 107) (Operand.tmp 110) (Operand.const (Value.bool false)), type := 4, pos := "outright.go:39", after := #[{ on := 2, ground := Ground.data }, { on := 5, ground := Ground.data }], guard := none }) (v := .bool false) rfl (by kernel_rfl) (by kernel_rfl) (by kernel_rfl) (fun _ _ _ h => h) (Or.inl ⟨by rfl, ?_⟩) (by assumption) ?_
                          · intro w9 hSw
                            (try dsimp only at hSw)
                            go_simp
                          (try simp only [Act.put, List.setIfInBounds_toArray, List.set_cons_zero, List.set_cons_succ])
                          refine wpAnyH_take (i := 7) (oi := { dst := some 112, op := Op.move (Operand.tmp 111), type := 4, pos := "outright.go:39", after := #[{ on := 6, ground := Ground.data }, { on := 2, ground := Ground.chain }], guard := none }) (v := .bool false) rfl (by kernel_rfl) (by kernel_rfl) (by kernel_rfl) (fun _ _ _ h => h) (Or.inl ⟨by rfl, ?_⟩) (by assumption) ?_
                          · intro w9 hSw
                            (try dsimp only at hSw)
                            go_simp
                          (try simp only [Act.put, List.setIfInBounds_toArray, List.set_cons_zero, List.set_cons_succ])
                          refine wpAnyH_take (i := 8) (oi := { dst := some 113, op := Op.fieldAddr 33 (Operand.tmp 12) 7, type := 0, pos := "outright.go:39", after := #[{ on := 7, ground := Ground.guard }], guard := some (7, true) }) (v := undef) rfl (by kernel_rfl) (by kernel_rfl) (by kernel_rfl) (fun _ _ _ h => h) (Or.inr ⟨by rfl, rfl⟩) (by assumption) ?_
                          (try simp only [Act.put, List.setIfInBounds_toArray, List.set_cons_zero, List.set_cons_succ])
                          refine wpAnyH_take (i := 9) (oi := { dst := some 114, op := Op.load 3 (Operand.tmp 113), type := 3, pos := "outright.go:39", after := #[{ on := 8, ground := Ground.data }, { on := 7, ground := Ground.guard }], guard := some (7, true) }) (v := undef) rfl (by kernel_rfl) (by kernel_rfl) (by kernel_rfl) (fun _ _ _ h => h) (Or.inr ⟨by rfl, rfl⟩) (by assumption) ?_
                          (try simp only [Act.put, List.setIfInBounds_toArray, List.set_cons_zero, List.set_cons_succ])
                          refine wpAnyH_take (i := 10) (oi := { dst := some 115, op := Op.fieldAddr 33 (Operand.tmp 14) 6, type := 0, pos := "outright.go:39", after := #[{ on := 7, ground := Ground.guard }], guard := some (7, true) }) (v := undef) rfl (by kernel_rfl) (by kernel_rfl) (by kernel_rfl) (fun _ _ _ h => h) (Or.inr ⟨by rfl, rfl⟩) (by assumption) ?_
                          (try simp only [Act.put, List.setIfInBounds_toArray, List.set_cons_zero, List.set_cons_succ])
                          refine wpAnyH_take (i := 11) (oi := { dst := some 116, op := Op.load 3 (Operand.tmp 115), type := 3, pos := "outright.go:39", after := #[{ on := 10, ground := Ground.data }, { on := 7, ground := Ground.guard }], guard := some (7, true) }) (v := undef) rfl (by kernel_rfl) (by kernel_rfl) (by kernel_rfl) (fun _ _ _ h => h) (Or.inr ⟨by rfl, rfl⟩) (by assumption) ?_
                          (try simp only [Act.put, List.setIfInBounds_toArray, List.set_cons_zero, List.set_cons_succ])
                          refine wpAnyH_take (i := 12) (oi := { dst := some 117, op := Op.binOp BinOp.lss 3 (Operand.tmp 114) (Operand.tmp 116) 3, type := 4, pos := "outright.go:39", after := #[{ on := 9, ground := Ground.data }, { on := 11, ground := Ground.data }, { on := 7, ground := Ground.guard }], guard := some (7, true) }) (v := undef) rfl (by kernel_rfl) (by kernel_rfl) (by kernel_rfl) (fun _ _ _ h => h) (Or.inr ⟨by rfl, rfl⟩) (by assumption) ?_
                          (try simp only [Act.put, List.setIfInBounds_toArray, List.set_cons_zero, List.set_cons_succ])
                          refine wpAnyH_take (i := 13) (oi := { dst := some 118, op := Op.pick (Operand.tmp 112) (Operand.tmp 117) (Operand.const (Value.bool false)), type := 4, pos := "outright.go:39", after := #[{ on := 7, ground := Ground.data }, { on := 12, ground := Ground.data }], guard := none }) (v := .bool false) rfl (by kernel_rfl) (by kernel_rfl) (by kernel_rfl) (fun _ _ _ h => h) (Or.inl ⟨by rfl, ?_⟩) (by assumption) ?_
                          · intro w9 hSw
                            (try dsimp only at hSw)
                            go_simp
                          (try simp only [Act.put, List.setIfInBounds_toArray, List.set_cons_zero, List.set_cons_succ])
                          refine wpAnyH_take (i := 14) (oi := { dst := some 119, op := Op.move (Operand.tmp 118), type := 4, pos := "outright.go:39", after := #[{ on := 13, ground := Ground.data }, { on := 7, ground := Ground.chain }], guard := none }) (v := .bool false) rfl (by kernel_rfl) (by kernel_rfl) (by kernel_rfl) (fun _ _ _ h => h) (Or.inl ⟨by rfl, ?_⟩) (by assumption) ?_
                          · intro w9 hSw
                            (try dsimp only at hSw)
                            go_simp
                          (try simp only [Act.put, List.setIfInBounds_toArray, List.set_cons_zero, List.set_cons_succ])
                          refine wpAnyH_take (i := 15) (oi := { dst := some 120, op := Op.move (Operand.tmp 5), type := 25, pos := "outright.go:39", after := #[{ on := 14, ground := Ground.guard }], guard := some (14, true) }) (v := undef) rfl (by kernel_rfl) (by kernel_rfl) (by kernel_rfl) (fun _ _ _ h => h) (Or.inr ⟨by rfl, rfl⟩) (by assumption) ?_
                          (try simp only [Act.put, List.setIfInBounds_toArray, List.set_cons_zero, List.set_cons_succ])
                          refine wpAnyH_take (i := 16) (oi := { dst := some 121, op := Op.move (Operand.tmp 13), type := 3, pos := "outright.go:39", after := #[{ on := 14, ground := Ground.guard }], guard := some (14, true) }) (v := undef) rfl (by kernel_rfl) (by kernel_rfl) (by kernel_rfl) (fun _ _ _ h => h) (Or.inr ⟨by rfl, rfl⟩) (by assumption) ?_
                          (try simp only [Act.put, List.setIfInBounds_toArray, List.set_cons_zero, List.set_cons_succ])
                          refine wpAnyH_take (i := 17) (oi := { dst := some 122, op := Op.indexAddr 25 (Operand.tmp 120) (Operand.tmp 121), type := 0, pos := "outright.go:39", after := #[{ on := 15, ground := Ground.data }, { on := 16, ground := Ground.data }, { on := 14, ground := Ground.guard }], guard := some (14, true) }) (v := undef) rfl (by kernel_rfl) (by kernel_rfl) (by kernel_rfl) (fun _ _ _ h => h) (Or.inr ⟨by rfl, rfl⟩) (by assumption) ?_
                          (try simp only [Act.put, List.setIfInBounds_toArray, List.set_cons_zero, List.set_cons_succ])
                          refine wpAnyH_take (i := 18) (oi := { dst := some 123, op := Op.load 3 (Operand.tmp 122), type := 3, pos := "outright.go:39", after := #[{ on := 17, ground := Ground.data }, { on := 14, ground := Ground.guard }], guard := some (14, true) }) (v := undef) rfl (by kernel_rfl) (by kernel_rfl) (by kernel_rfl) (fun _ _ _ h => h) (Or.inr ⟨by rfl, rfl⟩) (by assumption) ?_
                          (try simp only [Act.put, List.setIfInBounds_toArray, List.set_cons_zero, List.set_cons_succ])
                          refine wpAnyH_take (i := 19) (oi := { dst := some 124, op := Op.binOp BinOp.geq 3 (Operand.tmp 123) (Operand.const (Value.int IntKind.i64 0)) 3, type := 4, pos := "outright.go:39", after := #[{ on := 18, ground := Ground.data }, { on := 14, ground := Ground.guard }], guard := some (14, true) }) (v := undef) rfl (by kernel_rfl) (by kernel_rfl) (by kernel_rfl) (fun _ _ _ h => h) (Or.inr ⟨by rfl, rfl⟩) (by assumption) ?_
                          (try simp only [Act.put, List.setIfInBounds_toArray, List.set_cons_zero, List.set_cons_succ])
                          refine wpAnyH_take (i := 20) (oi := { dst := some 125, op := Op.pick (Operand.tmp 119) (Operand.tmp 124) (Operand.const (Value.bool false)), type := 4, pos := "outright.go:39", after := #[{ on := 14, ground := Ground.data }, { on := 19, ground := Ground.data }], guard := none }) (v := .bool false) rfl (by kernel_rfl) (by kernel_rfl) (by kernel_rfl) (fun _ _ _ h => h) (Or.inl ⟨by rfl, ?_⟩) (by assumption) ?_
                          · intro w9 hSw
                            (try dsimp only at hSw)
                            go_simp
                          (try simp only [Act.put, List.setIfInBounds_toArray, List.set_cons_zero, List.set_cons_succ])
                          refine wpAnyH_take (i := 21) (oi := { dst := some 126, op := Op.move (Operand.tmp 125), type := 4, pos := "outright.go:39", after := #[{ on := 20, ground := Ground.data }, { on := 14, ground := Ground.chain }], guard := none }) (v := .bool false) rfl (by kernel_rfl) (by kernel_rfl) (by kernel_rfl) (fun _ _ _ h => h) (Or.inl ⟨by rfl, ?_⟩) (by assumption) ?_
                          · intro w9 hSw
                            (try dsimp only at hSw)
                            go_simp
                          (try simp only [Act.put, List.setIfInBounds_toArray, List.set_cons_zero, List.set_cons_succ])
                          refine wpAnyH_take (i := 22) (oi := { dst := some 127, op := Op.move (Operand.tmp 5), type := 25, pos := "outright.go:39", after := #[{ on := 21, ground := Ground.guard }], guard := some (21, true) }) (v := undef) rfl (by kernel_rfl) (by kernel_rfl) (by kernel_rfl) (fun _ _ _ h => h) (Or.inr ⟨by rfl, rfl⟩) (by assumption) ?_
                          (try simp only [Act.put, List.setIfInBounds_toArray, List.set_cons_zero, List.set_cons_succ])
                          refine wpAnyH_take (i := 23) (oi := { dst := some 128, op := Op.move (Operand.tmp 11), type := 3, pos := "outright.go:39", after := #[{ on := 21, ground := Ground.guard }], guard := some (21, true) }) (v := undef) rfl (by kernel_rfl) (by kernel_rfl) (by kernel_rfl) (fun _ _ _ h => h) (Or.inr ⟨by rfl, rfl⟩) (by assumption) ?_
                          (try simp only [Act.put, List.setIfInBounds_toArray, List.set_cons_zero, List.set_cons_succ])
                          refine wpAnyH_take (i := 24) (oi := { dst := some 129, op := Op.indexAddr 25 (Operand.tmp 127) (Operand.tmp 128), type := 0, pos := "outright.go:39", after := #[{ on := 22, ground := Ground.data }, { on := 23, ground := Ground.data }, { on := 21, ground := Ground.guard }], guard := some (21, true) }) (v := undef) rfl (by kernel_rfl) (by kernel_rfl) (by kernel_rfl) (fun _ _ _ h => h) (Or.inr ⟨by rfl, rfl⟩) (by assumption) ?_
                          (try simp only [Act.put, List.setIfInBounds_toArray, List.set_cons_zero, List.set_cons_succ])
                          refine wpAnyH_take (i := 25) (oi := { dst := some 130, op := Op.load 3 (Operand.tmp 129), type := 3, pos := "outright.go:39", after := #[{ on := 24, ground := Ground.data }, { on := 21, ground := Ground.guard }], guard := some (21, true) }) (v := undef) rfl (by kernel_rfl) (by kernel_rfl) (by kernel_rfl) (fun _ _ _ h => h) (Or.inr ⟨by rfl, rfl⟩) (by assumption) ?_
                          (try simp only [Act.put, List.setIfInBounds_toArray, List.set_cons_zero, List.set_cons_succ])
                          refine wpAnyH_take (i := 26) (oi := { dst := some 131, op := Op.move (Operand.tmp 5), type := 25, pos := "outright.go:39", after := #[{ on := 21, ground := Ground.guard }], guard := some (21, true) }) (v := undef) rfl (by kernel_rfl) (by kernel_rfl) (by kernel_rfl) (fun _ _ _ h => h) (Or.inr ⟨by rfl, rfl⟩) (by assumption) ?_
                          (try simp only [Act.put, List.setIfInBounds_toArray, List.set_cons_zero, List.set_cons_succ])
                          refine wpAnyH_take (i := 27) (oi := { dst := some 132, op := Op.move (Operand.tmp 13), type := 3, pos := "outright.go:39", after := #[{ on := 21, ground := Ground.guard }], guard := some (21, true) }) (v := undef) rfl (by kernel_rfl) (by kernel_rfl) (by kernel_rfl) (fun _ _ _ h => h) (Or.inr ⟨by rfl, rfl⟩) (by assumption) ?_
                          (try simp only [Act.put, List.setIfInBounds_toArray, List.set_cons_zero, List.set_cons_succ])
                          refine wpAnyH_take (i := 28) (oi := { dst := some 133, op := Op.indexAddr 25 (Operand.tmp 131) (Operand.tmp 132), type := 0, pos := "outright.go:39", after := #[{ on := 26, ground := Ground.data }, { on := 27, ground := Ground.data }, { on := 21, ground := Ground.guard }], guard := some (21, true) }) (v := undef) rfl (by kernel_rfl) (by kernel_rfl) (by kernel_rfl) (fun _ _ _ h => h) (Or.inr ⟨by rfl, rfl⟩) (by assumption) ?_
                          (try simp only [Act.put, List.setIfInBounds_toArray, List.set_cons_zero, List.set_cons_succ])
                          refine wpAnyH_take (i := 29) (oi := { dst := some 134, op := Op.load 3 (Operand.tmp 133), type := 3, pos := "outright.go:39", after := #[{ on := 28, ground := Ground.data }, { on := 21, ground := Ground.guard }], guard := some (21, true) }) (v := undef) rfl (by kernel_rfl) (by kernel_rfl) (by kernel_rfl) (fun _ _ _ h => h) (Or.inr ⟨by rfl, rfl⟩) (by assumption) ?_
                          (try simp only [Act.put, List.setIfInBounds_toArray, List.set_cons_zero, List.set_cons_succ])
                          refine wpAnyH_take (i := 30) (oi := { dst := some 135, op := Op.binOp BinOp.gtr 3 (Operand.tmp 130) (Operand.tmp 134) 3, type := 4, pos := "outright.go:39", after := #[{ on := 25, ground := Ground.data }, { on := 29, ground := Ground.data }, { on := 21, ground := Ground.guard }], guard := some (21, true) }) (v := undef) rfl (by kernel_rfl) (by kernel_rfl) (by kernel_rfl) (fun _ _ _ h => h) (Or.inr ⟨by rfl, rfl⟩) (by assumption) ?_
                          (try simp only [Act.put, List.setIfInBounds_toArray, List.set_cons_zero, List.set_cons_succ])
                          refine wpAnyH_take (i := 31) (oi := { dst := some 136, op := Op.pick (Operand.tmp 126) (Operand.tmp 135) (Operand.const (Value.bool false)), type := 4, pos := "outright.go:39", after := #[{ on := 21, ground := Ground.data }, { on := 30, ground := Ground.data }], guard := none }) (v := .bool false) rfl (by kernel_rfl) (by kernel_rfl) (by kernel_rfl) (fun _ _ _ h => h) (Or.inl ⟨by rfl, ?_⟩) (by assumption) ?_
                          · intro w9 hSw
                            (try dsimp only at hSw)
                            go_simp
                          (try simp only [Act.put, List.setIfInBounds_toArray, List.set_cons_zero, List.set_cons_succ])
                          refine wpAnyH_done (by kernel_rfl) ?_ _
                          go_wp2_with fail
                          go_meet
                          exact ⟨by rw [← HZ.out]; first | rfl | (simp; intros; omega), K5⟩
                        · by_cases h1 : 0 ≤ ma.to
                          · by_cases h2 : ma.to < mb.frm
                            · by_cases h3 : 0 ≤ aj
                              · by_cases h4 : aj < ai
                                · skip
                                  refine wp_region_held_drew (S := (fun V => V.cell? ⟨B, 0, none⟩ = some (.int .i64 ma.client) ∧ V.cell? ⟨B, 1, none⟩ = some (.int .i64 ma.op) ∧ V.cell? ⟨B, 2, none⟩ = some (.bool ma.put) ∧ V.cell? ⟨B, 3, none⟩ = some (.string ma.key) ∧ V.cell? ⟨B, 4, none⟩ = some (.slice ma.va ma.vn ma.vc) ∧ V.cell? ⟨B, 5, none⟩ = some (.int .i64 ma.st) ∧ V.cell? ⟨B, 6, none⟩ = some (.int .i64 ma.frm) ∧ V.cell? ⟨B, 7, none⟩ = some (.int .i64 ma.to) ∧ V.cell? ⟨B, 8, none⟩ = some (.bool ma.opn) ∧ V.cell? ⟨B, 9, none⟩ = some (.int .i64 ma.tx) ∧ V.cell? ⟨B, 10, none⟩ = some (.int .i64 ma.ty) ∧ V.cell? ⟨D, 6, none⟩ = some (.int .i64 mb.frm) ∧ V.cell? ⟨ab, i, none⟩ = some (.int .i64 ai) ∧ V.cell? ⟨ab, j, none⟩ = some (.int .i64 aj))) (by kernel_rfl) ?_ (fun hHeld => ?_)
                                  · exact ⟨c0, c1, c2, c3, c4, c5, c6, c7, c8, c9, c10, d6, xi, xj⟩
                                  refine wpAnyH_take (i := 0) (oi := { dst := some 105, op := Op.load 33 (Operand.tmp 12), type := 33, pos := "outright.go:39", after := #[], guard := none }) (v := .agg #[.int .i64 ma.client, .int .i64 ma.op, .bool ma.put, .string ma.key, .slice ma.va ma.vn ma.vc, .int .i64 ma.st, .int .i64 ma.frm, .int .i64 ma.to, .bool ma.opn, .int .i64 ma.tx, .int .i64 ma.ty]) rfl (by kernel_rfl) (by kernel_rfl) (by kernel_rfl) (fun _ _ _ h => h) (Or.inl ⟨by rfl, ?_⟩) (by assumption) ?_
                                  · intro w9 hSw
                                    (try dsimp only at hSw)
                                    go_simp
                                  (try simp only [Act.put, List.setIfInBounds_toArray, List.set_cons_zero, List.set_cons_succ])
                                  refine wpAnyH_ready (rs := [1]) (by kernel_rfl) (by simp) ?_
                                  refine AllReadyH.cons (o := { dst := some 106, op := Op.call { callee := Callee.value (Operand.func 25), args := #[Operand.tmp 105], argTypes := #[33] }, type := 4, pos := "outright.go:39", after := #[{ on := 0, ground := Ground.data }], guard := none }) rfl (fun K hK => ?_) AllReadyH.nil
                                  go_simp
                                  refine (CM.out X.drew).mono ?_
                                  rintro o w4 ⟨rfl, K4⟩
                                  have K5 : Hid (Kept (fun _ => False) X w4) := ((Kept.refl _ _).drew).trans K4 (fun _ _ z => z)
                                  replace c0 := K5.out.cell c0 (fun z => z)
                                  replace c1 := K5.out.cell c1 (fun z => z)
                                  replace c2 := K5.out.cell c2 (fun z => z)
                                  replace c3 := K5.out.cell c3 (fun z => z)
                                  replace c4 := K5.out.cell c4 (fun z => z)
                                  replace c5 := K5.out.cell c5 (fun z => z)
                                  replace c6 := K5.out.cell c6 (fun z => z)
                                  replace c7 := K5.out.cell c7 (fun z => z)
                                  replace c8 := K5.out.cell c8 (fun z => z)
                                  replace c9 := K5.out.cell c9 (fun z => z)
                                  replace c10 := K5.out.cell c10 (fun z => z)
                                  replace d6 := K5.out.cell d6 (fun z => z)
                                  replace xi := K5.out.cell xi (fun z => z)
                                  replace xj := K5.out.cell xj (fun z => z)
                                  clear K4
                                  refine hK.out _ _ ?_ (fun hHeld => ?_)
                                  · exact ⟨c0, c1, c2, c3, c4, c5, c6, c7, c8, c9, c10, d6, xi, xj⟩
                                  clear hK K
                                  (try simp only [Act.put, List.setIfInBounds_toArray, List.set_cons_zero, List.set_cons_succ])
                                  refine wpAnyH_take (i := 2) (oi := { dst := some 107, op := Op.move (Operand.tmp 106), type := 4, pos := "outright.go:39", after := #[{ on := 1, ground := Ground.data }, { on := 1, ground := Ground.chain }], guard := none }) (v := .bool true) rfl (by kernel_rfl) (by kernel_rfl) (by kernel_rfl) (fun _ _ _ h => h) (Or.inl ⟨by rfl, ?_⟩) (by assumption) ?_
                                  · intro w9 hSw
                                    (try dsimp only at hSw)
                                    go_simp
                                  (try simp only [Act.put, List.setIfInBounds_toArray, List.set_cons_zero, List.set_cons_succ])
                                  refine wpAnyH_take (i := 3) (oi := { dst := some 108, op := Op.fieldAddr 33 (Operand.tmp 12) 7, type := 0, pos := "outright.go:39", after := #[{ on := 2, ground := Ground.guard }], guard := some (2, true) }) (v := .pointer (some ⟨B, 7, none⟩)) rfl (by kernel_rfl) (by kernel_rfl) (by kernel_rfl) (fun _ _ _ h => h) (Or.inl ⟨by rfl, ?_⟩) (by assumption) ?_
                                  · intro w9 hSw
                                    (try dsimp only at hSw)
                                    go_simp
                                  (try simp only [Act.put, List.setIfInBounds_toArray, List.set_cons_zero, List.set_cons_succ])
                                  refine wpAnyH_take (i := 4) (oi := { dst := some 109, op := Op.load 3 (Operand.tmp 108), type := 3, pos := "outright.go:39", after := #[{ on := 3, ground := Ground.data }, { on := 2, ground := Ground.guard }], guard := some (2, true) }) (v := .int .i64 ma.to) rfl (by kernel_rfl) (by kernel_rfl) (by kernel_rfl) (fun _ _ _ h => h) (Or.inl ⟨by rfl, ?_⟩) (by assumption) ?_
                                  · intro w9 hSw
                                    (try dsimp only at hSw)
                                    go_simp
                                  (try simp only [Act.put, List.setIfInBounds_toArray, List.set_cons_zero, List.set_cons_succ])
                                  refine wpAnyH_take (i := 5) (oi := { dst := some 110, op := Op.binOp BinOp.geq 3 (Operand.tmp 109) (Operand.const (Value.int IntKind.i64 0)) 3, type := 4, pos := "outright.go:39", after := #[{ on := 4, ground := Ground.data }, { on := 2, ground := Ground.guard }], guard := some (2, true) }) (v := .bool true) rfl (by kernel_rfl) (by kernel_rfl) (by kernel_rfl) (fun _ _ _ h => h) (Or.inl ⟨by rfl, ?_⟩) (by assumption) ?_
                                  · intro w9 hSw
                                    (try dsimp only at hSw)
                                    go_simp
                                  (try simp only [Act.put, List.setIfInBounds_toArray, List.set_cons_zero, List.set_cons_succ])
                                  refine wpAnyH_take (i := 6) (oi := { dst := some 111, op := Op.pick (Operand.tmp 107) (Operand.tmp 110) (Operand.const (Value.bool false)), type := 4, pos := "outright.go:39", after := #[{ on := 2, ground := Ground.data }, { on := 5, ground := Ground.data }], guard := none }) (v := .bool true) rfl (by kernel_rfl) (by kernel_rfl) (by kernel_rfl) (fun _ _ _ h => h) (Or.inl ⟨by rfl, ?_⟩) (by assumption) ?_
                                  · intro w9 hSw
                                    (try dsimp only at hSw)
                                    go_simp
                                  (try simp only [Act.put, List.setIfInBounds_toArray, List.set_cons_zero, List.set_cons_succ])
                                  refine wpAnyH_take (i := 7) (oi := { dst := some 112, op := Op.move (Operand.tmp 111), type := 4, pos := "outright.go:39", after := #[{ on := 6, ground := Ground.data }, { on := 2, ground := Ground.chain }], guard := none }) (v := .bool true) rfl (by kernel_rfl) (by kernel_rfl) (by kernel_rfl) (fun _ _ _ h => h) (Or.inl ⟨by rfl, ?_⟩) (by assumption) ?_
                                  · intro w9 hSw
                                    (try dsimp only at hSw)
                                    go_simp
                                  (try simp only [Act.put, List.setIfInBounds_toArray, List.set_cons_zero, List.set_cons_succ])
                                  refine wpAnyH_take (i := 8) (oi := { dst := some 113, op := Op.fieldAddr 33 (Operand.tmp 12) 7, type := 0, pos := "outright.go:39", after := #[{ on := 7, ground := Ground.guard }], guard := some (7, true) }) (v := .pointer (some ⟨B, 7, none⟩)) rfl (by kernel_rfl) (by kernel_rfl) (by kernel_rfl) (fun _ _ _ h => h) (Or.inl ⟨by rfl, ?_⟩) (by assumption) ?_
                                  · intro w9 hSw
                                    (try dsimp only at hSw)
                                    go_simp
                                  (try simp only [Act.put, List.setIfInBounds_toArray, List.set_cons_zero, List.set_cons_succ])
                                  refine wpAnyH_take (i := 9) (oi := { dst := some 114, op := Op.load 3 (Operand.tmp 113), type := 3, pos := "outright.go:39", after := #[{ on := 8, ground := Ground.data }, { on := 7, ground := Ground.guard }], guard := some (7, true) }) (v := .int .i64 ma.to) rfl (by kernel_rfl) (by kernel_rfl) (by kernel_rfl) (fun _ _ _ h => h) (Or.inl ⟨by rfl, ?_⟩) (by assumption) ?_
                                  · intro w9 hSw
                                    (try dsimp only at hSw)
                                    go_simp
                                  (try simp only [Act.put, List.setIfInBounds_toArray, List.set_cons_zero, List.set_cons_succ])
                                  refine wpAnyH_take (i := 10) (oi := { dst := some 115, op := Op.fieldAddr 33 (Operand.tmp 14) 6, type := 0, pos := "outright.go:39", after := #[{ on := 7, ground := Ground.guard }], guard := some (7, true) }) (v := .pointer (some ⟨D, 6, none⟩)) rfl (by kernel_rfl) (by kernel_rfl) (by kernel_rfl) (fun _ _ _ h => h) (Or.inl ⟨by rfl, ?_⟩) (by assumption) ?_
                                  · intro w9 hSw
                                    (try dsimp only at hSw)
                                    go_simp
                                  (try simp only [Act.put, List.setIfInBounds_toArray, List.set_cons_zero, List.set_cons_succ])
                                  refine wpAnyH_take (i := 11) (oi := { dst := some 116, op := Op.load 3 (Operand.tmp 115), type := 3, pos := "outright.go:39", after := #[{ on := 10, ground := Ground.data }, { on := 7, ground := Ground.guard }], guard := some (7, true) }) (v := .int .i64 mb.frm) rfl (by kernel_rfl) (by kernel_rfl) (by kernel_rfl) (fun _ _ _ h => h) (Or.inl ⟨by rfl, ?_⟩) (by assumption) ?_
                                  · intro w9 hSw
                                    (try dsimp only at hSw)
                                    go_simp
                                  (try simp only [Act.put, List.setIfInBounds_toArray, List.set_cons_zero, List.set_cons_succ])
                                  refine wpAnyH_take (i := 12) (oi := { dst := some 117, op := Op.binOp BinOp.lss 3 (Operand.tmp 114) (Operand.tmp 116) 3, type := 4, pos := "outright.go:39", after := #[{ on := 9, ground := Ground.data }, { on := 11, ground := Ground.data }, { on := 7, ground := Ground.guard }], guard := some (7, true) }) (v := .bool true) rfl (by kernel_rfl) (by kernel_rfl) (by kernel_rfl) (fun _ _ _ h => h) (Or.inl ⟨by rfl, ?_⟩) (by assumption) ?_
                                  · intro w9 hSw
                                    (try dsimp only at hSw)
                                    go_simp
                                  (try simp only [Act.put, List.setIfInBounds_toArray, List.set_cons_zero, List.set_cons_succ])
                                  refine wpAnyH_take (i := 13) (oi := { dst := some 118, op := Op.pick (Operand.tmp 112) (Operand.tmp 117) (Operand.const (Value.bool false)), type := 4, pos := "outright.go:39", after := #[{ on := 7, ground := Ground.data }, { on := 12, ground := Ground.data }], guard := none }) (v := .bool true) rfl (by kernel_rfl) (by kernel_rfl) (by kernel_rfl) (fun _ _ _ h => h) (Or.inl ⟨by rfl, ?_⟩) (by assumption) ?_
                                  · intro w9 hSw
                                    (try dsimp only at hSw)
                                    go_simp
                                  (try simp only [Act.put, List.setIfInBounds_toArray, List.set_cons_zero, List.set_cons_succ])
                                  refine wpAnyH_take (i := 14) (oi := { dst := some 119, op := Op.move (Operand.tmp 118), type := 4, pos := "outright.go:39", after := #[{ on := 13, ground := Ground.data }, { on := 7, ground := Ground.chain }], guard := none }) (v := .bool true) rfl (by kernel_rfl) (by kernel_rfl) (by kernel_rfl) (fun _ _ _ h => h) (Or.inl ⟨by rfl, ?_⟩) (by assumption) ?_
                                  · intro w9 hSw
                                    (try dsimp only at hSw)
                                    go_simp
                                  (try simp only [Act.put, List.setIfInBounds_toArray, List.set_cons_zero, List.set_cons_succ])
                                  refine wpAnyH_take (i := 15) (oi := { dst := some 120, op := Op.move (Operand.tmp 5), type := 25, pos := "outright.go:39", after := #[{ on := 14, ground := Ground.guard }], guard := some (14, true) }) (v := .slice (some ⟨ab, 0, none⟩) n n) rfl (by kernel_rfl) (by kernel_rfl) (by kernel_rfl) (fun _ _ _ h => h) (Or.inl ⟨by rfl, ?_⟩) (by assumption) ?_
                                  · intro w9 hSw
                                    (try dsimp only at hSw)
                                    go_simp
                                  (try simp only [Act.put, List.setIfInBounds_toArray, List.set_cons_zero, List.set_cons_succ])
                                  refine wpAnyH_take (i := 16) (oi := { dst := some 121, op := Op.move (Operand.tmp 13), type := 3, pos := "outright.go:39", after := #[{ on := 14, ground := Ground.guard }], guard := some (14, true) }) (v := .int .i64 (j : Int)) rfl (by kernel_rfl) (by kernel_rfl) (by kernel_rfl) (fun _ _ _ h => h) (Or.inl ⟨by rfl, ?_⟩) (by assumption) ?_
                                  · intro w9 hSw
                                    (try dsimp only at hSw)
                                    go_simp
                                  (try simp only [Act.put, List.setIfInBounds_toArray, List.set_cons_zero, List.set_cons_succ])
                                  refine wpAnyH_take (i := 17) (oi := { dst := some 122, op := Op.indexAddr 25 (Operand.tmp 120) (Operand.tmp 121), type := 0, pos := "outright.go:39", after := #[{ on := 15, ground := Ground.data }, { on := 16, ground := Ground.data }, { on := 14, ground := Ground.guard }], guard := some (14, true) }) (v := .pointer (some ⟨ab, j, none⟩)) rfl (by kernel_rfl) (by kernel_rfl) (by kernel_rfl) (fun _ _ _ h => h) (Or.inl ⟨by rfl, ?_⟩) (by assumption) ?_
                                  · intro w9 hSw
                                    (try dsimp only at hSw)
                                    go_simp
                                  (try simp only [Act.put, List.setIfInBounds_toArray, List.set_cons_zero, List.set_cons_succ])
                                  refine wpAnyH_take (i := 18) (oi := { dst := some 123, op := Op.load 3 (Operand.tmp 122), type := 3, pos := "outright.go:39", after := #[{ on := 17, ground := Ground.data }, { on := 14, ground := Ground.guard }], guard := some (14, true) }) (v := .int .i64 aj) rfl (by kernel_rfl) (by kernel_rfl) (by kernel_rfl) (fun _ _ _ h => h) (Or.inl ⟨by rfl, ?_⟩) (by assumption) ?_
                                  · intro w9 hSw
                                    (try dsimp only at hSw)
                                    go_simp
                                  (try simp only [Act.put, List.setIfInBounds_toArray, List.set_cons_zero, List.set_cons_succ])
                                  refine wpAnyH_take (i := 19) (oi := { dst := some 124, op := Op.binOp BinOp.geq 3 (Operand.tmp 123) (Operand.const (Value.int IntKind.i64 0)) 3, type := 4, pos := "outright.go:39", after := #[{ on := 18, ground := Ground.data }, { on := 14, ground := Ground.guard }], guard := some (14, true) }) (v := .bool true) rfl (by kernel_rfl) (by kernel_rfl) (by kernel_rfl) (fun _ _ _ h => h) (Or.inl ⟨by rfl, ?_⟩) (by assumption) ?_
                                  · intro w9 hSw
                                    (try dsimp only at hSw)
                                    go_simp
                                  (try simp only [Act.put, List.setIfInBounds_toArray, List.set_cons_zero, List.set_cons_succ])
                                  refine wpAnyH_take (i := 20) (oi := { dst := some 125, op := Op.pick (Operand.tmp 119) (Operand.tmp 124) (Operand.const (Value.bool false)), type := 4, pos := "outright.go:39", after := #[{ on := 14, ground := Ground.data }, { on := 19, ground := Ground.data }], guard := none }) (v := .bool true) rfl (by kernel_rfl) (by kernel_rfl) (by kernel_rfl) (fun _ _ _ h => h) (Or.inl ⟨by rfl, ?_⟩) (by assumption) ?_
                                  · intro w9 hSw
                                    (try dsimp only at hSw)
                                    go_simp
                                  (try simp only [Act.put, List.setIfInBounds_toArray, List.set_cons_zero, List.set_cons_succ])
                                  refine wpAnyH_take (i := 21) (oi := { dst := some 126, op := Op.move (Operand.tmp 125), type := 4, pos := "outright.go:39", after := #[{ on := 20, ground := Ground.data }, { on := 14, ground := Ground.chain }], guard := none }) (v := .bool true) rfl (by kernel_rfl) (by kernel_rfl) (by kernel_rfl) (fun _ _ _ h => h) (Or.inl ⟨by rfl, ?_⟩) (by assumption) ?_
                                  · intro w9 hSw
                                    (try dsimp only at hSw)
                                    go_simp
                                  (try simp only [Act.put, List.setIfInBounds_toArray, List.set_cons_zero, List.set_cons_succ])
                                  refine wpAnyH_take (i := 22) (oi := { dst := some 127, op := Op.move (Operand.tmp 5), type := 25, pos := "outright.go:39", after := #[{ on := 21, ground := Ground.guard }], guard := some (21, true) }) (v := .slice (some ⟨ab, 0, none⟩) n n) rfl (by kernel_rfl) (by kernel_rfl) (by kernel_rfl) (fun _ _ _ h => h) (Or.inl ⟨by rfl, ?_⟩) (by assumption) ?_
                                  · intro w9 hSw
                                    (try dsimp only at hSw)
                                    go_simp
                                  (try simp only [Act.put, List.setIfInBounds_toArray, List.set_cons_zero, List.set_cons_succ])
                                  refine wpAnyH_take (i := 23) (oi := { dst := some 128, op := Op.move (Operand.tmp 11), type := 3, pos := "outright.go:39", after := #[{ on := 21, ground := Ground.guard }], guard := some (21, true) }) (v := .int .i64 (i : Int)) rfl (by kernel_rfl) (by kernel_rfl) (by kernel_rfl) (fun _ _ _ h => h) (Or.inl ⟨by rfl, ?_⟩) (by assumption) ?_
                                  · intro w9 hSw
                                    (try dsimp only at hSw)
                                    go_simp
                                  (try simp only [Act.put, List.setIfInBounds_toArray, List.set_cons_zero, List.set_cons_succ])
                                  refine wpAnyH_take (i := 24) (oi := { dst := some 129, op := Op.indexAddr 25 (Operand.tmp 127) (Operand.tmp 128), type := 0, pos := "outright.go:39", after := #[{ on := 22, ground := Ground.data }, { on := 23, ground := Ground.data }, { on := 21, ground := Ground.guard }], guard := some (21, true) }) (v := .pointer (some ⟨ab, i, none⟩)) rfl (by kernel_rfl) (by kernel_rfl) (by kernel_rfl) (fun _ _ _ h => h) (Or.inl ⟨by rfl, ?_⟩) (by assumption) ?_
                                  · intro w9 hSw
                                    (try dsimp only at hSw)
                                    go_simp
                                  (try simp only [Act.put, List.setIfInBounds_toArray, List.set_cons_zero, List.set_cons_succ])
                                  refine wpAnyH_take (i := 25) (oi := { dst := some 130, op := Op.load 3 (Operand.tmp 129), type := 3, pos := "outright.go:39", after := #[{ on := 24, ground := Ground.data }, { on := 21, ground := Ground.guard }], guard := some (21, true) }) (v := .int .i64 ai) rfl (by kernel_rfl) (by kernel_rfl) (by kernel_rfl) (fun _ _ _ h => h) (Or.inl ⟨by rfl, ?_⟩) (by assumption) ?_
                                  · intro w9 hSw
                                    (try dsimp only at hSw)
                                    go_simp
                                  (try simp only [Act.put, List.setIfInBounds_toArray, List.set_cons_zero, List.set_cons_succ])
                                  refine wpAnyH_take (i := 26) (oi := { dst := some 131, op := Op.move (Operand.tmp 5), type := 25, pos := "outright.go:39", after := #[{ on := 21, ground := Ground.guard }], guard := some (21, true) }) (v := .slice (some ⟨ab, 0, none⟩) n n) rfl (by kernel_rfl) (by kernel_rfl) (by kernel_rfl) (fun _ _ _ h => h) (Or.inl ⟨by rfl, ?_⟩) (by assumption) ?_
                                  · intro w9 hSw
                                    (try dsimp only at hSw)
                                    go_simp
                                  (try simp only [Act.put, List.setIfInBounds_toArray, List.set_cons_zero, List.set_cons_succ])
                                  refine wpAnyH_take (i := 27) (oi := { dst := some 132, op := Op.move (Operand.tmp 13), type := 3, pos := "outright.go:39", after := #[{ on := 21, ground := Ground.guard }], guard := some (21, true) }) (v := .int .i64 (j : Int)) rfl (by kernel_rfl) (by kernel_rfl) (by kernel_rfl) (fun _ _ _ h => h) (Or.inl ⟨by rfl, ?_⟩) (by assumption) ?_
                                  · intro w9 hSw
                                    (try dsimp only at hSw)
                                    go_simp
                                  (try simp only [Act.put, List.setIfInBounds_toArray, List.set_cons_zero, List.set_cons_succ])
                                  refine wpAnyH_take (i := 28) (oi := { dst := some 133, op := Op.indexAddr 25 (Operand.tmp 131) (Operand.tmp 132), type := 0, pos := "outright.go:39", after := #[{ on := 26, ground := Ground.data }, { on := 27, ground := Ground.data }, { on := 21, ground := Ground.guard }], guard := some (21, true) }) (v := .pointer (some ⟨ab, j, none⟩)) rfl (by kernel_rfl) (by kernel_rfl) (by kernel_rfl) (fun _ _ _ h => h) (Or.inl ⟨by rfl, ?_⟩) (by assumption) ?_
                                  · intro w9 hSw
                                    (try dsimp only at hSw)
                                    go_simp
                                  (try simp only [Act.put, List.setIfInBounds_toArray, List.set_cons_zero, List.set_cons_succ])
                                  refine wpAnyH_take (i := 29) (oi := { dst := some 134, op := Op.load 3 (Operand.tmp 133), type := 3, pos := "outright.go:39", after := #[{ on := 28, ground := Ground.data }, { on := 21, ground := Ground.guard }], guard := some (21, true) }) (v := .int .i64 aj) rfl (by kernel_rfl) (by kernel_rfl) (by kernel_rfl) (fun _ _ _ h => h) (Or.inl ⟨by rfl, ?_⟩) (by assumption) ?_
                                  · intro w9 hSw
                                    (try dsimp only at hSw)
                                    go_simp
                                  (try simp only [Act.put, List.setIfInBounds_toArray, List.set_cons_zero, List.set_cons_succ])
                                  refine wpAnyH_take (i := 30) (oi := { dst := some 135, op := Op.binOp BinOp.gtr 3 (Operand.tmp 130) (Operand.tmp 134) 3, type := 4, pos := "outright.go:39", after := #[{ on := 25, ground := Ground.data }, { on := 29, ground := Ground.data }, { on := 21, ground := Ground.guard }], guard := some (21, true) }) (v := .bool true) rfl (by kernel_rfl) (by kernel_rfl) (by kernel_rfl) (fun _ _ _ h => h) (Or.inl ⟨by rfl, ?_⟩) (by assumption) ?_
                                  · intro w9 hSw
                                    (try dsimp only at hSw)
                                    go_simp
                                  (try simp only [Act.put, List.setIfInBounds_toArray, List.set_cons_zero, List.set_cons_succ])
                                  refine wpAnyH_take (i := 31) (oi := { dst := some 136, op := Op.pick (Operand.tmp 126) (Operand.tmp 135) (Operand.const (Value.bool false)), type := 4, pos := "outright.go:39", after := #[{ on := 21, ground := Ground.data }, { on := 30, ground := Ground.data }], guard := none }) (v := .bool true) rfl (by kernel_rfl) (by kernel_rfl) (by kernel_rfl) (fun _ _ _ h => h) (Or.inl ⟨by rfl, ?_⟩) (by assumption) ?_
                                  · intro w9 hSw
                                    (try dsimp only at hSw)
                                    go_simp
                                  (try simp only [Act.put, List.setIfInBounds_toArray, List.set_cons_zero, List.set_cons_succ])
                                  refine wpAnyH_done (by kernel_rfl) ?_ _
                                  go_wp2_with fail
                                  go_meet
                                  exact ⟨by rw [← HZ.out]; first | rfl | (simp [h1, h2, h3, h4]; done), K5⟩
                                · skip
                                  refine wp_region_held_drew (S := (fun V => V.cell? ⟨B, 0, none⟩ = some (.int .i64 ma.client) ∧ V.cell? ⟨B, 1, none⟩ = some (.int .i64 ma.op) ∧ V.cell? ⟨B, 2, none⟩ = some (.bool ma.put) ∧ V.cell? ⟨B, 3, none⟩ = some (.string ma.key) ∧ V.cell? ⟨B, 4, none⟩ = some (.slice ma.va ma.vn ma.vc) ∧ V.cell? ⟨B, 5, none⟩ = some (.int .i64 ma.st) ∧ V.cell? ⟨B, 6, none⟩ = some (.int .i64 ma.frm) ∧ V.cell? ⟨B, 7, none⟩ = some (.int .i64 ma.to) ∧ V.cell? ⟨B, 8, none⟩ = some (.bool ma.opn) ∧ V.cell? ⟨B, 9, none⟩ = some (.int .i64 ma.tx) ∧ V.cell? ⟨B, 10, none⟩ = some (.int .i64 ma.ty) ∧ V.cell? ⟨D, 6, none⟩ = some (.int .i64 mb.frm) ∧ V.cell? ⟨ab, i, none⟩ = some (.int .i64 ai) ∧ V.cell? ⟨ab, j, none⟩ = some (.int .i64 aj))) (by kernel_rfl) ?_ (fun hHeld => ?_)
                                  · exact ⟨c0, c1, c2, c3, c4, c5, c6, c7, c8, c9, c10, d6, xi, xj⟩
                                  refine wpAnyH_take (i := 0) (oi := { dst := some 105, op := Op.load 33 (Operand.tmp 12), type := 33, pos := "outright.go:39", after := #[], guard := none }) (v := .agg #[.int .i64 ma.client, .int .i64 ma.op, .bool ma.put, .string ma.key, .slice ma.va ma.vn ma.vc, .int .i64 ma.st, .int .i64 ma.frm, .int .i64 ma.to, .bool ma.opn, .int .i64 ma.tx, .int .i64 ma.ty]) rfl (by kernel_rfl) (by kernel_rfl) (by kernel_rfl) (fun _ _ _ h => h) (Or.inl ⟨by rfl, ?_⟩) (by assumption) ?_
                                  · intro w9 hSw
                                    (try dsimp only at hSw)
                                    go_simp
                                  (try simp only [Act.put, List.setIfInBounds_toArray, List.set_cons_zero, List.set_cons_succ])
                                  refine wpAnyH_ready (rs := [1]) (by kernel_rfl) (by simp) ?_
                                  refine AllReadyH.cons (o := { dst := some 106, op := Op.call { callee := Callee.value (Operand.func 25), args := #[Operand.tmp 105], argTypes := #[33] }, type := 4, pos := "outright.go:39", after := #[{ on := 0, ground := Ground.data }], guard := none }) rfl (fun K hK => ?_) AllReadyH.nil
                                  go_simp
                                  refine (CM.out X.drew).mono ?_
                                  rintro o w4 ⟨rfl, K4⟩
                                  have K5 : Hid (Kept (fun _ => False) X w4) := ((Kept.refl _ _).drew).trans K4 (fun _ _ z => z)
                                  replace c0 := K5.out.cell c0 (fun z => z)
                                  replace c1 := K5.out.cell c1 (fun z => z)
                                  replace c2 := K5.out.cell c2 (fun z => z)
                                  replace c3 := K5.out.cell c3 (fun z => z)
                                  replace c4 := K5.out.cell c4 (fun z => z)
                                  replace c5 := K5.out.cell c5 (fun z => z)
                                  replace c6 := K5.out.cell c6 (fun z => z)
                                  replace c7 := K5.out.cell c7 (fun z => z)
                                  replace c8 := K5.out.cell c8 (fun z => z)
                                  replace c9 := K5.out.cell c9 (fun z => z)
                                  replace c10 := K5.out.cell c10 (fun z => z)
                                  replace d6 := K5.out.cell d6 (fun z => z)
                                  replace xi := K5.out.cell xi (fun z => z)
                                  replace xj := K5.out.cell xj (fun z => z)
                                  clear K4
                                  refine hK.out _ _ ?_ (fun hHeld => ?_)
                                  · exact ⟨c0, c1, c2, c3, c4, c5, c6, c7, c8, c9, c10, d6, xi, xj⟩
                                  clear hK K
                                  (try simp only [Act.put, List.setIfInBounds_toArray, List.set_cons_zero, List.set_cons_succ])
                                  refine wpAnyH_take (i := 2) (oi := { dst := some 107, op := Op.move (Operand.tmp 106), type := 4, pos := "outright.go:39", after := #[{ on := 1, ground := Ground.data }, { on := 1, ground := Ground.chain }], guard := none }) (v := .bool true) rfl (by kernel_rfl) (by kernel_rfl) (by kernel_rfl) (fun _ _ _ h => h) (Or.inl ⟨by rfl, ?_⟩) (by assumption) ?_
                                  · intro w9 hSw
                                    (try dsimp only at hSw)
                                    go_simp
                                  (try simp only [Act.put, List.setIfInBounds_toArray, List.set_cons_zero, List.set_cons_succ])
                                  refine wpAnyH_take (i := 3) (oi := { dst := some 108, op := Op.fieldAddr 33 (Operand.tmp 12) 7, type := 0, pos := "outright.go:39", after := #[{ on := 2, ground := Ground.guard }], guard := some (2, true) }) (v := .pointer (some ⟨B, 7, none⟩)) rfl (by kernel_rfl) (by kernel_rfl) (by kernel_rfl) (fun _ _ _ h => h) (Or.inl ⟨by rfl, ?_⟩) (by assumption) ?_
                                  · intro w9 hSw
                                    (try dsimp only at hSw)
                                    go_simp
                                  (try simp only [Act.put, List.setIfInBounds_toArray, List.set_cons_zero, List.set_cons_succ])
                                  refine wpAnyH_take (i := 4) (oi := { dst := some 109, op := Op.load 3 (Operand.tmp 108), type := 3, pos := "outright.go:39", after := #[{ on := 3, ground := Ground.data }, { on := 2, ground := Ground.guard }], guard := some (2, true) }) (v := .int .i64 ma.to) rfl (by kernel_rfl) (by kernel_rfl) (by kernel_rfl) (fun _ _ _ h => h) (Or.inl ⟨by rfl, ?_⟩) (by assumption) ?_
                                  · intro w9 hSw
                                    (try dsimp only at hSw)
                                    go_simp
                                  (try simp only [Act.put, List.setIfInBounds_toArray, List.set_cons_zero, List.set_cons_succ])
                                  refine wpAnyH_take (i := 5) (oi := { dst := some 110, op := Op.binOp BinOp.geq 3 (Operand.tmp 109) (Operand.const (Value.int IntKind.i64 0)) 3, type := 4, pos := "outright.go:39", after := #[{ on := 4, ground := Ground.data }, { on := 2, ground := Ground.guard }], guard := some (2, true) }) (v := .bool true) rfl (by kernel_rfl) (by kernel_rfl) (by kernel_rfl) (fun _ _ _ h => h) (Or.inl ⟨by rfl, ?_⟩) (by assumption) ?_
                                  · intro w9 hSw
                                    (try dsimp only at hSw)
                                    go_simp
                                  (try simp only [Act.put, List.setIfInBounds_toArray, List.set_cons_zero, List.set_cons_succ])
                                  refine wpAnyH_take (i := 6) (oi := { dst := some 111, op := Op.pick (Operand.tmp 107) (Operand.tmp 110) (Operand.const (Value.bool false)), type := 4, pos := "outright.go:39", after := #[{ on := 2, ground := Ground.data }, { on := 5, ground := Ground.data }], guard := none }) (v := .bool true) rfl (by kernel_rfl) (by kernel_rfl) (by kernel_rfl) (fun _ _ _ h => h) (Or.inl ⟨by rfl, ?_⟩) (by assumption) ?_
                                  · intro w9 hSw
                                    (try dsimp only at hSw)
                                    go_simp
                                  (try simp only [Act.put, List.setIfInBounds_toArray, List.set_cons_zero, List.set_cons_succ])
                                  refine wpAnyH_take (i := 7) (oi := { dst := some 112, op := Op.move (Operand.tmp 111), type := 4, pos := "outright.go:39", after := #[{ on := 6, ground := Ground.data }, { on := 2, ground := Ground.chain }], guard := none }) (v := .bool true) rfl (by kernel_rfl) (by kernel_rfl) (by kernel_rfl) (fun _ _ _ h => h) (Or.inl ⟨by rfl, ?_⟩) (by assumption) ?_
                                  · intro w9 hSw
                                    (try dsimp only at hSw)
                                    go_simp
                                  (try simp only [Act.put, List.setIfInBounds_toArray, List.set_cons_zero, List.set_cons_succ])
                                  refine wpAnyH_take (i := 8) (oi := { dst := some 113, op := Op.fieldAddr 33 (Operand.tmp 12) 7, type := 0, pos := "outright.go:39", after := #[{ on := 7, ground := Ground.guard }], guard := some (7, true) }) (v := .pointer (some ⟨B, 7, none⟩)) rfl (by kernel_rfl) (by kernel_rfl) (by kernel_rfl) (fun _ _ _ h => h) (Or.inl ⟨by rfl, ?_⟩) (by assumption) ?_
                                  · intro w9 hSw
                                    (try dsimp only at hSw)
                                    go_simp
                                  (try simp only [Act.put, List.setIfInBounds_toArray, List.set_cons_zero, List.set_cons_succ])
                                  refine wpAnyH_take (i := 9) (oi := { dst := some 114, op := Op.load 3 (Operand.tmp 113), type := 3, pos := "outright.go:39", after := #[{ on := 8, ground := Ground.data }, { on := 7, ground := Ground.guard }], guard := some (7, true) }) (v := .int .i64 ma.to) rfl (by kernel_rfl) (by kernel_rfl) (by kernel_rfl) (fun _ _ _ h => h) (Or.inl ⟨by rfl, ?_⟩) (by assumption) ?_
                                  · intro w9 hSw
                                    (try dsimp only at hSw)
                                    go_simp
                                  (try simp only [Act.put, List.setIfInBounds_toArray, List.set_cons_zero, List.set_cons_succ])
                                  refine wpAnyH_take (i := 10) (oi := { dst := some 115, op := Op.fieldAddr 33 (Operand.tmp 14) 6, type := 0, pos := "outright.go:39", after := #[{ on := 7, ground := Ground.guard }], guard := some (7, true) }) (v := .pointer (some ⟨D, 6, none⟩)) rfl (by kernel_rfl) (by kernel_rfl) (by kernel_rfl) (fun _ _ _ h => h) (Or.inl ⟨by rfl, ?_⟩) (by assumption) ?_
                                  · intro w9 hSw
                                    (try dsimp only at hSw)
                                    go_simp
                                  (try simp only [Act.put, List.setIfInBounds_toArray, List.set_cons_zero, List.set_cons_succ])
                                  refine wpAnyH_take (i := 11) (oi := { dst := some 116, op := Op.load 3 (Operand.tmp 115), type := 3, pos := "outright.go:39", after := #[{ on := 10, ground := Ground.data }, { on := 7, ground := Ground.guard }], guard := some (7, true) }) (v := .int .i64 mb.frm) rfl (by kernel_rfl) (by kernel_rfl) (by kernel_rfl) (fun _ _ _ h => h) (Or.inl ⟨by rfl, ?_⟩) (by assumption) ?_
                                  · intro w9 hSw
                                    (try dsimp only at hSw)
                                    go_simp
                                  (try simp only [Act.put, List.setIfInBounds_toArray, List.set_cons_zero, List.set_cons_succ])
                                  refine wpAnyH_take (i := 12) (oi := { dst := some 117, op := Op.binOp BinOp.lss 3 (Operand.tmp 114) (Operand.tmp 116) 3, type := 4, pos := "outright.go:39", after := #[{ on := 9, ground := Ground.data }, { on := 11, ground := Ground.data }, { on := 7, ground := Ground.guard }], guard := some (7, true) }) (v := .bool true) rfl (by kernel_rfl) (by kernel_rfl) (by kernel_rfl) (fun _ _ _ h => h) (Or.inl ⟨by rfl, ?_⟩) (by assumption) ?_
                                  · intro w9 hSw
                                    (try dsimp only at hSw)
                                    go_simp
                                  (try simp only [Act.put, List.setIfInBounds_toArray, List.set_cons_zero, List.set_cons_succ])
                                  refine wpAnyH_take (i := 13) (oi := { dst := some 118, op := Op.pick (Operand.tmp 112) (Operand.tmp 117) (Operand.const (Value.bool false)), type := 4, pos := "outright.go:39", after := #[{ on := 7, ground := Ground.data }, { on := 12, ground := Ground.data }], guard := none }) (v := .bool true) rfl (by kernel_rfl) (by kernel_rfl) (by kernel_rfl) (fun _ _ _ h => h) (Or.inl ⟨by rfl, ?_⟩) (by assumption) ?_
                                  · intro w9 hSw
                                    (try dsimp only at hSw)
                                    go_simp
                                  (try simp only [Act.put, List.setIfInBounds_toArray, List.set_cons_zero, List.set_cons_succ])
                                  refine wpAnyH_take (i := 14) (oi := { dst := some 119, op := Op.move (Operand.tmp 118), type := 4, pos := "outright.go:39", after := #[{ on := 13, ground := Ground.data }, { on := 7, ground := Ground.chain }], guard := none }) (v := .bool true) rfl (by kernel_rfl) (by kernel_rfl) (by kernel_rfl) (fun _ _ _ h => h) (Or.inl ⟨by rfl, ?_⟩) (by assumption) ?_
                                  · intro w9 hSw
                                    (try dsimp only at hSw)
                                    go_simp
                                  (try simp only [Act.put, List.setIfInBounds_toArray, List.set_cons_zero, List.set_cons_succ])
                                  refine wpAnyH_take (i := 15) (oi := { dst := some 120, op := Op.move (Operand.tmp 5), type := 25, pos := "outright.go:39", after := #[{ on := 14, ground := Ground.guard }], guard := some (14, true) }) (v := .slice (some ⟨ab, 0, none⟩) n n) rfl (by kernel_rfl) (by kernel_rfl) (by kernel_rfl) (fun _ _ _ h => h) (Or.inl ⟨by rfl, ?_⟩) (by assumption) ?_
                                  · intro w9 hSw
                                    (try dsimp only at hSw)
                                    go_simp
                                  (try simp only [Act.put, List.setIfInBounds_toArray, List.set_cons_zero, List.set_cons_succ])
                                  refine wpAnyH_take (i := 16) (oi := { dst := some 121, op := Op.move (Operand.tmp 13), type := 3, pos := "outright.go:39", after := #[{ on := 14, ground := Ground.guard }], guard := some (14, true) }) (v := .int .i64 (j : Int)) rfl (by kernel_rfl) (by kernel_rfl) (by kernel_rfl) (fun _ _ _ h => h) (Or.inl ⟨by rfl, ?_⟩) (by assumption) ?_
                                  · intro w9 hSw
                                    (try dsimp only at hSw)
                                    go_simp
                                  (try simp only [Act.put, List.setIfInBounds_toArray, List.set_cons_zero, List.set_cons_succ])
                                  refine wpAnyH_take (i := 17) (oi := { dst := some 122, op := Op.indexAddr 25 (Operand.tmp 120) (Operand.tmp 121), type := 0, pos := "outright.go:39", after := #[{ on := 15, ground := Ground.data }, { on := 16, ground := Ground.data }, { on := 14, ground := Ground.guard }], guard := some (14, true) }) (v := .pointer (some ⟨ab, j, none⟩)) rfl (by kernel_rfl) (by kernel_rfl) (by kernel_rfl) (fun _ _ _ h => h) (Or.inl ⟨by rfl, ?_⟩) (by assumption) ?_
                                  · intro w9 hSw
                                    (try dsimp only at hSw)
                                    go_simp
                                  (try simp only [Act.put, List.setIfInBounds_toArray, List.set_cons_zero, List.set_cons_succ])
                                  refine wpAnyH_take (i := 18) (oi := { dst := some 123, op := Op.load 3 (Operand.tmp 122), type := 3, pos := "outright.go:39", after := #[{ on := 17, ground := Ground.data }, { on := 14, ground := Ground.guard }], guard := some (14, true) }) (v := .int .i64 aj) rfl (by kernel_rfl) (by kernel_rfl) (by kernel_rfl) (fun _ _ _ h => h) (Or.inl ⟨by rfl, ?_⟩) (by assumption) ?_
                                  · intro w9 hSw
                                    (try dsimp only at hSw)
                                    go_simp
                                  (try simp only [Act.put, List.setIfInBounds_toArray, List.set_cons_zero, List.set_cons_succ])
                                  refine wpAnyH_take (i := 19) (oi := { dst := some 124, op := Op.binOp BinOp.geq 3 (Operand.tmp 123) (Operand.const (Value.int IntKind.i64 0)) 3, type := 4, pos := "outright.go:39", after := #[{ on := 18, ground := Ground.data }, { on := 14, ground := Ground.guard }], guard := some (14, true) }) (v := .bool true) rfl (by kernel_rfl) (by kernel_rfl) (by kernel_rfl) (fun _ _ _ h => h) (Or.inl ⟨by rfl, ?_⟩) (by assumption) ?_
                                  · intro w9 hSw
                                    (try dsimp only at hSw)
                                    go_simp
                                  (try simp only [Act.put, List.setIfInBounds_toArray, List.set_cons_zero, List.set_cons_succ])
                                  refine wpAnyH_take (i := 20) (oi := { dst := some 125, op := Op.pick (Operand.tmp 119) (Operand.tmp 124) (Operand.const (Value.bool false)), type := 4, pos := "outright.go:39", after := #[{ on := 14, ground := Ground.data }, { on := 19, ground := Ground.data }], guard := none }) (v := .bool true) rfl (by kernel_rfl) (by kernel_rfl) (by kernel_rfl) (fun _ _ _ h => h) (Or.inl ⟨by rfl, ?_⟩) (by assumption) ?_
                                  · intro w9 hSw
                                    (try dsimp only at hSw)
                                    go_simp
                                  (try simp only [Act.put, List.setIfInBounds_toArray, List.set_cons_zero, List.set_cons_succ])
                                  refine wpAnyH_take (i := 21) (oi := { dst := some 126, op := Op.move (Operand.tmp 125), type := 4, pos := "outright.go:39", after := #[{ on := 20, ground := Ground.data }, { on := 14, ground := Ground.chain }], guard := none }) (v := .bool true) rfl (by kernel_rfl) (by kernel_rfl) (by kernel_rfl) (fun _ _ _ h => h) (Or.inl ⟨by rfl, ?_⟩) (by assumption) ?_
                                  · intro w9 hSw
                                    (try dsimp only at hSw)
                                    go_simp
                                  (try simp only [Act.put, List.setIfInBounds_toArray, List.set_cons_zero, List.set_cons_succ])
                                  refine wpAnyH_take (i := 22) (oi := { dst := some 127, op := Op.move (Operand.tmp 5), type := 25, pos := "outright.go:39", after := #[{ on := 21, ground := Ground.guard }], guard := some (21, true) }) (v := .slice (some ⟨ab, 0, none⟩) n n) rfl (by kernel_rfl) (by kernel_rfl) (by kernel_rfl) (fun _ _ _ h => h) (Or.inl ⟨by rfl, ?_⟩) (by assumption) ?_
                                  · intro w9 hSw
                                    (try dsimp only at hSw)
                                    go_simp
                                  (try simp only [Act.put, List.setIfInBounds_toArray, List.set_cons_zero, List.set_cons_succ])
                                  refine wpAnyH_take (i := 23) (oi := { dst := some 128, op := Op.move (Operand.tmp 11), type := 3, pos := "outright.go:39", after := #[{ on := 21, ground := Ground.guard }], guard := some (21, true) }) (v := .int .i64 (i : Int)) rfl (by kernel_rfl) (by kernel_rfl) (by kernel_rfl) (fun _ _ _ h => h) (Or.inl ⟨by rfl, ?_⟩) (by assumption) ?_
                                  · intro w9 hSw
                                    (try dsimp only at hSw)
                                    go_simp
                                  (try simp only [Act.put, List.setIfInBounds_toArray, List.set_cons_zero, List.set_cons_succ])
                                  refine wpAnyH_take (i := 24) (oi := { dst := some 129, op := Op.indexAddr 25 (Operand.tmp 127) (Operand.tmp 128), type := 0, pos := "outright.go:39", after := #[{ on := 22, ground := Ground.data }, { on := 23, ground := Ground.data }, { on := 21, ground := Ground.guard }], guard := some (21, true) }) (v := .pointer (some ⟨ab, i, none⟩)) rfl (by kernel_rfl) (by kernel_rfl) (by kernel_rfl) (fun _ _ _ h => h) (Or.inl ⟨by rfl, ?_⟩) (by assumption) ?_
                                  · intro w9 hSw
                                    (try dsimp only at hSw)
                                    go_simp
                                  (try simp only [Act.put, List.setIfInBounds_toArray, List.set_cons_zero, List.set_cons_succ])
                                  refine wpAnyH_take (i := 25) (oi := { dst := some 130, op := Op.load 3 (Operand.tmp 129), type := 3, pos := "outright.go:39", after := #[{ on := 24, ground := Ground.data }, { on := 21, ground := Ground.guard }], guard := some (21, true) }) (v := .int .i64 ai) rfl (by kernel_rfl) (by kernel_rfl) (by kernel_rfl) (fun _ _ _ h => h) (Or.inl ⟨by rfl, ?_⟩) (by assumption) ?_
                                  · intro w9 hSw
                                    (try dsimp only at hSw)
                                    go_simp
                                  (try simp only [Act.put, List.setIfInBounds_toArray, List.set_cons_zero, List.set_cons_succ])
                                  refine wpAnyH_take (i := 26) (oi := { dst := some 131, op := Op.move (Operand.tmp 5), type := 25, pos := "outright.go:39", after := #[{ on := 21, ground := Ground.guard }], guard := some (21, true) }) (v := .slice (some ⟨ab, 0, none⟩) n n) rfl (by kernel_rfl) (by kernel_rfl) (by kernel_rfl) (fun _ _ _ h => h) (Or.inl ⟨by rfl, ?_⟩) (by assumption) ?_
                                  · intro w9 hSw
                                    (try dsimp only at hSw)
                                    go_simp
                                  (try simp only [Act.put, List.setIfInBounds_toArray, List.set_cons_zero, List.set_cons_succ])
                                  refine wpAnyH_take (i := 27) (oi := { dst := some 132, op := Op.move (Operand.tmp 13), type := 3, pos := "outright.go:39", after := #[{ on := 21, ground := Ground.guard }], guard := some (21, true) }) (v := .int .i64 (j : Int)) rfl (by kernel_rfl) (by kernel_rfl) (by kernel_rfl) (fun _ _ _ h => h) (Or.inl ⟨by rfl, ?_⟩) (by assumption) ?_
                                  · intro w9 hSw
                                    (try dsimp only at hSw)
                                    go_simp
                                  (try simp only [Act.put, List.setIfInBounds_toArray, List.set_cons_zero, List.set_cons_succ])
                                  refine wpAnyH_take (i := 28) (oi := { dst := some 133, op := Op.indexAddr 25 (Operand.tmp 131) (Operand.tmp 132), type := 0, pos := "outright.go:39", after := #[{ on := 26, ground := Ground.data }, { on := 27, ground := Ground.data }, { on := 21, ground := Ground.guard }], guard := some (21, true) }) (v := .pointer (some ⟨ab, j, none⟩)) rfl (by kernel_rfl) (by kernel_rfl) (by kernel_rfl) (fun _ _ _ h => h) (Or.inl ⟨by rfl, ?_⟩) (by assumption) ?_
                                  · intro w9 hSw
                                    (try dsimp only at hSw)
                                    go_simp
                                  (try simp only [Act.put, List.setIfInBounds_toArray, List.set_cons_zero, List.set_cons_succ])
                                  refine wpAnyH_take (i := 29) (oi := { dst := some 134, op := Op.load 3 (Operand.tmp 133), type := 3, pos := "outright.go:39", after := #[{ on := 28, ground := Ground.data }, { on := 21, ground := Ground.guard }], guard := some (21, true) }) (v := .int .i64 aj) rfl (by kernel_rfl) (by kernel_rfl) (by kernel_rfl) (fun _ _ _ h => h) (Or.inl ⟨by rfl, ?_⟩) (by assumption) ?_
                                  · intro w9 hSw
                                    (try dsimp only at hSw)
                                    go_simp
                                  (try simp only [Act.put, List.setIfInBounds_toArray, List.set_cons_zero, List.set_cons_succ])
                                  refine wpAnyH_take (i := 30) (oi := { dst := some 135, op := Op.binOp BinOp.gtr 3 (Operand.tmp 130) (Operand.tmp 134) 3, type := 4, pos := "outright.go:39", after := #[{ on := 25, ground := Ground.data }, { on := 29, ground := Ground.data }, { on := 21, ground := Ground.guard }], guard := some (21, true) }) (v := .bool false) rfl (by kernel_rfl) (by kernel_rfl) (by kernel_rfl) (fun _ _ _ h => h) (Or.inl ⟨by rfl, ?_⟩) (by assumption) ?_
                                  · intro w9 hSw
                                    (try dsimp only at hSw)
                                    go_simp
                                  (try simp only [Act.put, List.setIfInBounds_toArray, List.set_cons_zero, List.set_cons_succ])
                                  refine wpAnyH_take (i := 31) (oi := { dst := some 136, op := Op.pick (Operand.tmp 126) (Operand.tmp 135) (Operand.const (Value.bool false)), type := 4, pos := "outright.go:39", after := #[{ on := 21, ground := Ground.data }, { on := 30, ground := Ground.data }], guard := none }) (v := .bool false) rfl (by kernel_rfl) (by kernel_rfl) (by kernel_rfl) (fun _ _ _ h => h) (Or.inl ⟨by rfl, ?_⟩) (by assumption) ?_
                                  · intro w9 hSw
                                    (try dsimp only at hSw)
                                    go_simp
                                  (try simp only [Act.put, List.setIfInBounds_toArray, List.set_cons_zero, List.set_cons_succ])
                                  refine wpAnyH_done (by kernel_rfl) ?_ _
                                  go_wp2_with fail
                                  go_meet
                                  exact ⟨by rw [← HZ.out]; first | rfl | (simp [h1, h2, h3, h4]; done), K5⟩
                              · skip
                                refine wp_region_held_drew (S := (fun V => V.cell? ⟨B, 0, none⟩ = some (.int .i64 ma.client) ∧ V.cell? ⟨B, 1, none⟩ = some (.int .i64 ma.op) ∧ V.cell? ⟨B, 2, none⟩ = some (.bool ma.put) ∧ V.cell? ⟨B, 3, none⟩ = some (.string ma.key) ∧ V.cell? ⟨B, 4, none⟩ = some (.slice ma.va ma.vn ma.vc) ∧ V.cell? ⟨B, 5, none⟩ = some (.int .i64 ma.st) ∧ V.cell? ⟨B, 6, none⟩ = some (.int .i64 ma.frm) ∧ V.cell? ⟨B, 7, none⟩ = some (.int .i64 ma.to) ∧ V.cell? ⟨B, 8, none⟩ = some (.bool ma.opn) ∧ V.cell? ⟨B, 9, none⟩ = some (.int .i64 ma.tx) ∧ V.cell? ⟨B, 10, none⟩ = some (.int .i64 ma.ty) ∧ V.cell? ⟨D, 6, none⟩ = some (.int .i64 mb.frm) ∧ V.cell? ⟨ab, i, none⟩ = some (.int .i64 ai) ∧ V.cell? ⟨ab, j, none⟩ = some (.int .i64 aj))) (by kernel_rfl) ?_ (fun hHeld => ?_)
                                · exact ⟨c0, c1, c2, c3, c4, c5, c6, c7, c8, c9, c10, d6, xi, xj⟩
                                refine wpAnyH_take (i := 0) (oi := { dst := some 105, op := Op.load 33 (Operand.tmp 12), type := 33, pos := "outright.go:39", after := #[], guard := none }) (v := .agg #[.int .i64 ma.client, .int .i64 ma.op, .bool ma.put, .string ma.key, .slice ma.va ma.vn ma.vc, .int .i64 ma.st, .int .i64 ma.frm, .int .i64 ma.to, .bool ma.opn, .int .i64 ma.tx, .int .i64 ma.ty]) rfl (by kernel_rfl) (by kernel_rfl) (by kernel_rfl) (fun _ _ _ h => h) (Or.inl ⟨by rfl, ?_⟩) (by assumption) ?_
                                · intro w9 hSw
                                  (try dsimp only at hSw)
                                  go_simp
                                (try simp only [Act.put, List.setIfInBounds_toArray, List.set_cons_zero, List.set_cons_succ])
                                refine wpAnyH_ready (rs := [1]) (by kernel_rfl) (by simp) ?_
                                refine AllReadyH.cons (o := { dst := some 106, op := Op.call { callee := Callee.value (Operand.func 25), args := #[Operand.tmp 105], argTypes := #[33] }, type := 4, pos := "outright.go:39", after := #[{ on := 0, ground := Ground.data }], guard := none }) rfl (fun K hK => ?_) AllReadyH.nil
                                go_simp
                                refine (CM.out X.drew).mono ?_
                                rintro o w4 ⟨rfl, K4⟩
                                have K5 : Hid (Kept (fun _ => False) X w4) := ((Kept.refl _ _).drew).trans K4 (fun _ _ z => z)
                                replace c0 := K5.out.cell c0 (fun z => z)
                                replace c1 := K5.out.cell c1 (fun z => z)
                                replace c2 := K5.out.cell c2 (fun z => z)
                                replace c3 := K5.out.cell c3 (fun z => z)
                                replace c4 := K5.out.cell c4 (fun z => z)
                                replace c5 := K5.out.cell c5 (fun z => z)
                                replace c6 := K5.out.cell c6 (fun z => z)
                                replace c7 := K5.out.cell c7 (fun z => z)
                                replace c8 := K5.out.cell c8 (fun z => z)
                                replace c9 := K5.out.cell c9 (fun z => z)
                                replace c10 := K5.out.cell c10 (fun z => z)
                                replace d6 := K5.out.cell d6 (fun z => z)
                                replace xi := K5.out.cell xi (fun z => z)
                                replace xj := K5.out.cell xj (fun z => z)
                                clear K4
                                refine hK.out _ _ ?_ (fun hHeld => ?_)
                                · exact ⟨c0, c1, c2, c3, c4, c5, c6, c7, c8, c9, c10, d6, xi, xj⟩
                                clear hK K
                                (try simp only [Act.put, List.setIfInBounds_toArray, List.set_cons_zero, List.set_cons_succ])
                                refine wpAnyH_take (i := 2) (oi := { dst := some 107, op := Op.move (Operand.tmp 106), type := 4, pos := "outright.go:39", after := #[{ on := 1, ground := Ground.data }, { on := 1, ground := Ground.chain }], guard := none }) (v := .bool true) rfl (by kernel_rfl) (by kernel_rfl) (by kernel_rfl) (fun _ _ _ h => h) (Or.inl ⟨by rfl, ?_⟩) (by assumption) ?_
                                · intro w9 hSw
                                  (try dsimp only at hSw)
                                  go_simp
                                (try simp only [Act.put, List.setIfInBounds_toArray, List.set_cons_zero, List.set_cons_succ])
                                refine wpAnyH_take (i := 3) (oi := { dst := some 108, op := Op.fieldAddr 33 (Operand.tmp 12) 7, type := 0, pos := "outright.go:39", after := #[{ on := 2, ground := Ground.guard }], guard := some (2, true) }) (v := .pointer (some ⟨B, 7, none⟩)) rfl (by kernel_rfl) (by kernel_rfl) (by kernel_rfl) (fun _ _ _ h => h) (Or.inl ⟨by rfl, ?_⟩) (by assumption) ?_
                                · intro w9 hSw
                                  (try dsimp only at hSw)
                                  go_simp
                                (try simp only [Act.put, List.setIfInBounds_toArray, List.set_cons_zero, List.set_cons_succ])
                                refine wpAnyH_take (i := 4) (oi := { dst := some 109, op := Op.load 3 (Operand.tmp 108), type := 3, pos := "outright.go:39", after := #[{ on := 3, ground := Ground.data }, { on := 2, ground := Ground.guard }], guard := some (2, true) }) (v := .int .i64 ma.to) rfl (by kernel_rfl) (by kernel_rfl) (by kernel_rfl) (fun _ _ _ h => h) (Or.inl ⟨by rfl, ?_⟩) (by assumption) ?_
                                · intro w9 hSw
                                  (try dsimp only at hSw)
                                  go_simp
                                (try simp only [Act.put, List.setIfInBounds_toArray, List.set_cons_zero, List.set_cons_succ])
                                refine wpAnyH_take (i := 5) (oi := { dst := some 110, op := Op.binOp BinOp.geq 3 (Operand.tmp 109) (Operand.const (Value.int IntKind.i64 0)) 3, type := 4, pos := "outright.go:39", after := #[{ on := 4, ground := Ground.data }, { on := 2, ground := Ground.guard }], guard := some (2, true) }) (v := .bool true) rfl (by kernel_rfl) (by kernel_rfl) (by kernel_rfl) (fun _ _ _ h => h) (Or.inl ⟨by rfl, ?_⟩) (by assumption) ?_
                                · intro w9 hSw
                                  (try dsimp only at hSw)
                                  go_simp
                                (try simp only [Act.put, List.setIfInBounds_toArray, List.set_cons_zero, List.set_cons_succ])
                                refine wpAnyH_take (i := 6) (oi := { dst := some 111, op := Op.pick (Operand.tmp 107) (Operand.tmp 110) (Operand.const (Value.bool false)), type := 4, pos := "outright.go:39", after := #[{ on := 2, ground := Ground.data }, { on := 5, ground := Ground.data }], guard := none }) (v := .bool true) rfl (by kernel_rfl) (by kernel_rfl) (by kernel_rfl) (fun _ _ _ h => h) (Or.inl ⟨by rfl, ?_⟩) (by assumption) ?_
                                · intro w9 hSw
                                  (try dsimp only at hSw)
                                  go_simp
                                (try simp only [Act.put, List.setIfInBounds_toArray, List.set_cons_zero, List.set_cons_succ])
                                refine wpAnyH_take (i := 7) (oi := { dst := some 112, op := Op.move (Operand.tmp 111), type := 4, pos := "outright.go:39", after := #[{ on := 6, ground := Ground.data }, { on := 2, ground := Ground.chain }], guard := none }) (v := .bool true) rfl (by kernel_rfl) (by kernel_rfl) (by kernel_rfl) (fun _ _ _ h => h) (Or.inl ⟨by rfl, ?_⟩) (by assumption) ?_
                                · intro w9 hSw
                                  (try dsimp only at hSw)
                                  go_simp
                                (try simp only [Act.put, List.setIfInBounds_toArray, List.set_cons_zero, List.set_cons_succ])
                                refine wpAnyH_take (i := 8) (oi := { dst := some 113, op := Op.fieldAddr 33 (Operand.tmp 12) 7, type := 0, pos := "outright.go:39", after := #[{ on := 7, ground := Ground.guard }], guard := some (7, true) }) (v := .pointer (some ⟨B, 7, none⟩)) rfl (by kernel_rfl) (by kernel_rfl) (by kernel_rfl) (fun _ _ _ h => h) (Or.inl ⟨by rfl, ?_⟩) (by assumption) ?_
                                · intro w9 hSw
                                  (try dsimp only at hSw)
                                  go_simp
                                (try simp only [Act.put, List.setIfInBounds_toArray, List.set_cons_zero, List.set_cons_succ])
                                refine wpAnyH_take (i := 9) (oi := { dst := some 114, op := Op.load 3 (Operand.tmp 113), type := 3, pos := "outright.go:39", after := #[{ on := 8, ground := Ground.data }, { on := 7, ground := Ground.guard }], guard := some (7, true) }) (v := .int .i64 ma.to) rfl (by kernel_rfl) (by kernel_rfl) (by kernel_rfl) (fun _ _ _ h => h) (Or.inl ⟨by rfl, ?_⟩) (by assumption) ?_
                                · intro w9 hSw
                                  (try dsimp only at hSw)
                                  go_simp
                                (try simp only [Act.put, List.setIfInBounds_toArray, List.set_cons_zero, List.set_cons_succ])
                                refine wpAnyH_take (i := 10) (oi := { dst := some 115, op := Op.fieldAddr 33 (Operand.tmp 14) 6, type := 0, pos := "outright.go:39", after := #[{ on := 7, ground := Ground.guard }], guard := some (7, true) }) (v := .pointer (some ⟨D, 6, none⟩)) rfl (by kernel_rfl) (by kernel_rfl) (by kernel_rfl) (fun _ _ _ h => h) (Or.inl ⟨by rfl, ?_⟩) (by assumption) ?_
                                · intro w9 hSw
                                  (try dsimp only at hSw)
                                  go_simp
                                (try simp only [Act.put, List.setIfInBounds_toArray, List.set_cons_zero, List.set_cons_succ])
                                refine wpAnyH_take (i := 11) (oi := { dst := some 116, op := Op.load 3 (Operand.tmp 115), type := 3, pos := "outright.go:39", after := #[{ on := 10, ground := Ground.data }, { on := 7, ground := Ground.guard }], guard := some (7, true) }) (v := .int .i64 mb.frm) rfl (by kernel_rfl) (by kernel_rfl) (by kernel_rfl) (fun _ _ _ h => h) (Or.inl ⟨by rfl, ?_⟩) (by assumption) ?_
                                · intro w9 hSw
                                  (try dsimp only at hSw)
                                  go_simp
                                (try simp only [Act.put, List.setIfInBounds_toArray, List.set_cons_zero, List.set_cons_succ])
                                refine wpAnyH_take (i := 12) (oi := { dst := some 117, op := Op.binOp BinOp.lss 3 (Operand.tmp 114) (Operand.tmp 116) 3, type := 4, pos := "outright.go:39", after := #[{ on := 9, ground := Ground.data }, { on := 11, ground := Ground.data }, { on := 7, ground := Ground.guard }], guard := some (7, true) }) (v := .bool true) rfl (by kernel_rfl) (by kernel_rfl) (by kernel_rfl) (fun _ _ _ h => h) (Or.inl ⟨by rfl, ?_⟩) (by assumption) ?_
                                · intro w9 hSw
                                  (try dsimp only at hSw)
                                  go_simp
                                (try simp only [Act.put, List.setIfInBounds_toArray, List.set_cons_zero, List.set_cons_succ])
                                refine wpAnyH_take (i := 13) (oi := { dst := some 118, op := Op.pick (Operand.tmp 112) (Operand.tmp 117) (Operand.const (Value.bool false)), type := 4, pos := "outright.go:39", after := #[{ on := 7, ground := Ground.data }, { on := 12, ground := Ground.data }], guard := none }) (v := .bool true) rfl (by kernel_rfl) (by kernel_rfl) (by kernel_rfl) (fun _ _ _ h => h) (Or.inl ⟨by rfl, ?_⟩) (by assumption) ?_
                                · intro w9 hSw
                                  (try dsimp only at hSw)
                                  go_simp
                                (try simp only [Act.put, List.setIfInBounds_toArray, List.set_cons_zero, List.set_cons_succ])
                                refine wpAnyH_take (i := 14) (oi := { dst := some 119, op := Op.move (Operand.tmp 118), type := 4, pos := "outright.go:39", after := #[{ on := 13, ground := Ground.data }, { on := 7, ground := Ground.chain }], guard := none }) (v := .bool true) rfl (by kernel_rfl) (by kernel_rfl) (by kernel_rfl) (fun _ _ _ h => h) (Or.inl ⟨by rfl, ?_⟩) (by assumption) ?_
                                · intro w9 hSw
                                  (try dsimp only at hSw)
                                  go_simp
                                (try simp only [Act.put, List.setIfInBounds_toArray, List.set_cons_zero, List.set_cons_succ])
                                refine wpAnyH_take (i := 15) (oi := { dst := some 120, op := Op.move (Operand.tmp 5), type := 25, pos := "outright.go:39", after := #[{ on := 14, ground := Ground.guard }], guard := some (14, true) }) (v := .slice (some ⟨ab, 0, none⟩) n n) rfl (by kernel_rfl) (by kernel_rfl) (by kernel_rfl) (fun _ _ _ h => h) (Or.inl ⟨by rfl, ?_⟩) (by assumption) ?_
                                · intro w9 hSw
                                  (try dsimp only at hSw)
                                  go_simp
                                (try simp only [Act.put, List.setIfInBounds_toArray, List.set_cons_zero, List.set_cons_succ])
                                refine wpAnyH_take (i := 16) (oi := { dst := some 121, op := Op.move (Operand.tmp 13), type := 3, pos := "outright.go:39", after := #[{ on := 14, ground := Ground.guard }], guard := some (14, true) }) (v := .int .i64 (j : Int)) rfl (by kernel_rfl) (by kernel_rfl) (by kernel_rfl) (fun _ _ _ h => h) (Or.inl ⟨by rfl, ?_⟩) (by assumption) ?_
                                · intro w9 hSw
                                  (try dsimp only at hSw)
                                  go_simp
                                (try simp only [Act.put, List.setIfInBounds_toArray, List.set_cons_zero, List.set_cons_succ])
                                refine wpAnyH_take (i := 17) (oi := { dst := some 122, op := Op.indexAddr 25 (Operand.tmp 120) (Operand.tmp 121), type := 0, pos := "outright.go:39", after := #[{ on := 15, ground := Ground.data }, { on := 16, ground := Ground.data }, { on := 14, ground := Ground.guard }], guard := some (14, true) }) (v := .pointer (some ⟨ab, j, none⟩)) rfl (by kernel_rfl) (by kernel_rfl) (by kernel_rfl) (fun _ _ _ h => h) (Or.inl ⟨by rfl, ?_⟩) (by assumption) ?_
                                · intro w9 hSw
                                  (try dsimp only at hSw)
                                  go_simp
                                (try simp only [Act.put, List.setIfInBounds_toArray, List.set_cons_zero, List.set_cons_succ])
                                refine wpAnyH_take (i := 18) (oi := { dst := some 123, op := Op.load 3 (Operand.tmp 122), type := 3, pos := "outright.go:39", after := #[{ on := 17, ground := Ground.data }, { on := 14, ground := Ground.guard }], guard := some (14, true) }) (v := .int .i64 aj) rfl (by kernel_rfl) (by kernel_rfl) (by kernel_rfl) (fun _ _ _ h => h) (Or.inl ⟨by rfl, ?_⟩) (by assumption) ?_
                                · intro w9 hSw
                                  (try dsimp only at hSw)
                                  go_simp
                                (try simp only [Act.put, List.setIfInBounds_toArray, List.set_cons_zero, List.set_cons_succ])
                                refine wpAnyH_take (i := 19) (oi := { dst := some 124, op := Op.binOp BinOp.geq 3 (Operand.tmp 123) (Operand.const (Value.int IntKind.i64 0)) 3, type := 4, pos := "outright.go:39", after := #[{ on := 18, ground := Ground.data }, { on := 14, ground := Ground.guard }], guard := some (14, true) }) (v := .bool false) rfl (by kernel_rfl) (by kernel_rfl) (by kernel_rfl) (fun _ _ _ h => h) (Or.inl ⟨by rfl, ?_⟩) (by assumption) ?_
                                · intro w9 hSw
                                  (try dsimp only at hSw)
                                  go_simp
                                (try simp only [Act.put, List.setIfInBounds_toArray, List.set_cons_zero, List.set_cons_succ])
                                refine wpAnyH_take (i := 20) (oi := { dst := some 125, op := Op.pick (Operand.tmp 119) (Operand.tmp 124) (Operand.const (Value.bool false)), type := 4, pos := "outright.go:39", after := #[{ on := 14, ground := Ground.data }, { on := 19, ground := Ground.data }], guard := none }) (v := .bool false) rfl (by kernel_rfl) (by kernel_rfl) (by kernel_rfl) (fun _ _ _ h => h) (Or.inl ⟨by rfl, ?_⟩) (by assumption) ?_
                                · intro w9 hSw
                                  (try dsimp only at hSw)
                                  go_simp
                                (try simp only [Act.put, List.setIfInBounds_toArray, List.set_cons_zero, List.set_cons_succ])
                                refine wpAnyH_take (i := 21) (oi := { dst := some 126, op := Op.move (Operand.tmp 125), type := 4, pos := "outright.go:39", after := #[{ on := 20, ground := Ground.data }, { on := 14, ground := Ground.chain }], guard := none }) (v := .bool false) rfl (by kernel_rfl) (by kernel_rfl) (by kernel_rfl) (fun _ _ _ h => h) (Or.inl ⟨by rfl, ?_⟩) (by assumption) ?_
                                · intro w9 hSw
                                  (try dsimp only at hSw)
                                  go_simp
                                (try simp only [Act.put, List.setIfInBounds_toArray, List.set_cons_zero, List.set_cons_succ])
                                refine wpAnyH_take (i := 22) (oi := { dst := some 127, op := Op.move (Operand.tmp 5), type := 25, pos := "outright.go:39", after := #[{ on := 21, ground := Ground.guard }], guard := some (21, true) }) (v := undef) rfl (by kernel_rfl) (by kernel_rfl) (by kernel_rfl) (fun _ _ _ h => h) (Or.inr ⟨by rfl, rfl⟩) (by assumption) ?_
                                (try simp only [Act.put, List.setIfInBounds_toArray, List.set_cons_zero, List.set_cons_succ])
                                refine wpAnyH_take (i := 23) (oi := { dst := some 128, op := Op.move (Operand.tmp 11), type := 3, pos := "outright.go:39", after := #[{ on := 21, ground := Ground.guard }], guard := some (21, true) }) (v := undef) rfl (by kernel_rfl) (by kernel_rfl) (by kernel_rfl) (fun _ _ _ h => h) (Or.inr ⟨by rfl, rfl⟩) (by assumption) ?_
                                (try simp only [Act.put, List.setIfInBounds_toArray, List.set_cons_zero, List.set_cons_succ])
                                refine wpAnyH_take (i := 24) (oi := { dst := some 129, op := Op.indexAddr 25 (Operand.tmp 127) (Operand.tmp 128), type := 0, pos := "outright.go:39", after := #[{ on := 22, ground := Ground.data }, { on := 23, ground := Ground.data }, { on := 21, ground := Ground.guard }], guard := some (21, true) }) (v := undef) rfl (by kernel_rfl) (by kernel_rfl) (by kernel_rfl) (fun _ _ _ h => h) (Or.inr ⟨by rfl, rfl⟩) (by assumption) ?_
                                (try simp only [Act.put, List.setIfInBounds_toArray, List.set_cons_zero, List.set_cons_succ])
                                refine wpAnyH_take (i := 25) (oi := { dst := some 130, op := Op.load 3 (Operand.tmp 129), type := 3, pos := "outright.go:39", after := #[{ on := 24, ground := Ground.data }, { on := 21, ground := Ground.guard }], guard := some (21, true) }) (v := undef) rfl (by kernel_rfl) (by kernel_rfl) (by kernel_rfl) (fun _ _ _ h => h) (Or.inr ⟨by rfl, rfl⟩) (by assumption) ?_
                                (try simp only [Act.put, List.setIfInBounds_toArray, List.set_cons_zero, List.set_cons_succ])
                                refine wpAnyH_take (i := 26) (oi := { dst := some 131, op := Op.move (Operand.tmp 5), type := 25, pos := "outright.go:39", after := #[{ on := 21, ground := Ground.guard }], guard := some (21, true) }) (v := undef) rfl (by kernel_rfl) (by kernel_rfl) (by kernel_rfl) (fun _ _ _ h => h) (Or.inr ⟨by rfl, rfl⟩) (by assumption) ?_
                                (try simp only [Act.put, List.setIfInBounds_toArray, List.set_cons_zero, List.set_cons_succ])
                                refine wpAnyH_take (i := 27) (oi := { dst := some 132, op := Op.move (Operand.tmp 13), type := 3, pos := "outright.go:39", after := #[{ on := 21, ground := Ground.guard }], guard := some (21, true) }) (v := undef) rfl (by kernel_rfl) (by kernel_rfl) (by kernel_rfl) (fun _ _ _ h => h) (Or.inr ⟨by rfl, rfl⟩) (by assumption) ?_
                                (try simp only [Act.put, List.setIfInBounds_toArray, List.set_cons_zero, List.set_cons_succ])
                                refine wpAnyH_take (i := 28) (oi := { dst := some 133, op := Op.indexAddr 25 (Operand.tmp 131) (Operand.tmp 132), type := 0, pos := "outright.go:39", after := #[{ on := 26, ground := Ground.data }, { on := 27, ground := Ground.data }, { on := 21, ground := Ground.guard }], guard := some (21, true) }) (v := undef) rfl (by kernel_rfl) (by kernel_rfl) (by kernel_rfl) (fun _ _ _ h => h) (Or.inr ⟨by rfl, rfl⟩) (by assumption) ?_
                                (try simp only [Act.put, List.setIfInBounds_toArray, List.set_cons_zero, List.set_cons_succ])
                                refine wpAnyH_take (i := 29) (oi := { dst := some 134, op := Op.load 3 (Operand.tmp 133), type := 3, pos := "outright.go:39", after := #[{ on := 28, ground := Ground.data }, { on := 21, ground := Ground.guard }], guard := some (21, true) }) (v := undef) rfl (by kernel_rfl) (by kernel_rfl) (by kernel_rfl) (fun _ _ _ h => h) (Or.inr ⟨by rfl, rfl⟩) (by assumption) ?_
                                (try simp only [Act.put, List.setIfInBounds_toArray, List.set_cons_zero, List.set_cons_succ])
                                refine wpAnyH_take (i := 30) (oi := { dst := some 135, op := Op.binOp BinOp.gtr 3 (Operand.tmp 130) (Operand.tmp 134) 3, type := 4, pos := "outright.go:39", after := #[{ on := 25, ground := Ground.data }, { on := 29, ground := Ground.data }, { on := 21, ground := Ground.guard }], guard := some (21, true) }) (v := undef) rfl (by kernel_rfl) (by kernel_rfl) (by kernel_rfl) (fun _ _ _ h => h) (Or.inr ⟨by rfl, rfl⟩) (by assumption) ?_
                                (try simp only [Act.put, List.setIfInBounds_toArray, List.set_cons_zero, List.set_cons_succ])
                                refine wpAnyH_take (i := 31) (oi := { dst := some 136, op := Op.pick (Operand.tmp 126) (Operand.tmp 135) (Operand.const (Value.bool false)), type := 4, pos := "outright.go:39", after := #[{ on := 21, ground := Ground.data }, { on := 30, ground := Ground.data }], guard := none }) (v := .bool false) rfl (by kernel_rfl) (by kernel_rfl) (by kernel_rfl) (fun _ _ _ h => h) (Or.inl ⟨by rfl, ?_⟩) (by assumption) ?_
                                · intro w9 hSw
                                  (try dsimp only at hSw)
                                  go_simp
                                (try simp only [Act.put, List.setIfInBounds_toArray, List.set_cons_zero, List.set_cons_succ])
                                refine wpAnyH_done (by kernel_rfl) ?_ _
                                go_wp2_with fail
                                go_meet
                                exact ⟨by rw [← HZ.out]; first | rfl | (simp; intros; omega), K5⟩
                            · skip
                              refine wp_region_held_drew (S := (fun V => V.cell? ⟨B, 0, none⟩ = some (.int .i64 ma.client) ∧ V.cell? ⟨B, 1, none⟩ = some (.int .i64 ma.op) ∧ V.cell? ⟨B, 2, none⟩ = some (.bool ma.put) ∧ V.cell? ⟨B, 3, none⟩ = some (.string ma.key) ∧ V.cell? ⟨B, 4, none⟩ = some (.slice ma.va ma.vn ma.vc) ∧ V.cell? ⟨B, 5, none⟩ = some (.int .i64 ma.st) ∧ V.cell? ⟨B, 6, none⟩ = some (.int .i64 ma.frm) ∧ V.cell? ⟨B, 7, none⟩ = some (.int .i64 ma.to) ∧ V.cell? ⟨B, 8, none⟩ = some (.bool ma.opn) ∧ V.cell? ⟨B, 9, none⟩ = some (.int .i64 ma.tx) ∧ V.cell? ⟨B, 10, none⟩ = some (.int .i64 ma.ty) ∧ V.cell? ⟨D, 6, none⟩ = some (.int .i64 mb.frm) ∧ V.cell? ⟨ab, i, none⟩ = some (.int .i64 ai) ∧ V.cell? ⟨ab, j, none⟩ = some (.int .i64 aj))) (by kernel_rfl) ?_ (fun hHeld => ?_)
                              · exact ⟨c0, c1, c2, c3, c4, c5, c6, c7, c8, c9, c10, d6, xi, xj⟩
                              refine wpAnyH_take (i := 0) (oi := { dst := some 105, op := Op.load 33 (Operand.tmp 12), type := 33, pos := "outright.go:39", after := #[], guard := none }) (v := .agg #[.int .i64 ma.client, .int .i64 ma.op, .bool ma.put, .string ma.key, .slice ma.va ma.vn ma.vc, .int .i64 ma.st, .int .i64 ma.frm, .int .i64 ma.to, .bool ma.opn, .int .i64 ma.tx, .int .i64 ma.ty]) rfl (by kernel_rfl) (by kernel_rfl) (by kernel_rfl) (fun _ _ _ h => h) (Or.inl ⟨by rfl, ?_⟩) (by assumption) ?_
                              · intro w9 hSw
                                (try dsimp only at hSw)
                                go_simp
                              (try simp only [Act.put, List.setIfInBounds_toArray, List.set_cons_zero, List.set_cons_succ])
                              refine wpAnyH_ready (rs := [1]) (by kernel_rfl) (by simp) ?_
                              refine AllReadyH.cons (o := { dst := some 106, op := Op.call { callee := Callee.value (Operand.func 25), args := #[Operand.tmp 105], argTypes := #[33] }, type := 4, pos := "outright.go:39", after := #[{ on := 0, ground := Ground.data }], guard := none }) rfl (fun K hK => ?_) AllReadyH.nil
                              go_simp
                              refine (CM.out X.drew).mono ?_
                              rintro o w4 ⟨rfl, K4⟩
                              have K5 : Hid (Kept (fun _ => False) X w4) := ((Kept.refl _ _).drew).trans K4 (fun _ _ z => z)
                              replace c0 := K5.out.cell c0 (fun z => z)
                              replace c1 := K5.out.cell c1 (fun z => z)
                              replace c2 := K5.out.cell c2 (fun z => z)
                              replace c3 := K5.out.cell c3 (fun z => z)
                              replace c4 := K5.out.cell c4 (fun z => z)
                              replace c5 := K5.out.cell c5 (fun z => z)
                              replace c6 := K5.out.cell c6 (fun z => z)
                              replace c7 := K5.out.cell c7 (fun z => z)
                              replace c8 := K5.out.cell c8 (fun z => z)
                              replace c9 := K5.out.cell c9 (fun z => z)
                              replace c10 := K5.out.cell c10 (fun z => z)
                              replace d6 := K5.out.cell d6 (fun z => z)
                              replace xi := K5.out.cell xi (fun z => z)
                              replace xj := K5.out.cell xj (fun z => z)
                              clear K4
                              refine hK.out _ _ ?_ (fun hHeld => ?_)
                              · exact ⟨c0, c1, c2, c3, c4, c5, c6, c7, c8, c9, c10, d6, xi, xj⟩
                              clear hK K
                              (try simp only [Act.put, List.setIfInBounds_toArray, List.set_cons_zero, List.set_cons_succ])
                              refine wpAnyH_take (i := 2) (oi := { dst := some 107, op := Op.move (Operand.tmp 106), type := 4, pos := "outright.go:39", after := #[{ on := 1, ground := Ground.data }, { on := 1, ground := Ground.chain }], guard := none }) (v := .bool true) rfl (by kernel_rfl) (by kernel_rfl) (by kernel_rfl) (fun _ _ _ h => h) (Or.inl ⟨by rfl, ?_⟩) (by assumption) ?_
                              · intro w9 hSw
                                (try dsimp only at hSw)
                                go_simp
                              (try simp only [Act.put, List.setIfInBounds_toArray, List.set_cons_zero, List.set_cons_succ])
                              refine wpAnyH_take (i := 3) (oi := { dst := some 108, op := Op.fieldAddr 33 (Operand.tmp 12) 7, type := 0, pos := "outright.go:39", after := #[{ on := 2, ground := Ground.guard }], guard := some (2, true) }) (v := .pointer (some ⟨B, 7, none⟩)) rfl (by kernel_rfl) (by kernel_rfl) (by kernel_rfl) (fun _ _ _ h => h) (Or.inl ⟨by rfl, ?_⟩) (by assumption) ?_
                              · intro w9 hSw
                                (try dsimp only at hSw)
                                go_simp
                              (try simp only [Act.put, List.setIfInBounds_toArray, List.set_cons_zero, List.set_cons_succ])
                              refine wpAnyH_take (i := 4) (oi := { dst := some 109, op := Op.load 3 (Operand.tmp 108), type := 3, pos := "outright.go:39", after := #[{ on := 3, ground := Ground.data }, { on := 2, ground := Ground.guard }], guard := some (2, true) }) (v := .int .i64 ma.to) rfl (by kernel_rfl) (by kernel_rfl) (by kernel_rfl) (fun _ _ _ h => h) (Or.inl ⟨by rfl, ?_⟩) (by assumption) ?_
                              · intro w9 hSw
                                (try dsimp only at hSw)
                                go_simp
                              (try simp only [Act.put, List.setIfInBounds_toArray, List.set_cons_zero, List.set_cons_succ])
                              refine wpAnyH_take (i := 5) (oi := { dst := some 110, op := Op.binOp BinOp.geq 3 (Operand.tmp 109) (Operand.const (Value.int IntKind.i64 0)) 3, type := 4, pos := "outright.go:39", after := #[{ on := 4, ground := Ground.data }, { on := 2, ground := Ground.guard }], guard := some (2, true) }) (v := .bool true) rfl (by kernel_rfl) (by kernel_rfl) (by kernel_rfl) (fun _ _ _ h => h) (Or.inl ⟨by rfl, ?_⟩) (by assumption) ?_
                              · intro w9 hSw
                                (try dsimp only at hSw)
                                go_simp
                              (try simp only [Act.put, List.setIfInBounds_toArray, List.set_cons_zero, List.set_cons_succ])
                              refine wpAnyH_take (i := 6) (oi := { dst := some 111, op := Op.pick (Operand.tmp 107) (Operand.tmp 110) (Operand.const (Value.bool false)), type := 4, pos := "outright.go:39", after := #[{ on := 2, ground := Ground.data }, { on := 5, ground := Ground.data }], guard := none }) (v := .bool true) rfl (by kernel_rfl) (by kernel_rfl) (by kernel_rfl) (fun _ _ _ h => h) (Or.inl ⟨by rfl, ?_⟩) (by assumption) ?_
                              · intro w9 hSw
                                (try dsimp only at hSw)
                                go_simp
                              (try simp only [Act.put, List.setIfInBounds_toArray, List.set_cons_zero, List.set_cons_succ])
                              refine wpAnyH_take (i := 7) (oi := { dst := some 112, op := Op.move (Operand.tmp 111), type := 4, pos := "outright.go:39", after := #[{ on := 6, ground := Ground.data }, { on := 2, ground := Ground.chain }], guard := none }) (v := .bool true) rfl (by kernel_rfl) (by kernel_rfl) (by kernel_rfl) (fun _ _ _ h => h) (Or.inl ⟨by rfl, ?_⟩) (by assumption) ?_
                              · intro w9 hSw
                                (try dsimp only at hSw)
                                go_simp
                              (try simp only [Act.put, List.setIfInBounds_toArray, List.set_cons_zero, List.set_cons_succ])
                              refine wpAnyH_take (i := 8) (oi := { dst := some 113, op := Op.fieldAddr 33 (Operand.tmp 12) 7, type := 0, pos := "outright.go:39", after := #[{ on := 7, ground := Ground.guard }], guard := some (7, true) }) (v := .pointer (some ⟨B, 7, none⟩)) rfl (by kernel_rfl) (by kernel_rfl) (by kernel_rfl) (fun _ _ _ h => h) (Or.inl ⟨by rfl, ?_⟩) (by assumption) ?_
                              · intro w9 hSw
                                (try dsimp only at hSw)
                                go_simp
                              (try simp only [Act.put, List.setIfInBounds_toArray, List.set_cons_zero, List.set_cons_succ])
                              refine wpAnyH_take (i := 9) (oi := { dst := some 114, op := Op.load 3 (Operand.tmp 113), type := 3, pos := "outright.go:39", after := #[{ on := 8, ground := Ground.data }, { on := 7, ground := Ground.guard }], guard := some (7, true) }) (v := .int .i64 ma.to) rfl (by kernel_rfl) (by kernel_rfl) (by kernel_rfl) (fun _ _ _ h => h) (Or.inl ⟨by rfl, ?_⟩) (by assumption) ?_
                              · intro w9 hSw
                                (try dsimp only at hSw)
                                go_simp
                              (try simp only [Act.put, List.setIfInBounds_toArray, List.set_cons_zero, List.set_cons_succ])
                              refine wpAnyH_take (i := 10) (oi := { dst := some 115, op := Op.fieldAddr 33 (Operand.tmp 14) 6, type := 0, pos := "outright.go:39", after := #[{ on := 7, ground := Ground.guard }], guard := some (7, true) }) (v := .pointer (some ⟨D, 6, none⟩)) rfl (by kernel_rfl) (by kernel_rfl) (by kernel_rfl) (fun _ _ _ h => h) (Or.inl ⟨by rfl, ?_⟩) (by assumption) ?_
                              · intro w9 hSw
                                (try dsimp only at hSw)
                                go_simp
                              (try simp only [Act.put, List.setIfInBounds_toArray, List.set_cons_zero, List.set_cons_succ])
                              refine wpAnyH_take (i := 11) (oi := { dst := some 116, op := Op.load 3 (Operand.tmp 115), type := 3, pos := "outright.go:39", after := #[{ on := 10, ground := Ground.data }, { on := 7, ground := Ground.guard }], guard := some (7, true) }) (v := .int .i64 mb.frm) rfl (by kernel_rfl) (by kernel_rfl) (by kernel_rfl) (fun _ _ _ h => h) (Or.inl ⟨by rfl, ?_⟩) (by assumption) ?_
                              · intro w9 hSw
                                (try dsimp only at hSw)
                                go_simp
                              (try simp only [Act.put, List.setIfInBounds_toArray, List.set_cons_zero, List.set_cons_succ])
                              refine wpAnyH_take (i := 12) (oi := { dst := some 117, op := Op.binOp BinOp.lss 3 (Operand.tmp 114) (Operand.tmp 116) 3, type := 4, pos := "outright.go:39", after := #[{ on := 9, ground := Ground.data }, { on := 11, ground := Ground.data }, { on := 7, ground := Ground.guard }], guard := some (7, true) }) (v := .bool false) rfl (by kernel_rfl) (by kernel_rfl) (by kernel_rfl) (fun _ _ _ h => h) (Or.inl ⟨by rfl, ?_⟩) (by assumption) ?_
                              · intro w9 hSw
                                (try dsimp only at hSw)
                                go_simp
                              (try simp only [Act.put, List.setIfInBounds_toArray, List.set_cons_zero, List.set_cons_succ])
                              refine wpAnyH_take (i := 13) (oi := { dst := some 118, op := Op.pick (Operand.tmp 112) (Operand.tmp 117) (Operand.const (Value.bool false)), type := 4, pos := "outright.go:39", after := #[{ on := 7, ground := Ground.data }, { on := 12, ground := Ground.data }], guard := none }) (v := .bool false) rfl (by kernel_rfl) (by kernel_rfl) (by kernel_rfl) (fun _ _ _ h => h) (Or.inl ⟨by rfl, ?_⟩) (by assumption) ?_
                              · intro w9 hSw
                                (try dsimp only at hSw)
                                go_simp
                              (try simp only [Act.put, List.setIfInBounds_toArray, List.set_cons_zero, List.set_cons_succ])
                              refine wpAnyH_take (i := 14) (oi := { dst := some 119, op := Op.move (Operand.tmp 118), type := 4, pos := "outright.go:39", after := #[{ on := 13, ground := Ground.data }, { on := 7, ground := Ground.chain }], guard := none }) (v := .bool false) rfl (by kernel_rfl) (by kernel_rfl) (by kernel_rfl) (fun _ _ _ h => h) (Or.inl ⟨by rfl, ?_⟩) (by assumption) ?_
                              · intro w9 hSw
                                (try dsimp only at hSw)
                                go_simp
                              (try simp only [Act.put, List.setIfInBounds_toArray, List.set_cons_zero, List.set_cons_succ])
                              refine wpAnyH_take (i := 15) (oi := { dst := some 120, op := Op.move (Operand.tmp 5), type := 25, pos := "outright.go:39", after := #[{ on := 14, ground := Ground.guard }], guard := some (14, true) }) (v := undef) rfl (by kernel_rfl) (by kernel_rfl) (by kernel_rfl) (fun _ _ _ h => h) (Or.inr ⟨by rfl, rfl⟩) (by assumption) ?_
                              (try simp only [Act.put, List.setIfInBounds_toArray, List.set_cons_zero, List.set_cons_succ])
                              refine wpAnyH_take (i := 16) (oi := { dst := some 121, op := Op.move (Operand.tmp 13), type := 3, pos := "outright.go:39", after := #[{ on := 14, ground := Ground.guard }], guard := some (14, true) }) (v := undef) rfl (by kernel_rfl) (by kernel_rfl) (by kernel_rfl) (fun _ _ _ h => h) (Or.inr ⟨by rfl, rfl⟩) (by assumption) ?_
                              (try simp only [Act.put, List.setIfInBounds_toArray, List.set_cons_zero, List.set_cons_succ])
                              refine wpAnyH_take (i := 17) (oi := { dst := some 122, op := Op.indexAddr 25 (Operand.tmp 120) (Operand.tmp 121), type := 0, pos := "outright.go:39", after := #[{ on := 15, ground := Ground.data }, { on := 16, ground := Ground.data }, { on := 14, ground := Ground.guard }], guard := some (14, true) }) (v := undef) rfl (by kernel_rfl) (by kernel_rfl) (by kernel_rfl) (fun _ _ _ h => h) (Or.inr ⟨by rfl, rfl⟩) (by assumption) ?_
                              (try simp only [Act.put, List.setIfInBounds_toArray, List.set_cons_zero, List.set_cons_succ])
                              refine wpAnyH_take (i := 18) (oi := { dst := some 123, op := Op.load 3 (Operand.tmp 122), type := 3, pos := "outright.go:39", after := #[{ on := 17, ground := Ground.data }, { on := 14, ground := Ground.guard }], guard := some (14, true) }) (v := undef) rfl (by kernel_rfl) (by kernel_rfl) (by kernel_rfl) (fun _ _ _ h => h) (Or.inr ⟨by rfl, rfl⟩) (by assumption) ?_
                              (try simp only [Act.put, List.setIfInBounds_toArray, List.set_cons_zero, List.set_cons_succ])
                              refine wpAnyH_take (i := 19) (oi := { dst := some 124, op := Op.binOp BinOp.geq 3 (Operand.tmp 123) (Operand.const (Value.int IntKind.i64 0)) 3, type := 4, pos := "outright.go:39", after := #[{ on := 18, ground := Ground.data }, { on := 14, ground := Ground.guard }], guard := some (14, true) }) (v := undef) rfl (by kernel_rfl) (by kernel_rfl) (by kernel_rfl) (fun _ _ _ h => h) (Or.inr ⟨by rfl, rfl⟩) (by assumption) ?_
                              (try simp only [Act.put, List.setIfInBounds_toArray, List.set_cons_zero, List.set_cons_succ])
                              refine wpAnyH_take (i := 20) (oi := { dst := some 125, op := Op.pick (Operand.tmp 119) (Operand.tmp 124) (Operand.const (Value.bool false)), type := 4, pos := "outright.go:39", after := #[{ on := 14, ground := Ground.data }, { on := 19, ground := Ground.data }], guard := none }) (v := .bool false) rfl (by kernel_rfl) (by kernel_rfl) (by kernel_rfl) (fun _ _ _ h => h) (Or.inl ⟨by rfl, ?_⟩) (by assumption) ?_
                              · intro w9 hSw
                                (try dsimp only at hSw)
                                go_simp
                              (try simp only [Act.put, List.setIfInBounds_toArray, List.set_cons_zero, List.set_cons_succ])
                              refine wpAnyH_take (i := 21) (oi := { dst := some 126, op := Op.move (Operand.tmp 125), type := 4, pos := "outright.go:39", after := #[{ on := 20, ground := Ground.data }, { on := 14, ground := Ground.chain }], guard := none }) (v := .bool false) rfl (by kernel_rfl) (by kernel_rfl) (by kernel_rfl) (fun _ _ _ h => h) (Or.inl ⟨by rfl, ?_⟩) (by assumption) ?_
                              · intro w9 hSw
                                (try dsimp only at hSw)
                                go_simp
                              (try simp only [Act.put, List.setIfInBounds_toArray, List.set_cons_zero, List.set_cons_succ])
                              refine wpAnyH_take (i := 22) (oi := { dst := some 127, op := Op.move (Operand.tmp 5), type := 25, pos := "outright.go:39", after := #[{ on := 21, ground := Ground.guard }], guard := some (21, true) }) (v := undef) rfl (by kernel_rfl) (by kernel_rfl) (by kernel_rfl) (fun _ _ _ h => h) (Or.inr ⟨by rfl, rfl⟩) (by assumption) ?_
                              (try simp only [Act.put, List.setIfInBounds_toArray, List.set_cons_zero, List.set_cons_succ])
                              refine wpAnyH_take (i := 23) (oi := { dst := some 128, op := Op.move (Operand.tmp 11), type := 3, pos := "outright.go:39", after := #[{ on := 21, ground := Ground.guard }], guard := some (21, true) }) (v := undef) rfl (by kernel_rfl) (by kernel_rfl) (by kernel_rfl) (fun _ _ _ h => h) (Or.inr ⟨by rfl, rfl⟩) (by assumption) ?_
                              (try simp only [Act.put, List.setIfInBounds_toArray, List.set_cons_zero, List.set_cons_succ])
                              refine wpAnyH_take (i := 24) (oi := { dst := some 129, op := Op.indexAddr 25 (Operand.tmp 127) (Operand.tmp 128), type := 0, pos := "outright.go:39", after := #[{ on := 22, ground := Ground.data }, { on := 23, ground := Ground.data }, { on := 21, ground := Ground.guard }], guard := some (21, true) }) (v := undef) rfl (by kernel_rfl) (by kernel_rfl) (by kernel_rfl) (fun _ _ _ h => h) (Or.inr ⟨by rfl, rfl⟩) (by assumption) ?_
                              (try simp only [Act.put, List.setIfInBounds_toArray, List.set_cons_zero, List.set_cons_succ])
                              refine wpAnyH_take (i := 25) (oi := { dst := some 130, op := Op.load 3 (Operand.tmp 129), type := 3, pos := "outright.go:39", after := #[{ on := 24, ground := Ground.data }, { on := 21, ground := Ground.guard }], guard := some (21, true) }) (v := undef) rfl (by kernel_rfl) (by kernel_rfl) (by kernel_rfl) (fun _ _ _ h => h) (Or.inr ⟨by rfl, rfl⟩) (by assumption) ?_
                              (try simp only [Act.put, List.setIfInBounds_toArray, List.set_cons_zero, List.set_cons_succ])
                              refine wpAnyH_take (i := 26) (oi := { dst := some 131, op := Op.move (Operand.tmp 5), type := 25, pos := "outright.go:39", after := #[{ on := 21, ground := Ground.guard }], guard := some (21, true) }) (v := undef) rfl (by kernel_rfl) (by kernel_rfl) (by kernel_rfl) (fun _ _ _ h => h) (Or.inr ⟨by rfl, rfl⟩) (by assumption) ?_
                              (try simp only [Act.put, List.setIfInBounds_toArray, List.set_cons_zero, List.set_cons_succ])
                              refine wpAnyH_take (i := 27) (oi := { dst := some 132, op := Op.move (Operand.tmp 13), type := 3, pos := "outright.go:39", after := #[{ on := 21, ground := Ground.guard }], guard := some (21, true) }) (v := undef) rfl (by kernel_rfl) (by kernel_rfl) (by kernel_rfl) (fun _ _ _ h => h) (Or.inr ⟨by rfl, rfl⟩) (by assumption) ?_
                              (try simp only [Act.put, List.setIfInBounds_toArray, List.set_cons_zero, List.set_cons_succ])
                              refine wpAnyH_take (i := 28) (oi := { dst := some 133, op := Op.indexAddr 25 (Operand.tmp 131) (Operand.tmp 132), type := 0, pos := "outright.go:39", after := #[{ on := 26, ground := Ground.data }, { on := 27, ground := Ground.data }, { on := 21, ground := Ground.guard }], guard := some (21, true) }) (v := undef) rfl (by kernel_rfl) (by kernel_rfl) (by kernel_rfl) (fun _ _ _ h => h) (Or.inr ⟨by rfl, rfl⟩) (by assumption) ?_
                              (try simp only [Act.put, List.setIfInBounds_toArray, List.set_cons_zero, List.set_cons_succ])
                              refine wpAnyH_take (i := 29) (oi := { dst := some 134, op := Op.load 3 (Operand.tmp 133), type := 3, pos := "outright.go:39", after := #[{ on := 28, ground := Ground.data }, { on := 21, ground := Ground.guard }], guard := some (21, true) }) (v := undef) rfl (by kernel_rfl) (by kernel_rfl) (by kernel_rfl) (fun _ _ _ h => h) (Or.inr ⟨by rfl, rfl⟩) (by assumption) ?_
                              (try simp only [Act.put, List.setIfInBounds_toArray, List.set_cons_zero, List.set_cons_succ])
                              refine wpAnyH_take (i := 30) (oi := { dst := some 135, op := Op.binOp BinOp.gtr 3 (Operand.tmp 130) (Operand.tmp 134) 3, type := 4, pos := "outright.go:39", after := #[{ on := 25, ground := Ground.data }, { on := 29, ground := Ground.data }, { on := 21, ground := Ground.guard }], guard := some (21, true) }) (v := undef) rfl (by kernel_rfl) (by kernel_rfl) (by kernel_rfl) (fun _ _ _ h => h) (Or.inr ⟨by rfl, rfl⟩) (by assumption) ?_
                              (try simp only [Act.put, List.setIfInBounds_toArray, List.set_cons_zero, List.set_cons_succ])
                              refine wpAnyH_take (i := 31) (oi := { dst := some 136, op := Op.pick (Operand.tmp 126) (Operand.tmp 135) (Operand.const (Value.bool false)), type := 4, pos := "outright.go:39", after := #[{ on := 21, ground := Ground.data }, { on := 30, ground := Ground.data }], guard := none }) (v := .bool false) rfl (by kernel_rfl) (by kernel_rfl) (by kernel_rfl) (fun _ _ _ h => h) (Or.inl ⟨by rfl, ?_⟩) (by assumption) ?_
                              · intro w9 hSw
                                (try dsimp only at hSw)
                                go_simp
                              (try simp only [Act.put, List.setIfInBounds_toArray, List.set_cons_zero, List.set_cons_succ])
                              refine wpAnyH_done (by kernel_rfl) ?_ _
                              go_wp2_with fail
                              go_meet
                              exact ⟨by rw [← HZ.out]; first | rfl | (simp; intros; omega), K5⟩
                          · skip
                            refine wp_region_held_drew (S := (fun V => V.cell? ⟨B, 0, none⟩ = some (.int .i64 ma.client) ∧ V.cell? ⟨B, 1, none⟩ = some (.int .i64 ma.op) ∧ V.cell? ⟨B, 2, none⟩ = some (.bool ma.put) ∧ V.cell? ⟨B, 3, none⟩ = some (.string ma.key) ∧ V.cell? ⟨B, 4, none⟩ = some (.slice ma.va ma.vn ma.vc) ∧ V.cell? ⟨B, 5, none⟩ = some (.int .i64 ma.st) ∧ V.cell? ⟨B, 6, none⟩ = some (.int .i64 ma.frm) ∧ V.cell? ⟨B, 7, none⟩ = some (.int .i64 ma.to) ∧ V.cell? ⟨B, 8, none⟩ = some (.bool ma.opn) ∧ V.cell? ⟨B, 9, none⟩ = some (.int .i64 ma.tx) ∧ V.cell? ⟨B, 10, none⟩ = some (.int .i64 ma.ty) ∧ V.cell? ⟨D, 6, none⟩ = some (.int .i64 mb.frm) ∧ V.cell? ⟨ab, i, none⟩ = some (.int .i64 ai) ∧ V.cell? ⟨ab, j, none⟩ = some (.int .i64 aj))) (by kernel_rfl) ?_ (fun hHeld => ?_)
                            · exact ⟨c0, c1, c2, c3, c4, c5, c6, c7, c8, c9, c10, d6, xi, xj⟩
                            refine wpAnyH_take (i := 0) (oi := { dst := some 105, op := Op.load 33 (Operand.tmp 12), type := 33, pos := "outright.go:39", after := #[], guard := none }) (v := .agg #[.int .i64 ma.client, .int .i64 ma.op, .bool ma.put, .string ma.key, .slice ma.va ma.vn ma.vc, .int .i64 ma.st, .int .i64 ma.frm, .int .i64 ma.to, .bool ma.opn, .int .i64 ma.tx, .int .i64 ma.ty]) rfl (by kernel_rfl) (by kernel_rfl) (by kernel_rfl) (fun _ _ _ h => h) (Or.inl ⟨by rfl, ?_⟩) (by assumption) ?_
                            · intro w9 hSw
                              (try dsimp only at hSw)
                              go_simp
                            (try simp only [Act.put, List.setIfInBounds_toArray, List.set_cons_zero, List.set_cons_succ])
                            refine wpAnyH_ready (rs := [1]) (by kernel_rfl) (by simp) ?_
                            refine AllReadyH.cons (o := { dst := some 106, op := Op.call { callee := Callee.value (Operand.func 25), args := #[Operand.tmp 105], argTypes := #[33] }, type := 4, pos := "outright.go:39", after := #[{ on := 0, ground := Ground.data }], guard := none }) rfl (fun K hK => ?_) AllReadyH.nil
                            go_simp
                            refine (CM.out X.drew).mono ?_
                            rintro o w4 ⟨rfl, K4⟩
                            have K5 : Hid (Kept (fun _ => False) X w4) := ((Kept.refl _ _).drew).trans K4 (fun _ _ z => z)
                            replace c0 := K5.out.cell c0 (fun z => z)
                            replace c1 := K5.out.cell c1 (fun z => z)
                            replace c2 := K5.out.cell c2 (fun z => z)
                            replace c3 := K5.out.cell c3 (fun z => z)
                            replace c4 := K5.out.cell c4 (fun z => z)
                            replace c5 := K5.out.cell c5 (fun z => z)
                            replace c6 := K5.out.cell c6 (fun z => z)
                            replace c7 := K5.out.cell c7 (fun z => z)
                            replace c8 := K5.out.cell c8 (fun z => z)
                            replace c9 := K5.out.cell c9 (fun z => z)
                            replace c10 := K5.out.cell c10 (fun z => z)
                            replace d6 := K5.out.cell d6 (fun z => z)
                            replace xi := K5.out.cell xi (fun z => z)
                            replace xj := K5.out.cell xj (fun z => z)
                            clear K4
                            refine hK.out _ _ ?_ (fun hHeld => ?_)
                            · exact ⟨c0, c1, c2, c3, c4, c5, c6, c7, c8, c9, c10, d6, xi, xj⟩
                            clear hK K
                            (try simp only [Act.put, List.setIfInBounds_toArray, List.set_cons_zero, List.set_cons_succ])
                            refine wpAnyH_take (i := 2) (oi := { dst := some 107, op := Op.move (Operand.tmp 106), type := 4, pos := "outright.go:39", after := #[{ on := 1, ground := Ground.data }, { on := 1, ground := Ground.chain }], guard := none }) (v := .bool true) rfl (by kernel_rfl) (by kernel_rfl) (by kernel_rfl) (fun _ _ _ h => h) (Or.inl ⟨by rfl, ?_⟩) (by assumption) ?_
                            · intro w9 hSw
                              (try dsimp only at hSw)
                              go_simp
                            (try simp only [Act.put, List.setIfInBounds_toArray, List.set_cons_zero, List.set_cons_succ])
                            refine wpAnyH_take (i := 3) (oi := { dst := some 108, op := Op.fieldAddr 33 (Operand.tmp 12) 7, type := 0, pos := "outright.go:39", after := #[{ on := 2, ground := Ground.guard }], guard := some (2, true) }) (v := .pointer (some ⟨B, 7, none⟩)) rfl (by kernel_rfl) (by kernel_rfl) (by kernel_rfl) (fun _ _ _ h => h) (Or.inl ⟨by rfl, ?_⟩) (by assumption) ?_
                            · intro w9 hSw
                              (try dsimp only at hSw)
                              go_simp
                            (try simp only [Act.put, List.setIfInBounds_toArray, List.set_cons_zero, List.set_cons_succ])
                            refine wpAnyH_take (i := 4) (oi := { dst := some 109, op := Op.load 3 (Operand.tmp 108), type := 3, pos := "outright.go:39", after := #[{ on := 3, ground := Ground.data }, { on := 2, ground := Ground.guard }], guard := some (2, true) }) (v := .int .i64 ma.to) rfl (by kernel_rfl) (by kernel_rfl) (by kernel_rfl) (fun _ _ _ h => h) (Or.inl ⟨by rfl, ?_⟩) (by assumption) ?_
                            · intro w9 hSw
                              (try dsimp only at hSw)
                              go_simp
                            (try simp only [Act.put, List.setIfInBounds_toArray, List.set_cons_zero, List.set_cons_succ])
                            refine wpAnyH_take (i := 5) (oi := { dst := some 110, op := Op.binOp BinOp.geq 3 (Operand.tmp 109) (Operand.const (Value.int IntKind.i64 0)) 3, type := 4, pos := "outright.go:39", after := #[{ on := 4, ground := Ground.data }, { on := 2, ground := Ground.guard }], guard := some (2, true) }) (v := .bool false) rfl (by kernel_rfl) (by kernel_rfl) (by kernel_rfl) (fun _ _ _ h => h) (Or.inl ⟨by rfl, ?_⟩) (by assumption) ?_
                            · intro w9 hSw
                              (try dsimp only at hSw)
                              go_simp
                            (try simp only [Act.put, List.setIfInBounds_toArray, List.set_cons_zero, List.set_cons_succ])
                            refine wpAnyH_take (i := 6) (oi := { dst := some 111, op := Op.pick (Operand.tmp 107) (Operand.tmp 110) (Operand.const (Value.bool false)), type := 4, pos := "outright.go:39", after := #[{ on := 2, ground := Ground.data }, { on := 5, ground := Ground.data }], guard := none }) (v := .bool false) rfl (by kernel_rfl) (by kernel_rfl) (by kernel_rfl) (fun _ _ _ h => h) (Or.inl ⟨by rfl, ?_⟩) (by assumption) ?_
                            · intro w9 hSw
                              (try dsimp only at hSw)
                              go_simp
                            (try simp only [Act.put, List.setIfInBounds_toArray, List.set_cons_zero, List.set_cons_succ])
                            refine wpAnyH_take (i := 7) (oi := { dst := some 112, op := Op.move (Operand.tmp 111), type := 4, pos := "outright.go:39", after := #[{ on := 6, ground := Ground.data }, { on := 2, ground := Ground.chain }], guard := none }) (v := .bool false) rfl (by kernel_rfl) (by kernel_rfl) (by kernel_rfl) (fun _ _ _ h => h) (Or.inl ⟨by rfl, ?_⟩) (by assumption) ?_
                            · intro w9 hSw
                              (try dsimp only at hSw)
                              go_simp
                            (try simp only [Act.put, List.setIfInBounds_toArray, List.set_cons_zero, List.set_cons_succ])
                            refine wpAnyH_take (i := 8) (oi := { dst := some 113, op := Op.fieldAddr 33 (Operand.tmp 12) 7, type := 0, pos := "outright.go:39", after := #[{ on := 7, ground := Ground.guard }], guard := some (7, true) }) (v := undef) rfl (by kernel_rfl) (by kernel_rfl) (by kernel_rfl) (fun _ _ _ h => h) (Or.inr ⟨by rfl, rfl⟩) (by assumption) ?_
                            (try simp only [Act.put, List.setIfInBounds_toArray, List.set_cons_zero, List.set_cons_succ])
                            refine wpAnyH_take (i := 9) (oi := { dst := some 114, op := Op.load 3 (Operand.tmp 113), type := 3, pos := "outright.go:39", after := #[{ on := 8, ground := Ground.data }, { on := 7, ground := Ground.guard }], guard := some (7, true) }) (v := undef) rfl (by kernel_rfl) (by kernel_rfl) (by kernel_rfl) (fun _ _ _ h => h) (Or.inr ⟨by rfl, rfl⟩) (by assumption) ?_
                            (try simp only [Act.put, List.setIfInBounds_toArray, List.set_cons_zero, List.set_cons_succ])
                            refine wpAnyH_take (i := 10) (oi := { dst := some 115, op := Op.fieldAddr 33 (Operand.tmp 14) 6, type := 0, pos := "outright.go:39", after := #[{ on := 7, ground := Ground.guard }], guard := some (7, true) }) (v := undef) rfl (by kernel_rfl) (by kernel_rfl) (by kernel_rfl) (fun _ _ _ h => h) (Or.inr ⟨by rfl, rfl⟩) (by assumption) ?_
                            (try simp only [Act.put, List.setIfInBounds_toArray, List.set_cons_zero, List.set_cons_succ])
                            refine wpAnyH_take (i := 11) (oi := { dst := some 116, op := Op.load 3 (Operand.tmp 115), type := 3, pos := "outright.go:39", after := #[{ on := 10, ground := Ground.data }, { on := 7, ground := Ground.guard }], guard := some (7, true) }) (v := undef) rfl (by kernel_rfl) (by kernel_rfl) (by kernel_rfl) (fun _ _ _ h => h) (Or.inr ⟨by rfl, rfl⟩) (by assumption) ?_
                            (try simp only [Act.put, List.setIfInBounds_toArray, List.set_cons_zero, List.set_cons_succ])
                            refine wpAnyH_take (i := 12) (oi := { dst := some 117, op := Op.binOp BinOp.lss 3 (Operand.tmp 114) (Operand.tmp 116) 3, type := 4, pos := "outright.go:39", after := #[{ on := 9, ground := Ground.data }, { on := 11, ground := Ground.data }, { on := 7, ground := Ground.guard }], guard := some (7, true) }) (v := undef) rfl (by kernel_rfl) (by kernel_rfl) (by kernel_rfl) (fun _ _ _ h => h) (Or.inr ⟨by rfl, rfl⟩) (by assumption) ?_
                            (try simp only [Act.put, List.setIfInBounds_toArray, List.set_cons_zero, List.set_cons_succ])
                            refine wpAnyH_take (i := 13) (oi := { dst := some 118, op := Op.pick (Operand.tmp 112) (Operand.tmp 117) (Operand.const (Value.bool false)), type := 4, pos := "outright.go:39", after := #[{ on := 7, ground := Ground.data }, { on := 12, ground := Ground.data }], guard := none }) (v := .bool false) rfl (by kernel_rfl) (by kernel_rfl) (by kernel_rfl) (fun _ _ _ h => h) (Or.inl ⟨by rfl, ?_⟩) (by assumption) ?_
                            · intro w9 hSw
                              (try dsimp only at hSw)
                              go_simp
                            (try simp only [Act.put, List.setIfInBounds_toArray, List.set_cons_zero, List.set_cons_succ])
                            refine wpAnyH_take (i := 14) (oi := { dst := some 119, op := Op.move (Operand.tmp 118), type := 4, pos := "outright.go:39", after := #[{ on := 13, ground := Ground.data }, { on := 7, ground := Ground.chain }], guard := none }) (v := .bool false) rfl (by kernel_rfl) (by kernel_rfl) (by kernel_rfl) (fun _ _ _ h => h) (Or.inl ⟨by rfl, ?_⟩) (by assumption) ?_
                            · intro w9 hSw
                              (try dsimp only at hSw)
                              go_simp
                            (try simp only [Act.put, List.setIfInBounds_toArray, List.set_cons_zero, List.set_cons_succ])
                            refine wpAnyH_take (i := 15) (oi := { dst := some 120, op := Op.move (Operand.tmp 5), type := 25, pos := "outright.go:39", after := #[{ on := 14, ground := Ground.guard }], guard := some (14, true) }) (v := undef) rfl (by kernel_rfl) (by kernel_rfl) (by kernel_rfl) (fun _ _ _ h => h) (Or.inr ⟨by rfl, rfl⟩) (by assumption) ?_
                            (try simp only [Act.put, List.setIfInBounds_toArray, List.set_cons_zero, List.set_cons_succ])
                            refine wpAnyH_take (i := 16) (oi := { dst := some 121, op := Op.move (Operand.tmp 13), type := 3, pos := "outright.go:39", after := #[{ on := 14, ground := Ground.guard }], guard := some (14, true) }) (v := undef) rfl (by kernel_rfl) (by kernel_rfl) (by kernel_rfl) (fun _ _ _ h => h) (Or.inr ⟨by rfl, rfl⟩) (by assumption) ?_
                            (try simp only [Act.put, List.setIfInBounds_toArray, List.set_cons_zero, List.set_cons_succ])
                            refine wpAnyH_take (i := 17) (oi := { dst := some 122, op := Op.indexAddr 25 (Operand.tmp 120) (Operand.tmp 121), type := 0, pos := "outright.go:39", after := #[{ on := 15, ground := Ground.data }, { on := 16, ground := Ground.data }, { on := 14, ground := Ground.guard }], guard := some (14, true) }) (v := undef) rfl (by kernel_rfl) (by kernel_rfl) (by kernel_rfl) (fun _ _ _ h => h) (Or.inr ⟨by rfl, rfl⟩) (by assumption) ?_
                            (try simp only [Act.put, List.setIfInBounds_toArray, List.set_cons_zero, List.set_cons_succ])
                            refine wpAnyH_take (i := 18) (oi := { dst := some 123, op := Op.load 3 (Operand.tmp 122), type := 3, pos := "outright.go:39", after := #[{ on := 17, ground := Ground.data }, { on := 14, ground := Ground.guard }], guard := some (14, true) }) (v := undef) rfl (by kernel_rfl) (by kernel_rfl) (by kernel_rfl) (fun _ _ _ h => h) (Or.inr ⟨by rfl, rfl⟩) (by assumption) ?_
                            (try simp only [Act.put, List.setIfInBounds_toArray, List.set_cons_zero, List.set_cons_succ])
                            refine wpAnyH_take (i := 19) (oi := { dst := some 124, op := Op.binOp BinOp.geq 3 (Operand.tmp 123) (Operand.const (Value.int IntKind.i64 0)) 3, type := 4, pos := "outright.go:39", after := #[{ on := 18, ground := Ground.data }, { on := 14, ground := Ground.guard }], guard := some (14, true) }) (v := undef) rfl (by kernel_rfl) (by kernel_rfl) (by kernel_rfl) (fun _ _ _ h => h) (Or.inr ⟨by rfl, rfl⟩) (by assumption) ?_
                            (try simp only [Act.put, List.setIfInBounds_toArray, List.set_cons_zero, List.set_cons_succ])
                            refine wpAnyH_take (i := 20) (oi := { dst := some 125, op := Op.pick (Operand.tmp 119) (Operand.tmp 124) (Operand.const (Value.bool false)), type := 4, pos := "outright.go:39", after := #[{ on := 14, ground := Ground.data }, { on := 19, ground := Ground.data }], guard := none }) (v := .bool false) rfl (by kernel_rfl) (by kernel_rfl) (by kernel_rfl) (fun _ _ _ h => h) (Or.inl ⟨by rfl, ?_⟩) (by assumption) ?_
                            · intro w9 hSw
                              (try dsimp only at hSw)
                              go_simp
                            (try simp only [Act.put, List.setIfInBounds_toArray, List.set_cons_zero, List.set_cons_succ])
                            refine wpAnyH_take (i := 21) (oi := { dst := some 126, op := Op.move (Operand.tmp 125), type := 4, pos := "outright.go:39", after := #[{ on := 20, ground := Ground.data }, { on := 14, ground := Ground.chain }], guard := none }) (v := .bool false) rfl (by kernel_rfl) (by kernel_rfl) (by kernel_rfl) (fun _ _ _ h => h) (Or.inl ⟨by rfl, ?_⟩) (by assumption) ?_
                            · intro w9 hSw
                              (try dsimp only at hSw)
                              go_simp
                            (try simp only [Act.put, List.setIfInBounds_toArray, List.set_cons_zero, List.set_cons_succ])
                            refine wpAnyH_take (i := 22) (oi := { dst := some 127, op := Op.move (Operand.tmp 5), type := 25, pos := "outright.go:39", after := #[{ on := 21, ground := Ground.guard }], guard := some (21, true) }) (v := undef) rfl (by kernel_rfl) (by kernel_rfl) (by kernel_rfl) (fun _ _ _ h => h) (Or.inr ⟨by rfl, rfl⟩) (by assumption) ?_
                            (try simp only [Act.put, List.setIfInBounds_toArray, List.set_cons_zero, List.set_cons_succ])
                            refine wpAnyH_take (i := 23) (oi := { dst := some 128, op := Op.move (Operand.tmp 11), type := 3, pos := "outright.go:39", after := #[{ on := 21, ground := Ground.guard }], guard := some (21, true) }) (v := undef) rfl (by kernel_rfl) (by kernel_rfl) (by kernel_rfl) (fun _ _ _ h => h) (Or.inr ⟨by rfl, rfl⟩) (by assumption) ?_
                            (try simp only [Act.put, List.setIfInBounds_toArray, List.set_cons_zero, List.set_cons_succ])
                            refine wpAnyH_take (i := 24) (oi := { dst := some 129, op := Op.indexAddr 25 (Operand.tmp 127) (Operand.tmp 128), type := 0, pos := "outright.go:39", after := #[{ on := 22, ground := Ground.data }, { on := 23, ground := Ground.data }, { on := 21, ground := Ground.guard }], guard := some (21, true) }) (v := undef) rfl (by kernel_rfl) (by kernel_rfl) (by kernel_rfl) (fun _ _ _ h => h) (Or.inr ⟨by rfl, rfl⟩) (by assumption) ?_
                            (try simp only [Act.put, List.setIfInBounds_toArray, List.set_cons_zero, List.set_cons_succ])
                            refine wpAnyH_take (i := 25) (oi := { dst := some 130, op := Op.load 3 (Operand.tmp 129), type := 3, pos := "outright.go:39", after := #[{ on := 24, ground := Ground.data }, { on := 21, ground := Ground.guard }], guard := some (21, true) }) (v := undef) rfl (by kernel_rfl) (by kernel_rfl) (by kernel_rfl) (fun _ _ _ h => h) (Or.inr ⟨by rfl, rfl⟩) (by assumption) ?_
                            (try simp only [Act.put, List.setIfInBounds_toArray, List.set_cons_zero, List.set_cons_succ])
                            refine wpAnyH_take (i := 26) (oi := { dst := some 131, op := Op.move (Operand.tmp 5), type := 25, pos := "outright.go:39", after := #[{ on := 21, ground := Ground.guard }], guard := some (21, true) }) (v := undef) rfl (by kernel_rfl) (by kernel_rfl) (by kernel_rfl) (fun _ _ _ h => h) (Or.inr ⟨by rfl, rfl⟩) (by assumption) ?_
                            (try simp only [Act.put, List.setIfInBounds_toArray, List.set_cons_zero, List.set_cons_succ])
                            refine wpAnyH_take (i := 27) (oi := { dst := some 132, op := Op.move (Operand.tmp 13), type := 3, pos := "outright.go:39", after := #[{ on := 21, ground := Ground.guard }], guard := some (21, true) }) (v := undef) rfl (by kernel_rfl) (by kernel_rfl) (by kernel_rfl) (fun _ _ _ h => h) (Or.inr ⟨by rfl, rfl⟩) (by assumption) ?_
                            (try simp only [Act.put, List.setIfInBounds_toArray, List.set_cons_zero, List.set_cons_succ])
                            refine wpAnyH_take (i := 28) (oi := { dst := some 133, op := Op.indexAddr 25 (Operand.tmp 131) (Operand.tmp 132), type := 0, pos := "outright.go:39", after := #[{ on := 26, ground := Ground.data }, { on := 27, ground := Ground.data }, { on := 21, ground := Ground.guard }], guard := some (21, true) }) (v := undef) rfl (by kernel_rfl) (by kernel_rfl) (by kernel_rfl) (fun _ _ _ h => h) (Or.inr ⟨by rfl, rfl⟩) (by assumption) ?_
                            (try simp only [Act.put, List.setIfInBounds_toArray, List.set_cons_zero, List.set_cons_succ])
                            refine wpAnyH_take (i := 29) (oi := { dst := some 134, op := Op.load 3 (Operand.tmp 133), type := 3, pos := "outright.go:39", after := #[{ on := 28, ground := Ground.data }, { on := 21, ground := Ground.guard }], guard := some (21, true) }) (v := undef) rfl (by kernel_rfl) (by kernel_rfl) (by kernel_rfl) (fun _ _ _ h => h) (Or.inr ⟨by rfl, rfl⟩) (by assumption) ?_
                            (try simp only [Act.put, List.setIfInBounds_toArray, List.set_cons_zero, List.set_cons_succ])
                            refine wpAnyH_take (i := 30) (oi := { dst := some 135, op := Op.binOp BinOp.gtr 3 (Operand.tmp 130) (Operand.tmp 134) 3, type := 4, pos := "outright.go:39", after := #[{ on := 25, ground := Ground.data }, { on := 29, ground := Ground.data }, { on := 21, ground := Ground.guard }], guard := some (21, true) }) (v := undef) rfl (by kernel_rfl) (by kernel_rfl) (by kernel_rfl) (fun _ _ _ h => h) (Or.inr ⟨by rfl, rfl⟩) (by assumption) ?_
                            (try simp only [Act.put, List.setIfInBounds_toArray, List.set_cons_zero, List.set_cons_succ])
                            refine wpAnyH_take (i := 31) (oi := { dst := some 136, op := Op.pick (Operand.tmp 126) (Operand.tmp 135) (Operand.const (Value.bool false)), type := 4, pos := "outright.go:39", after := #[{ on := 21, ground := Ground.data }, { on := 30, ground := Ground.data }], guard := none }) (v := .bool false) rfl (by kernel_rfl) (by kernel_rfl) (by kernel_rfl) (fun _ _ _ h => h) (Or.inl ⟨by rfl, ?_⟩) (by assumption) ?_
                            · intro w9 hSw
                              (try dsimp only at hSw)
                              go_simp
                            (try simp only [Act.put, List.setIfInBounds_toArray, List.set_cons_zero, List.set_cons_succ])
                            refine wpAnyH_done (by kernel_rfl) ?_ _
                            go_wp2_with fail
                            go_meet
                            exact ⟨by rw [← HZ.out]; first | rfl | (simp; intros; omega), K5⟩
                      case rest =>
                      obtain ⟨rfl, KC⟩ := hcut
                      clear c0 c1 c2 c3 c4 c5 c6 c7 c8 c9 c10 d6 xi xj ST CM
                      cases zz
                      · go_wp2_with fail
                        go_roundw
                        case rel =>
                          refine ⟨j + 1, by go_num, by omega, NEXT.out _ KC.out (fun z z2 => ?_)⟩
                          rw [AH.out] at z
                          have := HZ.out
                          rw [z] at this
                          simp at this
                          omega
                        case measure => simp [intOf] <;> omega
                      · have vF : v = false := by
                          have hz := HZ.out
                          simp at hz
                          obtain ⟨⟨⟨⟨h0, h1⟩, h2⟩, h3⟩, h4⟩ := hz
                          refine H.out.2.2.1.noC (fun z => ?_)
                          have hj2 := (AT.out.1.mem j).2 (by have := HJ.out; omega)
                          have hi2 := (AT.out.1.mem i).2 (by have := HA.out; omega)
                          obtain ⟨x, hx, ex⟩ := List.getElem_of_mem hj2
                          obtain ⟨y, hy, ey⟩ := List.getElem_of_mem hi2
                          have hx' : R[x]? = some j := by rw [List.getElem?_eq_getElem hx, ex]
                          have hy' : R[y]? = some i := by rw [List.getElem?_eq_getElem hy, ey]
                          have ln := H.out.2.2.2.1
                          have le := z i (by omega) j (by omega) ma.cl mb.cl TI.out.2 T.out.2.2.2.2 (by rw [AH.out]; simp [h0, h1, h2]) x y hx' hy'
                          have q1 := AT.out.1.yes x j hx'
                          have q2 := AT.out.1.yes y i hy'
                          have q3 := HA.out
                          have q4 := HJ.out
                          omega
                        subst vF
                        have KF : Hid (Kept (fun _ => False) w wc) := T.out.1.kept.trans KC.out (fun _ _ z => z)
                        go_wp2_with fail
                        go_ret
                        exact ⟨rfl, KF.out⟩
                    · have j1 : ¬ (j : Int) < (n : Int) := by omega
                      have GO : Hid (EW w wp ab n A ∧ ExC (ms.map Cm.cl) R (i + 1)) := by
                        refine ⟨S.out.1, TI.out.1.step ?_⟩
                        have : j = (ms.map Cm.cl).length := by have := H.out.2.2.2.1; omega
                        rw [← this]
                        exact S.out.2.2
                      clear S
                      go_wp2_with fail
                      go_roundw
                      case rel => exact ⟨i + 1, by go_num, by omega, GO⟩
                      case measure => simp [intOf] <;> omega
                · have i1 : ¬ (i : Int) < (n : Int) := by omega
                  have CC : Hid (ExC (ms.map Cm.cl) R (ms.map Cm.cl).length) := by
                    have : i = (ms.map Cm.cl).length := by have := H.out.2.2.2.1; omega
                    rw [← this]
                    exact S.out.2
                  have S3 : Hid (Kept (fun _ => False) w wr ∧ ExD (ms.map Cm.cl) R 0) := ⟨S.out.1.kept, fun j hj => absurd hj (Nat.not_lt_zero _)⟩
                  clear S i1 hi
                  go_wp2_with fail
                  go_loopw [15, 17, 18, 141] (fun u15 _ _ u141 wx => ∃ (m : Nat) (l : Int), u15 = .int .i64 l ∧ u141 = .int .i64 (m : Int) ∧ m ≤ k ∧ Hid (l = lastF (ms.map Cm.cl) (R.take m) (-1) ∧ Kept (fun _ => False) w wx ∧ ExD (ms.map Cm.cl) R m)) (fun _ _ _ u141 _ => k - (intOf u141).toNat)
                  case atStart => exact ⟨0, -1, rfl, rfl, Nat.zero_le _, rfl, S3.out.1, S3.out.2⟩
                  case round =>
                    obtain ⟨m, l, rfl, rfl, hm, S⟩ := hrel
                    clear S3
                    obtain ⟨wq, hwq⟩ : ∃ wq, wq = wr := ⟨_, rfl⟩
                    rw [← hwq] at S ⊢
                    clear hwq
                    by_cases hlt : m < k
                    · have m1 : (m : Int) < (k : Int) := by omega
                      obtain ⟨g, r, rfl, hr, co⟩ := (H.out.2.1.k0 S.out.2.1).at hlt
                      have rn : r < n := by have := H.out.2.2.1.lt r (List.mem_of_getElem? hr); have := H.out.2.2.2.1; omega
                      have r1 : (r : Int) < (n : Int) := by omega
                      obtain ⟨b, off, mc, rfl, hmc, c0', c1, c2, c3, c4, c5, c6, c7, c8, c9, c10, rdc⟩ := (H.out.1.k0 S.out.2.1).at rn
                      obtain ⟨X, hX⟩ : ∃ X, X = wq.alloc (.cells #[.int .i64 mc.client, .int .i64 mc.op, .bool mc.put, .string mc.key, .slice mc.va mc.vn mc.vc, .int .i64 mc.st, .int .i64 mc.frm, .int .i64 mc.to, .bool mc.opn, .int .i64 mc.tx, .int .i64 mc.ty] 33) := ⟨_, rfl⟩
                      obtain ⟨D, hD⟩ : ∃ D, D = wq.heap.size := ⟨_, rfl⟩
                      have KX : Kept (fun _ => False) wq X := by rw [hX]; exact (Kept.refl _ _).alloc _
                      have T : Hid (X.heap[D]? = some (.cells mc.cs 33 (0, 0)) ∧ Kept (fun _ => False) w X ∧ R[m]? = some r ∧ (ms.map Cm.cl)[r]? = some mc.cl ∧ l = lastF (ms.map Cm.cl) (R.take m) (-1) ∧ ExD (ms.map Cm.cl) R m ∧ Reads X mc.va mc.vn mc.vc mc.val) := ⟨by rw [hX, hD]; exact alloc_new _ _, S.out.2.1.trans KX (fun _ _ z => z), hr, by rw [List.getElem?_map, hmc]; rfl, S.out.1, S.out.2.2, Reads.kept KX rdc (fun _ _ z => z)⟩
                      have EXH : Hid (X = wq.alloc (.cells #[.int .i64 mc.client, .int .i64 mc.op, .bool mc.put, .string mc.key, .slice mc.va mc.vn mc.vc, .int .i64 mc.st, .int .i64 mc.frm, .int .i64 mc.to, .bool mc.opn, .int .i64 mc.tx, .int .i64 mc.ty] 33) ∧ D = wq.heap.size) := ⟨hX, hD⟩
                      clear hX hD S hmc hr rdc KX
                      go_upto_region 35 with fail
                      rw [← EXH.out.1, ← EXH.out.2]
                      clear EXH c0' c1 c2 c3 c4 c5 c6 c7 c8 c9 c10 co
                      have d2 := cell_blk T.out.1 2 (v := .bool mc.put) rfl
                      have d4 := cell_blk T.out.1 4 (v := .slice mc.va mc.vn mc.vc) rfl
                      have d5 := cell_blk T.out.1 5 (v := .int .i64 mc.st) rfl
                      obtain ⟨pu, hpu⟩ : ∃ pu, mc.put = pu := ⟨_, rfl⟩
                      rw [hpu] at d2
                      have HP : Hid (mc.cl.put = pu) := hpu
                      clear hpu
                      cases pu
                      case true =>
                        go_wp2_with fail
                        go_roundw
                        case rel => exact ⟨m + 1, (r : Int), rfl, by go_num, by omega, by rw [lastF_take T.out.2.2.1 T.out.2.2.2.1, if_pos HP.out], T.out.2.1, T.out.2.2.2.2.2.1.step T.out.2.2.1 T.out.2.2.2.1 (.inl HP.out)⟩
                        case measure => simp [intOf] <;> omega
                      case false =>
                        have LS : Hid (lastF (ms.map Cm.cl) (R.take (m + 1)) (-1) = l ∧ l < (n : Int) ∧ -1 ≤ l) := by
                          have h1 := lastF_lt (cs := ms.map Cm.cl) (R.take m) (-1) (by omega) (by omega)
                          have h2 := H.out.2.2.2.1
                          rw [← T.out.2.2.2.2.1, h2] at h1
                          refine ⟨?_, h1⟩
                          rw [lastF_take T.out.2.2.1 T.out.2.2.2.1, if_neg (by rw [HP.out]; simp)]
                          exact T.out.2.2.2.2.1.symm
                        have NEXT : Hid (∀ W, Kept (fun _ => False) X W → ((mc.st = 76 → l < 0) ∧ (mc.st = 0 → valOf' (ms.map Cm.cl) l = some mc.val)) → l = lastF (ms.map Cm.cl) (R.take (m + 1)) (-1) ∧ Kept (fun _ => False) w W ∧ ExD (ms.map Cm.cl) R (m + 1)) := by
                          intro W kw ok
                          refine ⟨LS.out.1.symm, T.out.2.1.trans kw (fun _ _ z => z), T.out.2.2.2.2.2.1.step T.out.2.2.1 T.out.2.2.2.1 (.inr ?_)⟩
                          rw [← T.out.2.2.2.2.1]
                          exact ok
                        have BAD : Hid (¬ ((mc.st = 76 → l < 0) ∧ (mc.st = 0 → valOf' (ms.map Cm.cl) l = some mc.val)) → v = false) := by
                          intro nok
                          refine H.out.2.2.1.noD (fun z => nok ?_)
                          rcases z m (by have := H.out.2.2.2.2; omega) r mc.cl T.out.2.2.1 T.out.2.2.2.1 with q | q
                          · rw [HP.out] at q; cases q
                          · rw [← T.out.2.2.2.2.1] at q
                            exact q
                        by_cases h76 : mc.st = 76
                        · have e76 : (mc.st == 76) = true := by simp [h76]
                          have e0 : (mc.st == 0) = false := by simp [h76]
                          by_cases hl : 0 ≤ l
                          · have vF : v = false := BAD.out (fun z => by have := z.1 h76; omega)
                            subst vF
                            rw [h76] at d5
                            go_wp2_with fail
                            go_ret
                            exact ⟨rfl, T.out.2.1⟩
                          · rw [h76] at d5
                            go_upto_region 39 with fail
                            go_quiet (fail)
                            go_wp2_with fail
                            go_roundw
                            case rel => exact ⟨m + 1, l, rfl, by go_num, by omega, NEXT.out _ ((Kept.refl _ _).drewN _) ⟨fun _ => by omega, fun z => by omega⟩⟩
                            case measure => simp [intOf] <;> omega
                        · have e76 : (mc.st == 76) = false := by simp [h76]
                          by_cases h0 : mc.st = 0
                          · rw [h0] at d5
                            by_cases hl : l < 0
                            · have vF : v = false := BAD.out (fun z => by have := z.2 h0; unfold valOf' at this; rw [if_pos hl] at this; cases this)
                              subst vF
                              go_upto_region 39 with fail
                              go_quiet (fail)
                              go_wp2_with fail
                              go_ret
                              exact ⟨rfl, T.out.2.1.drewN _⟩
                            · obtain ⟨ln, hln⟩ : ∃ ln : Nat, l = (ln : Int) := ⟨l.toNat, by omega⟩
                              subst hln
                              have ln1 : ln < n := by have := LS.out.2.1; omega
                              have ln2 : (ln : Int) < (n : Int) := by omega
                              obtain ⟨b9, off9, ml, e9, hml, _, _, _, _, y4, _, _, _, _, _, _, rdl⟩ := (H.out.1.k0 T.out.2.1).at ln1
                              have e9 : b = b9 ∧ off = off9 := by simpa using e9
                              obtain ⟨rfl, rfl⟩ := e9
                              have RL : Hid (Reads X ml.va ml.vn ml.vc ml.val) := rdl
                              obtain ⟨q, hq⟩ : ∃ q, q = decide (ml.val = mc.val) := ⟨_, rfl⟩
                              have eq : ((str ml.val).toList == (str mc.val).toList) = q := by rw [hq]; exact str_eq rdl.bytes T.out.2.2.2.2.2.2.bytes
                              have HQ : Hid (q = decide (ml.val = mc.val) ∧ valOf' (ms.map Cm.cl) (ln : Int) = some ml.val) := by
                                refine ⟨hq, ?_⟩
                                unfold valOf'
                                rw [if_neg (by omega), Int.toNat_natCast, List.getElem?_map, hml]
                                rfl
                              clear hq hml rdl
                              cases q
                              · have vF : v = false := BAD.out (fun z => by
                                  have h1 := z.2 h0
                                  rw [HQ.out.2] at h1
                                  have h2 := HQ.out.1
                                  have h3 := Option.some.inj h1
                                  rw [h3] at h2
                                  simp at h2)
                                subst vF
                                go_upto_region 39 with fail
                                have s1 : (convert 29 9 (.slice ml.va ml.vn ml.vc)).run Try.prog X.drew = .ok (.string (str ml.val)) X.drew := (Reads.kept ((Kept.refl (fun _ => False) X).drew) RL.out (fun _ _ z => z)).string
                                have s2 : (convert 29 9 (.slice mc.va mc.vn mc.vc)).run Try.prog X.drew = .ok (.string (str mc.val)) X.drew := (Reads.kept ((Kept.refl (fun _ => False) X).drew) T.out.2.2.2.2.2.2 (fun _ _ z => z)).string
                                refine wp_region_held_drew (S := (fun V => V.cell? ⟨D, 5, none⟩ = some (.int .i64 0) ∧ V.cell? ⟨D, 4, none⟩ = some (.slice mc.va mc.vn mc.vc) ∧ V.cell? ⟨b, off + ln * 11 + 4, none⟩ = some (.slice ml.va ml.vn ml.vc) ∧ (convert 29 9 (.slice ml.va ml.vn ml.vc)).run Try.prog V = .ok (.string (str ml.val)) V ∧ (convert 29 9 (.slice mc.va mc.vn mc.vc)).run Try.prog V = .ok (.string (str mc.val)) V)) (by kernel_rfl) ?_ (fun hHeld => ?_)
                                · exact ⟨d5, d4, y4, s1, s2⟩
                                refine wpAnyH_take (i := 0) (oi := { dst := some 162, op := Op.fieldAddr 33 (Operand.tmp 18) 5, type := 0, pos := "outright.go:52", after := #[], guard := none }) (v := .pointer (some ⟨D, 5, none⟩)) rfl (by kernel_rfl) (by kernel_rfl) (by kernel_rfl) (fun _ _ _ h => h) (Or.inl ⟨by rfl, ?_⟩) (by assumption) ?_
                                · intro w9 hSw
                                  (try dsimp only at hSw)
                                  go_simp
                                (try simp only [Act.put, List.setIfInBounds_toArray, List.set_cons_zero, List.set_cons_succ])
                                refine wpAnyH_take (i := 1) (oi := { dst := some 163, op := Op.load 26 (Operand.tmp 162), type := 26, pos := "outright.go:52", after := #[{ on := 0, ground := Ground.data }], guard := none }) (v := .int .i64 0) rfl (by kernel_rfl) (by kernel_rfl) (by kernel_rfl) (fun _ _ _ h => h) (Or.inl ⟨by rfl, ?_⟩) (by assumption) ?_
                                · intro w9 hSw
                                  (try dsimp only at hSw)
                                  go_simp
                                (try simp only [Act.put, List.setIfInBounds_toArray, List.set_cons_zero, List.set_cons_succ])
                                refine wpAnyH_take (i := 2) (oi := { dst := some 164, op := Op.binOp BinOp.eql 26 (Operand.tmp 163) (Operand.const (Value.int IntKind.i64 0)) 26, type := 4, pos := "outright.go:52", after := #[{ on := 1, ground := Ground.data }], guard := none }) (v := .bool true) rfl (by kernel_rfl) (by kernel_rfl) (by kernel_rfl) (fun _ _ _ h => h) (Or.inl ⟨by rfl, ?_⟩) (by assumption) ?_
                                · intro w9 hSw
                                  (try dsimp only at hSw)
                                  go_simp
                                (try simp only [Act.put, List.setIfInBounds_toArray, List.set_cons_zero, List.set_cons_succ])
                                refine wpAnyH_take (i := 3) (oi := { dst := some 165, op := Op.move (Operand.tmp 164), type := 4, pos := "outright.go:52", after := #[{ on := 2, ground := Ground.data }], guard := none }) (v := .bool true) rfl (by kernel_rfl) (by kernel_rfl) (by kernel_rfl) (fun _ _ _ h => h) (Or.inl ⟨by rfl, ?_⟩) (by assumption) ?_
                                · intro w9 hSw
                                  (try dsimp only at hSw)
                                  go_simp
                                (try simp only [Act.put, List.setIfInBounds_toArray, List.set_cons_zero, List.set_cons_succ])
                                refine wpAnyH_take (i := 4) (oi := { dst := some 166, op := Op.move (Operand.tmp 15), type := 3, pos := "outright.go:52", after := #[{ on := 3, ground := Ground.guard }], guard := some (3, true) }) (v := .int .i64 (ln : Int)) rfl (by kernel_rfl) (by kernel_rfl) (by kernel_rfl) (fun _ _ _ h => h) (Or.inl ⟨by rfl, ?_⟩) (by assumption) ?_
                                · intro w9 hSw
                                  (try dsimp only at hSw)
                                  go_simp
                                (try simp only [Act.put, List.setIfInBounds_toArray, List.set_cons_zero, List.set_cons_succ])
                                refine wpAnyH_take (i := 5) (oi := { dst := some 167, op := Op.binOp BinOp.lss 3 (Operand.tmp 166) (Operand.const (Value.int IntKind.i64 0)) 3, type := 4, pos := "outright.go:52", after := #[{ on := 4, ground := Ground.data }, { on := 3, ground := Ground.guard }], guard := some (3, true) }) (v := .bool false) rfl (by kernel_rfl) (by kernel_rfl) (by kernel_rfl) (fun _ _ _ h => h) (Or.inl ⟨by rfl, ?_⟩) (by assumption) ?_
                                · intro w9 hSw
                                  (try dsimp only at hSw)
                                  go_simp
                                (try simp only [Act.put, List.setIfInBounds_toArray, List.set_cons_zero, List.set_cons_succ])
                                refine wpAnyH_take (i := 6) (oi := { dst := some 168, op := Op.move (Operand.tmp 167), type := 4, pos := "outright.go:52", after := #[{ on := 5, ground := Ground.data }, { on := 3, ground := Ground.chain }, { on := 3, ground := Ground.guard }], guard := some (3, true) }) (v := .bool false) rfl (by kernel_rfl) (by kernel_rfl) (by kernel_rfl) (fun _ _ _ h => h) (Or.inl ⟨by rfl, ?_⟩) (by assumption) ?_
                                · intro w9 hSw
                                  (try dsimp only at hSw)
                                  go_simp
                                (try simp only [Act.put, List.setIfInBounds_toArray, List.set_cons_zero, List.set_cons_succ])
                                refine wpAnyH_take (i := 7) (oi := { dst := some 169, op := Op.move (Operand.tmp 0), type := 23, pos := "outright.go:52", after := #[{ on := 6, ground := Ground.guard }], guard := some (6, false) }) (v := .slice (some ⟨b, off, none⟩) n c0) rfl (by kernel_rfl) (by kernel_rfl) (by kernel_rfl) (fun _ _ _ h => h) (Or.inl ⟨by rfl, ?_⟩) (by assumption) ?_
                                · intro w9 hSw
                                  (try dsimp only at hSw)
                                  go_simp
                                (try simp only [Act.put, List.setIfInBounds_toArray, List.set_cons_zero, List.set_cons_succ])
                                refine wpAnyH_take (i := 8) (oi := { dst := some 170, op := Op.move (Operand.tmp 15), type := 3, pos := "outright.go:52", after := #[{ on := 6, ground := Ground.guard }], guard := some (6, false) }) (v := .int .i64 (ln : Int)) rfl (by kernel_rfl) (by kernel_rfl) (by kernel_rfl) (fun _ _ _ h => h) (Or.inl ⟨by rfl, ?_⟩) (by assumption) ?_
                                · intro w9 hSw
                                  (try dsimp only at hSw)
                                  go_simp
                                (try simp only [Act.put, List.setIfInBounds_toArray, List.set_cons_zero, List.set_cons_succ])
                                refine wpAnyH_take (i := 9) (oi := { dst := some 171, op := Op.indexAddr 23 (Operand.tmp 169) (Operand.tmp 170), type := 0, pos := "outright.go:52", after := #[{ on := 7, ground := Ground.data }, { on := 8, ground := Ground.data }, { on := 6, ground := Ground.guard }], guard := some (6, false) }) (v := .pointer (some ⟨b, off + ln * 11, none⟩)) rfl (by kernel_rfl) (by kernel_rfl) (by kernel_rfl) (fun _ _ _ h => h) (Or.inl ⟨by rfl, ?_⟩) (by assumption) ?_
                                · intro w9 hSw
                                  (try dsimp only at hSw)
                                  go_simp
                                (try simp only [Act.put, List.setIfInBounds_toArray, List.set_cons_zero, List.set_cons_succ])
                                refine wpAnyH_take (i := 10) (oi := { dst := some 172, op := Op.fieldAddr 33 (Operand.tmp 171) 4, type := 0, pos := "outright.go:52", after := #[{ on := 9, ground := Ground.data }, { on := 6, ground := Ground.guard }], guard := some (6, false) }) (v := .pointer (some ⟨b, off + ln * 11 + 4, none⟩)) rfl (by kernel_rfl) (by kernel_rfl) (by kernel_rfl) (fun _ _ _ h => h) (Or.inl ⟨by rfl, ?_⟩) (by assumption) ?_
                                · intro w9 hSw
                                  (try dsimp only at hSw)
                                  go_simp
                                (try simp only [Act.put, List.setIfInBounds_toArray, List.set_cons_zero, List.set_cons_succ])
                                refine wpAnyH_take (i := 11) (oi := { dst := some 173, op := Op.load 29 (Operand.tmp 172), type := 29, pos := "outright.go:52", after := #[{ on := 10, ground := Ground.data }, { on := 6, ground := Ground.guard }], guard := some (6, false) }) (v := .slice ml.va ml.vn ml.vc) rfl (by kernel_rfl) (by kernel_rfl) (by kernel_rfl) (fun _ _ _ h => h) (Or.inl ⟨by rfl, ?_⟩) (by assumption) ?_
                                · intro w9 hSw
                                  (try dsimp only at hSw)
                                  go_simp
                                (try simp only [Act.put, List.setIfInBounds_toArray, List.set_cons_zero, List.set_cons_succ])
                                refine wpAnyH_take (i := 12) (oi := { dst := some 174, op := Op.convert 29 9 (Operand.tmp 173), type := 9, pos := "outright.go:52", after := #[{ on := 11, ground := Ground.data }, { on := 6, ground := Ground.guard }], guard := some (6, false) }) (v := .string (str ml.val)) rfl (by kernel_rfl) (by kernel_rfl) (by kernel_rfl) (fun _ _ _ h => h) (Or.inl ⟨by rfl, ?_⟩) (by assumption) ?_
                                · intro w9 hSw
                                  (try dsimp only at hSw)
                                  go_simp
                                (try simp only [Act.put, List.setIfInBounds_toArray, List.set_cons_zero, List.set_cons_succ])
                                refine wpAnyH_take (i := 13) (oi := { dst := some 175, op := Op.fieldAddr 33 (Operand.tmp 18) 4, type := 0, pos := "outright.go:52", after := #[{ on := 6, ground := Ground.guard }], guard := some (6, false) }) (v := .pointer (some ⟨D, 4, none⟩)) rfl (by kernel_rfl) (by kernel_rfl) (by kernel_rfl) (fun _ _ _ h => h) (Or.inl ⟨by rfl, ?_⟩) (by assumption) ?_
                                · intro w9 hSw
                                  (try dsimp only at hSw)
                                  go_simp
                                (try simp only [Act.put, List.setIfInBounds_toArray, List.set_cons_zero, List.set_cons_succ])
                                refine wpAnyH_take (i := 14) (oi := { dst := some 176, op := Op.load 29 (Operand.tmp 175), type := 29, pos := "outright.go:52", after := #[{ on := 13, ground := Ground.data }, { on := 6, ground := Ground.guard }], guard := some (6, false) }) (v := .slice mc.va mc.vn mc.vc) rfl (by kernel_rfl) (by kernel_rfl) (by kernel_rfl) (fun _ _ _ h => h) (Or.inl ⟨by rfl, ?_⟩) (by assumption) ?_
                                · intro w9 hSw
                                  (try dsimp only at hSw)
                                  go_simp
                                (try simp only [Act.put, List.setIfInBounds_toArray, List.set_cons_zero, List.set_cons_succ])
                                refine wpAnyH_take (i := 15) (oi := { dst := some 177, op := Op.convert 29 9 (Operand.tmp 176), type := 9, pos := "outright.go:52", after := #[{ on := 14, ground := Ground.data }, { on := 6, ground := Ground.guard }], guard := some (6, false) }) (v := .string (str mc.val)) rfl (by kernel_rfl) (by kernel_rfl) (by kernel_rfl) (fun _ _ _ h => h) (Or.inl ⟨by rfl, ?_⟩) (by assumption) ?_
                                · intro w9 hSw
                                  (try dsimp only at hSw)
                                  go_simp
                                (try simp only [Act.put, List.setIfInBounds_toArray, List.set_cons_zero, List.set_cons_succ])
                                refine wpAnyH_take (i := 16) (oi := { dst := some 178, op := Op.binOp BinOp.neq 9 (Operand.tmp 174) (Operand.tmp 177) 9, type := 4, pos := "outright.go:52", after := #[{ on := 12, ground := Ground.data }, { on := 15, ground := Ground.data }, { on := 6, ground := Ground.guard }], guard := some (6, false) }) (v := .bool true) rfl (by kernel_rfl) (by kernel_rfl) (by kernel_rfl) (fun _ _ _ h => h) (Or.inl ⟨by rfl, ?_⟩) (by assumption) ?_
                                · intro w9 hSw
                                  (try dsimp only at hSw)
                                  go_simp
                                (try simp only [Act.put, List.setIfInBounds_toArray, List.set_cons_zero, List.set_cons_succ])
                                refine wpAnyH_take (i := 17) (oi := { dst := some 179, op := Op.pick (Operand.tmp 168) (Operand.const (Value.bool true)) (Operand.tmp 178), type := 4, pos := "outright.go:52", after := #[{ on := 6, ground := Ground.data }, { on := 16, ground := Ground.data }, { on := 3, ground := Ground.guard }], guard := some (3, true) }) (v := .bool true) rfl (by kernel_rfl) (by kernel_rfl) (by kernel_rfl) (fun _ _ _ h => h) (Or.inl ⟨by rfl, ?_⟩) (by assumption) ?_
                                · intro w9 hSw
                                  (try dsimp only at hSw)
                                  go_simp
                                (try simp only [Act.put, List.setIfInBounds_toArray, List.set_cons_zero, List.set_cons_succ])
                                refine wpAnyH_take (i := 18) (oi := { dst := some 180, op := Op.pick (Operand.tmp 165) (Operand.tmp 179) (Operand.const (Value.bool false)), type := 4, pos := "outright.go:52", after := #[{ on := 3, ground := Ground.data }, { on := 17, ground := Ground.data }], guard := none }) (v := .bool true) rfl (by kernel_rfl) (by kernel_rfl) (by kernel_rfl) (fun _ _ _ h => h) (Or.inl ⟨by rfl, ?_⟩) (by assumption) ?_
                                · intro w9 hSw
                                  (try dsimp only at hSw)
                                  go_simp
                                (try simp only [Act.put, List.setIfInBounds_toArray, List.set_cons_zero, List.set_cons_succ])
                                refine wpAnyH_take (i := 19) (oi := { dst := some 161, op := Op.assign (Operand.tmp 180), type := 4, pos := "outright.go:52", after := #[{ on := 18, ground := Ground.data }, { on := 6, ground := Ground.chain }], guard := none }) (v := .bool true) rfl (by kernel_rfl) (by kernel_rfl) (by kernel_rfl) (fun _ _ _ h => h) (Or.inl ⟨by rfl, ?_⟩) (by assumption) ?_
                                · intro w9 hSw
                                  (try dsimp only at hSw)
                                  go_simp
                                (try simp only [Act.put, List.setIfInBounds_toArray, List.set_cons_zero, List.set_cons_succ])
                                refine wpAnyH_done (by kernel_rfl) ?_ _
                                go_wp2_with fail
                                go_ret
                                exact ⟨rfl, T.out.2.1.drew⟩
                              · go_upto_region 39 with fail
                                have s1 : (convert 29 9 (.slice ml.va ml.vn ml.vc)).run Try.prog X.drew = .ok (.string (str ml.val)) X.drew := (Reads.kept ((Kept.refl (fun _ => False) X).drew) RL.out (fun _ _ z => z)).string
                                have s2 : (convert 29 9 (.slice mc.va mc.vn mc.vc)).run Try.prog X.drew = .ok (.string (str mc.val)) X.drew := (Reads.kept ((Kept.refl (fun _ => False) X).drew) T.out.2.2.2.2.2.2 (fun _ _ z => z)).string
                                refine wp_region_held_drew (S := (fun V => V.cell? ⟨D, 5, none⟩ = some (.int .i64 0) ∧ V.cell? ⟨D, 4, none⟩ = some (.slice mc.va mc.vn mc.vc) ∧ V.cell? ⟨b, off + ln * 11 + 4, none⟩ = some (.slice ml.va ml.vn ml.vc) ∧ (convert 29 9 (.slice ml.va ml.vn ml.vc)).run Try.prog V = .ok (.string (str ml.val)) V ∧ (convert 29 9 (.slice mc.va mc.vn mc.vc)).run Try.prog V = .ok (.string (str mc.val)) V)) (by kernel_rfl) ?_ (fun hHeld => ?_)
                                · exact ⟨d5, d4, y4, s1, s2⟩
                                refine wpAnyH_take (i := 0) (oi := { dst := some 162, op := Op.fieldAddr 33 (Operand.tmp 18) 5, type := 0, pos := "outright.go:52", after := #[], guard := none }) (v := .pointer (some ⟨D, 5, none⟩)) rfl (by kernel_rfl) (by kernel_rfl) (by kernel_rfl) (fun _ _ _ h => h) (Or.inl ⟨by rfl, ?_⟩) (by assumption) ?_
                                · intro w9 hSw
                                  (try dsimp only at hSw)
                                  go_simp
                                (try simp only [Act.put, List.setIfInBounds_toArray, List.set_cons_zero, List.set_cons_succ])
                                refine wpAnyH_take (i := 1) (oi := { dst := some 163, op := Op.load 26 (Operand.tmp 162), type := 26, pos := "outright.go:52", after := #[{ on := 0, ground := Ground.data }], guard := none }) (v := .int .i64 0) rfl (by kernel_rfl) (by kernel_rfl) (by kernel_rfl) (fun _ _ _ h => h) (Or.inl ⟨by rfl, ?_⟩) (by assumption) ?_
                                · intro w9 hSw
                                  (try dsimp only at hSw)
                                  go_simp
                                (try simp only [Act.put, List.setIfInBounds_toArray, List.set_cons_zero, List.set_cons_succ])
                                refine wpAnyH_take (i := 2) (oi := { dst := some 164, op := Op.binOp BinOp.eql 26 (Operand.tmp 163) (Operand.const (Value.int IntKind.i64 0)) 26, type := 4, pos := "outright.go:52", after := #[{ on := 1, ground := Ground.data }], guard := none }) (v := .bool true) rfl (by kernel_rfl) (by kernel_rfl) (by kernel_rfl) (fun _ _ _ h => h) (Or.inl ⟨by rfl, ?_⟩) (by assumption) ?_
                                · intro w9 hSw
                                  (try dsimp only at hSw)
                                  go_simp
                                (try simp only [Act.put, List.setIfInBounds_toArray, List.set_cons_zero, List.set_cons_succ])
                                refine wpAnyH_take (i := 3) (oi := { dst := some 165, op := Op.move (Operand.tmp 164), type := 4, pos := "outright.go:52", after := #[{ on := 2, ground := Ground.data }], guard := none }) (v := .bool true) rfl (by kernel_rfl) (by kernel_rfl) (by kernel_rfl) (fun _ _ _ h => h) (Or.inl ⟨by rfl, ?_⟩) (by assumption) ?_
                                · intro w9 hSw
                                  (try dsimp only at hSw)
                                  go_simp
                                (try simp only [Act.put, List.setIfInBounds_toArray, List.set_cons_zero, List.set_cons_succ])
                                refine wpAnyH_take (i := 4) (oi := { dst := some 166, op := Op.move (Operand.tmp 15), type := 3, pos := "outright.go:52", after := #[{ on := 3, ground := Ground.guard }], guard := some (3, true) }) (v := .int .i64 (ln : Int)) rfl (by kernel_rfl) (by kernel_rfl) (by kernel_rfl) (fun _ _ _ h => h) (Or.inl ⟨by rfl, ?_⟩) (by assumption) ?_
                                · intro w9 hSw
                                  (try dsimp only at hSw)
                                  go_simp
                                (try simp only [Act.put, List.setIfInBounds_toArray, List.set_cons_zero, List.set_cons_succ])
                                refine wpAnyH_take (i := 5) (oi := { dst := some 167, op := Op.binOp BinOp.lss 3 (Operand.tmp 166) (Operand.const (Value.int IntKind.i64 0)) 3, type := 4, pos := "outright.go:52", after := #[{ on := 4, ground := Ground.data }, { on := 3, ground := Ground.guard }], guard := some (3, true) }) (v := .bool false) rfl (by kernel_rfl) (by kernel_rfl) (by kernel_rfl) (fun _ _ _ h => h) (Or.inl ⟨by rfl, ?_⟩) (by assumption) ?_
                                · intro w9 hSw
                                  (try dsimp only at hSw)
                                  go_simp
                                (try simp only [Act.put, List.setIfInBounds_toArray, List.set_cons_zero, List.set_cons_succ])
                                refine wpAnyH_take (i := 6) (oi := { dst := some 168, op := Op.move (Operand.tmp 167), type := 4, pos := "outright.go:52", after := #[{ on := 5, ground := Ground.data }, { on := 3, ground := Ground.chain }, { on := 3, ground := Ground.guard }], guard := some (3, true) }) (v := .bool false) rfl (by kernel_rfl) (by kernel_rfl) (by kernel_rfl) (fun _ _ _ h => h) (Or.inl ⟨by rfl, ?_⟩) (by assumption) ?_
                                · intro w9 hSw
                                  (try dsimp only at hSw)
                                  go_simp
                                (try simp only [Act.put, List.setIfInBounds_toArray, List.set_cons_zero, List.set_cons_succ])
                                refine wpAnyH_take (i := 7) (oi := { dst := some 169, op := Op.move (Operand.tmp 0), type := 23, pos := "outright.go:52", after := #[{ on := 6, ground := Ground.guard }], guard := some (6, false) }) (v := .slice (some ⟨b, off, none⟩) n c0) rfl (by kernel_rfl) (by kernel_rfl) (by kernel_rfl) (fun _ _ _ h => h) (Or.inl ⟨by rfl, ?_⟩) (by assumption) ?_
                                · intro w9 hSw
                                  (try dsimp only at hSw)
                                  go_simp
                                (try simp only [Act.put, List.setIfInBounds_toArray, List.set_cons_zero, List.set_cons_succ])
                                refine wpAnyH_take (i := 8) (oi := { dst := some 170, op := Op.move (Operand.tmp 15), type := 3, pos := "outright.go:52", after := #[{ on := 6, ground := Ground.guard }], guard := some (6, false) }) (v := .int .i64 (ln : Int)) rfl (by kernel_rfl) (by kernel_rfl) (by kernel_rfl) (fun _ _ _ h => h) (Or.inl ⟨by rfl, ?_⟩) (by assumption) ?_
                                · intro w9 hSw
                                  (try dsimp only at hSw)
                                  go_simp
                                (try simp only [Act.put, List.setIfInBounds_toArray, List.set_cons_zero, List.set_cons_succ])
                                refine wpAnyH_take (i := 9) (oi := { dst := some 171, op := Op.indexAddr 23 (Operand.tmp 169) (Operand.tmp 170), type := 0, pos := "outright.go:52", after := #[{ on := 7, ground := Ground.data }, { on := 8, ground := Ground.data }, { on := 6, ground := Ground.guard }], guard := some (6, false) }) (v := .pointer (some ⟨b, off + ln * 11, none⟩)) rfl (by kernel_rfl) (by kernel_rfl) (by kernel_rfl) (fun _ _ _ h => h) (Or.inl ⟨by rfl, ?_⟩) (by assumption) ?_
                                · intro w9 hSw
                                  (try dsimp only at hSw)
                                  go_simp
                                (try simp only [Act.put, List.setIfInBounds_toArray, List.set_cons_zero, List.set_cons_succ])
                                refine wpAnyH_take (i := 10) (oi := { dst := some 172, op := Op.fieldAddr 33 (Operand.tmp 171) 4, type := 0, pos := "outright.go:52", after := #[{ on := 9, ground := Ground.data }, { on := 6, ground := Ground.guard }], guard := some (6, false) }) (v := .pointer (some ⟨b, off + ln * 11 + 4, none⟩)) rfl (by kernel_rfl) (by kernel_rfl) (by kernel_rfl) (fun _ _ _ h => h) (Or.inl ⟨by rfl, ?_⟩) (by assumption) ?_
                                · intro w9 hSw
                                  (try dsimp only at hSw)
                                  go_simp
                                (try simp only [Act.put, List.setIfInBounds_toArray, List.set_cons_zero, List.set_cons_succ])
                                refine wpAnyH_take (i := 11) (oi := { dst := some 173, op := Op.load 29 (Operand.tmp 172), type := 29, pos := "outright.go:52", after := #[{ on := 10, ground := Ground.data }, { on := 6, ground := Ground.guard }], guard := some (6, false) }) (v := .slice ml.va ml.vn ml.vc) rfl (by kernel_rfl) (by kernel_rfl) (by kernel_rfl) (fun _ _ _ h => h) (Or.inl ⟨by rfl, ?_⟩) (by assumption) ?_
                                · intro w9 hSw
                                  (try dsimp only at hSw)
                                  go_simp
                                (try simp only [Act.put, List.setIfInBounds_toArray, List.set_cons_zero, List.set_cons_succ])
                                refine wpAnyH_take (i := 12) (oi := { dst := some 174, op := Op.convert 29 9 (Operand.tmp 173), type := 9, pos := "outright.go:52", after := #[{ on := 11, ground := Ground.data }, { on := 6, ground := Ground.guard }], guard := some (6, false) }) (v := .string (str ml.val)) rfl (by kernel_rfl) (by kernel_rfl) (by kernel_rfl) (fun _ _ _ h => h) (Or.inl ⟨by rfl, ?_⟩) (by assumption) ?_
                                · intro w9 hSw
                                  (try dsimp only at hSw)
                                  go_simp
                                (try simp only [Act.put, List.setIfInBounds_toArray, List.set_cons_zero, List.set_cons_succ])
                                refine wpAnyH_take (i := 13) (oi := { dst := some 175, op := Op.fieldAddr 33 (Operand.tmp 18) 4, type := 0, pos := "outright.go:52", after := #[{ on := 6, ground := Ground.guard }], guard := some (6, false) }) (v := .pointer (some ⟨D, 4, none⟩)) rfl (by kernel_rfl) (by kernel_rfl) (by kernel_rfl) (fun _ _ _ h => h) (Or.inl ⟨by rfl, ?_⟩) (by assumption) ?_
                                · intro w9 hSw
                                  (try dsimp only at hSw)
                                  go_simp
                                (try simp only [Act.put, List.setIfInBounds_toArray, List.set_cons_zero, List.set_cons_succ])
                                refine wpAnyH_take (i := 14) (oi := { dst := some 176, op := Op.load 29 (Operand.tmp 175), type := 29, pos := "outright.go:52", after := #[{ on := 13, ground := Ground.data }, { on := 6, ground := Ground.guard }], guard := some (6, false) }) (v := .slice mc.va mc.vn mc.vc) rfl (by kernel_rfl) (by kernel_rfl) (by kernel_rfl) (fun _ _ _ h => h) (Or.inl ⟨by rfl, ?_⟩) (by assumption) ?_
                                · intro w9 hSw
                                  (try dsimp only at hSw)
                                  go_simp
                                (try simp only [Act.put, List.setIfInBounds_toArray, List.set_cons_zero, List.set_cons_succ])
                                refine wpAnyH_take (i := 15) (oi := { dst := some 177, op := Op.convert 29 9 (Operand.tmp 176), type := 9, pos := "outright.go:52", after := #[{ on := 14, ground := Ground.data }, { on := 6, ground := Ground.guard }], guard := some (6, false) }) (v := .string (str mc.val)) rfl (by kernel_rfl) (by kernel_rfl) (by kernel_rfl) (fun _ _ _ h => h) (Or.inl ⟨by rfl, ?_⟩) (by assumption) ?_
                                · intro w9 hSw
                                  (try dsimp only at hSw)
                                  go_simp
                                (try simp only [Act.put, List.setIfInBounds_toArray, List.set_cons_zero, List.set_cons_succ])
                                refine wpAnyH_take (i := 16) (oi := { dst := some 178, op := Op.binOp BinOp.neq 9 (Operand.tmp 174) (Operand.tmp 177) 9, type := 4, pos := "outright.go:52", after := #[{ on := 12, ground := Ground.data }, { on := 15, ground := Ground.data }, { on := 6, ground := Ground.guard }], guard := some (6, false) }) (v := .bool false) rfl (by kernel_rfl) (by kernel_rfl) (by kernel_rfl) (fun _ _ _ h => h) (Or.inl ⟨by rfl, ?_⟩) (by assumption) ?_
                                · intro w9 hSw
                                  (try dsimp only at hSw)
                                  go_simp
                                (try simp only [Act.put, List.setIfInBounds_toArray, List.set_cons_zero, List.set_cons_succ])
                                refine wpAnyH_take (i := 17) (oi := { dst := some 179, op := Op.pick (Operand.tmp 168) (Operand.const (Value.bool true)) (Operand.tmp 178), type := 4, pos := "outright.go:52", after := #[{ on := 6, ground := Ground.data }, { on := 16, ground := Ground.data }, { on := 3, ground := Ground.guard }], guard := some (3, true) }) (v := .bool false) rfl (by kernel_rfl) (by kernel_rfl) (by kernel_rfl) (fun _ _ _ h => h) (Or.inl ⟨by rfl, ?_⟩) (by assumption) ?_
                                · intro w9 hSw
                                  (try dsimp only at hSw)
                                  go_simp
                                (try simp only [Act.put, List.setIfInBounds_toArray, List.set_cons_zero, List.set_cons_succ])
                                refine wpAnyH_take (i := 18) (oi := { dst := some 180, op := Op.pick (Operand.tmp 165) (Operand.tmp 179) (Operand.const (Value.bool false)), type := 4, pos := "outright.go:52", after := #[{ on := 3, ground := Ground.data }, { on := 17, ground := Ground.data }], guard := none }) (v := .bool false) rfl (by kernel_rfl) (by kernel_rfl) (by kernel_rfl) (fun _ _ _ h => h) (Or.inl ⟨by rfl, ?_⟩) (by assumption) ?_
                                · intro w9 hSw
                                  (try dsimp only at hSw)
                                  go_simp
                                (try simp only [Act.put, List.setIfInBounds_toArray, List.set_cons_zero, List.set_cons_succ])
                                refine wpAnyH_take (i := 19) (oi := { dst := some 161, op := Op.assign (Operand.tmp 180), type := 4, pos := "outright.go:52", after := #[{ on := 18, ground := Ground.data }, { on := 6, ground := Ground.chain }], guard := none }) (v := .bool false) rfl (by kernel_rfl) (by kernel_rfl) (by kernel_rfl) (fun _ _ _ h => h) (Or.inl ⟨by rfl, ?_⟩) (by assumption) ?_
                                · intro w9 hSw
                                  (try dsimp only at hSw)
                                  go_simp
                                (try simp only [Act.put, List.setIfInBounds_toArray, List.set_cons_zero, List.set_cons_succ])
                                refine wpAnyH_done (by kernel_rfl) ?_ _
                                go_wp2_with fail
                                go_roundw
                                case rel =>
                                  refine ⟨m + 1, (ln : Int), rfl, by go_num, by omega, NEXT.out _ ((Kept.refl _ _).drew) ⟨fun z => absurd z h76, fun _ => ?_⟩⟩
                                  rw [HQ.out.2]
                                  have := HQ.out.1
                                  simp at this
                                  rw [this]
                                case measure => simp [intOf] <;> omega
                          · have e0 : (mc.st == 0) = false := by simp [h0]
                            go_upto_region 39 with fail
                            go_quiet (fail)
                            go_wp2_with fail
                            go_roundw
                            case rel => exact ⟨m + 1, l, rfl, by go_num, by omega, NEXT.out _ ((Kept.refl _ _).drewN _) ⟨fun z => absurd z h76, fun z => absurd z h0⟩⟩
                            case measure => simp [intOf] <;> omega
                    · have m1 : ¬ (m : Int) < (k : Int) := by omega
                      have vT : v = true := by
                        refine H.out.2.2.1.iff.2 ⟨AT.out.2, BB.out, CC.out, ?_⟩
                        have : R.length = m := by have := H.out.2.2.2.2; omega
                        rw [this]
                        exact S.out.2.2
                      subst vT
                      go_wp2_with fail
                      go_ret
                      exact ⟨rfl, S.out.2.1⟩
end Go.Proofs.Ytginpoofeliimaa
