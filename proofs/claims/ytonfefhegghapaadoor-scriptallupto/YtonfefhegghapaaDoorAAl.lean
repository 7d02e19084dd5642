import Derived.Test.YtonfefhegghapaaDoorAPhJ
namespace Go.Proofs.YtonfefhegghapaaDoor
open Go.RowKit 

def EQ (L : List Sm) (i : Nat) (RV RL : List Rw) : Prop := ∀ (m : Nat) (x : Sm), i ≤ m → L[m]? = some x → (∃ xs, RV[m]? = some ⟨x.va, x.vn, x.vc, xs⟩ ∧ x.vn ≤ 33554432) ∧ ∃ xs, RL[m]? = some ⟨x.la, x.ln, x.lc, xs⟩ ∧ x.ln ≤ 33554432
theorem PX.eq {w W : World} {p : Option Addr} {k c : Nat} {L : List Sm} {ss : List St} (h : PX w W p k c L ss) (f : FI k ss) : EQ L 0 (List.zipWith rwV L ss) (List.zipWith rwL L ss) := fun m x _ hx => by
  have hm := (List.getElem?_eq_some_iff.1 hx).1
  obtain ⟨s, hs⟩ : ∃ s, ss[m]? = some s := ⟨_, List.getElem?_eq_getElem (by have := h.len; have := h.slen; omega)⟩
  have q := h.so m x s hx hs
  have z := (f m s hs).1
  refine ⟨⟨Lib.byteCells s.val, by rw [List.getElem?_zipWith, hx, hs]; rfl, by rw [q.vl]; exact z.1⟩, ⟨intC s.l, by rw [List.getElem?_zipWith, hx, hs]; rfl, by rw [q.ll]; exact z.2⟩⟩
theorem EQ.setV {L : List Sm} {i : Nat} {RV RL : List Rw} (h : EQ L (i + 1) RV RL) (r : Rw) : EQ L (i + 1) (RV.set i r) RL := fun m x hm hx => by
  obtain ⟨⟨xs, e, z⟩, q⟩ := h m x hm hx
  exact ⟨⟨xs, by rw [List.getElem?_set_ne (by omega)]; exact e, z⟩, q⟩
theorem EQ.setL {L : List Sm} {i : Nat} {RV RL : List Rw} (h : EQ L (i + 1) RV RL) (r : Rw) : EQ L (i + 1) RV (RL.set i r) := fun m x hm hx => by
  obtain ⟨q, ⟨xs, e, z⟩⟩ := h m x hm hx
  exact ⟨q, ⟨xs, by rw [List.getElem?_set_ne (by omega)]; exact e, z⟩⟩
theorem PH.cells {w wr : World} {p : Option Addr} {k c : Nat} {L : List Sm} {i : Nat} {q1 q2 : Option Addr} {d1 d2 : Nat} {RV RL : List Rw} (h : PH w wr p k c L i q1 d1 i q2 d2 RV RL) (hl : L.length = k) {m : Nat} {x : Sm} (hx : L[m]? = some x) : ∃ g, p = some ⟨g, 0, none⟩ ∧ ∀ (j : Nat) (v : Value), x.cs[j]? = some v → wr.cell? ⟨g, m * 6 + j, none⟩ = some v := by
  obtain ⟨hi, ex⟩ := List.getElem?_eq_some_iff.1 hx
  rcases h.row.2 with ⟨_, hn⟩ | ⟨g, cap, cur, z, _⟩
  · omega
  · have z : Value.slice p k c = .slice (some ⟨g, 0, none⟩) k cap := z
    injection z with z1 _ z3
    subst z1
    have hc := h.row.cells (g := g) rfl
    refine ⟨g, rfl, fun j v hv => ?_⟩
    have hj : j < 6 := by
      obtain ⟨h1, _⟩ := Array.getElem?_eq_some_iff.1 hv
      have : x.cs.size = 6 := rfl
      omega
    have := hc (m * 6 + j) v (by rw [scs_get _ m hi j hj, ex]; exact hv)
    rw [Addr.add_none, Nat.zero_add] at this
    exact this
theorem Tryd.info35 : (Tryd.prog.info? 35).map (fun i => (i.zero, i.size, i.bytes)) = some (some (.slice none 0 0), 1, 24) := by kernel_rfl
theorem Tryd.info36 : (Tryd.prog.info? 36).map (fun i => (i.zero, i.size, i.bytes)) = some (some (.slice none 0 0), 1, 24) := by kernel_rfl
theorem src_one {t e : TypeId} (ht : Tryd.prog.underlying t = some (.slice e)) (w : World) (z : Value) (hz : z.oneCell' = true) : Src Tryd.prog 1 t (.slice (some ⟨w.heap.size, 0, none⟩) 1 1) 1 [z] (w.alloc (.cells #[z] e)) :=
  Src.ofSlice _ ht ⟨w.heap.size, 0, none⟩ 1 1 [z] rfl (fun j u hj => by
    have : j = 0 := by
      have := (List.getElem?_eq_some_iff.1 hj).1
      simp at this
      exact this
    subst this
    have e : u = z := by simpa using hj.symm
    rw [e, Addr.add_none]
    exact cell_blk (alloc_new w _) 0 rfl) (fun v hv => by
    have e : v = z := by simpa using hv
    rw [e]
    exact hz)
theorem PH.at3 {w wr : World} {p : Option Addr} {k c : Nat} {L : List Sm} {q1 q2 : Option Addr} {d1 d2 : Nat} {RV RL : List Rw} (h : PH w wr p k c L k q1 d1 k q2 d2 RV RL) {i : Nat} (hi : i < k) : ∃ (g1 g2 : Nat) (r1 r2 : Rw), q1 = some ⟨g1, 0, none⟩ ∧ q2 = some ⟨g2, 0, none⟩ ∧ r1.n ≤ 33554502 ∧ r2.n ≤ 33554502 ∧ wr.cell? ⟨g1, i, none⟩ = some (.slice r1.p r1.n r1.c) ∧ wr.cell? ⟨g2, i, none⟩ = some (.slice r2.p r2.n r2.c) ∧ (∀ j, j < r1.n → ∃ h1, r1.p = some ⟨h1, 0, none⟩ ∧ wr.cell? ⟨h1, j, none⟩ = some (.int .u8 ((i : Int) % 256))) ∧ (∀ j, j < r2.n → ∃ h1, r2.p = some ⟨h1, 0, none⟩ ∧ wr.cell? ⟨h1, j, none⟩ = some (.int .i64 (-100 - (i : Int)))) := by
  obtain ⟨g1, e1, c1⟩ := own_at h.v1 (by omega)
  obtain ⟨g2, e2, c2⟩ := own_at h.v2 (by omega)
  obtain ⟨r1, hr1⟩ : ∃ r, RV[i]? = some r := ⟨_, List.getElem?_eq_getElem (by rw [h.lv]; exact hi)⟩
  obtain ⟨r2, hr2⟩ : ∃ r, RL[i]? = some r := ⟨_, List.getElem?_eq_getElem (by rw [h.ll]; exact hi)⟩
  refine ⟨g1, g2, r1, r2, e1, e2, h.bv i r1 hr1, h.bl i r2 hr2, (c1 i (slV r1) ?_).1, (c2 i (slV r2) ?_).1, fun j hj => ?_, fun j hj => ?_⟩
  · rw [List.getElem?_map, List.getElem?_take_of_lt hi, hr1]
    rfl
  · rw [List.getElem?_map, List.getElem?_take_of_lt hi, hr2]
    rfl
  · have o := h.rv.own i r1 hr1
    obtain ⟨g, e, cc⟩ := own_at o (by omega)
    have hl : r1.xs.length = r1.n := by have := o.1; omega
    refine ⟨g, e, ?_⟩
    obtain ⟨v, hv⟩ : ∃ v, r1.xs[j]? = some v := ⟨_, List.getElem?_eq_getElem (by omega)⟩
    rw [(cc j v hv).1, h.fv i r1 hr1 v (List.mem_of_getElem? hv)]
  · have o := h.rl.own i r2 hr2
    obtain ⟨g, e, cc⟩ := own_at o (by omega)
    have hl : r2.xs.length = r2.n := by have := o.1; omega
    refine ⟨g, e, ?_⟩
    obtain ⟨v, hv⟩ : ∃ v, r2.xs[j]? = some v := ⟨_, List.getElem?_eq_getElem (by omega)⟩
    rw [(cc j v hv).1, h.fl i r2 hr2 v (List.mem_of_getElem? hv)]
set_option maxRecDepth 100000 in
set_option maxHeartbeats 4000000 in
theorem hAlone {w W : World} {p : Option Addr} {k c : Nat} {L : List Sm} {ss : List St} (P : PX w W p k c L ss) (o : Ord L) (hk : k ≤ 4096) (hz : FI 0 ss) : Calls Tryd.prog 23 #[.slice p k c] W fun o w' => o = .returned (.bool true) ∧ Kept (fun _ => False) w w' := by
  have S0 : Hid (PX w W p k c L ss ∧ FI 0 ss) := ⟨P, hz⟩
  have OO : Hid (Ord L) := o
  have KL : Hid (L.length = k) := P.len
  clear P hz o
  go_enter Tryd.func23, Tryd.ntmps23
  go_upto_region 2 with fail
  go_cut [4] from 15 (fun u4 wc => u4 = .slice none 0 0 ∧ wc = W)
  case first =>
    go_wp2_with fail
    go_meet
    exact ⟨rfl, rfl⟩
  case rest =>
  obtain ⟨rfl, hwc⟩ := hcut
  subst hwc
  rename_i K1 hK1
  refine hK1 _ _ ?_
  refine wp_seq_k fun K2 hK2 => ?_
  go_cut [5, 6, 7] from 15 (fun _ _ _ wc => ∃ ss1, Hid (PX w wc p k c L ss1 ∧ FI k ss1))
  case first =>
    go_upto_region 4 with fail
    go_loopw [5, 6, 7] (fun u5 _ _ wr => ∃ (i : Nat) (ss1 : List St), u5 = .int .i64 (i : Int) ∧ i ≤ k ∧ Hid (PX w wr p k c L ss1 ∧ FI i ss1)) (fun u5 _ _ _ => k - (intOf u5).toNat)
    case atStart => exact ⟨0, ss, rfl, Nat.zero_le _, S0⟩
    case round =>
      clear S0
      obtain ⟨i, ss1, rfl, hi, S⟩ := hrel
      obtain ⟨wo, hwo⟩ : ∃ wo, wo = wr := ⟨_, rfl⟩
      rw [← hwo] at S ⊢
      clear hwo
      by_cases hlt : i < k
      · have lti : (i : Int) < (k : Int) := by omega
        obtain ⟨x, hx⟩ : ∃ x, L[i]? = some x := ⟨_, List.getElem?_eq_getElem (by rw [KL.out]; exact hlt)⟩
        obtain ⟨pb, ep, _⟩ := S.out.1.cells hx
        subst ep
        have MM0 : ∀ (V : World) (ss2 : List St), PX w V (some ⟨pb, 0, none⟩) k c L ss2 → ∀ (j : Nat) (v : Value), x.cs[j]? = some v → V.cell? ⟨pb, i * 6 + j, none⟩ = some v := fun V ss2 P => by
          obtain ⟨g, e, q⟩ := P.cells hx
          obtain rfl : pb = g := by simpa using e
          exact q
        have LN : Hid (∀ (V : World) (ss2 : List St), PX w V (some ⟨pb, 0, none⟩) k c L ss2 → ∃ s, ss2[i]? = some s ∧ SO w.heap.size V x s) := fun V ss2 P => by
          obtain ⟨s, hs⟩ : ∃ s, ss2[i]? = some s := ⟨_, List.getElem?_eq_getElem (by rw [P.slen]; exact hlt)⟩
          exact ⟨s, hs, P.so i x s hx hs⟩
        have HX : Hid (L[i]? = some x) := hx
        clear hx
        obtain ⟨kind, a, b, key, va, vn, vc, la, ln, lc⟩ := x
        have MM : Hid (∀ (V : World) (ss2 : List St), PX w V (some ⟨pb, 0, none⟩) k c L ss2 → V.cell? ⟨pb, i * 6 + 4, none⟩ = some (.slice va vn vc) ∧ V.cell? ⟨pb, i * 6 + 5, none⟩ = some (.slice la ln lc)) := fun V ss2 P => ⟨MM0 V ss2 P 4 _ rfl, MM0 V ss2 P 5 _ rfl⟩
        clear MM0
        go_upto_region 7 with fail
        go_loopw [6] (fun u6 wr => ∃ (j : Nat) (ss2 : List St), u6 = .int .i64 (j : Int) ∧ j ≤ vn ∧ Hid (PX w wr (some ⟨pb, 0, none⟩) k c L ss2 ∧ FV i j ss2)) (fun u6 _ => vn - (intOf u6).toNat)
        case atStart => exact ⟨0, ss1, rfl, Nat.zero_le _, S.out.1, S.out.2, fun s _ q hq => absurd hq (Nat.not_lt_zero _)⟩
        case round =>
          clear S
          obtain ⟨j, ss2, rfl, hj, S⟩ := hrel
          obtain ⟨wo, hwo⟩ : ∃ wo, wo = wr := ⟨_, rfl⟩
          rw [← hwo] at S ⊢
          clear hwo
          have m4 := (MM.out _ _ S.out.1).1
          by_cases hjt : j < vn
          · have ltj : (j : Int) < (vn : Int) := by omega
            obtain ⟨s, hs, so⟩ := LN.out _ _ S.out.1
            obtain ⟨vb, eva, hc⟩ := own_at so.vr (by show 0 < vn; omega)
            have eva : va = some ⟨vb, 0, none⟩ := eva
            subst eva
            have vl : vn = s.val.length := so.vl
            obtain ⟨v0, hv0⟩ : ∃ v0, s.val[j]? = some v0 := ⟨_, List.getElem?_eq_getElem (by omega)⟩
            obtain ⟨c0, f0⟩ := hc j (.int .u8 (v0.toNat : Int)) (by unfold Lib.byteCells; rw [List.getElem?_map, hv0]; rfl)
            have e8 : ((UInt8.ofNat i).toNat : Int) = (i : Int) % 256 := by rw [UInt8.toNat_ofNat']; omega
            have N0 := S.out.1.setV OO.out HX.out hs rfl (j := j) (UInt8.ofNat i)
            rw [e8] at N0
            have N : Hid (PX w (wo.setCell ⟨vb, j, none⟩ (.int .u8 ((i : Int) % 256))) (some ⟨pb, 0, none⟩) k c L (ss2.set i { s with val := s.val.set j (UInt8.ofNat i) }) ∧ FV i (j + 1) (ss2.set i { s with val := s.val.set j (UInt8.ofNat i) })) := ⟨N0, S.out.2.set hs⟩
            have vz : vn ≤ 33554432 := by rw [vl]; exact (S.out.2.1 i s hs).1.1
            clear N0 e8
            clear hc so hs hv0 vl
            go_wp2_with fail
            go_roundw
            case rel => exact ⟨j + 1, _, by go_num, by omega, N⟩
            case measure => simp [intOf] <;> omega
          · have ltj : ¬ (j : Int) < (vn : Int) := by omega
            have S3 : Hid (PX w wo (some ⟨pb, 0, none⟩) k c L ss2 ∧ FW i 0 ss2) := ⟨S.out.1, S.out.2.done (fun s hs => by
              obtain ⟨s', hs', so⟩ := LN.out _ _ S.out.1
              rw [hs] at hs'
              obtain rfl : s = s' := by simpa using hs'
              have q : vn = s.val.length := so.vl
              omega)⟩
            clear S
            go_upto_region 11 with fail
            clear m4
            go_loopw [7] (fun u7 wr => ∃ (j : Nat) (ss2 : List St), u7 = .int .i64 (j : Int) ∧ j ≤ ln ∧ Hid (PX w wr (some ⟨pb, 0, none⟩) k c L ss2 ∧ FW i j ss2)) (fun u7 _ => ln - (intOf u7).toNat)
            case atStart => exact ⟨0, ss2, rfl, Nat.zero_le _, S3⟩
            case round =>
              clear S3
              obtain ⟨j2, ss3, rfl, hj2, S⟩ := hrel
              obtain ⟨wo, hwo⟩ : ∃ wo, wo = wr := ⟨_, rfl⟩
              rw [← hwo] at S ⊢
              clear hwo
              have m5 := (MM.out _ _ S.out.1).2
              by_cases hjt2 : j2 < ln
              · have ltj2 : (j2 : Int) < (ln : Int) := by omega
                obtain ⟨s, hs, so⟩ := LN.out _ _ S.out.1
                obtain ⟨vb, eva, hc⟩ := own_at so.lr (by show 0 < ln; omega)
                have eva : la = some ⟨vb, 0, none⟩ := eva
                subst eva
                have vl : ln = s.l.length := so.ll
                obtain ⟨v0, hv0⟩ : ∃ v0, s.l[j2]? = some v0 := ⟨_, List.getElem?_eq_getElem (by omega)⟩
                obtain ⟨c0, f0⟩ := hc j2 (.int .i64 v0) (by unfold intC; rw [List.getElem?_map, hv0]; rfl)
                have N : Hid (PX w (wo.setCell ⟨vb, j2, none⟩ (.int .i64 (-100 - (i : Int)))) (some ⟨pb, 0, none⟩) k c L (ss3.set i { s with l := s.l.set j2 (-100 - (i : Int)) }) ∧ FW i (j2 + 1) (ss3.set i { s with l := s.l.set j2 (-100 - (i : Int)) })) := ⟨S.out.1.setL OO.out HX.out hs rfl _, S.out.2.set hs⟩
                have vz : ln ≤ 33554432 := by rw [vl]; exact (S.out.2.1 i s hs).1.2
                have w1 : wrap64 (-100 - (i : Int)) = -100 - (i : Int) := by rw [← w64, IntKind.wrap_i64]; omega
                clear hc so hs hv0 vl
                go_wp2_with fail
                go_roundw
                case rel => exact ⟨j2 + 1, _, by go_num, by omega, N⟩
                case measure => simp [intOf] <;> omega
              · have ltj2 : ¬ (j2 : Int) < (ln : Int) := by omega
                have N : Hid (PX w wo (some ⟨pb, 0, none⟩) k c L ss3 ∧ FI (i + 1) ss3) := ⟨S.out.1, S.out.2.done (fun s hs => by
                  obtain ⟨s', hs', so⟩ := LN.out _ _ S.out.1
                  rw [hs] at hs'
                  obtain rfl : s = s' := by simpa using hs'
                  have q : ln = s.l.length := so.ll
                  omega)⟩
                clear S
                go_wp2_with fail
                go_roundw
                case rel => exact ⟨i + 1, ss3, by go_num, by omega, N⟩
                case measure => simp [intOf] <;> omega
      · have lti : ¬ (i : Int) < (k : Int) := by omega
        obtain rfl : i = k := by omega
        go_wp2_with fail
        go_meet
        exact ⟨ss1, S⟩
  case rest =>
  obtain ⟨ss1, S1⟩ := hcut
  have SP : Hid (PH w wc p k c L 0 none 0 0 none 0 (List.zipWith rwV L ss1) (List.zipWith rwL L ss1) ∧ EQ L 0 (List.zipWith rwV L ss1) (List.zipWith rwL L ss1)) := ⟨S1.out.1.ph OO.out S1.out.2, S1.out.1.eq S1.out.2⟩
  clear S1 S0
  refine hK2 _ _ ?_
  refine wp_seq_k fun K3 hK3 => ?_
  go_cut [3, 4, 8, 9, 10, 11] from 59 (fun u3 u4 _ _ _ _ w2 => ∃ (q1 : Option Addr) (d1 : Nat) (q2 : Option Addr) (d2 : Nat) (RV RL : List Rw), u3 = .slice q1 k d1 ∧ u4 = .slice q2 k d2 ∧ Hid (PH w w2 p k c L k q1 d1 k q2 d2 RV RL))
  case first =>
    go_upto_region 15 with fail
    go_loopw [3, 4, 8, 9, 10, 11] (fun u3 u4 u8 _ _ _ wr => ∃ (i : Nat) (q1 : Option Addr) (d1 : Nat) (q2 : Option Addr) (d2 : Nat) (RV RL : List Rw), u3 = .slice q1 i d1 ∧ u4 = .slice q2 i d2 ∧ u8 = .int .i64 (i : Int) ∧ i ≤ k ∧ Hid (PH w wr p k c L i q1 d1 i q2 d2 RV RL ∧ EQ L i RV RL)) (fun _ _ u8 _ _ _ _ => k - (intOf u8).toNat)
    case atStart => exact ⟨0, none, 0, none, 0, _, _, rfl, rfl, rfl, Nat.zero_le _, SP⟩
    case round =>
      clear SP
      obtain ⟨i, q1, d1, q2, d2, RV, RL, rfl, rfl, rfl, hi, S⟩ := hrel
      obtain ⟨wo, hwo⟩ : ∃ wo, wo = wr := ⟨_, rfl⟩
      rw [← hwo] at S ⊢
      clear hwo
      by_cases hlt : i < k
      · have lti : (i : Int) < (k : Int) := by omega
        obtain ⟨x, hx⟩ : ∃ x, L[i]? = some x := ⟨_, List.getElem?_eq_getElem (by rw [KL.out]; exact hlt)⟩
        obtain ⟨pb, ep, M0⟩ := S.out.1.cells KL.out hx
        subst ep
        obtain ⟨⟨xs0, hv0, vz0⟩, ⟨ys0, hl0, lz0⟩⟩ := S.out.2 i x (Nat.le_refl _) hx
        have E1 : EQ L (i + 1) RV RL := fun m x hm hx => S.out.2 m x (by omega) hx
        obtain ⟨kind, a, b, key, va, vn, vc, la, ln, lc⟩ := x
        have m4 := M0 4 (.slice va vn vc) rfl
        have m5 := M0 5 (.slice la ln lc) rfl
        have T0 : Hid (PH w wo (some ⟨pb, 0, none⟩) k c L i q1 d1 i q2 d2 RV RL ∧ EQ L (i + 1) RV RL ∧ RV[i]? = some ⟨va, vn, vc, xs0⟩ ∧ RL[i]? = some ⟨la, ln, lc, ys0⟩ ∧ vn ≤ 33554432 ∧ ln ≤ 33554432) := ⟨S.out.1, E1, hv0, hl0, vz0, lz0⟩
        clear S M0 hx hv0 vz0 hl0 lz0 E1
        go_upto_region 20 with fail
        clear m4 m5
        go_loopw [9, 10, 11] (fun u9 u10 u11 wr => ∃ (j : Nat) (a : Option Addr) (n e : Nat) (a' : Option Addr) (n' e' : Nat) (xs ys : List Value) (RV RL : List Rw), u9 = .slice a n e ∧ u10 = .slice a' n' e' ∧ u11 = .int .i64 (j : Int) ∧ j ≤ 70 ∧ n ≤ 33554432 + j ∧ n' ≤ 33554432 + j ∧ Hid (PH w wr (some ⟨pb, 0, none⟩) k c L i q1 d1 i q2 d2 RV RL ∧ EQ L (i + 1) RV RL ∧ RV[i]? = some ⟨a, n, e, xs⟩ ∧ RL[i]? = some ⟨a', n', e', ys⟩)) (fun _ _ u11 _ => 70 - (intOf u11).toNat)
        case atStart => exact ⟨0, va, vn, vc, la, ln, lc, xs0, ys0, RV, RL, rfl, rfl, rfl, by omega, T0.out.2.2.2.2.1, T0.out.2.2.2.2.2, T0.out.1, T0.out.2.1, T0.out.2.2.1, T0.out.2.2.2.1⟩
        case round =>
          clear T0
          obtain ⟨j, a1, n, e, a2, n', e', xs, ys, RV, RL, rfl, rfl, rfl, hj, nz, nz', S⟩ := hrel
          obtain ⟨wo, hwo⟩ : ∃ wo, wo = wr := ⟨_, rfl⟩
          rw [← hwo] at S ⊢
          clear hwo
          by_cases hjt : j < 70
          · have ltj : (j : Int) < 70 := by omega
            have HV : Hid (RV[i]? = some ⟨a1, n, e, xs⟩ ∧ RL[i]? = some ⟨a2, n', e', ys⟩ ∧ EQ L (i + 1) RV RL) := ⟨S.out.2.2.1, S.out.2.2.2, S.out.2.1⟩
            have A1 : Hid (PH w (wo.alloc (.cells #[.int .u8 ((i : Int) % 256)] 5)) (some ⟨pb, 0, none⟩) k c L i q1 d1 i q2 d2 RV RL) := S.out.1.k0 ((Kept.refl _ _).alloc _)
            have SR : Hid (Src Tryd.prog 1 35 (.slice (some ⟨wo.heap.size, 0, none⟩) 1 1) 1 [.int .u8 ((i : Int) % 256)] (wo.alloc (.cells #[.int .u8 ((i : Int) % 256)] 5))) := by
              have q := src_byte wo (i % 256) (by omega)
              rw [show ((i % 256 : Nat) : Int) = (i : Int) % 256 by omega] at q
              exact q
            have LN : Hid ((n + 1 ≤ maxLen ∧ ((n + 1) + (n + 1) / 4 + 192) * 1 ≤ 281474976710656) ∧ (n' + 1 ≤ maxLen ∧ ((n' + 1) + (n' + 1) / 4 + 192) * 8 ≤ 281474976710656)) := by unfold maxLen; exact ⟨⟨by omega, by omega⟩, ⟨by omega, by omega⟩⟩
            have w1 : wrap64 (-100 - (i : Int)) = -100 - (i : Int) := by rw [← w64, IntKind.wrap_i64]; omega
            clear S
            go_upto_region 23 with
              (first
                | (at_builtin; refine wpList_append_all _ rfl (.tmp 79) (.tmp 82) 35 5 35 _ 1 1 rfl Tryd.underlying35 Tryd.info5 rfl w.heap.size (.slice a1 n e) n xs rfl (A1.out.rv.own i _ HV.out.1) _ 1 [.int .u8 ((i : Int) % 256)] rfl SR.out LN.out.1.1 LN.out.1.2 A1.out.kept.size ?_; intro p9 c9 w9 ho hg hn9)
                | fail)
            have B0 : Hid (PH w w9 (some ⟨pb, 0, none⟩) k c L i q1 d1 i q2 d2 (RV.set i ⟨p9, n + 1, c9, xs ++ [.int .u8 ((i : Int) % 256)]⟩) RL) := A1.out.growV HV.out.1 (Nat.le_refl _) (by omega) ho.out hg.out hn9.out
            have B1 : Hid (PH w (w9.alloc (.cells #[.int .i64 (-100 - (i : Int))] 3)) (some ⟨pb, 0, none⟩) k c L i q1 d1 i q2 d2 (RV.set i ⟨p9, n + 1, c9, xs ++ [.int .u8 ((i : Int) % 256)]⟩) RL) := B0.out.k0 ((Kept.refl _ _).alloc _)
            have SR2 : Hid (Src Tryd.prog 1 36 (.slice (some ⟨w9.heap.size, 0, none⟩) 1 1) 1 [.int .i64 (-100 - (i : Int))] (w9.alloc (.cells #[.int .i64 (-100 - (i : Int))] 3))) := src_int w9 (-100 - (i : Int))
            clear ho hg hn9 A1 SR B0
            go_wp2_with
              (first
                | (at_builtin; refine wpList_append_all _ rfl (.tmp 84) (.tmp 87) 36 3 36 _ 1 8 rfl Tryd.underlying36 Tryd.info3 rfl w.heap.size (.slice a2 n' e') n' ys rfl (B1.out.rl.own i _ HV.out.2.1) _ 1 [.int .i64 (-100 - (i : Int))] rfl SR2.out LN.out.2.1 LN.out.2.2 B1.out.kept.size ?_; intro p8 c8 w8 ho hg hn8)
                | fail)
            have N : Hid (PH w w8 (some ⟨pb, 0, none⟩) k c L i q1 d1 i q2 d2 (RV.set i ⟨p9, n + 1, c9, xs ++ [.int .u8 ((i : Int) % 256)]⟩) (RL.set i ⟨p8, n' + 1, c8, ys ++ [.int .i64 (-100 - (i : Int))]⟩) ∧ EQ L (i + 1) (RV.set i ⟨p9, n + 1, c9, xs ++ [.int .u8 ((i : Int) % 256)]⟩) (RL.set i ⟨p8, n' + 1, c8, ys ++ [.int .i64 (-100 - (i : Int))]⟩) ∧ (RV.set i ⟨p9, n + 1, c9, xs ++ [.int .u8 ((i : Int) % 256)]⟩)[i]? = some ⟨p9, n + 1, c9, xs ++ [.int .u8 ((i : Int) % 256)]⟩ ∧ (RL.set i ⟨p8, n' + 1, c8, ys ++ [.int .i64 (-100 - (i : Int))]⟩)[i]? = some ⟨p8, n' + 1, c8, ys ++ [.int .i64 (-100 - (i : Int))]⟩) := ⟨B1.out.growL HV.out.2.1 (Nat.le_refl _) (by omega) ho.out hg.out hn8.out, (HV.out.2.2.setV _).setL _, List.getElem?_set_self (List.getElem?_eq_some_iff.1 HV.out.1).1, List.getElem?_set_self (List.getElem?_eq_some_iff.1 HV.out.2.1).1⟩
            clear ho hg hn8 B1 SR2 HV LN
            go_roundw
            case rel => exact ⟨j + 1, p9, n + 1, c9, p8, n' + 1, c8, _, _, _, _, rfl, rfl, by go_num, by omega, by omega, by omega, N⟩
            case measure => simp [intOf] <;> omega
          · have ltj : ¬ (j : Int) < 70 := by omega
            have HV : Hid (RV[i]? = some ⟨a1, n, e, xs⟩ ∧ RL[i]? = some ⟨a2, n', e', ys⟩ ∧ EQ L (i + 1) RV RL) := ⟨S.out.2.2.1, S.out.2.2.2, S.out.2.1⟩
            have A1 : Hid (PH w (wo.alloc (.cells #[.slice a1 n e] 35)) (some ⟨pb, 0, none⟩) k c L i q1 d1 i q2 d2 RV RL) := S.out.1.k0 ((Kept.refl _ _).alloc _)
            have SR : Hid (Src Tryd.prog 1 69 (.slice (some ⟨wo.heap.size, 0, none⟩) 1 1) 1 [.slice a1 n e] (wo.alloc (.cells #[.slice a1 n e] 35))) := src_one Tryd.underlying69 wo (.slice a1 n e) rfl
            have LN : Hid (i + 1 ≤ maxLen ∧ ((i + 1) + (i + 1) / 4 + 192) * 24 ≤ 281474976710656) := by unfold maxLen; exact ⟨by omega, by omega⟩
            clear S
            go_upto_region 25 with
              (first
                | (at_builtin; refine wpList_append_all _ rfl (.tmp 89) (.tmp 91) 69 35 69 _ 1 24 rfl Tryd.underlying69 Tryd.info35 rfl w.heap.size (.slice q1 i d1) i ((RV.take i).map slV) rfl A1.out.v1 _ 1 [.slice a1 n e] rfl SR.out LN.out.1 LN.out.2 A1.out.kept.size ?_; intro p9 c9 w9 ho hg hn9)
                | fail)
            have B0 : Hid (PH w w9 (some ⟨pb, 0, none⟩) k c L (i + 1) p9 c9 i q2 d2 RV RL) := A1.out.pushV HV.out.1 ho.out hg.out
            have B1 : Hid (PH w (w9.alloc (.cells #[.slice a2 n' e'] 36)) (some ⟨pb, 0, none⟩) k c L (i + 1) p9 c9 i q2 d2 RV RL) := B0.out.k0 ((Kept.refl _ _).alloc _)
            have SR2 : Hid (Src Tryd.prog 1 70 (.slice (some ⟨w9.heap.size, 0, none⟩) 1 1) 1 [.slice a2 n' e'] (w9.alloc (.cells #[.slice a2 n' e'] 36))) := src_one Tryd.underlying70 w9 (.slice a2 n' e') rfl
            clear ho hg hn9 A1 SR B0
            go_wp2_with
              (first
                | (at_builtin; refine wpList_append_all _ rfl (.tmp 93) (.tmp 95) 70 36 70 _ 1 24 rfl Tryd.underlying70 Tryd.info36 rfl w.heap.size (.slice q2 i d2) i ((RL.take i).map slV) rfl B1.out.v2 _ 1 [.slice a2 n' e'] rfl SR2.out LN.out.1 LN.out.2 B1.out.kept.size ?_; intro p8 c8 w8 ho hg hn8)
                | fail)
            have N : Hid (PH w w8 (some ⟨pb, 0, none⟩) k c L (i + 1) p9 c9 (i + 1) p8 c8 RV RL ∧ EQ L (i + 1) RV RL) := ⟨B1.out.pushL HV.out.2.1 ho.out hg.out, HV.out.2.2⟩
            clear ho hg hn8 B1 SR2 HV LN
            go_roundw
            case rel => exact ⟨i + 1, p9, c9, p8, c8, RV, RL, rfl, rfl, by go_num, by omega, N⟩
            case measure => simp [intOf] <;> omega
      · have lti : ¬ (i : Int) < (k : Int) := by omega
        obtain rfl : i = k := by omega
        have N : Hid (PH w wo p i c L i q1 d1 i q2 d2 RV RL) := S.out.1
        clear S
        go_wp2_with fail
        go_meet
        exact ⟨q1, d1, q2, d2, RV, RL, rfl, rfl, N⟩
  case rest =>
  obtain ⟨q1, d1, q2, d2, RV, RL, rfl, rfl, S⟩ := hcut
  clear SP
  have AT : Hid (∀ i, i < k → ∃ (g1 g2 : Nat) (r1 r2 : Rw), q1 = some ⟨g1, 0, none⟩ ∧ q2 = some ⟨g2, 0, none⟩ ∧ r1.n ≤ 33554502 ∧ r2.n ≤ 33554502 ∧ wc.cell? ⟨g1, i, none⟩ = some (.slice r1.p r1.n r1.c) ∧ wc.cell? ⟨g2, i, none⟩ = some (.slice r2.p r2.n r2.c) ∧ (∀ j, j < r1.n → ∃ h1, r1.p = some ⟨h1, 0, none⟩ ∧ wc.cell? ⟨h1, j, none⟩ = some (.int .u8 ((i : Int) % 256))) ∧ (∀ j, j < r2.n → ∃ h1, r2.p = some ⟨h1, 0, none⟩ ∧ wc.cell? ⟨h1, j, none⟩ = some (.int .i64 (-100 - (i : Int))))) := fun i hi => S.out.at3 hi
  have KE : Hid (Kept (fun _ => False) w wc) := S.out.kept
  clear S
  refine hK3 _ _ ?_
  go_upto_region 27 with fail
  go_loopw [12, 13, 14] (fun u12 _ _ wr => ∃ (i : Nat), u12 = .int .i64 (i : Int) ∧ i ≤ k ∧ wr = wc) (fun u12 _ _ _ => k - (intOf u12).toNat)
  case atStart => exact ⟨0, rfl, Nat.zero_le _, rfl⟩
  case round =>
    obtain ⟨i, rfl, hi, hwr⟩ := hrel
    subst hwr
    by_cases hlt : i < k
    · have lti : (i : Int) < (k : Int) := by omega
      obtain ⟨g1, g2, ⟨p1, n1, c1, x1⟩, ⟨p2, n2, c2, x2⟩, e1, e2, z1, z2, m1, m2, F1, F2⟩ := AT.out i hlt
      have z1 : n1 ≤ 33554502 := z1
      have z2 : n2 ≤ 33554502 := z2
      subst e1 e2
      have G1 : Hid (∀ j, j < n1 → ∃ h1, p1 = some ⟨h1, 0, none⟩ ∧ wr.cell? ⟨h1, j, none⟩ = some (.int .u8 ((i : Int) % 256))) := F1
      have G2 : Hid (∀ j, j < n2 → ∃ h1, p2 = some ⟨h1, 0, none⟩ ∧ wr.cell? ⟨h1, j, none⟩ = some (.int .i64 (-100 - (i : Int)))) := F2
      have m1 : wr.cell? ⟨g1, i, none⟩ = some (.slice p1 n1 c1) := m1
      have m2 : wr.cell? ⟨g2, i, none⟩ = some (.slice p2 n2 c2) := m2
      have w1 : wrap64 (-100 - (i : Int)) = -100 - (i : Int) := by rw [← w64, IntKind.wrap_i64]; omega
      clear F1 F2
      go_upto_region 30 with fail
      go_loopw [13] (fun u13 wz => ∃ (j : Nat), u13 = .int .i64 (j : Int) ∧ j ≤ n1 ∧ wz = wr) (fun u13 _ => n1 - (intOf u13).toNat)
      case atStart => exact ⟨0, rfl, Nat.zero_le _, rfl⟩
      case round =>
        obtain ⟨j, rfl, hj, hwz⟩ := hrel
        subst hwz
        by_cases hjt : j < n1
        · have ltj : (j : Int) < (n1 : Int) := by omega
          obtain ⟨h1, ep, cc⟩ := G1.out j hjt
          subst ep
          go_wp2_with fail
          go_roundw
          case rel => exact ⟨j + 1, by go_num, by omega, by trivial⟩
          case measure => simp [intOf] <;> omega
        · have ltj : ¬ (j : Int) < (n1 : Int) := by omega
          go_upto_region 35 with fail
          go_loopw [14] (fun u14 wz => ∃ (j : Nat), u14 = .int .i64 (j : Int) ∧ j ≤ n2 ∧ wz = wr) (fun u14 _ => n2 - (intOf u14).toNat)
          case atStart => exact ⟨0, rfl, Nat.zero_le _, rfl⟩
          case round =>
            obtain ⟨j2, rfl, hj2, hwz⟩ := hrel
            subst hwz
            by_cases hjt2 : j2 < n2
            · have ltj2 : (j2 : Int) < (n2 : Int) := by omega
              obtain ⟨h1, ep, cc⟩ := G2.out j2 hjt2
              subst ep
              go_wp2_with fail
              go_roundw
              case rel => exact ⟨j2 + 1, by go_num, by omega, by trivial⟩
              case measure => simp [intOf] <;> omega
            · have ltj2 : ¬ (j2 : Int) < (n2 : Int) := by omega
              go_wp2_with fail
              go_roundw
              case rel => exact ⟨i + 1, by go_num, by omega, by trivial⟩
              case measure => simp [intOf] <;> omega
    · have lti : ¬ (i : Int) < (k : Int) := by omega
      go_wp2_with fail
      go_ret
      exact ⟨rfl, KE.out⟩
end Go.Proofs.YtonfefhegghapaaDoor
