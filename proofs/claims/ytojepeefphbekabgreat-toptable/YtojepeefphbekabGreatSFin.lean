import Derived.Test.YtojepeefphbekabGreatSPre
import Derived.Test.YtojepeefphbekabGreatPSim2
import Derived.Deep.CutRange
namespace Go.Proofs.YtojepeefphbekabGreat
open Go.RowKit 

/-- A table's rows are in bounds. -/
theorem plc_neg : ∀ (vs : List Uv) (k : ByteArray) (g : Int × Int) (s : Nat), plc vs k g s < 0 → plc vs k g s = -1
  | [], _, _, _, _ => rfl
  | v :: vs, k, g, s, h => by
    have e : plc (v :: vs) k g s = if isAt k g v = true then (s : Int) else plc vs k g (s + 1) := rfl
    rw [e] at h ⊢
    split
    · rename_i h2
      rw [if_pos h2] at h
      omega
    · rename_i h2
      rw [if_neg h2] at h
      exact plc_neg vs k g (s + 1) h
theorem FreshL.trans {w : World} {L L' L2 : List Ut} (h : FreshL w L L') (h' : ∀ u ∈ L2, ∃ v ∈ L', v.2.2.2.2.1 = u.2.2.2.2.1) : FreshL w L L2 := fun u hu k hk => by
  obtain ⟨v, hv, e⟩ := h' u hu
  exact h v hv k (by rw [e]; exact hk)
/-- What is left when a tag was finalized. -/
def finS (d : Int) (vs : List Uv) (k : ByteArray) (g : Int × Int) : List Uv := if tc g (nth (finF k vs) d) < 0 then vs else leftV (addF vs k g) k (nth (finF k (addF vs k g)) d)
theorem finS_no {d : Int} {vs : List Uv} {k : ByteArray} {g : Int × Int} (h : tc g (nth (finF k vs) d) < 0) : finS d vs k g = vs := by unfold finS; rw [if_pos h]
theorem finS_yes {d : Int} {vs : List Uv} {k : ByteArray} {g : Int × Int} (h : ¬ tc g (nth (finF k vs) d) < 0) : finS d vs k g = leftV (addF vs k g) k (nth (finF k (addF vs k g)) d) := by unfold finS; rw [if_neg h]
set_option maxRecDepth 100000 in
set_option maxHeartbeats 16000000 in
/-- A tag was finalized. -/
theorem sFin (b0 tb : Nat) (delta : Int) (p : Option Addr) (n c : Nat) (L : List Ut) (vs : List Uv) (key : ByteArray) (x y : Int) (w : World) (h : RTab b0 w tb delta p n c L vs) (hn : n < 2199023255552) (h0 : 0 ≤ delta) (hb : b0 ≤ w.heap.size) :
    Calls Tryz.prog 26 #[.pointer (some ⟨tb, 0, none⟩), .string key, .agg #[.int .i64 x, .int .i64 y]] w fun o w' => o = .returned (.tuple #[]) ∧ RMv b0 w w' tb delta p L (finS delta vs key (x, y)) := by
  obtain ⟨W, hW⟩ : ∃ W, W = w.alloc (.cells #[.int .i64 x, .int .i64 y] 31) := ⟨_, rfl⟩
  have KZ : Kept (fun _ => False) w W := by rw [hW]; exact k0_alloc _ _
  have H : Hid (RTab b0 w tb delta p n c L vs ∧ W.heap[w.heap.size]? = some (.cells #[.int .i64 x, .int .i64 y] 31 (0, 0)) ∧ Kept (fun _ => False) w W ∧ n < 2199023255552 ∧ 0 ≤ delta ∧ b0 ≤ w.heap.size) := ⟨h, by rw [hW]; exact heap_alloc_new _ _, KZ, hn, h0, hb⟩
  have EW : Hid (W = w.alloc (.cells #[.int .i64 x, .int .i64 y] 31)) := hW
  obtain ⟨⟨fx0, fy0⟩, hfl⟩ : ∃ fl, fl = nth (finF key vs) delta := ⟨_, rfl⟩
  have RF : Hid (∀ V, Kept (fun _ => False) w V → Calls Tryz.prog 16 #[.pointer (some ⟨tb, 0, none⟩), .string key] V fun o w' => o = .returned (.agg #[.int .i64 fx0, .int .i64 fy0]) ∧ Kept (fun _ => False) V w') := by
    intro V K
    have := rFloorV b0 tb delta p n c L vs key V (h.k0 K) (by omega) h0
    rw [← hfl] at this
    exact this
  obtain ⟨bb, hbb⟩ : ∃ bb, bb = decide (tc (x, y) (fx0, fy0) < 0) := ⟨_, rfl⟩
  have RB : Hid (∀ V : World, Calls Tryz.prog 29 #[.agg #[.int .i64 x, .int .i64 y], .agg #[.int .i64 fx0, .int .i64 fy0]] V fun o w' => o = .returned (.bool bb) ∧ Kept (fun _ => False) V w') := by rw [hbb]; exact fun V => rBelow x y fx0 fy0 V
  obtain ⟨pv, hpv⟩ : ∃ pv, pv = plc vs key (x, y) 0 := ⟨_, rfl⟩
  have RP : Hid (∀ V, Kept (fun _ => False) w V → Calls Tryz.prog 28 #[.pointer (some ⟨tb, 0, none⟩), .string key, .agg #[.int .i64 x, .int .i64 y]] V fun o w' => o = .returned (.int .i64 pv) ∧ Kept (fun _ => False) V w') := by rw [hpv]; exact fun V K => rPlace b0 tb delta p n c L vs key x y V (h.k0 K)
  have HP : Hid (pv = plc vs key (x, y) 0 ∧ bb = decide (tc (x, y) (nth (finF key vs) delta) < 0)) := ⟨hpv, by rw [← hfl]; exact hbb⟩
  clear h KZ hW hn h0 hb hfl hbb hpv
  go_enter Tryz.func26, Tryz.ntmps26
  go_upto_region 1 with fail
  rw [← EW.out]
  have t0 := cell_blk H.out.2.1 0 (v := .int .i64 x) rfl
  have t1 := cell_blk H.out.2.1 1 (v := .int .i64 y) rfl
  go_cut [15] (fun u wc => u = .bool bb ∧ Hid (Kept (fun _ => False) W wc))
  case first =>
    go_region_held3 (fun V => V.cell? ⟨w.heap.size, 0, none⟩ = some (.int .i64 x) ∧ V.cell? ⟨w.heap.size, 1, none⟩ = some (.int .i64 y)) (first | go_keep)
      (first
        | (go_at_call 16; refine (RF.out W.drew (H.out.2.2.1.and0 (Kept.refl _ _).drew)).mono ?_; rintro o w2 ⟨rfl, K2'⟩
           have K2 : Hid (Kept (fun _ => False) W w2) := ((Kept.refl _ _).drew).and0 K2'
           have t0 := K2.out.cell t0 (fun z => z)
           have t1 := K2.out.cell t1 (fun z => z)
           clear K2')
        | (go_at_call 29; refine (RB.out _).mono ?_; rintro o w3 ⟨rfl, K3⟩
           have K4 : Hid (Kept (fun _ => False) W w3) := K2.out.and0 K3
           have t0 := K3.cell t0 (fun z => z)
           have t1 := K3.cell t1 (fun z => z)
           clear K3)
        | fail)
    all_goals go_wp2_with fail
    all_goals go_meet
    all_goals refine ⟨rfl, ?_⟩
    all_goals first | exact K4.out | exact K4.out.drew | exact K4.out.drew.drew | exact K4.out.drewN _
  case rest =>
    obtain ⟨rfl, Q⟩ := hcut
    clear t0 t1
    have PC0 : Hid (Kept (fun _ => False) w wc ∧ wc.heap[w.heap.size]? = some (.cells #[.int .i64 x, .int .i64 y] 31 (0, 0))) := ⟨H.out.2.2.1.and0 Q.out, Q.out.get H.out.2.1 (fun z => z)⟩
    clear Q
    cases bb
    · have NB : Hid (¬ tc (x, y) (nth (finF key vs) delta) < 0) := of_decide_eq_false HP.out.2.symm
      have t0 := cell_blk PC0.out.2 0 (v := .int .i64 x) rfl
      have t1 := cell_blk PC0.out.2 1 (v := .int .i64 y) rfl
      go_wp2_with fail
      refine (RP.out wc PC0.out.1).mono ?_
      rintro o w6 ⟨rfl, K6⟩
      have PC : Hid (Kept (fun _ => False) w w6 ∧ w6.heap[w.heap.size]? = some (.cells #[.int .i64 x, .int .i64 y] 31 (0, 0)) ∧ RTab b0 w6 tb delta p n c L vs) := ⟨PC0.out.1.and0 K6, K6.get PC0.out.2 (fun z => z), H.out.1.k0 (PC0.out.1.and0 K6)⟩
      clear K6 t0 t1
      by_cases hneg : pv < 0
      · have hp1 : pv = -1 := by rw [HP.out.1] at hneg ⊢; exact plc_neg _ _ _ _ hneg
        subst hp1
        have HNEG : Hid (plc vs key (x, y) 0 < 0) := by rw [← HP.out.1]; exact hneg
        clear hneg
        have t0 := cell_blk PC.out.2.1 0 (v := .int .i64 x) rfl
        have t1 := cell_blk PC.out.2.1 1 (v := .int .i64 y) rfl
        have c1 := cell_blk PC.out.2.2.blk 1 (v := .slice p n c) rfl
        have hnb : n < 2199023255552 := H.out.2.2.2.1
        have BL0 : Hid (n + 1 ≤ maxLen ∧ ((n + 1) + (n + 1) / 4 + 192) * 64 ≤ 281474976710656) := by
          unfold maxLen
          exact ⟨by omega, by omega⟩
        have V5 : Hid (Kept (fun _ => False) w6 (w6.drew.alloc (.cells #[.string key, .int .i64 x, .int .i64 y, .bool true, .bool false, .slice none 0 0] 70)) ∧ (w6.drew.alloc (.cells #[.string key, .int .i64 x, .int .i64 y, .bool true, .bool false, .slice none 0 0] 70)).heap[w6.drew.heap.size]? = some (.cells #[.string key, .int .i64 x, .int .i64 y, .bool true, .bool false, .slice none 0 0] 70 (0, 0))) := ⟨((Kept.refl _ w6).drew).alloc _, heap_alloc_new _ _⟩
        have c1b := V5.out.1.cell c1 (fun z => z)
        have c1d : ((w6.alloc (.cells #[.string key, .int .i64 x, .int .i64 y, .bool true, .bool false, .slice none 0 0] 70)).drew).cell? ⟨tb, 1, none⟩ = some (.slice p n c) := (((Kept.refl (fun _ => False) w6).alloc _).drew).cell c1 (fun z => z)
        go_upto_region 4 with fail
        go_cut [34] (fun _ wz => ∃ (g C : Nat), Hid (RTab b0 wz tb delta (some ⟨g, 0, none⟩) (n + 1) C (L ++ [(key, (x, y), true, false, none, 0, 0)]) (vs ++ [(key, (x, y), true, false, [])]) ∧ (∀ k, g = k → blockOf p = some k ∨ w.heap.size ≤ k) ∧ Kept (fun k => k = tb ∨ blockOf p = some k) w wz))
        case first =>
          go_region_law
            (first
              | (refine step_append_all _ (by rfl) (.tmp 26) (.tmp 31) 27 70 27 _ 6 64 (by rfl) Tryz.underlying27 Tryz.info70c rfl b0 (.slice p n c) n (rcells L) (by rfl) (V5.out.1.owns PC.out.2.2.row (fun _ _ z => z)) _ 1 (encR (key, (x, y), true, false, none, 0, 0)) (by rfl) (src_row V5.out.2) BL0.out.1 BL0.out.2 (Nat.le_trans H.out.2.2.2.2.2 (Nat.le_trans PC.out.1.size V5.out.1.size)) ?_; intro p9 c9 w8 ho hg hn
                 have F8 : Hid (w8.heap[tb]? = some (.cells #[.int .i64 delta, .slice p n c] 29 (0, 0)) ∧ ∃ g, RTab b0 (w8.setCell ⟨tb, 1, none⟩ (.slice p9 (n + 1) c9)) tb delta (some ⟨g, 0, none⟩) (n + 1) c9 (L ++ [(key, (x, y), true, false, none, 0, 0)]) (vs ++ [(key, (x, y), true, false, [])]) ∧ (∀ k, g = k → blockOf p = some k ∨ w.heap.size ≤ k) ∧ Kept (fun k => k = tb ∨ blockOf p = some k) w (w8.setCell ⟨tb, 1, none⟩ (.slice p9 (n + 1) c9))) := by
                   have uv : UvRd w6 (key, (x, y), true, false, none, 0, 0) (key, (x, y), true, false, []) := ⟨rfl, rfl, rfl, rfl, Reads.nil w6, fun k hk => by cases hk⟩
                   obtain ⟨q1, q2, q3, q4⟩ := (PC.out.2.2.k0 V5.out.1).push (uv.off V5.out.1 (fun _ _ _ _ z => z)) ho.out hg.out hn.out
                   have KK := PC.out.1.and0 V5.out.1
                   obtain ⟨g, _, _, _, _, _, _, _, _, eg, _⟩ := own_rw q2.row q2.len (i := n) (Nat.lt_succ_self n)
                   refine ⟨q1, g, by rw [← eg]; exact q2, fun k hk => (q4 k (by rw [eg, ← hk]; rfl)).imp id (fun z => Nat.le_trans KK.size z), (KK.mono (fun _ _ z => z.elim)).trans q3 (fun _ _ z => z)⟩
                 have e1 := cell_blk F8.out.1 1 (v := .slice p n c) rfl
                 have s1 := soft_blk F8.out.1 1
                 clear ho hg hn)
              | fail)
          all_goals go_wp2_with fail
          all_goals go_meet
          all_goals obtain ⟨g, F9⟩ := F8.out.2
          all_goals exact ⟨g, _, F9⟩
        case rest =>
          obtain ⟨g, C, S5⟩ := hcut
          obtain ⟨wf, rfl⟩ : ∃ wf : World, wf = wc := ⟨_, rfl⟩
          obtain ⟨N, hN⟩ : ∃ N, N = n + 1 := ⟨_, rfl⟩
          obtain ⟨L2, hL1⟩ : ∃ L2, L2 = L ++ [(key, (x, y), true, false, none, 0, 0)] := ⟨_, rfl⟩
          obtain ⟨vs2, hv2⟩ : ∃ vs2, vs2 = addF vs key (x, y) := ⟨_, rfl⟩
          have FT1 : RTab b0 wf tb delta (some ⟨g, 0, none⟩) N C L2 vs2 ∧ FreshL w L L2 ∧ Kept (fun k => k = tb ∨ blockOf p = some k) w wf := by
            refine ⟨by rw [hN, hL1, hv2, addF_new HNEG.out]; exact S5.out.1, ?_, S5.out.2.2⟩
            rw [hL1]
            intro u hu k hk
            rcases List.mem_append.1 hu with z | z
            · exact .inl ⟨u, z, hk⟩
            · rw [List.mem_singleton.1 z] at hk
              cases hk
          have HNN : Hid (N ≤ 2199023255552) := by rw [hN]; exact H.out.2.2.2.1
          clear hN hL1 S5 t0 t1 c1 c1b c1d hnb V5 BL0 HNEG
          have rmm := own_room FT1.1.row
          unfold maxLen at rmm
          obtain ⟨rm1, rm2⟩ := rmm
          have FT : Hid (RTab b0 wf tb delta (some ⟨g, 0, none⟩) N C L2 vs2 ∧ FreshL w L L2 ∧ Kept (fun k => k = tb ∨ blockOf p = some k) w wf ∧ N ≤ 2199023255552) := ⟨FT1.1, FT1.2.1, FT1.2.2, HNN.out⟩
          obtain ⟨⟨fx, fy⟩, hfl⟩ : ∃ fl, fl = nth (finF key vs2) delta := ⟨_, rfl⟩
          have RF2 : Hid (Calls Tryz.prog 16 #[.pointer (some ⟨tb, 0, none⟩), .string key] wf fun o w' => o = .returned (.agg #[.int .i64 fx, .int .i64 fy]) ∧ Kept (fun _ => False) wf w') := by
            have := rFloorV b0 tb delta _ N C L2 vs2 key wf FT.out.1 FT.out.2.2.2 H.out.2.2.2.2.1
            rw [← hfl] at this
            exact this
          have HF : Hid ((fx, fy) = nth (finF key vs2) delta ∧ vs2 = addF vs key (x, y)) := ⟨hfl, hv2⟩
          clear hfl hv2 FT1
          go_wp2_with fail
          refine RF2.out.mono ?_
          rintro o w8 ⟨rfl, K8⟩
          have P8 : Hid (Kept (fun _ => False) wf w8) := K8
          clear K8 RF2
          obtain ⟨W8, hW8⟩ : ∃ W8, W8 = w8.alloc (.cells #[.int .i64 fx, .int .i64 fy] 31) := ⟨_, rfl⟩
          obtain ⟨X8, hX8⟩ : ∃ X8, X8 = w8.heap.size := ⟨_, rfl⟩
          have Q8 : Hid (W8.heap[X8]? = some (.cells #[.int .i64 fx, .int .i64 fy] 31 (0, 0)) ∧ Kept (fun _ => False) wf W8 ∧ RTab b0 W8 tb delta (some ⟨g, 0, none⟩) N C L2 vs2) := by
            have K : Kept (fun _ => False) wf W8 := by rw [hW8]; exact P8.out.alloc _
            exact ⟨by rw [hW8, hX8]; exact heap_alloc_new _ _, K, FT.out.1.k0 K⟩
          have EW8 : Hid (W8 = w8.alloc (.cells #[.int .i64 fx, .int .i64 fy] 31) ∧ X8 = w8.heap.size) := ⟨hW8, hX8⟩
          clear hW8 hX8
          go_upto_region 8 with fail
          rw [← EW8.out.1, ← EW8.out.2]
          have c1 := cell_blk Q8.out.2.2.blk 1 (v := .slice (some ⟨g, 0, none⟩) N C) rfl
          have T0 : Hid (∃ M, LS W8 W8 none 0 0 M (leftV (vs2.take 0) key (fx, fy)) ∧ ∀ u ∈ M, u ∈ L2) := ⟨[], ⟨rfl, ⟨rfl, .inl ⟨rfl, rfl⟩⟩, Along.nil _, Kept.refl _ _⟩, fun _ h => by cases h⟩
          go_wp2_with fail
          go_loopw [8, 10, 51] (fun l _ z wr => ∃ (j m e : Nat) (q : Option Addr), l = .slice q m e ∧ z = .int .i64 (j : Int) ∧ j ≤ N ∧ Hid (∃ M, LS W8 wr q m e M (leftV (vs2.take j) key (fx, fy)) ∧ ∀ u ∈ M, u ∈ L2)) (fun _ _ z _ => N - (intOf z).toNat)
          case atStart => exact ⟨0, 0, 0, none, rfl, rfl, Nat.zero_le _, T0⟩
          case round =>
            obtain ⟨j, m, e, q, rfl, rfl, hj, TT⟩ := hrel
            obtain ⟨wq, hwq⟩ : ∃ wq, wq = wr := ⟨_, rfl⟩
            rw [← hwq] at TT ⊢
            clear hwq T0 c1
            obtain ⟨M, T1, T2⟩ := TT.out
            have T : Hid (LS W8 wq q m e M (leftV (vs2.take j) key (fx, fy))) := T1
            have ML : Hid (∀ u ∈ M, u ∈ L2) := T2
            clear T1 T2 TT
            by_cases hlt : j < N
            · have j1 : (j : Int) < (N : Int) := by omega
              have R := Q8.out.2.2.k0 T.out.kept
              obtain ⟨b, k, u, v, f, g', a, ml, ql, eb, hv, e0, e1, e2, e3, e4, e5⟩ := own_rw R.row R.len hlt
              have eb2 : g = b := congrArg Addr.block (Option.some.inj eb)
              subst eb2
              clear eb
              obtain ⟨hj2, uv⟩ := along_at R.rd hv
              obtain ⟨lv, hlv⟩ : ∃ lv, lv = vs2[j].2.2.2.2 := ⟨_, rfl⟩
              have ev : vs2[j] = (k, (u, v), f, g', lv) := by
                have q1 : vs2[j].1 = k := uv.key.symm
                have q2 : vs2[j].2.1 = (u, v) := uv.ent.tag.symm
                have q3 : vs2[j].2.2.1 = f := uv.ent.fin.symm
                have q4 : vs2[j].2.2.2.1 = g' := uv.ent.has.symm
                rw [← q1, ← q2, ← q3, ← q4, hlv]
              rw [ev] at uv
              have NX : Hid (leftV (vs2.take (j + 1)) key (fx, fy) = leftV (vs2.take j) key (fx, fy) ++ (if (!decide (k = key) || !decide (tc (u, v) (fx, fy) < 0)) = true then [(k, (u, v), f, g', lv)] else [])) := by
                rw [List.take_add_one, List.getElem?_eq_getElem hj2, ev]
                exact leftV_snoc _ _ _ _
              have HM : Hid ((k, (u, v), f, g', a, ml, ql) ∈ L2) := List.mem_of_getElem? hv
              have mf : m ≤ j := by
                rw [T.out.few]
                unfold leftV
                have := List.length_filter_le (fun v : Uv => !decide (v.1 = key) || !decide (tc v.2.1 (fx, fy) < 0)) (vs2.take j)
                rw [List.length_take] at this
                omega
              have NB : N ≤ 2199023255552 := FT.out.2.2.2
              have BL : Hid (m + 1 ≤ maxLen ∧ ((m + 1) + (m + 1) / 4 + 192) * 64 ≤ 281474976710656) := by
                unfold maxLen
                exact ⟨by omega, by omega⟩
              obtain ⟨W1, hW1⟩ : ∃ W1, W1 = wq.alloc (.cells #[.string k, .int .i64 u, .int .i64 v, .bool f, .bool g', .slice a ml ql] 70) := ⟨_, rfl⟩
              obtain ⟨X1, hX1⟩ : ∃ X1, X1 = wq.heap.size := ⟨_, rfl⟩
              have J : Hid (W1.heap[X1]? = some (.cells #[.string k, .int .i64 u, .int .i64 v, .bool f, .bool g', .slice a ml ql] 70 (0, 0)) ∧ Kept (fun _ => False) wq W1 ∧ UvRd W1 (k, (u, v), f, g', a, ml, ql) (k, (u, v), f, g', lv) ∧ W1.heap[X8]? = some (.cells #[.int .i64 fx, .int .i64 fy] 31 (0, 0))) := by
                have K1 : Kept (fun _ => False) wq W1 := by rw [hW1]; exact k0_alloc _ _
                exact ⟨by rw [hW1, hX1]; exact heap_alloc_new _ _, K1, uv.off K1 (fun _ _ _ _ z => z), (T.out.kept.and0 K1).get Q8.out.1 (fun z => z)⟩
              have EW1 : Hid (W1 = wq.alloc (.cells #[.string k, .int .i64 u, .int .i64 v, .bool f, .bool g', .slice a ml ql] 70) ∧ X1 = wq.heap.size) := ⟨hW1, hX1⟩
              clear hW1 hX1 R hv hj2 uv ev hlv NB
              go_upto_region 11 with fail
              rw [← EW1.out.1, ← EW1.out.2]
              clear e0 e1 e2 e3 e4 e5
              have g0 := cell_blk J.out.1 0 (v := .string k) rfl
              have g1 := cell_blk J.out.1 1 (v := .int .i64 u) rfl
              have g2 := cell_blk J.out.1 2 (v := .int .i64 v) rfl
              have g3 := cell_blk J.out.1 3 (v := .bool f) rfl
              have g4 := cell_blk J.out.1 4 (v := .bool g') rfl
              have g5 := cell_blk J.out.1 5 (v := .slice a ml ql) rfl
              have x0 := cell_blk J.out.2.2.2 0 (v := .int .i64 fx) rfl
              have x1 := cell_blk J.out.2.2.2 1 (v := .int .i64 fy) rfl
              by_cases hk : k = key
              · subst hk
                obtain ⟨bb, hbb⟩ : ∃ bb, bb = decide (tc (u, v) (fx, fy) < 0) := ⟨_, rfl⟩
                have RB2 : Hid (∀ V : World, Calls Tryz.prog 29 #[.agg #[.int .i64 u, .int .i64 v], .agg #[.int .i64 fx, .int .i64 fy]] V fun o w' => o = .returned (.bool bb) ∧ Kept (fun _ => False) V w') := by rw [hbb]; exact fun V => rBelow u v fx fy V
                have HB : Hid (bb = decide (tc (u, v) (fx, fy) < 0)) := hbb
                clear hbb
                go_wp2_with fail
                refine (RB2.out _).mono ?_
                rintro o w5 ⟨rfl, K5⟩
                cases bb
                · have yes0 : (if (!decide (k = k) || !decide (tc (u, v) (fx, fy) < 0)) = true then [(k, (u, v), f, g', lv)] else []) = [(k, (u, v), f, g', lv)] := by rw [← HB.out]; simp
                  have YES : Hid ((if (!decide (k = k) || !decide (tc (u, v) (fx, fy) < 0)) = true then [(k, (u, v), f, g', lv)] else []) = [(k, (u, v), f, g', lv)]) := yes0
                  clear yes0
                  have KV : Kept (fun _ => False) W1 w5 := K5
                  have AR : Hid (w5.ownsRow W8.heap.size 70 6 (.slice q m e) m (rcells M) ∧ UvRd w5 (k, (u, v), f, g', a, ml, ql) (k, (u, v), f, g', lv) ∧ Kept (fun _ => False) W8 w5 ∧ Kept (fun _ => False) wq w5) := ⟨(J.out.2.1.and0 KV).owns T.out.row (fun _ _ z => z), J.out.2.2.1.off KV (fun _ _ _ _ z => z), T.out.kept.and0 (J.out.2.1.and0 KV), J.out.2.1.and0 KV⟩
                  replace g0 := KV.cell g0 (fun z => z)
                  replace g1 := KV.cell g1 (fun z => z)
                  replace g2 := KV.cell g2 (fun z => z)
                  replace g3 := KV.cell g3 (fun z => z)
                  replace g4 := KV.cell g4 (fun z => z)
                  replace g5 := KV.cell g5 (fun z => z)
                  clear KV
                  go_wp2_with
                    (first
                      | (at_builtin; refine wpList_append_all _ rfl (.tmp 67) (.tmp 69) 27 70 27 _ 6 64 rfl Tryz.underlying27 Tryz.info70c rfl W8.heap.size (.slice q m e) m (rcells M) rfl ((k0_alloc w5 _).owns AR.out.1 (fun _ _ z => z)) _ 1 (encR (k, (u, v), f, g', a, ml, ql)) rfl (src_row (heap_alloc_new w5 _)) BL.out.1 BL.out.2 (Nat.le_trans AR.out.2.2.1.size (k0_alloc w5 _).size) ?_; intro p9 c9 w9 ho hg hn')
                      | fail)
                  have T9 : Hid (∃ M, LS W8 w9 p9 (m + 1) c9 M (leftV (vs2.take (j + 1)) k (fx, fy)) ∧ ∀ u ∈ M, u ∈ L2) := by
                    refine ⟨M ++ [(k, (u, v), f, g', a, ml, ql)], ?_, fun z hz => ?_⟩
                    · rw [NX.out, YES.out]
                      exact T.out.more AR.out.2.2.2 AR.out.2.1 ho.out hg.out
                    · rcases List.mem_append.1 hz with z1 | z1
                      · exact ML.out z z1
                      · rw [List.mem_singleton.1 z1]
                        exact HM.out
                  clear ho hg hn'
                  go_roundw
                  case rel => exact ⟨j + 1, m + 1, c9, p9, rfl, by go_num, by omega, T9⟩
                  case measure => simp [intOf] <;> omega
                · have T9 : Hid (∃ M, LS W8 w5 q m e M (leftV (vs2.take (j + 1)) k (fx, fy)) ∧ ∀ u ∈ M, u ∈ L2) := by
                    refine ⟨M, ?_, ML.out⟩
                    rw [NX.out, ← HB.out]
                    simp only [decide_true, Bool.not_true, Bool.or_self, Bool.false_eq_true, if_false, List.append_nil]
                    exact T.out.k0 (J.out.2.1.and0 K5)
                  clear K5
                  go_wp2_with fail
                  go_roundw
                  case rel => exact ⟨j + 1, m, e, q, rfl, by go_num, by omega, T9⟩
                  case measure => simp [intOf] <;> omega
              · have hk' := ba_ne hk
                have yes0 : (if (!decide (k = key) || !decide (tc (u, v) (fx, fy) < 0)) = true then [(k, (u, v), f, g', lv)] else []) = [(k, (u, v), f, g', lv)] := by rw [decide_eq_false hk]; simp
                have YES : Hid ((if (!decide (k = key) || !decide (tc (u, v) (fx, fy) < 0)) = true then [(k, (u, v), f, g', lv)] else []) = [(k, (u, v), f, g', lv)]) := yes0
                clear yes0
                have KV : Kept (fun _ => False) W1 W1 := Kept.refl _ _
                have AR : Hid (W1.ownsRow W8.heap.size 70 6 (.slice q m e) m (rcells M) ∧ UvRd W1 (k, (u, v), f, g', a, ml, ql) (k, (u, v), f, g', lv) ∧ Kept (fun _ => False) W8 W1 ∧ Kept (fun _ => False) wq W1) := ⟨(J.out.2.1.and0 KV).owns T.out.row (fun _ _ z => z), J.out.2.2.1.off KV (fun _ _ _ _ z => z), T.out.kept.and0 (J.out.2.1.and0 KV), J.out.2.1.and0 KV⟩
                replace g0 := KV.cell g0 (fun z => z)
                replace g1 := KV.cell g1 (fun z => z)
                replace g2 := KV.cell g2 (fun z => z)
                replace g3 := KV.cell g3 (fun z => z)
                replace g4 := KV.cell g4 (fun z => z)
                replace g5 := KV.cell g5 (fun z => z)
                clear KV
                go_wp2_with
                  (first
                    | (at_builtin; refine wpList_append_all _ rfl (.tmp 67) (.tmp 69) 27 70 27 _ 6 64 rfl Tryz.underlying27 Tryz.info70c rfl W8.heap.size (.slice q m e) m (rcells M) rfl ((k0_alloc W1 _).owns AR.out.1 (fun _ _ z => z)) _ 1 (encR (k, (u, v), f, g', a, ml, ql)) rfl (src_row (heap_alloc_new W1 _)) BL.out.1 BL.out.2 (Nat.le_trans AR.out.2.2.1.size (k0_alloc W1 _).size) ?_; intro p9 c9 w9 ho hg hn')
                    | fail)
                have T9 : Hid (∃ M, LS W8 w9 p9 (m + 1) c9 M (leftV (vs2.take (j + 1)) key (fx, fy)) ∧ ∀ u ∈ M, u ∈ L2) := by
                  refine ⟨M ++ [(k, (u, v), f, g', a, ml, ql)], ?_, fun z hz => ?_⟩
                  · rw [NX.out, YES.out]
                    exact T.out.more AR.out.2.2.2 AR.out.2.1 ho.out hg.out
                  · rcases List.mem_append.1 hz with z1 | z1
                    · exact ML.out z z1
                    · rw [List.mem_singleton.1 z1]
                      exact HM.out
                clear ho hg hn'
                go_roundw
                case rel => exact ⟨j + 1, m + 1, c9, p9, rfl, by go_num, by omega, T9⟩
                case measure => simp [intOf] <;> omega
            · have j1 : ¬ (j : Int) < (N : Int) := by omega
              have blk := T.out.kept.get Q8.out.2.2.blk (fun z => z)
              have c1 := cell_blk blk 1 (v := .slice (some ⟨g, 0, none⟩) N C) rfl
              have s1 := soft_blk blk 1
              have G : Hid (RMv b0 w (wq.setCell ⟨tb, 1, none⟩ (.slice q m e)) tb delta p L (leftV vs2 key (fx, fy))) := by
                have TL := T.out
                rw [List.take_of_length_le (by rw [Q8.out.2.2.vlen]; omega)] at TL
                have szW : w.heap.size ≤ W8.heap.size := Nat.le_trans FT.out.2.2.1.size Q8.out.2.1.size
                obtain ⟨r1, r2⟩ := TL.tab Q8.out.2.2 (Nat.le_trans H.out.2.2.2.2.2 szW)
                refine ⟨⟨q, m, e, M, r1, fun k hk => .inr (Nat.le_trans szW (own_lt TL.row k hk).1), FT.out.2.1.trans (fun u hu => ⟨u, ML.out u hu, rfl⟩)⟩, (FT.out.2.2.1.trans Q8.out.2.1 (fun _ _ z => z.elim)).trans r2 (fun _ _ z => .inl z)⟩
              clear blk
              go_wp2_with fail
              (first | (refine bodyPost_ret (results_none rfl _ _ _) rfl ?_) | go_end0)
              refine ⟨rfl, ?_⟩
              rw [finS_yes (by have := NB.out; omega), ← HF.out.2, ← HF.out.1]
              exact G.out
      · obtain ⟨i, hi, hpi, hat⟩ := plc_spec vs key (x, y) 0 (by rw [← HP.out.1]; exact hneg)
        rw [Nat.zero_add] at hpi
        have hpv : pv = (i : Int) := by rw [HP.out.1, hpi]
        subst hpv
        have hiL : i < n := by rw [← PC.out.2.2.vlen]; exact hi
        obtain ⟨g, k, u, v, f, hh, ra, rm, rc, eg, _⟩ := own_rw PC.out.2.2.row PC.out.2.2.len hiL
        obtain ⟨N, hN⟩ : ∃ N, N = n := ⟨_, rfl⟩
        obtain ⟨C, hC⟩ : ∃ C, C = c := ⟨_, rfl⟩
        obtain ⟨L1, hL1⟩ : ∃ L1, L1 = L := ⟨_, rfl⟩
        obtain ⟨vs1, hv1⟩ : ∃ vs1, vs1 = vs := ⟨_, rfl⟩
        obtain ⟨wz, rfl⟩ : ∃ wz : World, wz = w6 := ⟨_, rfl⟩
        have ST : Hid (RTab b0 wz tb delta (some ⟨g, 0, none⟩) N C L1 vs1 ∧ FreshL w L L1 ∧ (∀ k, g = k → blockOf p = some k ∨ w.heap.size ≤ k) ∧ Kept (fun k => k = tb ∨ blockOf p = some k) w wz ∧ i < N ∧ ∃ hi : i < vs1.length, vs1.set i (finAt vs1[i]) = addF vs key (x, y)) := by
          subst hv1
          refine ⟨by rw [hN, hC, hL1, ← eg]; exact PC.out.2.2, by rw [hL1]; exact FreshL.refl w L, fun k hk => .inl (by rw [eg, ← hk]; rfl), PC.out.1.mono (fun _ _ z => z.elim), by omega, hi, ?_⟩
          rw [addF_old hpi hi]
        have HNN : Hid (N ≤ 2199023255552) := by rw [hN]; exact Nat.le_of_lt H.out.2.2.2.1
        clear hN hC hL1 hv1 eg hi hpi hat hneg hiL
        have rmm := own_room ST.out.1.row
        unfold maxLen at rmm
        obtain ⟨rm1, rm2⟩ := rmm
        have c1 := cell_blk ST.out.1.blk 1 (v := .slice (some ⟨g, 0, none⟩) N C) rfl
        have fz := ST.out.1.row.frozenAt (i * 6 + 3)
        have iN : i < N := ST.out.2.2.2.2.1
        obtain ⟨g9, k9, u9, v9, f9, h9, ra9, rm9, rc9, eg9, _, _, _, _, e3, _, _⟩ := own_rw ST.out.1.row ST.out.1.len iN
        have eg92 : g = g9 := congrArg Addr.block (Option.some.inj eg9)
        subst eg92
        clear eg9
        have i1 : (i : Int) < (N : Int) := by omega
        have i0 : (0 : Int) ≤ (i : Int) := by omega
        go_upto_region 6 with fail
        obtain ⟨wf, hwf⟩ : ∃ wf, wf = wz.setCell ⟨g, i * 6 + 3, none⟩ (.bool true) := ⟨_, rfl⟩
        obtain ⟨vs2, hv2⟩ : ∃ vs2, vs2 = addF vs key (x, y) := ⟨_, rfl⟩
        have FT0 : ∃ L2, RTab b0 wf tb delta (some ⟨g, 0, none⟩) N C L2 vs2 ∧ FreshL w L L2 ∧ Kept (fun k => k = tb ∨ blockOf p = some k) w wf := by
          obtain ⟨hi, ev⟩ := ST.out.2.2.2.2.2
          obtain ⟨⟨L2, r2, s2⟩, k2⟩ := ST.out.1.flag hi
          rw [hwf, hv2, ← ev]
          refine ⟨L2, r2, ST.out.2.1.trans s2, ST.out.2.2.2.1.trans k2 (fun k hk z => ?_)⟩
          have z : k = g := z
          rcases ST.out.2.2.1 g rfl with q | q
          · rw [z]; exact .inr q
          · omega
        obtain ⟨L2, FT1⟩ := FT0
        have FT : Hid (RTab b0 wf tb delta (some ⟨g, 0, none⟩) N C L2 vs2 ∧ FreshL w L L2 ∧ Kept (fun k => k = tb ∨ blockOf p = some k) w wf ∧ N ≤ 2199023255552) := ⟨FT1.1, FT1.2.1, FT1.2.2, HNN.out⟩
        rw [← hwf]
        obtain ⟨⟨fx, fy⟩, hfl⟩ : ∃ fl, fl = nth (finF key vs2) delta := ⟨_, rfl⟩
        have RF2 : Hid (Calls Tryz.prog 16 #[.pointer (some ⟨tb, 0, none⟩), .string key] wf fun o w' => o = .returned (.agg #[.int .i64 fx, .int .i64 fy]) ∧ Kept (fun _ => False) wf w') := by
          have := rFloorV b0 tb delta _ N C L2 vs2 key wf FT.out.1 FT.out.2.2.2 H.out.2.2.2.2.1
          rw [← hfl] at this
          exact this
        have HF : Hid ((fx, fy) = nth (finF key vs2) delta ∧ vs2 = addF vs key (x, y)) := ⟨hfl, hv2⟩
        clear hfl hv2 hwf FT1 c1 fz e3
        go_wp2_with fail
        refine RF2.out.mono ?_
        rintro o w8 ⟨rfl, K8⟩
        have P8 : Hid (Kept (fun _ => False) wf w8) := K8
        clear K8 RF2
        obtain ⟨W8, hW8⟩ : ∃ W8, W8 = w8.alloc (.cells #[.int .i64 fx, .int .i64 fy] 31) := ⟨_, rfl⟩
        obtain ⟨X8, hX8⟩ : ∃ X8, X8 = w8.heap.size := ⟨_, rfl⟩
        have Q8 : Hid (W8.heap[X8]? = some (.cells #[.int .i64 fx, .int .i64 fy] 31 (0, 0)) ∧ Kept (fun _ => False) wf W8 ∧ RTab b0 W8 tb delta (some ⟨g, 0, none⟩) N C L2 vs2) := by
          have K : Kept (fun _ => False) wf W8 := by rw [hW8]; exact P8.out.alloc _
          exact ⟨by rw [hW8, hX8]; exact heap_alloc_new _ _, K, FT.out.1.k0 K⟩
        have EW8 : Hid (W8 = w8.alloc (.cells #[.int .i64 fx, .int .i64 fy] 31) ∧ X8 = w8.heap.size) := ⟨hW8, hX8⟩
        clear hW8 hX8
        go_upto_region 8 with fail
        rw [← EW8.out.1, ← EW8.out.2]
        have c1 := cell_blk Q8.out.2.2.blk 1 (v := .slice (some ⟨g, 0, none⟩) N C) rfl
        have T0 : Hid (∃ M, LS W8 W8 none 0 0 M (leftV (vs2.take 0) key (fx, fy)) ∧ ∀ u ∈ M, u ∈ L2) := ⟨[], ⟨rfl, ⟨rfl, .inl ⟨rfl, rfl⟩⟩, Along.nil _, Kept.refl _ _⟩, fun _ h => by cases h⟩
        go_wp2_with fail
        go_loopw [8, 10, 51] (fun l _ z wr => ∃ (j m e : Nat) (q : Option Addr), l = .slice q m e ∧ z = .int .i64 (j : Int) ∧ j ≤ N ∧ Hid (∃ M, LS W8 wr q m e M (leftV (vs2.take j) key (fx, fy)) ∧ ∀ u ∈ M, u ∈ L2)) (fun _ _ z _ => N - (intOf z).toNat)
        case atStart => exact ⟨0, 0, 0, none, rfl, rfl, Nat.zero_le _, T0⟩
        case round =>
          obtain ⟨j, m, e, q, rfl, rfl, hj, TT⟩ := hrel
          obtain ⟨wq, hwq⟩ : ∃ wq, wq = wr := ⟨_, rfl⟩
          rw [← hwq] at TT ⊢
          clear hwq T0 c1
          obtain ⟨M, T1, T2⟩ := TT.out
          have T : Hid (LS W8 wq q m e M (leftV (vs2.take j) key (fx, fy))) := T1
          have ML : Hid (∀ u ∈ M, u ∈ L2) := T2
          clear T1 T2 TT
          by_cases hlt : j < N
          · have j1 : (j : Int) < (N : Int) := by omega
            have R := Q8.out.2.2.k0 T.out.kept
            obtain ⟨b, k, u, v, f, g', a, ml, ql, eb, hv, e0, e1, e2, e3, e4, e5⟩ := own_rw R.row R.len hlt
            have eb2 : g = b := congrArg Addr.block (Option.some.inj eb)
            subst eb2
            clear eb
            obtain ⟨hj2, uv⟩ := along_at R.rd hv
            obtain ⟨lv, hlv⟩ : ∃ lv, lv = vs2[j].2.2.2.2 := ⟨_, rfl⟩
            have ev : vs2[j] = (k, (u, v), f, g', lv) := by
              have q1 : vs2[j].1 = k := uv.key.symm
              have q2 : vs2[j].2.1 = (u, v) := uv.ent.tag.symm
              have q3 : vs2[j].2.2.1 = f := uv.ent.fin.symm
              have q4 : vs2[j].2.2.2.1 = g' := uv.ent.has.symm
              rw [← q1, ← q2, ← q3, ← q4, hlv]
            rw [ev] at uv
            have NX : Hid (leftV (vs2.take (j + 1)) key (fx, fy) = leftV (vs2.take j) key (fx, fy) ++ (if (!decide (k = key) || !decide (tc (u, v) (fx, fy) < 0)) = true then [(k, (u, v), f, g', lv)] else [])) := by
              rw [List.take_add_one, List.getElem?_eq_getElem hj2, ev]
              exact leftV_snoc _ _ _ _
            have HM : Hid ((k, (u, v), f, g', a, ml, ql) ∈ L2) := List.mem_of_getElem? hv
            have mf : m ≤ j := by
              rw [T.out.few]
              unfold leftV
              have := List.length_filter_le (fun v : Uv => !decide (v.1 = key) || !decide (tc v.2.1 (fx, fy) < 0)) (vs2.take j)
              rw [List.length_take] at this
              omega
            have NB : N ≤ 2199023255552 := FT.out.2.2.2
            have BL : Hid (m + 1 ≤ maxLen ∧ ((m + 1) + (m + 1) / 4 + 192) * 64 ≤ 281474976710656) := by
              unfold maxLen
              exact ⟨by omega, by omega⟩
            obtain ⟨W1, hW1⟩ : ∃ W1, W1 = wq.alloc (.cells #[.string k, .int .i64 u, .int .i64 v, .bool f, .bool g', .slice a ml ql] 70) := ⟨_, rfl⟩
            obtain ⟨X1, hX1⟩ : ∃ X1, X1 = wq.heap.size := ⟨_, rfl⟩
            have J : Hid (W1.heap[X1]? = some (.cells #[.string k, .int .i64 u, .int .i64 v, .bool f, .bool g', .slice a ml ql] 70 (0, 0)) ∧ Kept (fun _ => False) wq W1 ∧ UvRd W1 (k, (u, v), f, g', a, ml, ql) (k, (u, v), f, g', lv) ∧ W1.heap[X8]? = some (.cells #[.int .i64 fx, .int .i64 fy] 31 (0, 0))) := by
              have K1 : Kept (fun _ => False) wq W1 := by rw [hW1]; exact k0_alloc _ _
              exact ⟨by rw [hW1, hX1]; exact heap_alloc_new _ _, K1, uv.off K1 (fun _ _ _ _ z => z), (T.out.kept.and0 K1).get Q8.out.1 (fun z => z)⟩
            have EW1 : Hid (W1 = wq.alloc (.cells #[.string k, .int .i64 u, .int .i64 v, .bool f, .bool g', .slice a ml ql] 70) ∧ X1 = wq.heap.size) := ⟨hW1, hX1⟩
            clear hW1 hX1 R hv hj2 uv ev hlv NB
            go_upto_region 11 with fail
            rw [← EW1.out.1, ← EW1.out.2]
            clear e0 e1 e2 e3 e4 e5
            have g0 := cell_blk J.out.1 0 (v := .string k) rfl
            have g1 := cell_blk J.out.1 1 (v := .int .i64 u) rfl
            have g2 := cell_blk J.out.1 2 (v := .int .i64 v) rfl
            have g3 := cell_blk J.out.1 3 (v := .bool f) rfl
            have g4 := cell_blk J.out.1 4 (v := .bool g') rfl
            have g5 := cell_blk J.out.1 5 (v := .slice a ml ql) rfl
            have x0 := cell_blk J.out.2.2.2 0 (v := .int .i64 fx) rfl
            have x1 := cell_blk J.out.2.2.2 1 (v := .int .i64 fy) rfl
            by_cases hk : k = key
            · subst hk
              obtain ⟨bb, hbb⟩ : ∃ bb, bb = decide (tc (u, v) (fx, fy) < 0) := ⟨_, rfl⟩
              have RB2 : Hid (∀ V : World, Calls Tryz.prog 29 #[.agg #[.int .i64 u, .int .i64 v], .agg #[.int .i64 fx, .int .i64 fy]] V fun o w' => o = .returned (.bool bb) ∧ Kept (fun _ => False) V w') := by rw [hbb]; exact fun V => rBelow u v fx fy V
              have HB : Hid (bb = decide (tc (u, v) (fx, fy) < 0)) := hbb
              clear hbb
              go_wp2_with fail
              refine (RB2.out _).mono ?_
              rintro o w5 ⟨rfl, K5⟩
              cases bb
              · have yes0 : (if (!decide (k = k) || !decide (tc (u, v) (fx, fy) < 0)) = true then [(k, (u, v), f, g', lv)] else []) = [(k, (u, v), f, g', lv)] := by rw [← HB.out]; simp
                have YES : Hid ((if (!decide (k = k) || !decide (tc (u, v) (fx, fy) < 0)) = true then [(k, (u, v), f, g', lv)] else []) = [(k, (u, v), f, g', lv)]) := yes0
                clear yes0
                have KV : Kept (fun _ => False) W1 w5 := K5
                have AR : Hid (w5.ownsRow W8.heap.size 70 6 (.slice q m e) m (rcells M) ∧ UvRd w5 (k, (u, v), f, g', a, ml, ql) (k, (u, v), f, g', lv) ∧ Kept (fun _ => False) W8 w5 ∧ Kept (fun _ => False) wq w5) := ⟨(J.out.2.1.and0 KV).owns T.out.row (fun _ _ z => z), J.out.2.2.1.off KV (fun _ _ _ _ z => z), T.out.kept.and0 (J.out.2.1.and0 KV), J.out.2.1.and0 KV⟩
                replace g0 := KV.cell g0 (fun z => z)
                replace g1 := KV.cell g1 (fun z => z)
                replace g2 := KV.cell g2 (fun z => z)
                replace g3 := KV.cell g3 (fun z => z)
                replace g4 := KV.cell g4 (fun z => z)
                replace g5 := KV.cell g5 (fun z => z)
                clear KV
                go_wp2_with
                  (first
                    | (at_builtin; refine wpList_append_all _ rfl (.tmp 67) (.tmp 69) 27 70 27 _ 6 64 rfl Tryz.underlying27 Tryz.info70c rfl W8.heap.size (.slice q m e) m (rcells M) rfl ((k0_alloc w5 _).owns AR.out.1 (fun _ _ z => z)) _ 1 (encR (k, (u, v), f, g', a, ml, ql)) rfl (src_row (heap_alloc_new w5 _)) BL.out.1 BL.out.2 (Nat.le_trans AR.out.2.2.1.size (k0_alloc w5 _).size) ?_; intro p9 c9 w9 ho hg hn')
                    | fail)
                have T9 : Hid (∃ M, LS W8 w9 p9 (m + 1) c9 M (leftV (vs2.take (j + 1)) k (fx, fy)) ∧ ∀ u ∈ M, u ∈ L2) := by
                  refine ⟨M ++ [(k, (u, v), f, g', a, ml, ql)], ?_, fun z hz => ?_⟩
                  · rw [NX.out, YES.out]
                    exact T.out.more AR.out.2.2.2 AR.out.2.1 ho.out hg.out
                  · rcases List.mem_append.1 hz with z1 | z1
                    · exact ML.out z z1
                    · rw [List.mem_singleton.1 z1]
                      exact HM.out
                clear ho hg hn'
                go_roundw
                case rel => exact ⟨j + 1, m + 1, c9, p9, rfl, by go_num, by omega, T9⟩
                case measure => simp [intOf] <;> omega
              · have T9 : Hid (∃ M, LS W8 w5 q m e M (leftV (vs2.take (j + 1)) k (fx, fy)) ∧ ∀ u ∈ M, u ∈ L2) := by
                  refine ⟨M, ?_, ML.out⟩
                  rw [NX.out, ← HB.out]
                  simp only [decide_true, Bool.not_true, Bool.or_self, Bool.false_eq_true, if_false, List.append_nil]
                  exact T.out.k0 (J.out.2.1.and0 K5)
                clear K5
                go_wp2_with fail
                go_roundw
                case rel => exact ⟨j + 1, m, e, q, rfl, by go_num, by omega, T9⟩
                case measure => simp [intOf] <;> omega
            · have hk' := ba_ne hk
              have yes0 : (if (!decide (k = key) || !decide (tc (u, v) (fx, fy) < 0)) = true then [(k, (u, v), f, g', lv)] else []) = [(k, (u, v), f, g', lv)] := by rw [decide_eq_false hk]; simp
              have YES : Hid ((if (!decide (k = key) || !decide (tc (u, v) (fx, fy) < 0)) = true then [(k, (u, v), f, g', lv)] else []) = [(k, (u, v), f, g', lv)]) := yes0
              clear yes0
              have KV : Kept (fun _ => False) W1 W1 := Kept.refl _ _
              have AR : Hid (W1.ownsRow W8.heap.size 70 6 (.slice q m e) m (rcells M) ∧ UvRd W1 (k, (u, v), f, g', a, ml, ql) (k, (u, v), f, g', lv) ∧ Kept (fun _ => False) W8 W1 ∧ Kept (fun _ => False) wq W1) := ⟨(J.out.2.1.and0 KV).owns T.out.row (fun _ _ z => z), J.out.2.2.1.off KV (fun _ _ _ _ z => z), T.out.kept.and0 (J.out.2.1.and0 KV), J.out.2.1.and0 KV⟩
              replace g0 := KV.cell g0 (fun z => z)
              replace g1 := KV.cell g1 (fun z => z)
              replace g2 := KV.cell g2 (fun z => z)
              replace g3 := KV.cell g3 (fun z => z)
              replace g4 := KV.cell g4 (fun z => z)
              replace g5 := KV.cell g5 (fun z => z)
              clear KV
              go_wp2_with
                (first
                  | (at_builtin; refine wpList_append_all _ rfl (.tmp 67) (.tmp 69) 27 70 27 _ 6 64 rfl Tryz.underlying27 Tryz.info70c rfl W8.heap.size (.slice q m e) m (rcells M) rfl ((k0_alloc W1 _).owns AR.out.1 (fun _ _ z => z)) _ 1 (encR (k, (u, v), f, g', a, ml, ql)) rfl (src_row (heap_alloc_new W1 _)) BL.out.1 BL.out.2 (Nat.le_trans AR.out.2.2.1.size (k0_alloc W1 _).size) ?_; intro p9 c9 w9 ho hg hn')
                  | fail)
              have T9 : Hid (∃ M, LS W8 w9 p9 (m + 1) c9 M (leftV (vs2.take (j + 1)) key (fx, fy)) ∧ ∀ u ∈ M, u ∈ L2) := by
                refine ⟨M ++ [(k, (u, v), f, g', a, ml, ql)], ?_, fun z hz => ?_⟩
                · rw [NX.out, YES.out]
                  exact T.out.more AR.out.2.2.2 AR.out.2.1 ho.out hg.out
                · rcases List.mem_append.1 hz with z1 | z1
                  · exact ML.out z z1
                  · rw [List.mem_singleton.1 z1]
                    exact HM.out
              clear ho hg hn'
              go_roundw
              case rel => exact ⟨j + 1, m + 1, c9, p9, rfl, by go_num, by omega, T9⟩
              case measure => simp [intOf] <;> omega
          · have j1 : ¬ (j : Int) < (N : Int) := by omega
            have blk := T.out.kept.get Q8.out.2.2.blk (fun z => z)
            have c1 := cell_blk blk 1 (v := .slice (some ⟨g, 0, none⟩) N C) rfl
            have s1 := soft_blk blk 1
            have G : Hid (RMv b0 w (wq.setCell ⟨tb, 1, none⟩ (.slice q m e)) tb delta p L (leftV vs2 key (fx, fy))) := by
              have TL := T.out
              rw [List.take_of_length_le (by rw [Q8.out.2.2.vlen]; omega)] at TL
              have szW : w.heap.size ≤ W8.heap.size := Nat.le_trans FT.out.2.2.1.size Q8.out.2.1.size
              obtain ⟨r1, r2⟩ := TL.tab Q8.out.2.2 (Nat.le_trans H.out.2.2.2.2.2 szW)
              refine ⟨⟨q, m, e, M, r1, fun k hk => .inr (Nat.le_trans szW (own_lt TL.row k hk).1), FT.out.2.1.trans (fun u hu => ⟨u, ML.out u hu, rfl⟩)⟩, (FT.out.2.2.1.trans Q8.out.2.1 (fun _ _ z => z.elim)).trans r2 (fun _ _ z => .inl z)⟩
            clear blk
            go_wp2_with fail
            (first | (refine bodyPost_ret (results_none rfl _ _ _) rfl ?_) | go_end0)
            refine ⟨rfl, ?_⟩
            rw [finS_yes (by have := NB.out; omega), ← HF.out.2, ← HF.out.1]
            exact G.out
    · have B : Hid (RMv b0 w wc tb delta p L (finS delta vs key (x, y))) := by
        show RMv _ _ _ _ _ _ _ _
        rw [finS_no (of_decide_eq_true HP.out.2.symm)]
        exact RMv.same H.out.1 PC0.out.1
      go_wp2_with fail
      (first | (refine bodyPost_ret (results_none rfl _ _ _) rfl ?_) | go_end0)
      exact ⟨rfl, B.out⟩
end Go.Proofs.YtojepeefphbekabGreat
