import Derived.Test.YtojepeefphbekabGreatPRef0J
import Derived.Test.YtojepeefphbekabGreatUniqJ
namespace Go.Proofs.YtojepeefphbekabGreat
open Go.RowKit 

set_option maxRecDepth 100000 in
set_option maxHeartbeats 4000000 in
/-- Updates. -/
theorem gUpdates {wr0 : World} {t : TK} {nn : Nat} {dat : ByteArray → Int × Int → List Nat} {tb : Nat} (h : IsT wr0 nn t) (hd : DatAll wr0 t dat) (hf : ∀ vs, AllOf t dat vs → (flat vs).length ≤ 2199023255552) (et : t.tb = tb) (hl : nn ≤ 4398046511104) : Calls Tryz.prog 19 #[.pointer (some ⟨tb, 0, none⟩)] wr0 fun o w' => ∃ p n c, o = .returned (.slice p n c) ∧ ∃ vs, Hid (UpRd 0 w' p n c (flat vs) ∧ AllOf t dat vs ∧ Kept (fun _ => False) wr0 w') := by
  have TA : Hid (Calls Tryz.prog 12 #[.pointer (some ⟨tb, 0, none⟩)] wr0 fun o w' => ∃ p n c vs, o = .returned (.slice p n c) ∧ Hid (AllRd w' p n c vs ∧ AllOf t dat vs ∧ Kept (fun _ => False) wr0 w')) := by rw [← et]; exact tAll nn t dat wr0 h hd hl
  have H : Hid (∀ vs, AllOf t dat vs → (flat vs).length ≤ 2199023255552) := hf
  clear h et hl hd hf
  go_enter Tryz.func19, Tryz.ntmps19
  go_wp2_with fail
  refine TA.out.mono ?_
  rintro o w1 ⟨p1, n1, c1, vs, rfl, A1⟩
  have F : Hid ((flat vs).length ≤ 2199023255552) := H.out vs A1.out.2.1
  have room := A1.out.1.small
  unfold maxLen at room
  have U0 : Hid (UpRd w1.heap.size w1 none 0 0 (flat (vs.take 0)) ∧ Kept (fun _ => False) w1 w1) := ⟨⟨rfl, [], ⟨rfl, .inl ⟨rfl, rfl⟩⟩, Along.nil _⟩, Kept.refl _ _⟩
  go_wp2_with fail
  go_loopw [3, 5, 7, 11] (fun u3 _ _ u11 wr => ∃ (i n c : Nat) (p : Option Addr), u3 = .slice p n c ∧ u11 = .int .i64 (i : Int) ∧ i ≤ n1 ∧ Hid (UpRd w1.heap.size wr p n c (flat (vs.take i)) ∧ Kept (fun _ => False) w1 wr)) (fun _ _ _ u11 _ => n1 - (intOf u11).toNat)
  case atStart => exact ⟨0, 0, 0, none, rfl, rfl, Nat.zero_le _, U0⟩
  case round =>
    obtain ⟨i, n, c, p, rfl, rfl, hi, S⟩ := hrel
    obtain ⟨wo, hwo⟩ : ∃ wo, wo = wr := ⟨_, rfl⟩
    rw [← hwo] at S ⊢
    clear hwo U0
    by_cases hlt : i < n1
    · have i1 : (i : Int) < (n1 : Int) := by omega
      obtain ⟨b1, k1, es, a1, m1, q1, rfl, hv, d0', d1', er⟩ := A1.out.1.at hlt
      have d0 := S.out.2.cell d0' (fun z => z)
      have d1 := S.out.2.cell d1' (fun z => z)
      have HV : Hid (vs[i]? = some (k1, es) ∧ EntRd w1 a1 m1 q1 es ∧ es.length = m1) := ⟨hv, er, er.len⟩
      have es60 := er.small
      unfold maxLen at es60
      clear hv er d0' d1'
      go_upto_region 5 with fail
      obtain ⟨W, hW⟩ : ∃ W, W = wo.alloc (.cells #[.string k1, .slice a1 m1 q1] 73) := ⟨_, rfl⟩
      obtain ⟨HB, hHB⟩ : ∃ B, B = wo.heap.size := ⟨_, rfl⟩
      have B0 : Hid (W.heap[HB]? = some (.cells #[.string k1, .slice a1 m1 q1] 73 (0, 0)) ∧ Kept (fun _ => False) wo W) := by
        rw [hW, hHB]
        exact ⟨heap_alloc_new _ _, k0_alloc _ _⟩
      rw [← hW, ← hHB]
      clear hW hHB d0 d1
      have g0 := cell_blk B0.out.1 0 (v := .string k1) rfl
      have g1 := cell_blk B0.out.1 1 (v := .slice a1 m1 q1) rfl
      have V0 : Hid (UpRd w1.heap.size W p n c (flat (vs.take i) ++ (es.take 0).map (fun e => (k1, e))) ∧ Kept (fun _ => False) w1 W ∧ W.heap[HB]? = some (.cells #[.string k1, .slice a1 m1 q1] 73 (0, 0))) := by
        refine ⟨?_, S.out.2.and0 B0.out.2, B0.out.1⟩
        have := S.out.1.k0 B0.out.2
        rw [List.take_zero, List.map_nil, List.append_nil]
        exact this
      go_wp2_with fail
      go_loopw [3, 7, 18] (fun u3 _ u18 wr => ∃ (j n c : Nat) (p : Option Addr), u3 = .slice p n c ∧ u18 = .int .i64 (j : Int) ∧ j ≤ m1 ∧ Hid (UpRd w1.heap.size wr p n c (flat (vs.take i) ++ (es.take j).map (fun e => (k1, e))) ∧ Kept (fun _ => False) w1 wr ∧ wr.heap[HB]? = some (.cells #[.string k1, .slice a1 m1 q1] 73 (0, 0)))) (fun _ _ u18 _ => m1 - (intOf u18).toNat)
      case atStart => exact ⟨0, n, c, p, rfl, rfl, Nat.zero_le _, V0⟩
      case round =>
        obtain ⟨j, n2, c2, p2, rfl, rfl, hj, T⟩ := hrel
        clear V0
        by_cases hjl : j < m1
        · have j1 : (j : Int) < (m1 : Int) := by omega
          obtain ⟨b2, x, y, f, g, ea, en, ec, v, rfl, hv2, e0, e1, e2, e3, e4, ev⟩ := (HV.out.2.1.k0 T.out.2.1).ev hjl
          have q0 := cell_blk T.out.2.2 0 (v := .string k1) rfl
          obtain ⟨L, ow0, al0⟩ := T.out.1.row
          have N180 : n2 ≤ 2199023255552 := by
            have h1 : (flat (vs.take i) ++ (es.take j).map (fun e => (k1, e))).length ≤ (flat vs).length := by
              have hd : flat vs = flat (vs.take i) ++ (es.map (fun e => (k1, e)) ++ flat (vs.drop (i + 1))) := by
                have hil : i < vs.length := (List.getElem?_eq_some_iff.1 HV.out.1).1
                have e5 : vs[i] = (k1, es) := (List.getElem?_eq_some_iff.1 HV.out.1).2
                conv => lhs; rw [← List.take_append_drop i vs, List.drop_eq_getElem_cons hil, e5]
                simp [flat]
              rw [hd, List.length_append, List.length_append, List.length_append, List.length_map, List.length_map, List.length_take]
              omega
            have := F.out
            rw [T.out.1.len] at h1
            omega
          have AR : Hid (wr.ownsRow w1.heap.size 36 7 (.slice p2 n2 c2) n2 (ucells L) ∧ Along (UvRd wr) L (flat (vs.take i) ++ (es.take j).map (fun e => (k1, e))) ∧ EvRd wr ((x, y), f, g, ea, en, ec) v ∧ es[j]? = some v ∧ Kept (fun _ => False) w1 wr) := ⟨ow0, al0, ev, hv2, T.out.2.1⟩
          have BL : Hid (n2 + 1 ≤ maxLen ∧ ((n2 + 1) + (n2 + 1) / 4 + 192) * 72 ≤ 281474976710656) := by
            unfold maxLen
            exact ⟨by omega, by omega⟩
          clear ow0 al0 ev hv2
          go_upto_region 8 with fail
          obtain ⟨W2, hW2⟩ : ∃ W2, W2 = wr.alloc (.cells #[.int .i64 x, .int .i64 y, .bool f, .bool g, .slice ea en ec] 34) := ⟨_, rfl⟩
          obtain ⟨EB, hEB⟩ : ∃ B, B = wr.heap.size := ⟨_, rfl⟩
          have H2 : Hid (W2.heap[EB]? = some (.cells #[.int .i64 x, .int .i64 y, .bool f, .bool g, .slice ea en ec] 34 (0, 0)) ∧ Kept (fun _ => False) wr W2) := by
            rw [hW2, hEB]
            exact ⟨heap_alloc_new _ _, k0_alloc _ _⟩
          rw [← hW2, ← hEB]
          clear hW2 hEB e0 e1 e2 e3 e4 q0
          have e0 := cell_blk H2.out.1 0 (v := .int .i64 x) rfl
          have e1 := cell_blk H2.out.1 1 (v := .int .i64 y) rfl
          have e2 := cell_blk H2.out.1 2 (v := .bool f) rfl
          have e3 := cell_blk H2.out.1 3 (v := .bool g) rfl
          have e4 := cell_blk H2.out.1 4 (v := .slice ea en ec) rfl
          have q0 := cell_blk (H2.out.2.get T.out.2.2 (fun z => z)) 0 (v := .string k1) rfl
          go_wp2_with
            (first
              | (at_builtin; refine wpList_append_all _ rfl (.tmp 22) (.tmp 27) 22 36 22 _ 7 72 rfl Tryz.underlying22 Tryz.info36c rfl w1.heap.size (.slice p2 n2 c2) n2 (ucells L) rfl ((k0_alloc W2 _).owns (H2.out.2.owns AR.out.1 (fun _ _ z => z)) (fun _ _ z => z)) _ 1 (encU (k1, (x, y), f, g, ea, en, ec)) rfl (src_upd (heap_alloc_new W2 _)) BL.out.1 BL.out.2 (Nat.le_trans (AR.out.2.2.2.2.and0 H2.out.2).size (k0_alloc W2 _).size) ?_; intro p9 c9 w9 ho hg hn)
              | fail)
          have T9 : Hid (UpRd w1.heap.size w9 p9 (n2 + 1) c9 (flat (vs.take i) ++ (es.take (j + 1)).map (fun e => (k1, e))) ∧ Kept (fun _ => False) w1 w9 ∧ w9.heap[HB]? = some (.cells #[.string k1, .slice (some ⟨b2, 0, none⟩) m1 q1] 73 (0, 0))) := by
            have K2 := H2.out.2
            have := up_more (K2.owns AR.out.1 (fun _ _ z => z)) (AR.out.2.1.imp (fun a b q => ⟨q.key, q.ent.off K2 (fun _ _ _ _ z => z)⟩)) T.out.1.len (AR.out.2.2.2.2.and0 K2) (e := (k1, (x, y), f, g, ea, en, ec)) (v := (k1, v)) ⟨rfl, AR.out.2.2.1.off K2 (fun _ _ _ _ z => z)⟩ ho.out hg.out
            have e5 : flat (vs.take i) ++ (es.take (j + 1)).map (fun e => (k1, e)) = flat (vs.take i) ++ (es.take j).map (fun e => (k1, e)) ++ [(k1, v)] := by
              rw [List.take_add_one, AR.out.2.2.2.1, List.map_append, List.append_assoc]
              rfl
            rw [e5]
            refine ⟨this.1, this.2, ?_⟩
            have KG : Kept (fun k => blockOf p2 = some k) W2 w9 := ((Kept.refl (fun k => blockOf p2 = some k) W2).alloc _).grown hg.out (fun k _ z => by rw [blockOf_own] at z; exact z)
            have hb := K2.get T.out.2.2 (fun z => z)
            refine KG.get hb (fun z => ?_)
            obtain ⟨c3, h3⟩ := own_type (K2.owns AR.out.1 (fun _ _ z => z)) HB z
            rw [h3] at hb
            simp at hb
          clear ho hg hn
          go_roundw
          case rel => exact ⟨j + 1, n2 + 1, c9, p9, rfl, by go_num, by omega, T9⟩
          case measure => simp [intOf] <;> omega
        · have j1 : ¬ (j : Int) < (m1 : Int) := by omega
          have G : Hid (UpRd w1.heap.size wr p2 n2 c2 (flat (vs.take (i + 1))) ∧ Kept (fun _ => False) w1 wr) := by
            have := T.out.1
            rw [List.take_of_length_le (l := es) (i := j) (by rw [HV.out.2.2]; omega)] at this
            refine ⟨?_, T.out.2.1⟩
            rw [List.take_add_one, HV.out.1]
            show UpRd _ _ _ _ _ (flat (_ ++ [(k1, es)]))
            rw [flat_snoc]
            exact this
          clear T
          go_wp2_with fail
          go_roundw
          case rel => exact ⟨i + 1, n2, c2, p2, rfl, by go_num, by omega, G⟩
          case measure => simp [intOf] <;> omega
    · have i1 : ¬ (i : Int) < (n1 : Int) := by omega
      have G : Hid (UpRd 0 wo p n c (flat vs) ∧ AllOf t dat vs ∧ Kept (fun _ => False) wr0 wo) := by
        obtain ⟨L, ow, al⟩ := S.out.1.row
        have ev : vs.take i = vs := List.take_of_length_le (by rw [A1.out.1.len]; omega)
        rw [ev] at al
        have ln := S.out.1.len
        rw [ev] at ln
        exact ⟨⟨ln, L, owns_mono ow (Nat.zero_le _), al⟩, A1.out.2.1, A1.out.2.2.and0 S.out.2⟩
      clear S
      go_wp2_with fail
      go_ret
      exact ⟨p, n, c, rfl, vs, G⟩
end Go.Proofs.YtojepeefphbekabGreat
