import Derived.Test.YtojepeefphbekabGreatRowCJ
namespace Go.Proofs.YtojepeefphbekabGreat
open Go.RowKit

/-- What is left when all below f is thrown away. -/
def throwM (M : Int × Int → Option Hd) (f : Int × Int) : Int × Int → Option Hd := fun t => if tc t f < 0 then none else M t
structure RMoved (w w' : World) (r r' : RK) : Prop where
  mb : r'.mb = r.mb
  sb : r'.sb = r.sb
  kept : Kept r.Uses w w'
  near : ∀ k, r'.Uses k → r.Uses k ∨ w.heap.size ≤ k
/-- The boxes of 'throwAway', the map and the set beside them. -/
structure TA (w W : World) (mb sb : Nat) (q : Option Addr) (len cap : Nat) (S : List (Int × Int)) (x y : Int) : Prop where
  row : W.heap[w.heap.size]? = some (.cells #[.map (some mb), .pointer (some ⟨sb, 0, none⟩)] 60 (0, 0))
  tag : W.heap[w.heap.size + 1]? = some (.cells #[.int .i64 x, .int .i64 y] 31 (0, 0))
  st : IsSet 105 W sb q len cap S
theorem TA.off {U : Nat → Prop} {w W W' : World} {mb sb : Nat} {q : Option Addr} {len cap : Nat} {S : List (Int × Int)} {x y : Int} (h : TA w W mb sb q len cap S x y) (K : Kept U W W') (h0 : ¬ U w.heap.size) (h1 : ¬ U (w.heap.size + 1)) (h2 : ¬ U sb) (h3 : ∀ k, blockOf q = some k → ¬ U k) : TA w W' mb sb q len cap S x y :=
  ⟨K.get h.row h0, K.get h.tag h1, h.st.off K h2 h3⟩
/-- The round's state. -/
def LI (w4 : World) (mb rr n : Nat) (M : Int × Int → Option Hd) (f : Int × Int) (wr : World) (cnt : Nat) : Prop :=
  ∃ (Mc : Int × Int → Option Hd) (L : Int × Int → Prop), RG 31 tl TFit Hd.val RH wr mb rr n Mc L cnt ∧ (∀ t, L t → Mc t = M t) ∧ (∀ t, ¬ L t → Mc t = throwM M f t) ∧ Kept (fun k => k = mb ∨ k = rr) w4 wr
theorem throw_self (M : Int × Int → Option Hd) (f t : Int × Int) (h : M t = none) : throwM M f t = M t := by
  unfold throwM
  split
  · exact h.symm
  · rfl
set_option maxRecDepth 100000 in
set_option maxHeartbeats 2000000 in
theorem throwAway (n : Nat) (r : RK) (x y : Int) (w : World) (h : IsRow w n r) (hlen : r.len * 16 ≤ 211106232532992) : Calls Tryz.prog 45 #[.agg #[.map (some r.mb), .pointer (some ⟨r.sb, 0, none⟩)], .agg #[.int .i64 x, .int .i64 y]] w fun o w' => o = .returned (.tuple #[]) ∧ ∃ r', IsRow w' n r' ∧ RMoved w w' r r' ∧ ((isZero x y = true ∧ r'.S = r.S ∧ r'.M = r.M) ∨ (isZero x y = false ∧ r'.S = r.S.drop (ahead r.S (x, y)) ∧ r'.len ≤ r.len ∧ r'.M = throwM r.M (x, y))) := by
  obtain ⟨mb, sb, q, len, cap, S, M⟩ := r
  have h : IsRow w n ⟨mb, sb, q, len, cap, S, M⟩ := h
  have LT : Hid (mb < w.heap.size ∧ sb < w.heap.size ∧ (∀ k, blockOf q = some k → k < w.heap.size) ∧ len * 16 ≤ 211106232532992) := ⟨h.lt (.inl rfl), h.lt (.inr (.inl rfl)), fun k hk => h.lt (.inr (.inr hk)), hlen⟩
  have NE : Hid (mb ≠ sb ∧ blockOf q ≠ some mb ∧ blockOf q ≠ some sb) := by
    obtain ⟨D, ⟨es, clock, hb, _⟩, _⟩ := h.tm
    have hb : w.heap[mb]? = some (.map es clock) := hb
    refine ⟨fun e => ?_, fun e => ?_, h.st.apart⟩
    · have := h.st.blk
      rw [← e] at this
      have this : w.heap[mb]? = _ := this
      rw [hb] at this
      cases this
    · rcases h.st.row.pos with ⟨e1, _⟩ | ⟨g, off, cur, e1, h1, _⟩
      · have e1 : q = none := e1
        rw [e1] at e
        cases e
      · have e1 : q = some ⟨g, off, none⟩ := e1
        rw [e1] at e
        have e : g = mb := Option.some.inj e
        rw [e, hb] at h1
        cases h1
  obtain ⟨W, hW⟩ : ∃ W, W = (w.alloc (.cells #[.map (some mb), .pointer (some ⟨sb, 0, none⟩)] 60)).alloc (.cells #[.int .i64 x, .int .i64 y] 31) := ⟨_, rfl⟩
  have KZ : Kept (fun _ => False) w W := by rw [hW]; exact ((Kept.refl _ w).alloc _).alloc _
  have H : Hid (TA w W mb sb q len cap S x y ∧ TM 31 tl TFit Hd.val RH W mb n M ∧ Kept (fun _ => False) w W ∧ Rising S) := by
    refine ⟨⟨?_, ?_, h.st.off KZ (fun z => z) (fun _ _ z => z)⟩, h.tm.kept KZ (fun z => z), KZ, h.up⟩
    · rw [hW]; exact two0 _ _ _
    · rw [hW]; exact two1 _ _ _
  have EW : Hid (W = (w.alloc (.cells #[.map (some mb), .pointer (some ⟨sb, 0, none⟩)] 60)).alloc (.cells #[.int .i64 x, .int .i64 y] 31)) := hW
  clear h hlen hW KZ
  dsimp only
  go_enter Tryz.func45, Tryz.ntmps45
  go_upto_region 1 with fail
  rw [← EW.out]
  have t0 := cell_blk H.out.1.tag 0 (v := .int .i64 x) rfl
  have t1 := cell_blk H.out.1.tag 1 (v := .int .i64 y) rfl
  go_wp2_with fail
  refine (zero x y W).mono ?_
  rintro o w2 ⟨rfl, B2⟩
  have H2 : Hid (TA w w2 mb sb q len cap S x y ∧ TM 31 tl TFit Hd.val RH w2 mb n M ∧ Kept (fun _ => False) w w2 ∧ Rising S) := ⟨H.out.1.off (k0_of B2) (fun z => z) (fun z => z) (fun z => z) (fun _ _ z => z), H.out.2.1.kept (k0_of B2) (fun z => z), H.out.2.2.1.and0 (k0_of B2), H.out.2.2.2⟩
  clear B2 t0 t1
  obtain ⟨zb, hzb⟩ : ∃ zb, isZero x y = zb := ⟨_, rfl⟩
  have HZ : Hid (isZero x y = zb) := hzb
  rw [hzb]
  clear hzb
  cases zb
  · have c0 := cell_blk H2.out.1.row 0 (v := .map (some mb)) rfl
    have c1 := cell_blk H2.out.1.row 1 (v := .pointer (some ⟨sb, 0, none⟩)) rfl
    have t0 := cell_blk H2.out.1.tag 0 (v := .int .i64 x) rfl
    have t1 := cell_blk H2.out.1.tag 1 (v := .int .i64 y) rfl
    go_wp2_with fail
    refine (sCut sb q len cap S x y w2 H2.out.1.st H2.out.2.2.2 LT.out.2.2.2).mono ?_
    rintro o w3 ⟨q', cap', rfl, st3, mv⟩
    have NU : Hid (∀ k, (k = sb ∨ blockOf q = some k) → k < w.heap.size ∧ k ≠ mb) := by
      rintro k (e | e)
      · exact ⟨by rw [e]; exact LT.out.2.1, fun z => NE.out.1 (z.symm.trans e)⟩
      · exact ⟨LT.out.2.2.1 k e, fun z => NE.out.2.1 (by rw [← z]; exact e)⟩
    obtain ⟨rr, hrr⟩ : ∃ rr, rr = w3.heap.size := ⟨_, rfl⟩
    have H3 : Hid (TA w w3 mb sb q' (len - ahead S (x, y)) cap' (S.drop (ahead S (x, y))) x y ∧ TM 31 tl TFit Hd.val RH w3 mb n M ∧ Kept (fun k => k = sb ∨ blockOf q = some k) w w3 ∧ (∀ k, blockOf q' = some k → blockOf q = some k ∨ w2.heap.size ≤ k) ∧ w2.heap.size ≤ w3.heap.size ∧ rr = w3.heap.size) := by
      have hn0 : ∀ k, w.heap.size ≤ k → ¬ (k = sb ∨ blockOf q = some k) := fun k hk z => by have := (NU.out k z).1; omega
      refine ⟨⟨mv.kept.get H2.out.1.row (hn0 _ (Nat.le_refl _)), mv.kept.get H2.out.1.tag (hn0 _ (by omega)), st3⟩, H2.out.2.1.kept mv.kept (fun z => (NU.out _ z).2 rfl), (H2.out.2.2.1.mono (fun _ _ z => z.elim)).trans mv.kept (fun _ _ z => z), mv.near, mv.kept.size, hrr⟩
    have c0 := cell_blk H3.out.1.row 0 (v := .map (some mb)) rfl
    clear st3 mv c1 t0 t1
    go_wp2_with
      (first
        | (at_range; refine wpList_rng tagsK _ rfl _ rfl mb n M rfl H3.out.2.1 ?_; intro w4 hrg0 hk0 hs0)
        | fail)
    rw [← hrr]
    have I0 : Hid (∃ cnt, LI w4 mb rr n M (x, y) w4 cnt) := by
      obtain ⟨cnt, g⟩ := hrg0.out
      rw [← hrr] at g
      refine ⟨cnt, M, _, g, fun _ _ => rfl, fun t ht => ?_, Kept.refl _ _⟩
      have e : M t = none := Classical.byContradiction (fun z => ht z)
      exact (throw_self M (x, y) t e).symm
    have H4 : Hid (TA w w4 mb sb q' (len - ahead S (x, y)) cap' (S.drop (ahead S (x, y))) x y ∧ Kept (fun k => k = sb ∨ blockOf q = some k) w w4 ∧ w.heap.size + 2 ≤ rr ∧ (∀ k, blockOf q' = some k → k ≠ mb ∧ k ≠ rr)) := by
      have b1 := block_lt H3.out.1.tag
      refine ⟨H3.out.1.off hk0.out (fun z => z) (fun z => z) (fun z => z) (fun _ _ z => z), H3.out.2.2.1.and0 hk0.out, by omega, fun k hk => ⟨fun z => ?_, fun z => ?_⟩⟩
      · rcases H3.out.2.2.2.1 k hk with e | e
        · exact (NU.out k (.inr e)).2 z
        · have := LT.out.1
          have := H2.out.2.2.1.size
          omega
      · have := H3.out.1.st.rowlt k hk
        omega
    clear hrg0 hk0 hs0 c0 hrr
    go_frame
    go_loopw [4] (fun _ wr => ∃ cnt, Hid (LI w4 mb rr n M (x, y) wr cnt)) (fun _ wr => wr.rangeLeft mb rr)
    case atStart => exact I0.out
    case round =>
      obtain ⟨cnt, I⟩ := hrel
      obtain ⟨wq, rfl⟩ : ∃ wq : World, wq = wr := ⟨_, rfl⟩
      obtain ⟨Mc, L, rg, l1, l2, Kq⟩ := I.out
      have J : Hid (RG 31 tl TFit Hd.val RH wq mb rr n Mc L cnt ∧ (∀ t, L t → Mc t = M t) ∧ (∀ t, ¬ L t → Mc t = throwM M (x, y) t) ∧ Kept (fun k => k = mb ∨ k = rr) w4 wq) := ⟨rg, l1, l2, Kq⟩
      clear rg l1 l2 Kq
      go_wp2_with
        (first
          | (at_next; refine wpList_nxt tagsK _ rfl _ rfl mb rr n Mc L cnt rfl J.out.1 ?_ ?_)
          | fail)
      · intro hd
        go_wp2_with fail
        go_end0
        have M0 : Mc = throwM M (x, y) := by
          funext t
          refine Classical.byCases (fun ht : L t => ?_) (fun ht => J.out.2.2.1 t ht)
          have e1 := J.out.2.1 t ht
          cases e : M t with
          | none => rw [e1, throw_self M (x, y) t e]
          | some d =>
            obtain ⟨D, hM, sM⟩ := H3.out.2.1
            exact absurd ht (hd.out t.1 t.2 (sM.2 t d e))
        have b1 := H4.out.1.st.sv.lt
        have TQ := H4.out.1.off J.out.2.2.2 (by have := LT.out.1; have := H4.out.2.2.1; omega) (by have := LT.out.1; have := H4.out.2.2.1; omega) (fun z => by rcases z with z | z; exact NE.out.1 z.symm; (have := LT.out.2.1; have := H4.out.2.2.1; omega)) (fun k hk z => by rcases z with z | z; exact (H4.out.2.2.2 k hk).1 z; exact (H4.out.2.2.2 k hk).2 z)
        refine ⟨rfl, ⟨mb, sb, q', len - ahead S (x, y), cap', S.drop (ahead S (x, y)), Mc⟩, ⟨J.out.1.tm, TQ.st, drop_rising _ H2.out.2.2.2 _⟩, ⟨rfl, rfl, ?_, ?_⟩, .inr ⟨HZ.out, rfl, Nat.sub_le _ _, M0⟩⟩
        · refine (H4.out.2.1.mono (fun _ _ z => .inr z)).trans J.out.2.2.2 (fun j hj z => ?_)
          rcases z with z | z
          · exact .inl z
          · have := H4.out.2.2.1
            omega
        · rintro k (z | z | z)
          · exact .inl (.inl z)
          · exact .inl (.inr (.inl z))
          · rcases H3.out.2.2.2.1 k z with e | e
            · exact .inl (.inr (.inr e))
            · exact .inr (Nat.le_trans H2.out.2.2.1.size e)
      · intro ta tb hd w5 cnt5 hk hrg hlt hK hen
        obtain ⟨df, dh, da, dn, dc⟩ := hd
        replace hen : (Instr.entry (.pointer (some ⟨rr, 0, none⟩))).run Tryz.prog w5 = .ok (.tuple #[.agg #[.int .i64 ta, .int .i64 tb], .agg #[.bool df, .bool dh, .slice da dn dc]]) w5 := hen
        dsimp only [tv, Hd.val]
        obtain ⟨W6, hW6⟩ : ∃ W6, W6 = w5.alloc (.cells #[.int .i64 ta, .int .i64 tb] 31) := ⟨_, rfl⟩
        obtain ⟨b6, hb6⟩ : ∃ b6, b6 = w5.heap.size := ⟨_, rfl⟩
        have J5 : Hid (Kept (fun k => k = mb ∨ k = rr) w4 w5) := J.out.2.2.2.trans hK.out (fun _ _ z => .inr z)
        have J6 : Hid (RG 31 tl TFit Hd.val RH W6 mb rr n Mc (fun j => L j ∧ j ≠ (ta, tb)) cnt5 ∧ Kept (fun k => k = mb ∨ k = rr) w4 W6 ∧ W6.heap[b6]? = some (.cells #[.int .i64 ta, .int .i64 tb] 31 (0, 0)) ∧ W6.heap[w.heap.size]? = some (.cells #[.map (some mb), .pointer (some ⟨sb, 0, none⟩)] 60 (0, 0)) ∧ W6.heap[w.heap.size + 1]? = some (.cells #[.int .i64 x, .int .i64 y] 31 (0, 0))) := by
          have K6 : Kept (fun k => k = mb ∨ k = rr) w4 W6 := by rw [hW6]; exact J5.out.alloc _
          refine ⟨by rw [hW6]; exact hrg.out.kept (k0_alloc _ _) (fun z => z) (fun z => z), K6, by rw [hW6, hb6]; exact heap_alloc_new _ _, K6.get H4.out.1.row ?_, K6.get H4.out.1.tag ?_⟩
          · have := LT.out.1
            have := H4.out.2.2.1
            omega
          · have := LT.out.1
            have := H4.out.2.2.1
            omega
        have EW6 : Hid (W6 = w5.alloc (.cells #[.int .i64 ta, .int .i64 tb] 31) ∧ b6 = w5.heap.size) := ⟨hW6, hb6⟩
        clear hW6 hb6
        go_upto_region 6 with fail
        rw [← EW6.out.1, ← EW6.out.2]
        have u0 := cell_blk J6.out.2.2.1 0 (v := .int .i64 ta) rfl
        have u1 := cell_blk J6.out.2.2.1 1 (v := .int .i64 tb) rfl
        have t0 := cell_blk J6.out.2.2.2.2 0 (v := .int .i64 x) rfl
        have t1 := cell_blk J6.out.2.2.2.2 1 (v := .int .i64 y) rfl
        go_wp2_with fail
        refine (compare ta tb x y W6).mono ?_
        rintro o w7 ⟨rfl, B7⟩
        have J7 : Hid (RG 31 tl TFit Hd.val RH w7 mb rr n Mc (fun j => L j ∧ j ≠ (ta, tb)) cnt5 ∧ Kept (fun k => k = mb ∨ k = rr) w4 w7 ∧ w7.heap[b6]? = some (.cells #[.int .i64 ta, .int .i64 tb] 31 (0, 0)) ∧ w7.heap[w.heap.size]? = some (.cells #[.map (some mb), .pointer (some ⟨sb, 0, none⟩)] 60 (0, 0))) := ⟨J6.out.1.kept (k0_of B7) (fun z => z) (fun z => z), J6.out.2.1.and0 (k0_of B7), (k0_of B7).get J6.out.2.2.1 (fun z => z), (k0_of B7).get J6.out.2.2.2.1 (fun z => z)⟩
        clear B7 u0 u1 t0 t1 hen
        by_cases hc : tcmp ta tb x y < 0
        · have u0 := cell_blk J7.out.2.2.1 0 (v := .int .i64 ta) rfl
          have u1 := cell_blk J7.out.2.2.1 1 (v := .int .i64 tb) rfl
          have c0 := cell_blk J7.out.2.2.2 0 (v := .map (some mb)) rfl
          go_wp2_with
            (first
              | (at_delete; refine wpList_del tagsK _ rfl _ _ rfl mb rr n Mc (fun j => L j ∧ j ≠ (ta, tb)) cnt5 rfl J7.out.1 (ta, tb) hk.out.1 rfl ?_; intro w8 cnt8 hrg8 hle8 hK8; go_frame)
              | fail)
          go_roundw
          case rel =>
            refine ⟨cnt8, cut Mc (ta, tb), _, hrg8.out, fun j hj => ?_, fun j hj => ?_, J7.out.2.1.trans hK8.out (fun _ _ z => .inl z)⟩
            · unfold cut
              rw [if_neg hj.2]
              exact J.out.2.1 j hj.1.1
            · unfold cut
              by_cases e : j = (ta, tb)
              · rw [if_pos e, e]
                unfold throwM
                rw [if_pos (show tc (ta, tb) (x, y) < 0 from hc)]
              · rw [if_neg e]
                exact J.out.2.2.1 j (fun z => hj ⟨⟨z, e⟩, e⟩)
          case measure =>
            rw [hrg8.out.left_eq, J.out.1.left_eq]
            have h1 := hlt.out
            have h2 := hle8.out
            omega
        · have hc2 : ¬ (tcmp ta tb x y < 0) := hc
          go_wp2_with fail
          go_roundw
          case rel =>
            refine ⟨cnt5, Mc, _, J7.out.1, fun j hj => J.out.2.1 j hj.1, fun j hj => ?_, J7.out.2.1⟩
            by_cases e : j = (ta, tb)
            · rw [e, J.out.2.1 _ hk.out.2.1]
              unfold throwM
              rw [if_neg (show ¬ tc (ta, tb) (x, y) < 0 from fun z => by have z : tcmp ta tb x y < 0 := z; omega)]
            · exact J.out.2.2.1 j (fun z => hj ⟨z, e⟩)
          case measure =>
            rw [J7.out.1.left_eq, J.out.1.left_eq]
            exact hlt.out
  · go_wp2_with fail
    refine bodyPost_ret (results_none rfl _ _ _) rfl ?_
    exact ⟨rfl, ⟨mb, sb, q, len, cap, S, M⟩, ⟨H2.out.2.1, H2.out.1.st, H2.out.2.2.2⟩, ⟨rfl, rfl, H2.out.2.2.1.mono (fun _ _ z => z.elim), fun k hk => .inl hk⟩, .inl ⟨HZ.out, rfl, rfl⟩⟩
end Go.Proofs.YtojepeefphbekabGreat
