import Derived.Test.YtojepeefphbekabGreatSOwnJ
import Derived.Deep.RegionHeldLaw
namespace Go.Proofs.YtojepeefphbekabGreat
open Go.RowKit 

theorem same_set {l : List Value} {j : Nat} {v : Value} (h : l[j]? = some v) : l.set j v = l := by
  obtain ⟨h1, h2⟩ := List.getElem?_eq_some_iff.1 h
  rw [← h2]
  exact List.set_getElem_self _
theorem RTab.gain {b0 : Nat} {wi w8 : World} {tb : Nat} {delta : Int} {g n c : Nat} {L : List Ut} {vs : List Uv} {v : Uv} {i : Nat} {k : ByteArray} {t : Int × Int} {f : Bool} {pd : Option Addr} {m cd : Nat} (h : RTab b0 wi tb delta (some ⟨g, 0, none⟩) n c L vs) (hi : i < L.length) (hk : L[i].1 = k) (ht : L[i].2.1 = t) (hf : L[i].2.2.1 = f) (K8 : Kept (fun _ => False) (wi.setCell ⟨g, i * 6 + 4, none⟩ (.bool true)) w8) (uv : UvRd w8 (k, t, f, true, pd, m, cd) v) :
    RTab b0 (w8.setCell ⟨g, i * 6 + 5, none⟩ (.slice pd m cd)) tb delta (some ⟨g, 0, none⟩) n c (L.set i (k, t, f, true, pd, m, cd)) (vs.set i v) ∧ Kept (fun k => k = g) wi (w8.setCell ⟨g, i * 6 + 5, none⟩ (.slice pd m cd)) := by
  have K1 : Kept (fun k => k = g) wi (wi.setCell ⟨g, i * 6 + 4, none⟩ (.bool true)) := (Kept.refl (fun k => k = g) wi).setCell (p := ⟨g, i * 6 + 4, none⟩) (fun _ => rfl) _
  have K9 : Kept (fun k => k = g) w8 (w8.setCell ⟨g, i * 6 + 5, none⟩ (.slice pd m cd)) := (Kept.refl (fun k => k = g) w8).setCell (p := ⟨g, i * 6 + 5, none⟩) (fun _ => rfl) _
  have K : Kept (fun k => k = g) wi (w8.setCell ⟨g, i * 6 + 5, none⟩ (.slice pd m cd)) := (K1.and0 K8).trans K9 (fun _ _ z => z)
  obtain ⟨cg, hg⟩ := own_ty h.row (k := g) rfl
  have hg8 : ∃ cs, w8.heap[g]? = some (.cells cs 70 (0, 0)) := ⟨_, K8.get (heap_set hg (i * 6 + 4) (.bool true)) (fun z => z)⟩
  have n5 : ∀ k cs fr, wi.heap[k]? = some (.cells cs 5 fr) → ¬ k = g := fun k cs fr hc z => by
    rw [z, hg] at hc
    simp at hc
  have n58 : ∀ k cs fr, w8.heap[k]? = some (.cells cs 5 fr) → ¬ k = g := fun k cs fr hc z => by
    obtain ⟨cs8, q⟩ := hg8
    rw [z, q] at hc
    simp at hc
  refine ⟨⟨K.get h.blk (fun z => ?_), by rw [List.length_set]; exact h.len, ?_, (h.rd.imp (fun _ _ q => q.off K n5)).set (uv.off K9 n58)⟩, K⟩
  · have z : tb = g := z
    have hb := h.blk
    rw [z, hg] at hb
    simp at hb
  · rw [rcells_set L i hi (k, t, f, true, pd, m, cd) (fun _ => hk)]
    have c1 := rcells_get L i hi 1 (by omega)
    have c2 := rcells_get L i hi 2 (by omega)
    have c3 := rcells_get L i hi 3 (by omega)
    have s1 : (rcells L).set (i * 6 + 1) (.int .i64 t.1) = rcells L := same_set (by rw [c1, ← ht]; rfl)
    have s2 : (rcells L).set (i * 6 + 2) (.int .i64 t.2) = rcells L := same_set (by rw [c2, ← ht]; rfl)
    have s3 : (rcells L).set (i * 6 + 3) (.bool f) = rcells L := same_set (by rw [c3, ← hf]; rfl)
    show World.ownsRow _ _ _ _ _ _ (((((( rcells L).set (i * 6 + 1) (.int .i64 t.1)).set (i * 6 + 2) (.int .i64 t.2)).set (i * 6 + 3) (.bool f)).set (i * 6 + 4) (.bool true)).set (i * 6 + 5) (.slice pd m cd))
    rw [s1, s2, s3]
    exact ((K8.owns (h.row.stored _ _).1 (fun _ _ z => z)).stored _ _).1
theorem setIf_other {cs : Array Value} {j k : Nat} (h : j ≠ k) (u : Value) : (cs.setIfInBounds j u)[k]? = cs[k]? := by
  rw [Array.getElem?_setIfInBounds_ne h]
set_option maxRecDepth 100000 in
set_option maxHeartbeats 4000000 in
/-- A fragment came. -/
theorem sPre (b0 tb : Nat) (delta : Int) (p : Option Addr) (n c : Nat) (L : List Ut) (vs : List Uv) (key : ByteArray) (x y : Int) (a : Option Addr) (m e : Nat) (l : List Nat) (w : World) (h : RTab b0 w tb delta p n c L vs) (hn : n ≤ 2199023255552) (h0 : 0 ≤ delta) (hb : b0 ≤ w.heap.size) (r : Reads w a m e l) (hm : m ≤ 140737488355328) (HA : Hid (0 < m → ∀ q, a = some q → q.block < b0)) :
    Calls Tryz.prog 25 #[.pointer (some ⟨tb, 0, none⟩), .string key, .agg #[.int .i64 x, .int .i64 y], .slice a m e] w fun o w' => o = .returned (.tuple #[]) ∧ Hid (∃ F, Falls F ∧ F.Perm (fins0 key vs) ∧ RMv b0 w w' tb delta p L (preV (nth F delta) vs key (x, y) l).2) := by
  obtain ⟨W, hW⟩ : ∃ W, W = w.alloc (.cells #[.int .i64 x, .int .i64 y] 31) := ⟨_, rfl⟩
  have KZ : Kept (fun _ => False) w W := by rw [hW]; exact k0_alloc _ _
  have H : Hid (RTab b0 w tb delta p n c L vs ∧ W.heap[w.heap.size]? = some (.cells #[.int .i64 x, .int .i64 y] 31 (0, 0)) ∧ Kept (fun _ => False) w W ∧ n ≤ 2199023255552 ∧ 0 ≤ delta ∧ b0 ≤ w.heap.size ∧ Reads w a m e l ∧ m ≤ 140737488355328) := ⟨h, by rw [hW]; exact heap_alloc_new _ _, KZ, hn, h0, hb, r, hm⟩
  have EW : Hid (W = w.alloc (.cells #[.int .i64 x, .int .i64 y] 31)) := hW
  clear h KZ hW hn h0 hb r hm
  go_enter Tryz.func25, Tryz.ntmps25
  go_upto_region 1 with fail
  rw [← EW.out]
  have t0 := cell_blk H.out.2.1 0 (v := .int .i64 x) rfl
  have t1 := cell_blk H.out.2.1 1 (v := .int .i64 y) rfl
  go_cut [13] (fun u wc => ∃ bb : Bool, u = .bool bb ∧ Hid (∃ F, Falls F ∧ F.Perm (fins0 key vs) ∧ bb = decide (tc (x, y) (nth F delta) < 0) ∧ Kept (fun _ => False) W wc))
  case first =>
    go_region_held3 (fun V => V.cell? ⟨w.heap.size, 0, none⟩ = some (.int .i64 x) ∧ V.cell? ⟨w.heap.size, 1, none⟩ = some (.int .i64 y)) (first | go_keep)
      (first
        | (go_at_call 16; refine (rFloorB b0 tb delta p n c L vs key W.drew (H.out.1.k0 (H.out.2.2.1.and0 (Kept.refl _ _).drew)) H.out.2.2.2.1 H.out.2.2.2.2.1).mono ?_; rintro o w2 ⟨fx, fy, rfl, Q2⟩
           have K2 : Hid (Kept (fun _ => False) W w2) := by
             obtain ⟨_, _, _, _, K⟩ := Q2.out
             exact ((Kept.refl _ _).drew).and0 K
           have t0 := K2.out.cell t0 (fun z => z)
           have t1 := K2.out.cell t1 (fun z => z))
        | (go_at_call 29; refine (rBelow x y fx fy _).mono ?_; rintro o w3 ⟨rfl, K3⟩
           have K4 : Hid (Kept (fun _ => False) W w3) := K2.out.and0 K3
           have t0 := K3.cell t0 (fun z => z)
           have t1 := K3.cell t1 (fun z => z)
           clear K3)
        | fail)
    all_goals go_wp2_with fail
    all_goals go_meet
    all_goals refine ⟨_, rfl, ?_⟩
    all_goals obtain ⟨F, f1, f2, f3, _⟩ := Q2.out
    all_goals refine ⟨F, f1, f2, by rw [f3], ?_⟩
    all_goals first | exact K4.out | exact K4.out.drew | exact K4.out.drew.drew | exact K4.out.drewN _
  case rest =>
    obtain ⟨bb, rfl, Q⟩ := hcut
    clear t0 t1
    cases bb
    · obtain ⟨F, f1, f2, f3, kc⟩ := Q.out
      have nb : ¬ tc (x, y) (nth F delta) < 0 := of_decide_eq_false f3.symm
      have P : Hid (Falls F ∧ F.Perm (fins0 key vs) ∧ ¬ tc (x, y) (nth F delta) < 0 ∧ Kept (fun _ => False) w wc ∧ wc.heap[w.heap.size]? = some (.cells #[.int .i64 x, .int .i64 y] 31 (0, 0))) := ⟨f1, f2, nb, H.out.2.2.1.and0 kc, kc.get H.out.2.1 (fun z => z)⟩
      clear f1 f2 f3 kc nb Q
      have t0 := cell_blk P.out.2.2.2.2 0 (v := .int .i64 x) rfl
      have t1 := cell_blk P.out.2.2.2.2 1 (v := .int .i64 y) rfl
      obtain ⟨pv, hpv⟩ : ∃ pv, pv = plc vs key (x, y) 0 := ⟨_, rfl⟩
      have RP : Hid (Calls Tryz.prog 28 #[.pointer (some ⟨tb, 0, none⟩), .string key, .agg #[.int .i64 x, .int .i64 y]] wc fun o w' => o = .returned (.int .i64 pv) ∧ Kept (fun _ => False) wc w') := by rw [hpv]; exact rPlace b0 tb delta p n c L vs key x y wc (H.out.1.k0 P.out.2.2.2.1)
      have HP : Hid (pv = plc vs key (x, y) 0) := hpv
      clear hpv
      go_wp2_with fail
      refine RP.out.mono ?_
      rintro o w6 ⟨rfl, K6⟩
      have P6 : Hid (Kept (fun _ => False) w w6 ∧ RTab b0 w6 tb delta p n c L vs ∧ Reads w6 a m e l ∧ w6.heap[w.heap.size]? = some (.cells #[.int .i64 x, .int .i64 y] 31 (0, 0))) := ⟨P.out.2.2.2.1.and0 K6, H.out.1.k0 (P.out.2.2.2.1.and0 K6), H.out.2.2.2.2.2.2.1.kept (P.out.2.2.2.1.and0 K6) (fun _ _ z => z), K6.get P.out.2.2.2.2 (fun z => z)⟩
      clear K6 RP t0 t1
      by_cases hneg : pv < 0
      · have d1 := cell_blk P6.out.2.1.blk 1 (v := .slice p n c) rfl
        have t0 := cell_blk P6.out.2.2.2 0 (v := .int .i64 x) rfl
        have t1 := cell_blk P6.out.2.2.2 1 (v := .int .i64 y) rfl
        have ltb : tb < w6.heap.size := block_lt P6.out.2.1.blk
        have BL : Hid (n + 1 ≤ maxLen ∧ ((n + 1) + (n + 1) / 4 + 192) * 64 ≤ 281474976710656) := by
          have := H.out.2.2.2.1
          unfold maxLen
          exact ⟨by omega, by omega⟩
        go_upto_region 4 with fail
        have ntw : ¬ tb = w.heap.size := fun z => by
          have hb := P6.out.2.1.blk
          rw [z, P6.out.2.2.2] at hb
          simp at hb
        have nwt : ¬ w.heap.size = tb := fun z => ntw z.symm
        go_region_law
          (first
            | (go_simp; refine (sOwn a m e l w6.drew (P6.out.2.2.1.kept ((Kept.refl (fun _ => False) w6).drew) (fun _ _ z => z)) H.out.2.2.2.2.2.2.2).mono ?_; rintro o w4 ⟨pd, cd, rfl, Q4⟩
               have K4 : Hid (Kept (fun _ => False) w6 w4) := ((Kept.refl _ _).drew).and0 Q4.out.2.2
               have d1 := K4.out.cell d1 (fun z => z)
               have t0 := K4.out.cell t0 (fun z => z)
               have t1 := K4.out.cell t1 (fun z => z)
               have ltb : tb < w4.heap.size := Nat.lt_of_lt_of_le ltb K4.out.size
               have V6 : Hid (Kept (fun _ => False) w4 (w4.alloc (.cells #[.string key, .int .i64 x, .int .i64 y, .bool false, .bool true, .slice pd m cd] 70)) ∧ (w4.alloc (.cells #[.string key, .int .i64 x, .int .i64 y, .bool false, .bool true, .slice pd m cd] 70)).heap[w4.heap.size]? = some (.cells #[.string key, .int .i64 x, .int .i64 y, .bool false, .bool true, .slice pd m cd] 70 (0, 0))) := ⟨k0_alloc _ _, heap_alloc_new _ _⟩)
            | (refine step_append_all _ (by rfl) (.tmp 24) (.tmp 31) 27 70 27 _ 6 64 (by rfl) Tryz.underlying27 Tryz.info70c rfl b0 (.slice p n c) n (rcells L) (by rfl) ((K4.out.and0 V6.out.1).owns P6.out.2.1.row (fun _ _ z => z)) _ 1 (encR (key, (x, y), false, true, pd, m, cd)) (by rfl) (src_row V6.out.2) BL.out.1 BL.out.2 (Nat.le_trans H.out.2.2.2.2.2.1 (Nat.le_trans P6.out.1.size (K4.out.and0 V6.out.1).size)) ?_; intro p9 c9 w8 ho hg hn
               have F8 : Hid (w8.heap[tb]? = some (.cells #[.int .i64 delta, .slice p n c] 29 (0, 0)) ∧ RMv b0 w (w8.setCell ⟨tb, 1, none⟩ (.slice p9 (n + 1) c9)) tb delta p L (vs ++ [(key, (x, y), false, true, l)]) ∧ w8.cell? ⟨w.heap.size, 0, none⟩ = some (.int .i64 x) ∧ w8.cell? ⟨w.heap.size, 1, none⟩ = some (.int .i64 y)) := by
                 have uv : UvRd w4 (key, (x, y), false, true, pd, m, cd) (key, (x, y), false, true, l) := ⟨rfl, rfl, rfl, rfl, Q4.out.1, fun k hk => by obtain ⟨_, cs, hc⟩ := Q4.out.2.1 k hk; exact ⟨cs, _, hc⟩⟩
                 have KK := P6.out.1.and0 (K4.out.and0 V6.out.1)
                 have KG : Kept (fun k => blockOf p = some k) (w4.alloc (.cells #[.string key, .int .i64 x, .int .i64 y, .bool false, .bool true, .slice pd m cd] 70)) w8 := (Kept.refl (fun k => blockOf p = some k) _).grown hg.out (fun k _ z => by rw [blockOf_own] at z; exact z)
                 have nx : ¬ blockOf p = some w.heap.size := fun z => by
                   obtain ⟨cs, hc⟩ := own_ty P6.out.2.1.row z
                   rw [P6.out.2.2.2] at hc
                   simp at hc
                 obtain ⟨q1, q2, q3, q4⟩ := (P6.out.2.1.k0 (K4.out.and0 V6.out.1)).push (uv.off V6.out.1 (fun _ _ _ _ z => z)) ho.out hg.out hn.out
                 exact ⟨q1, ⟨⟨p9, n + 1, c9, _, q2, fun k hk => (q4 k hk).imp id (fun z => Nat.le_trans KK.size z), fun u hu k hk => (List.mem_append.1 hu).elim (fun z => .inl ⟨u, z, hk⟩) (fun z => .inr (Nat.le_trans P6.out.1.size (Q4.out.2.1 k (by rw [List.mem_singleton.1 z] at hk; exact hk)).1))⟩, (KK.mono (fun _ _ z => z.elim)).trans q3 (fun _ _ z => z)⟩, KG.cell (V6.out.1.cell t0 (fun z => z)) nx, KG.cell (V6.out.1.cell t1 (fun z => z)) nx⟩
               have e1 := cell_blk F8.out.1 1 (v := .slice p n c) rfl
               have s1 := soft_blk F8.out.1 1
               have e2 := F8.out.2.2.1
               have e3 := F8.out.2.2.2
               clear ho hg hn)
            | fail)
        all_goals go_wp2_with fail
        all_goals ((first | (refine bodyPost_ret (results_none rfl _ _ _) rfl ?_) | go_end0))
        all_goals refine ⟨rfl, F, P.out.1, P.out.2.1, ?_⟩
        all_goals rw [preV_new (by have := P.out.2.2.1; omega) (by rw [← HP.out]; exact hneg)]
        all_goals exact F8.out.2.1
      · obtain ⟨i, hi, hpi, hat⟩ := plc_spec vs key (x, y) 0 (by rw [← HP.out]; exact hneg)
        have hpv : pv = (i : Int) := by rw [HP.out, hpi, Nat.zero_add]
        have hiL : i < n := by rw [← P6.out.2.1.vlen]; exact hi
        obtain ⟨g, k, u, v, f, hh, ra, rm, rc, rfl, hv, e0, e1, e2, e3, e4, e5⟩ := own_rw P6.out.2.1.row P6.out.2.1.len hiL
        obtain ⟨hi2, uv⟩ := along_at P6.out.2.1.rd hv
        have hkey : k = key ∧ (u, v) = (x, y) := by
          unfold isAt at hat
          rw [← uv.key, ← uv.ent.tag] at hat
          simp at hat
          exact ⟨hat.1, by rw [hat.2.1, hat.2.2]⟩
        subst hpv
        have rmm := own_room P6.out.2.1.row
        unfold maxLen at rmm
        obtain ⟨rm1, rm2⟩ := rmm
        have i1 : (i : Int) < (n : Int) := by omega
        have i0 : (0 : Int) ≤ (i : Int) := by omega
        have d1 := cell_blk P6.out.2.1.blk 1 (v := .slice (some ⟨g, 0, none⟩) n c) rfl
        have PV : Hid (preV (nth F delta) vs key (x, y) l = if hh = true then (false, vs) else (true, vs.set i (key, (x, y), f, true, l))) := by
          have q := preV_has (l := l) (key := key) (g := (x, y)) hi (fl := nth F delta) (by have := P.out.2.2.1; omega) (by rw [hpi, Nat.zero_add])
          have ef : vs[i].2.2.1 = f := uv.ent.fin.symm
          have eh : vs[i].2.2.2.1 = hh := uv.ent.has.symm
          rw [ef, eh] at q
          exact q
        have HL : Hid (∃ h : i < L.length, L[i].1 = key ∧ L[i].2.1 = (x, y) ∧ L[i].2.2.1 = f) := by
          obtain ⟨h1, h2⟩ := List.getElem?_eq_some_iff.1 hv
          exact ⟨h1, by rw [h2]; exact ⟨hkey.1, hkey.2, rfl⟩⟩
        clear hat hpi hv uv hi hi2 hkey
        cases hh
        · have z4 := P6.out.2.1.row.frozenAt (i * 6 + 4)
          go_upto_region 7 with fail
          obtain ⟨w7, hw7⟩ : ∃ w7, w7 = w6.setCell ⟨g, i * 6 + 4, none⟩ (.bool true) := ⟨_, rfl⟩
          have P7 : Hid (w7 = w6.setCell ⟨g, i * 6 + 4, none⟩ (.bool true) ∧ Kept (fun k => k = g) w6 w7 ∧ w7.ownsRow b0 70 6 (.slice (some ⟨g, 0, none⟩) n c) n ((rcells L).set (i * 6 + 4) (.bool true)) ∧ w7.cell? ⟨tb, 1, none⟩ = some (.slice (some ⟨g, 0, none⟩) n c) ∧ w7.cell? ⟨g, i * 6 + 5, none⟩ = some (.slice ra rm rc) ∧ Reads w7 a m e l) := by
            have K7 : Kept (fun k => k = g) w6 w7 := by rw [hw7]; exact (Kept.refl (fun k => k = g) w6).setCell (p := ⟨g, i * 6 + 4, none⟩) (fun _ => rfl) _
            obtain ⟨cg, hg⟩ := own_ty P6.out.2.1.row (k := g) rfl
            have nt : ¬ tb = g := fun z => by
              have hb := P6.out.2.1.blk
              rw [z, hg] at hb
              simp at hb
            have ow : w7.ownsRow b0 70 6 (.slice (some ⟨g, 0, none⟩) n c) n ((rcells L).set (i * 6 + 4) (.bool true)) := by rw [hw7]; exact (P6.out.2.1.row.stored _ _).1
            have c5 : w7.cell? ⟨g, i * 6 + 5, none⟩ = some (.slice ra rm rc) := by
              rw [hw7]
              have q := cell_blk (heap_set hg (i * 6 + 4) (.bool true)) (i * 6 + 5) (v := .slice ra rm rc) (by
                rw [setIf_other (by omega)]
                have q := e5
                rw [cell_of_row w6 g (i * 6 + 5) cg 70 (0, 0) hg] at q
                exact q)
              exact q
            refine ⟨hw7, K7, ow, K7.cell d1 nt, c5, P6.out.2.2.1.kept0 K7 (fun h0 q hq z => ?_)⟩
            have z : q.block = g := z
            have := HA.out h0 q hq
            have := (own_lt P6.out.2.1.row g rfl).1
            omega
          rw [← hw7]
          clear hw7 z4 e0 e1 e2 e3 e4 e5 d1
          have d1 := P7.out.2.2.2.1
          have ngt : ¬ tb = g := fun z => by
            obtain ⟨cg, hg⟩ := own_ty P6.out.2.1.row (k := g) rfl
            have hb := P6.out.2.1.blk
            rw [z, hg] at hb
            simp at hb
          have ntg : ¬ g = tb := fun z => ngt z.symm
          go_region_held3 (fun V => V.cell? ⟨tb, 1, none⟩ = some (.slice (some ⟨g, 0, none⟩) n c)) (first | go_keep)
            (first
              | (go_at_call 5; refine (sOwn a m e l w7.drew (P7.out.2.2.2.2.2.kept ((Kept.refl (fun _ => False) w7).drew) (fun _ _ z => z)) H.out.2.2.2.2.2.2.2).mono ?_; rintro o w8 ⟨pd, cd, rfl, Q8⟩
                 have K8 : Hid (Kept (fun _ => False) w7 w8) := ((Kept.refl _ _).drew).and0 Q8.out.2.2
                 have d1 := K8.out.cell d1 (fun z => z)
                 have d5 := K8.out.cell P7.out.2.2.2.2.1 (fun z => z)
                 have z5 := (K8.out.owns P7.out.2.2.1 (fun _ _ z => z)).frozenAt (i * 6 + 5))
              | fail)
          have FN : Hid (RMv b0 w (w8.setCell ⟨g, i * 6 + 5, none⟩ (.slice pd m cd)) tb delta (some ⟨g, 0, none⟩) L (preV (nth F delta) vs key (x, y) l).2) := by
            show RMv _ _ _ _ _ _ _ _
            rw [PV.out, if_neg (by decide)]
            obtain ⟨hi3, hk3, ht3, hf3⟩ := HL.out
            have uv : UvRd w8 (key, (x, y), f, true, pd, m, cd) (key, (x, y), f, true, l) := ⟨rfl, rfl, rfl, rfl, Q8.out.1, fun k hk => by obtain ⟨_, cs, hc⟩ := Q8.out.2.1 k hk; exact ⟨cs, _, hc⟩⟩
            obtain ⟨r1, r2⟩ := P6.out.2.1.gain hi3 (k := key) (t := (x, y)) (f := f) hk3 ht3 hf3 (by rw [← P7.out.1]; exact K8.out) uv
            exact ⟨⟨_, _, _, _, r1, fun k hk => .inl hk, fun u hu k hk => (List.mem_or_eq_of_mem_set hu).elim (fun z => .inl ⟨u, z, hk⟩) (fun z => .inr (Nat.le_trans (Nat.le_trans P6.out.1.size P7.out.2.1.size) (Q8.out.2.1 k (by rw [z] at hk; exact hk)).1))⟩, (P6.out.1.mono (fun _ _ z => z.elim)).trans r2 (fun k _ z => .inr (by have z : k = g := z; rw [z]; rfl))⟩
          all_goals go_wp2_with fail
          all_goals ((first | (refine bodyPost_ret (results_none rfl _ _ _) rfl ?_) | go_end0))
          all_goals exact ⟨rfl, F, P.out.1, P.out.2.1, FN.out⟩
        · have B : Hid (RMv b0 w w6 tb delta (some ⟨g, 0, none⟩) L (preV (nth F delta) vs key (x, y) l).2) := by
            show RMv _ _ _ _ _ _ _ _
            rw [PV.out, if_pos rfl]
            exact RMv.same H.out.1 P6.out.1
          go_wp2_with fail
          ((first | (refine bodyPost_ret (results_none rfl _ _ _) rfl ?_) | go_end0))
          exact ⟨rfl, F, P.out.1, P.out.2.1, B.out⟩
    · have B : Hid (∃ F, Falls F ∧ F.Perm (fins0 key vs) ∧ RMv b0 w wc tb delta p L (preV (nth F delta) vs key (x, y) l).2) := by
        obtain ⟨F, f1, f2, f3, kc⟩ := Q.out
        have lt : tc (x, y) (nth F delta) < 0 := of_decide_eq_true f3.symm
        refine ⟨F, f1, f2, ?_⟩
        unfold preV
        rw [if_pos lt]
        exact RMv.same H.out.1 (H.out.2.2.1.and0 kc)
      clear Q
      go_wp2_with fail
      ((first | (refine bodyPost_ret (results_none rfl _ _ _) rfl ?_) | go_end0))
      exact ⟨rfl, B⟩
end Go.Proofs.YtojepeefphbekabGreat
