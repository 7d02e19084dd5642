import Derived.Test.YtojepeefphbekabGreatSBytesJ
import Derived.Test.YtojepeefphbekabGreatUniqJ
namespace Go.Proofs.YtojepeefphbekabGreat
open Go.RowKit 

/-- Rows, as they read. -/
structure RL (b0 : Nat) (w : World) (p : Option Addr) (n c : Nat) (L : List Ut) (vs : List Uv) : Prop where
  len : L.length = n
  row : w.ownsRow b0 70 6 (.slice p n c) n (rcells L)
  rd : Along (UvRd w) L vs
theorem RTab.rl {b0 : Nat} {w : World} {tb : Nat} {delta : Int} {p : Option Addr} {n c : Nat} {L : List Ut} {vs : List Uv} (h : RTab b0 w tb delta p n c L vs) : RL b0 w p n c L vs := ⟨h.len, h.row, h.rd⟩
theorem RL.k0 {b0 : Nat} {w w' : World} {p : Option Addr} {n c : Nat} {L : List Ut} {vs : List Uv} (h : RL b0 w p n c L vs) (K : Kept (fun _ => False) w w') : RL b0 w' p n c L vs := ⟨h.len, K.owns h.row (fun _ _ z => z), h.rd.imp (fun _ _ q => q.off K (fun _ _ _ _ z => z))⟩
theorem RL.vlen {b0 : Nat} {w : World} {p : Option Addr} {n c : Nat} {L : List Ut} {vs : List Uv} (h : RL b0 w p n c L vs) : vs.length = n := by rw [← h.rd.1]; exact h.len
theorem RL.at {b0 : Nat} {w : World} {p : Option Addr} {n c : Nat} {L : List Ut} {vs : List Uv} (h : RL b0 w p n c L vs) {i : Nat} (hi : i < n) : ∃ b k u v f g a m q l, p = some ⟨b, 0, none⟩ ∧ vs[i]? = some (k, (u, v), f, g, l) ∧ Reads w a m q l ∧ w.cell? ⟨b, i * 6, none⟩ = some (.string k) ∧ w.cell? ⟨b, i * 6 + 1, none⟩ = some (.int .i64 u) ∧ w.cell? ⟨b, i * 6 + 2, none⟩ = some (.int .i64 v) ∧ w.cell? ⟨b, i * 6 + 3, none⟩ = some (.bool f) ∧ w.cell? ⟨b, i * 6 + 4, none⟩ = some (.bool g) ∧ w.cell? ⟨b, i * 6 + 5, none⟩ = some (.slice a m q) := by
  obtain ⟨b, k, u, v, f, g, a, m, q, e, hv, e0, e1, e2, e3, e4, e5⟩ := own_rw h.row h.len hi
  obtain ⟨hj2, uv⟩ := along_at h.rd hv
  refine ⟨b, k, u, v, f, g, a, m, q, vs[i].2.2.2.2, e, ?_, uv.ent.data, e0, e1, e2, e3, e4, e5⟩
  rw [List.getElem?_eq_getElem hj2]
  have q1 : vs[i].1 = k := uv.key.symm
  have q2 : vs[i].2.1 = (u, v) := uv.ent.tag.symm
  have q3 : vs[i].2.2.1 = f := uv.ent.fin.symm
  have q4 : vs[i].2.2.2.1 = g := uv.ent.has.symm
  rw [← q1, ← q2, ← q3, ← q4]
set_option maxRecDepth 100000 in
set_option maxHeartbeats 8000000 in
/-- sameCells. -/
theorem sCells (x1 : Nat) (p1 : Option Addr) (n1 c1 : Nat) (L1 : List Ut) (vs1 : List Uv) (x2 : Nat) (p2 : Option Addr) (n2 c2 : Nat) (L2 : List Ut) (vs2 : List Uv) (w : World) (r1 : RL x1 w p1 n1 c1 L1 vs1) (r2 : RL x2 w p2 n2 c2 L2 vs2) : Calls Tryz.prog 10 #[.slice p1 n1 c1, .slice p2 n2 c2] w fun o w' => o = .returned (.bool (decide (vs1 = vs2))) ∧ Kept (fun _ => False) w w' := by
  have R : Hid (RL x1 w p1 n1 c1 L1 vs1 ∧ RL x2 w p2 n2 c2 L2 vs2) := ⟨r1, r2⟩
  have s1 := own_room r1.row
  have s2 := own_room r2.row
  unfold maxLen at s1 s2
  obtain ⟨s11, s12⟩ := s1
  obtain ⟨s21, s22⟩ := s2
  obtain ⟨v, hv⟩ : ∃ v, v = decide (vs1 = vs2) := ⟨_, rfl⟩
  rw [← hv]
  have HV : Hid (v = decide (vs1 = vs2)) := hv
  clear r1 r2 hv
  go_enter Tryz.func10, Tryz.ntmps10
  by_cases hn : n1 = n2
  · subst hn
    have N0 : Hid ((∀ j, j < 0 → vs1[j]? = vs2[j]?) ∧ Kept (fun _ => False) w w) := ⟨fun j hj => absurd hj (Nat.not_lt_zero j), Kept.refl _ _⟩
    go_wp2_with fail
    go_loopw [4, 5, 13] (fun _ _ z wr => ∃ (i : Nat), z = .int .i64 (i : Int) ∧ i ≤ n1 ∧ Hid ((∀ j, j < i → vs1[j]? = vs2[j]?) ∧ Kept (fun _ => False) w wr)) (fun _ _ z _ => n1 - (intOf z).toNat)
    case atStart => exact ⟨0, rfl, Nat.zero_le _, N0⟩
    case round =>
      obtain ⟨i, rfl, hi, S⟩ := hrel
      obtain ⟨wq, hwq⟩ : ∃ wq, wq = wr := ⟨_, rfl⟩
      rw [← hwq] at S ⊢
      clear hwq
      by_cases hlt : i < n1
      · have i1 : (i : Int) < (n1 : Int) := by omega
        have i0 : (0 : Int) ≤ (i : Int) := by omega
        obtain ⟨b1, k1, u1, v1, f1, g1, a1, m1, q1, l1, rfl, hv1, rd1, d10, d11, d12, d13, d14, d15⟩ := (R.out.1.k0 S.out.2).at hlt
        obtain ⟨b2, k2, u2, v2, f2, g2, a2, m2, q2, l2, rfl, hv2, rd2, d20, d21, d22, d23, d24, d25⟩ := (R.out.2.k0 S.out.2).at hlt
        have RD : Hid (Reads wq a1 m1 q1 l1 ∧ Reads wq a2 m2 q2 l2) := ⟨rd1, rd2⟩
        have VV : Hid (vs1[i]? = some (k1, (u1, v1), f1, g1, l1) ∧ vs2[i]? = some (k2, (u2, v2), f2, g2, l2)) := ⟨hv1, hv2⟩
        clear rd1 rd2 hv1 hv2
        by_cases hk : k1 = k2
        · subst hk
          obtain ⟨bb, hbb⟩ : ∃ bb, bb = decide ((((u1, v1), f1, g1, l1) : Ev) = ((u2, v2), f2, g2, l2)) := ⟨_, rfl⟩
          have RE : Hid (∀ V, Kept (fun _ => False) wq V → Calls Tryz.prog 27 #[.agg #[.int .i64 u1, .int .i64 v1, .bool f1, .bool g1, .slice a1 m1 q1], .agg #[.int .i64 u2, .int .i64 v2, .bool f2, .bool g2, .slice a2 m2 q2]] V fun o w' => o = .returned (.bool bb) ∧ Kept (fun _ => False) V w') := by
            rw [hbb]
            exact fun V K => sEntry u1 v1 f1 g1 a1 m1 q1 l1 u2 v2 f2 g2 a2 m2 q2 l2 V (RD.out.1.kept K (fun _ _ z => z)) (RD.out.2.kept K (fun _ _ z => z))
          have HB : Hid (bb = decide ((((u1, v1), f1, g1, l1) : Ev) = ((u2, v2), f2, g2, l2))) := hbb
          clear hbb
          go_upto_region 6 with fail
          cases bb
          · go_region_held3 (fun V => V.cell? ⟨b1, i * 6, none⟩ = some (.string k1) ∧ V.cell? ⟨b1, i * 6 + 1, none⟩ = some (.int .i64 u1) ∧ V.cell? ⟨b1, i * 6 + 2, none⟩ = some (.int .i64 v1) ∧ V.cell? ⟨b1, i * 6 + 3, none⟩ = some (.bool f1) ∧ V.cell? ⟨b1, i * 6 + 4, none⟩ = some (.bool g1) ∧ V.cell? ⟨b1, i * 6 + 5, none⟩ = some (.slice a1 m1 q1) ∧ V.cell? ⟨b2, i * 6, none⟩ = some (.string k1) ∧ V.cell? ⟨b2, i * 6 + 1, none⟩ = some (.int .i64 u2) ∧ V.cell? ⟨b2, i * 6 + 2, none⟩ = some (.int .i64 v2) ∧ V.cell? ⟨b2, i * 6 + 3, none⟩ = some (.bool f2) ∧ V.cell? ⟨b2, i * 6 + 4, none⟩ = some (.bool g2) ∧ V.cell? ⟨b2, i * 6 + 5, none⟩ = some (.slice a2 m2 q2)) (first | go_keep)
              (first
                | (go_at_call 27; refine (RE.out wq.drew (Kept.refl _ _).drew).mono ?_; rintro o w2 ⟨rfl, K2⟩
                   have K3 : Hid (Kept (fun _ => False) wq w2) := ((Kept.refl _ _).drew).and0 K2
                   have d10 := K3.out.cell d10 (fun z => z)
                   have d11 := K3.out.cell d11 (fun z => z)
                   have d12 := K3.out.cell d12 (fun z => z)
                   have d13 := K3.out.cell d13 (fun z => z)
                   have d14 := K3.out.cell d14 (fun z => z)
                   have d15 := K3.out.cell d15 (fun z => z)
                   have d20 := K3.out.cell d20 (fun z => z)
                   have d21 := K3.out.cell d21 (fun z => z)
                   have d22 := K3.out.cell d22 (fun z => z)
                   have d23 := K3.out.cell d23 (fun z => z)
                   have d24 := K3.out.cell d24 (fun z => z)
                   have d25 := K3.out.cell d25 (fun z => z)
                   clear K2)
                | fail)
            have E : v = false := by
              rw [HV.out, decide_eq_false_iff_not]
              intro q
              have := VV.out.1
              rw [q, VV.out.2] at this
              have q3 := of_decide_eq_false HB.out.symm
              injection this with this
              injection this with _ this
              exact q3 this.symm
            subst E
            have G : Hid (Kept (fun _ => False) w w2) := S.out.2.and0 K3.out
            go_wp2_with fail
            go_ret
            exact ⟨rfl, by first | exact G.out | exact G.out.drew | exact G.out.drewN _⟩
          · go_region_held3 (fun V => V.cell? ⟨b1, i * 6, none⟩ = some (.string k1) ∧ V.cell? ⟨b1, i * 6 + 1, none⟩ = some (.int .i64 u1) ∧ V.cell? ⟨b1, i * 6 + 2, none⟩ = some (.int .i64 v1) ∧ V.cell? ⟨b1, i * 6 + 3, none⟩ = some (.bool f1) ∧ V.cell? ⟨b1, i * 6 + 4, none⟩ = some (.bool g1) ∧ V.cell? ⟨b1, i * 6 + 5, none⟩ = some (.slice a1 m1 q1) ∧ V.cell? ⟨b2, i * 6, none⟩ = some (.string k1) ∧ V.cell? ⟨b2, i * 6 + 1, none⟩ = some (.int .i64 u2) ∧ V.cell? ⟨b2, i * 6 + 2, none⟩ = some (.int .i64 v2) ∧ V.cell? ⟨b2, i * 6 + 3, none⟩ = some (.bool f2) ∧ V.cell? ⟨b2, i * 6 + 4, none⟩ = some (.bool g2) ∧ V.cell? ⟨b2, i * 6 + 5, none⟩ = some (.slice a2 m2 q2)) (first | go_keep)
              (first
                | (go_at_call 27; refine (RE.out wq.drew (Kept.refl _ _).drew).mono ?_; rintro o w2 ⟨rfl, K2⟩
                   have K3 : Hid (Kept (fun _ => False) wq w2) := ((Kept.refl _ _).drew).and0 K2
                   have d10 := K3.out.cell d10 (fun z => z)
                   have d11 := K3.out.cell d11 (fun z => z)
                   have d12 := K3.out.cell d12 (fun z => z)
                   have d13 := K3.out.cell d13 (fun z => z)
                   have d14 := K3.out.cell d14 (fun z => z)
                   have d15 := K3.out.cell d15 (fun z => z)
                   have d20 := K3.out.cell d20 (fun z => z)
                   have d21 := K3.out.cell d21 (fun z => z)
                   have d22 := K3.out.cell d22 (fun z => z)
                   have d23 := K3.out.cell d23 (fun z => z)
                   have d24 := K3.out.cell d24 (fun z => z)
                   have d25 := K3.out.cell d25 (fun z => z)
                   clear K2)
                | fail)
            have S3 : Hid (∀ V, Kept (fun _ => False) w2 V → (∀ j, j < i + 1 → vs1[j]? = vs2[j]?) ∧ Kept (fun _ => False) w V) := fun V K => ⟨fun j hj => by
              by_cases q : j = i
              · rw [q, VV.out.1, VV.out.2, of_decide_eq_true HB.out.symm]
              · exact S.out.1 j (by omega), (S.out.2.and0 K3.out).and0 K⟩
            go_wp2_with fail
            go_roundw
            case rel => exact ⟨i + 1, by go_num, by omega, S3.out _ (by first | exact Kept.refl _ _ | exact (Kept.refl _ _).drew | exact (Kept.refl _ _).drewN _)⟩
            case measure => simp [intOf] <;> omega
        · have hk' := ba_ne hk
          have E : v = false := by
            rw [HV.out, decide_eq_false_iff_not]
            intro q
            have := VV.out.1
            rw [q, VV.out.2] at this
            injection this with this
            injection this with this _
            exact hk this.symm
          subst E
          go_upto_region 6 with fail
          have hkb : (k1.toList == k2.toList) = false := beq_false_of_ne hk'
          go_quiet (fail)
          go_wp2_with fail
          go_ret
          exact ⟨rfl, S.out.2.and0 (k0_of (below_dN (Below.refl _ _) nq))⟩
      · have i1 : ¬ (i : Int) < (n1 : Int) := by omega
        have E : v = true := by
          rw [HV.out, decide_eq_true_iff]
          refine List.ext_getElem? (fun j => ?_)
          by_cases q : j < i
          · exact S.out.1 j q
          · rw [List.getElem?_eq_none (by rw [R.out.1.vlen]; omega), List.getElem?_eq_none (by rw [R.out.2.vlen]; omega)]
        subst E
        have G : Hid (Kept (fun _ => False) w wq) := S.out.2
        go_wp2_with fail
        go_ret
        exact ⟨rfl, G.out⟩
  · have hn' : ¬ (n1 : Int) = (n2 : Int) := by omega
    have E : v = false := by
      rw [HV.out, decide_eq_false_iff_not]
      intro q
      have q1 := R.out.1.vlen
      have q2 := R.out.2.vlen
      rw [q] at q1
      omega
    subst E
    go_wp2_with fail
    go_ret
    exact ⟨rfl, Kept.refl _ _⟩
end Go.Proofs.YtojepeefphbekabGreat

namespace Go.Proofs.YtojepeefphbekabGreat
open Go.RowKit 

def cntV (es : List Ev) : Nat := (es.filter fun v => v.2.2.1 && v.2.1).length
theorem cntV_snoc (es : List Ev) (v : Ev) : cntV (es ++ [v]) = cntV es + (if (v.2.2.1 && v.2.1) = true then 1 else 0) := by
  unfold cntV
  rw [List.filter_append, List.length_append]
  congr 1
  by_cases h : (v.2.2.1 && v.2.1) = true
  · rw [if_pos h, List.filter_cons_of_pos (by simpa using h)]; rfl
  · rw [if_neg h, List.filter_cons_of_neg (by simpa using h)]; rfl
set_option maxRecDepth 100000 in
set_option maxHeartbeats 8000000 in
/-- small. -/
theorem sSmall (b0 sb : Nat) (delta : Int) (p : Option Addr) (n c : Nat) (L : List Ut) (vs : List Uv) (key : ByteArray) (q : Option Addr) (m e : Nat) (es : List Ev) (w : World) (h : RTab b0 w sb delta p n c L vs) (hn : n ≤ 2199023255552) (h0 : 0 ≤ delta) (h1 : delta ≤ 4611686018427387903) (r : EntRd w q m e es) (ok : ∀ v ∈ es, ¬ tc v.1 (nth (finF key vs) delta) < 0) (ct : (cntV es : Int) ≤ delta + 1) :
    Calls Tryz.prog 17 #[.pointer (some ⟨sb, 0, none⟩), .string key, .slice q m e] w fun o w' => o = .returned (.bool true) ∧ Kept (fun _ => False) w w' := by
  obtain ⟨s1, s2⟩ := r.small
  unfold maxLen at s2
  obtain ⟨⟨fx, fy⟩, hfl⟩ : ∃ fl, fl = nth (finF key vs) delta := ⟨_, rfl⟩
  rw [← hfl] at ok
  have H : Hid (RTab b0 w sb delta p n c L vs ∧ EntRd w q m e es ∧ (∀ v ∈ es, ¬ tc v.1 (fx, fy) < 0) ∧ (cntV es : Int) ≤ delta + 1) := ⟨h, r, ok, ct⟩
  have RF : Hid (∀ V, Kept (fun _ => False) w V → Calls Tryz.prog 16 #[.pointer (some ⟨sb, 0, none⟩), .string key] V fun o w' => o = .returned (.agg #[.int .i64 fx, .int .i64 fy]) ∧ Kept (fun _ => False) V w') := by
    intro V K
    have := rFloorV b0 sb delta p n c L vs key V (h.k0 K) hn h0
    rw [← hfl] at this
    exact this
  have N0 : Hid (0 = cntV (es.take 0) ∧ Kept (fun _ => False) w w) := ⟨rfl, Kept.refl _ _⟩
  clear h r ok ct hfl hn
  go_enter Tryz.func17, Tryz.ntmps17
  go_wp2_with fail
  go_loopw [6, 7, 9, 12] (fun _ t _ z wr => ∃ (i k : Nat), t = .int .i64 (k : Int) ∧ z = .int .i64 (i : Int) ∧ i ≤ m ∧ k ≤ i ∧ Hid (k = cntV (es.take i) ∧ Kept (fun _ => False) w wr)) (fun _ _ _ z _ => m - (intOf z).toNat)
  case atStart => exact ⟨0, 0, rfl, rfl, Nat.zero_le _, Nat.le_refl _, N0⟩
  case round =>
    obtain ⟨i, k, rfl, rfl, hi, hk, S⟩ := hrel
    obtain ⟨wq, hwq⟩ : ∃ wq, wq = wr := ⟨_, rfl⟩
    rw [← hwq] at S ⊢
    clear hwq
    by_cases hlt : i < m
    · have i1 : (i : Int) < (m : Int) := by omega
      have i0 : (0 : Int) ≤ (i : Int) := by omega
      obtain ⟨b, x, y, f, g, l, a, mm, cc, rfl, hv, d0, d1, d2, d3, d4, _⟩ := (H.out.2.1.k0 S.out.2).at hlt
      have NX0 : cntV (es.take (i + 1)) = k + (if (g && f) = true then 1 else 0) := by
        rw [List.take_add_one, hv, S.out.1]
        exact cntV_snoc _ (entV x y f g l)
      have NB0 := H.out.2.2.1 (entV x y f g l) (List.mem_of_getElem? hv)
      have NB : ¬ tc (x, y) (fx, fy) < 0 := by
        have e : (entV x y f g l).1 = (x, y) := rfl
        rw [e] at NB0
        omega
      clear NB0
      have RB : Hid (∀ V : World, Calls Tryz.prog 29 #[.agg #[.int .i64 x, .int .i64 y], .agg #[.int .i64 fx, .int .i64 fy]] V fun o w' => o = .returned (.bool false) ∧ Kept (fun _ => False) V w') := by
        have := rBelow x y fx fy
        rw [decide_eq_false NB] at this
        exact this
      have NX : Hid (cntV (es.take (i + 1)) = k + (if (g && f) = true then 1 else 0)) := NX0
      obtain ⟨W1, hW1⟩ : ∃ W1, W1 = wq.alloc (.cells #[.int .i64 x, .int .i64 y, .bool f, .bool g, .slice a mm cc] 34) := ⟨_, rfl⟩
      obtain ⟨X1, hX1⟩ : ∃ X1, X1 = wq.heap.size := ⟨_, rfl⟩
      have J : Hid (W1.heap[X1]? = some (.cells #[.int .i64 x, .int .i64 y, .bool f, .bool g, .slice a mm cc] 34 (0, 0)) ∧ Kept (fun _ => False) w W1) := by
        rw [hW1, hX1]
        exact ⟨heap_alloc_new _ _, S.out.2.and0 (k0_alloc _ _)⟩
      have EW1 : Hid (W1 = wq.alloc (.cells #[.int .i64 x, .int .i64 y, .bool f, .bool g, .slice a mm cc] 34) ∧ X1 = wq.heap.size) := ⟨hW1, hX1⟩
      clear hW1 hX1 hv NX0 NB
      go_upto_region 5 with fail
      rw [← EW1.out.1, ← EW1.out.2]
      clear d0 d1 d2 d3 d4
      have g0 := cell_blk J.out.1 0 (v := .int .i64 x) rfl
      have g1 := cell_blk J.out.1 1 (v := .int .i64 y) rfl
      have g2 := cell_blk J.out.1 2 (v := .bool f) rfl
      have g3 := cell_blk J.out.1 3 (v := .bool g) rfl
      cases g <;> cases f
      all_goals go_upto_region 7 with fail
      all_goals go_region_held3 (fun V => V.cell? ⟨X1, 0, none⟩ = some (.int .i64 x) ∧ V.cell? ⟨X1, 1, none⟩ = some (.int .i64 y)) (first | go_keep)
        (first
          | (go_at_call 16; refine (RF.out W1.drew (J.out.2.and0 (Kept.refl _ _).drew)).mono ?_; rintro o w2 ⟨rfl, K2'⟩
             have K2 : Hid (Kept (fun _ => False) W1 w2) := ((Kept.refl _ _).drew).and0 K2'
             have g0 := K2.out.cell g0 (fun z => z)
             have g1 := K2.out.cell g1 (fun z => z)
             clear K2')
          | (go_at_call 29; refine (RB.out _).mono ?_; rintro o w3 ⟨rfl, K3⟩
             have K4 : Hid (Kept (fun _ => False) W1 w3) := K2.out.and0 K3
             have g0 := K3.cell g0 (fun z => z)
             have g1 := K3.cell g1 (fun z => z)
             clear K3)
          | fail)
      all_goals go_wp2_with fail
      all_goals go_roundw
      case rel => exact ⟨i + 1, k, rfl, by go_num, by omega, by omega, by rw [NX.out]; rfl, J.out.2.and0 (by first | exact K4.out | exact K4.out.drew | exact K4.out.drewN _)⟩
      case measure => simp [intOf] <;> omega
      case rel => exact ⟨i + 1, k, rfl, by go_num, by omega, by omega, by rw [NX.out]; rfl, J.out.2.and0 (by first | exact K4.out | exact K4.out.drew | exact K4.out.drewN _)⟩
      case measure => simp [intOf] <;> omega
      case rel => exact ⟨i + 1, k, rfl, by go_num, by omega, by omega, by rw [NX.out]; rfl, J.out.2.and0 (by first | exact K4.out | exact K4.out.drew | exact K4.out.drewN _)⟩
      case measure => simp [intOf] <;> omega
      case rel => exact ⟨i + 1, k + 1, by go_num, by go_num, by omega, by omega, by rw [NX.out]; rfl, J.out.2.and0 (by first | exact K4.out | exact K4.out.drew | exact K4.out.drewN _)⟩
      case measure => simp [intOf] <;> omega
    · have i1 : ¬ (i : Int) < (m : Int) := by omega
      have G : Hid (Kept (fun _ => False) w wq) := S.out.2
      have ck : (k : Int) ≤ delta + 1 := by
        have := S.out.1
        rw [List.take_of_length_le (by rw [H.out.2.1.len]; omega)] at this
        rw [this]
        exact H.out.2.2.2
      have d0 := cell_blk (S.out.2.get H.out.1.blk (fun z => z)) 0 (v := .int .i64 delta) rfl
      by_cases hkd : (k : Int) ≤ delta
      · go_wp2_with fail
        go_ret
        exact ⟨rfl, G.out⟩
      · have ke : (k : Int) = delta + 1 := by omega
        have wd : IntKind.i64.wrap (delta + 1) = delta + 1 := by rw [IntKind.wrap_i64]; omega
        go_wp2_with fail
        go_ret
        exact ⟨by first | rfl | simp [ke, wd], G.out⟩
end Go.Proofs.YtojepeefphbekabGreat
