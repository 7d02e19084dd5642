import Derived.Test.YtodmakcklacbfaaPTimeM
import Derived.BigQuiet
namespace Go.Proofs.Ytodmakcklacbfaa
open Go.RowKit Go.Shelf Go.Lib Go.Sort

theorem Md.vl_rd {w : World} {v : Md} {pv : Option Addr} {nv cv : Nat} (h : VRd w pv nv cv v.vals) (i : Nat) : Reads w (v.vl i).1 (v.vl i).2.1 (v.vl i).2.2.1 (v.vl i).2.2.2 := by
  unfold Md.vl
  rw [List.getD_eq_getElem?_getD]
  cases q : v.vals[i]? with
  | none => exact Reads.nil w
  | some x => exact h.rd x (List.mem_of_getElem? q)
theorem Md.last_put (v : Md) : ∀ {k : Nat} {l : Cm}, v.last k = some l → ∃ p, p < k ∧ l = v.put 0 p
  | 0, _, h => by cases h
  | k + 1, l, h => by
    have h : (if 0 < v.who.getD k 0 then some (v.put 0 k) else v.last k) = some l := h
    split at h
    · exact ⟨k, by omega, (Option.some.inj h).symm⟩
    · obtain ⟨p, h1, h2⟩ := v.last_put h
      exact ⟨p, by omega, h2⟩
theorem Md.hist_rd {w : World} {v : Md} {pv : Option Addr} {nv cv : Nat} (h : VRd w pv nv cv v.vals) (n : Nat) : ∀ m ∈ v.hist n, Reads w m.va m.vn m.vc m.val := by
  intro m hm
  unfold Md.hist at hm
  obtain ⟨i, _, rfl⟩ := List.mem_map.1 hm
  unfold Md.one
  split
  · exact Md.vl_rd h i
  · split
    · rename_i l hl
      obtain ⟨p, _, rfl⟩ := v.last_put hl
      exact Md.vl_rd h p
    · exact Reads.nil w
theorem ck_fit {ms : List Cm} {R : List Int} {v : Int} (f : FitL ms) (h : CkA ms R v) : v = 0 ∨ v = 81 := by
  rcases h with ⟨_, z⟩ | ⟨z, _⟩ | ⟨z, _⟩
  · exact absurd f z
  · exact .inl z
  · exact .inr z
set_option maxRecDepth 100000 in
set_option maxHeartbeats 4000000 in
theorem timeW {w : World} {v : Md} {pw : Option Addr} {nw cw : Nat} {pv : Option Addr} {nv cv : Nat} {pr : Option Addr} {nr cr : Nat} {po : Option Addr} {no co : Nat} (R : MdR w v pw nw cw pv nv cv pr nr cr po no co) (a : Int) :
    Calls Try.prog 4 #[.agg #[.slice pw nw cw, .slice pv nv cv, .slice pr nr cr, .slice po no co], .int .i64 a] w fun o w' => o = .returned (.bool true) ∧ Kept (fun _ => False) w w' := by
  have H : Hid (MdR w v pw nw cw pv nv cv pr nr cr po no co) := R
  clear R
  have KB : Hid (Kept (fun _ => False) w (w.alloc (Obj.cells #[.slice pw nw cw, .slice pv nv cv, .slice pr nr cr, .slice po no co] 25)) ∧ (w.alloc (Obj.cells #[.slice pw nw cw, .slice pv nv cv, .slice pr nr cr, .slice po no co] 25)).heap[w.heap.size]? = some (Obj.cells #[.slice pw nw cw, .slice pv nv cv, .slice pr nr cr, .slice po no co] 25 (0, 0))) := ⟨(Kept.refl _ _).alloc _, alloc_new _ _⟩
  go_enter Try.func4, Try.ntmps4
  go_wp2_with fail
  refine (oAwake _).mono ?_
  rintro o w1 ⟨rfl, K1'⟩
  have K1 : Hid (Kept (fun _ => False) w w1 ∧ w1.heap[w.heap.size]? = some (Obj.cells #[.slice pw nw cw, .slice pv nv cv, .slice pr nr cr, .slice po no co] 25 (0, 0))) := ⟨KB.out.1.trans K1' (fun _ _ z => z), K1'.get KB.out.2 (fun z => z)⟩
  clear K1' KB
  have m0 := cell_blk K1.out.2 0 (v := .slice pw nw cw) rfl
  have m1 := cell_blk K1.out.2 1 (v := .slice pv nv cv) rfl
  have m2 := cell_blk K1.out.2 2 (v := .slice pr nr cr) rfl
  have m3 := cell_blk K1.out.2 3 (v := .slice po no co) rfl
  have CH : Hid (Calls Try.prog 9 #[.agg #[.slice pw nw cw, .slice pv nv cv, .slice pr nr cr, .slice po no co]] w1 (RetH (HisQ w1 v nw))) := oHist (H.out.k0 K1.out.1)
  go_wp2_with fail
  refine CH.out.mono ?_
  rintro o w2 ⟨p, k, c, q, c', rfl, Q'⟩
  have Q : Hid (HisQ w1 v nw p k c q c' w2) := Q'
  clear Q' CH m0 m1 m2 m3
  have K2 : Hid (Kept (fun _ => False) w w2) := K1.out.1.trans Q.out.kept (fun _ _ z => z)
  have rd : Hid (∀ V, Kept (fun _ => False) w V → ∀ m ∈ v.hist k, Reads V m.va m.vn m.vc m.val) := fun V K m hm => Reads.kept K (Md.hist_rd H.out.vals k m hm) (fun _ _ z => z)
  have CR2 : Hid (CRd w2 p k c (v.hist k)) := Q.out.calls.rd (rd.out w2 K2.out)
  have k12 : k ≤ 12 := by have := Q.out.len; omega
  have rmc := CR2.out.room
  have smc := CR2.out.small
  unfold maxLen at smc
  by_cases h2 : k < 2
  · have i2 : (k : Int) < 2 := by omega
    have C3 : Hid (Calls Try.prog 11 #[.slice p k c, .slice q k c'] w2 (RetC fun e w' => CkA (v.hist k) ((List.range k).map fun r : Nat => (r : Int)) e ∧ Kept (fun _ => False) w2 w')) := oCheck CR2.out (by omega) Q.out.nums.ird
    go_wp2_with fail
    refine C3.out.mono ?_
    rintro o w3 ⟨e3, rfl, he3, K3'⟩
    have e4 := ck_yes (v.fit k) (v.explained k) he3
    subst e4
    have K3 : Hid (Kept (fun _ => False) w w3) := K2.out.trans K3' (fun _ _ z => z)
    clear C3 he3 K3'
    go_wp2_with fail
    go_ret
    exact ⟨rfl, K3.out⟩
  · have i2 : ¬ (k : Int) < 2 := by omega
    have CM : Hid (Calls Try.prog 14 #[.int .i64 a, .int .i64 ((k : Int) - 1)] w2 fun o w' => (∃ r : Int, o = .returned (.int .i64 r) ∧ 0 ≤ r ∧ r < (k : Int) - 1 ∧ r = a % ((k : Int) - 1)) ∧ w' = w2) := lModK a (k - 1) ((k : Int) - 1) (by omega) (by omega) (by omega) w2
    go_wp2_with fail
    refine CM.out.mono ?_
    rintro o w3 ⟨⟨r, rfl, hr0, hr1, er⟩, rfl⟩
    clear er
    obtain ⟨i, rfl⟩ : ∃ i : Nat, r = (i : Int) := ⟨r.toNat, by omega⟩
    clear CM
    have hi : i + 1 < k := by omega
    obtain ⟨g, x, rfl, _, cg⟩ := Q.out.nums.at (j := i) (by omega)
    obtain ⟨g2, x2, e2, _, cg2⟩ := Q.out.nums.at (j := i + 1) hi
    cases e2
    obtain ⟨bg, hbg⟩ := own_type Q.out.nums.row g rfl
    have fg := soft_blk hbg i
    have fg2 := soft_blk hbg (i + 1)
    have rq := own_room Q.out.nums.row
    unfold maxLen at rq
    obtain ⟨rq1, rq2⟩ := rq
    have ik : (i : Int) < (k : Int) := by omega
    have ik2 : (i : Int) + 1 < (k : Int) := by omega
    have i0 : (0 : Int) ≤ (i : Int) := by omega
    obtain ⟨w4, hw4⟩ : ∃ w4, w4 = (w3.setCell ⟨g, i, none⟩ (.int .i64 ((i : Int) + 1))).setCell ⟨g, i + 1, none⟩ (.int .i64 (i : Int)) := ⟨_, rfl⟩
    have N4 : Hid (NRow w1.heap.size w4 (some ⟨g, 0, none⟩) k c' (swapR k i) ∧ Kept (fun _ => False) w w4 ∧ CRd w4 p k c (v.hist k)) := by
      have s1 := Q.out.nums.store (i := i + 1) (j := i) Q.out.kept (Nat.le_refl _)
      have s2 := s1.1.store (i := i) (j := i + 1) s1.2 (Nat.le_refl _)
      have e1 : (((i + 1 : Nat) : Nat) : Int) = (i : Int) + 1 := by omega
      rw [e1, ← hw4] at s2
      have KG : Kept (fun j => j = g) w3 w4 := by
        rw [hw4]
        exact ((Kept.refl (fun j => j = g) w3).setCell (p := ⟨g, i, none⟩) (fun _ => rfl) _).setCell (p := ⟨g, i + 1, none⟩) (fun _ => rfl) _
      have K4 : Kept (fun _ => False) w w4 := K1.out.1.trans s2.2 (fun _ _ z => z)
      have cw : CRow w1.heap.size w4 p k c (v.hist k) := ⟨Q.out.calls.len, KG.owns Q.out.calls.row (fun j z y => by
        rw [blockOf_own] at z
        obtain ⟨cs, hc⟩ := own_type Q.out.calls.row j z
        have y : j = g := y
        rw [y, hbg] at hc
        simp at hc)⟩
      exact ⟨s2.1, K4, cw.rd (rd.out w4 K4)⟩
    have C5 : Hid (Calls Try.prog 11 #[.slice p k c, .slice (some ⟨g, 0, none⟩) k c'] w4 (RetC fun e w' => CkA (v.hist k) ((swapR k i).map fun r : Nat => (r : Int)) e ∧ Kept (fun _ => False) w4 w')) := oCheck N4.out.2.2 (by omega) N4.out.1.ird
    go_wp2_with fail
    rw [← hw4]
    refine C5.out.mono ?_
    rintro o w5 ⟨e5, rfl, he5, K5'⟩
    have K5 : Hid (Kept (fun _ => False) w w5 ∧ CRd w5 p k c (v.hist k)) := ⟨N4.out.2.1.trans K5' (fun _ _ z => z), N4.out.2.2.k0 K5'⟩
    have E5 : Hid (CkA (v.hist k) ((swapR k i).map fun r : Nat => (r : Int)) e5) := he5
    clear C5 he5 K5' hw4 cg cg2 hbg fg fg2 CR2 N4
    obtain ⟨b, off, mi, rfl, hmi, _, _, d2, _, _, _, _, d7, d8, _⟩ := K5.out.2.at (i := i) (by omega)
    obtain ⟨b', off', mj, ej, hmj, _, _, x2', _, _, _, x6, _⟩ := K5.out.2.at (i := i + 1) hi
    cases ej
    rw [v.at (by omega)] at hmi
    rw [v.at hi] at hmj
    have hmi := Option.some.inj hmi
    have hmj := Option.some.inj hmj
    obtain ⟨op, hop⟩ : ∃ op, mi.opn = op := ⟨_, rfl⟩
    obtain ⟨pi, hpi⟩ : ∃ pi, mi.put = pi := ⟨_, rfl⟩
    obtain ⟨pj, hpj⟩ : ∃ pj, mj.put = pj := ⟨_, rfl⟩
    obtain ⟨tt, hto⟩ : ∃ tt, mi.to = tt := ⟨_, rfl⟩
    obtain ⟨ff, hfr⟩ : ∃ ff, mj.frm = ff := ⟨_, rfl⟩
    rw [hop] at d8
    rw [hpi] at d2
    rw [hpj] at x2'
    rw [hto] at d7
    rw [hfr] at x6
    have HH : Hid ((v.one i).opn = op ∧ (v.one i).put = pi ∧ (v.one (i + 1)).put = pj ∧ (v.one i).to = tt ∧ (v.one (i + 1)).frm = ff) := by rw [hmi, hmj]; exact ⟨hop, hpi, hpj, hto, hfr⟩
    have GG : Hid ((op = false ∧ tt < ff → e5 = 81) ∧ (¬ (op = false ∧ tt < ff) → pi = false → pj = false → e5 = 0) ∧ (e5 = 0 ∨ e5 = 81)) := by
      refine ⟨fun z => ck_no (v.fit k) (v.swap_no hi ?_) E5.out, fun z z1 z2 => ck_yes (v.fit k) (v.swap_yes hi ?_ ?_ ?_) E5.out, ck_fit (v.fit k) E5.out⟩
      · rw [HH.out.1, HH.out.2.2.2.1, HH.out.2.2.2.2]; exact z
      · rw [HH.out.1, HH.out.2.2.2.1, HH.out.2.2.2.2]; exact z
      · rw [HH.out.2.1]; exact z1
      · rw [HH.out.2.2.1]; exact z2
    clear hmi hmj hop hpi hpj hto hfr HH E5
    cases op
    case true =>
      go_upto_region 10 with fail
      go_quiet (fail)
      cases pi
      case true =>
        rcases GG.out.2.2 with e6 | e6
        · subst e6
          go_wp2_with fail
          go_ret
          exact ⟨rfl, (K5.out.1.drewN _)⟩
        · subst e6
          go_wp2_with fail
          go_ret
          exact ⟨rfl, (K5.out.1.drewN _)⟩
      case false =>
        cases pj
        case true =>
          rcases GG.out.2.2 with e6 | e6
          · subst e6
            go_wp2_with fail
            go_ret
            exact ⟨rfl, (K5.out.1.drewN _)⟩
          · subst e6
            go_wp2_with fail
            go_ret
            exact ⟨rfl, (K5.out.1.drewN _)⟩
        case false =>
          have e6 := GG.out.2.1 (fun z => by cases z.1) rfl rfl
          subst e6
          go_wp2_with fail
          go_ret
          exact ⟨rfl, (K5.out.1.drewN _)⟩
    case false =>
      by_cases lt : tt < ff
      · have hd : decide (tt < ff) = true := by rw [decide_eq_true lt]
        have e6 := GG.out.1 ⟨rfl, lt⟩
        subst e6
        go_upto_region 10 with fail
        go_quiet (fail)
        go_wp2_with fail
        go_ret
        exact ⟨rfl, (K5.out.1.drewN _)⟩
      · have hd : decide (tt < ff) = false := by rw [decide_eq_false lt]
        go_upto_region 10 with fail
        go_quiet (fail)
        cases pi
        case true =>
          rcases GG.out.2.2 with e6 | e6
          · subst e6
            go_wp2_with fail
            go_ret
            exact ⟨rfl, (K5.out.1.drewN _)⟩
          · subst e6
            go_wp2_with fail
            go_ret
            exact ⟨rfl, (K5.out.1.drewN _)⟩
        case false =>
          cases pj
          case true =>
            rcases GG.out.2.2 with e6 | e6
            · subst e6
              go_wp2_with fail
              go_ret
              exact ⟨rfl, (K5.out.1.drewN _)⟩
            · subst e6
              go_wp2_with fail
              go_ret
              exact ⟨rfl, (K5.out.1.drewN _)⟩
          case false =>
            have e6 := GG.out.2.1 (fun z => by omega) rfl rfl
            subst e6
            go_wp2_with fail
            go_ret
            exact ⟨rfl, (K5.out.1.drewN _)⟩
end Go.Proofs.Ytodmakcklacbfaa
