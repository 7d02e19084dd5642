import Derived.Test.YtginpoofeliimabVAt
namespace Go.Proofs.Ytginpoofeliimab
open Go.RowKit 

theorem run_at {cs : List Cl} {R : List Nat} (run : XRun cs R [] none) {x i : Nat} (h : R[x]? = some i) : ∃ c, XMay cs (R.take x) (valOf' cs (lastF cs (R.take x) (-1))) i c := by
  obtain ⟨c, m⟩ := (xrun_iff.1 run).1 x i h
  rw [List.nil_append, valV_last (R.take x) none (-1) rfl] at m
  exact ⟨c, m⟩
theorem lastF_succ {cs : List Cl} {R : List Nat} {x i : Nat} {c : Cl} (h : R[x]? = some i) (hc : cs[i]? = some c) : lastF cs (R.take (x + 1)) (-1) = if c.put = true then (i : Int) else lastF cs (R.take x) (-1) := by
  rw [List.take_add_one, h]
  show lastF cs (R.take x ++ [i]) (-1) = _
  rw [lastF_add, hc]
set_option maxRecDepth 100000 in
set_option maxHeartbeats 8000000 in
theorem tExplains {w : World} {p0 : Option Addr} {n c0 : Nat} {ms : List Cm} (cr : CRd w p0 n c0 ms) (hb : n ≤ 1300000000000) {b0 : Nat} {q : Option Addr} {k kc : Nat} {R : List Nat} (nr : NRow b0 w q k kc R) (run : XRun (ms.map Cm.cl) R [] none) (kb : k ≤ 24) : Calls Try.prog 8 #[.slice p0 n c0, .slice q k kc] w fun o w' => o = .returned (.bool true) ∧ Kept (fun _ => False) w w' := by
  have rm := cr.room
  have sm := cr.small
  unfold maxLen at sm
  have rk := own_room nr.row
  unfold maxLen at rk
  obtain ⟨rk1, rk2⟩ := rk
  have H : Hid (CRd w p0 n c0 ms ∧ NRow b0 w q k kc R ∧ XRun (ms.map Cm.cl) R [] none) := ⟨cr, nr, run⟩
  have LT : Hid (∀ x i : Nat, R[x]? = some i → i < n ∧ i ∉ R.take x) := fun x i h => by
    obtain ⟨c, m⟩ := run_at run h
    have := (List.getElem?_eq_some_iff.1 m.1).1
    rw [List.length_map, cr.len] at this
    exact ⟨this, m.2.2.1⟩
  have mA : ∀ W : World, (Instr.makeSlice 29 (.int .i64 (n : Int)) (.int .i64 (n : Int))).run Try.prog W = .ok (.slice (some ⟨W.heap.size, 0, none⟩) n n) (W.alloc (.cells (madeCells #[.int .i64 0] n) 3)) := run_make_row' 29 3 (.int .i64 0) 8 Try.underlying29 Try.info3c rfl .i64 .i64 n (by omega) (by omega)
  obtain ⟨C, hC⟩ : ∃ C, C = madeCells #[.int .i64 0] n := ⟨_, rfl⟩
  have HC : Hid (C.toList = posV n []) := by
    unfold Hid
    rw [hC, vrow_made]
    unfold vrow posV posL
    simp
  rw [← hC] at mA
  obtain ⟨g, hg⟩ : ∃ g, g = w.heap.size := ⟨_, rfl⟩
  have S0 : Hid (AT w (w.alloc (.cells C 3)) g n (R.take 0)) := by rw [hg]; exact AT.start w n (by unfold maxLen; omega) HC.out
  have EG : Hid (g = w.heap.size) := hg
  clear cr nr run hC HC hg
  go_enter Try.func8, Try.ntmps8
  go_wp2_with fail
  rw [← EG.out]
  go_loopw [6, 7, 18] (fun _ _ u18 wy => ∃ x : Nat, u18 = .int .i64 (x : Int) ∧ x ≤ k ∧ Hid (AT w wy g n (R.take x))) (fun _ _ u18 _ => k - (intOf u18).toNat)
  case atStart => exact ⟨0, rfl, Nat.zero_le _, S0⟩
  case round =>
    obtain ⟨x, rfl, hx, A⟩ := hrel
    clear S0 mA EG
    obtain ⟨wo, hwo⟩ : ∃ wo, wo = wr := ⟨_, rfl⟩
    rw [← hwo] at A ⊢
    clear hwo
    by_cases hlt : x < k
    · have x1 : (x : Int) < (k : Int) := by omega
      obtain ⟨gq, i, rfl, hi, cq⟩ := (H.out.2.1.k0 A.out.kept).at hlt
      have ilt := (LT.out x i hi).1
      have i1 : (i : Int) < (n : Int) := by omega
      obtain ⟨a1, a2⟩ := A.out.at ilt
      rw [posL_out (LT.out x i hi).2] at a1
      obtain ⟨b8, off8, d, rfl, hd, y0, y1, y2, y3, y4, y5, y6, y7, y8, y9, y10, _⟩ := (H.out.1.k0 A.out.kept).at ilt
      have hp : d.cl.part = true := by
        obtain ⟨c, m⟩ := run_at H.out.2.2 hi
        have e := m.1
        rw [List.getElem?_map, hd] at e
        injection e with e
        rw [e]
        exact m.2.1
      obtain ⟨pd, hpd⟩ : ∃ pd, pd = d.pn := ⟨_, rfl⟩
      have RP : Hid (∀ V, Calls Try.prog 6 #[d.agg] V fun o w' => o = .returned (.int .i64 pd) ∧ Kept (fun _ => False) V w') := fun V => by rw [hpd]; exact tPart d V
      have pd0 : (pd == 0) = false := by
        have : ¬ pd = 0 := fun z => by
          rw [hpd, pn_zero, hp] at z
          cases z
        simp [this]
      unfold Cm.agg at RP
      have wx : wrap64 ((x : Int) + 1) = (x : Int) + 1 := by unfold wrap64; omega
      have HI : Hid (R[x]? = some i) := hi
      have lx : (R.take x).length = x := by rw [List.length_take, H.out.2.1.len]; omega
      clear hi hd hp hpd
      go_wp2_with fail
      refine (RP.out _).mono ?_
      rintro o w2 ⟨rfl, K2⟩
      have A2 := A.out.k0 K2
      obtain ⟨a3, a4⟩ := A2.at ilt
      have P2 : Hid (AT w (w2.setCell ⟨g, i, none⟩ (.int .i64 ((x : Int) + 1))) g n (R.take (x + 1))) := by
        have := A2.put (LT.out x i HI.out).2
        rw [lx] at this
        rw [List.take_add_one, HI.out]
        exact this
      clear A2 K2 RP a1 a2 A y0 y1 y2 y3 y4 y5 y6 y7 y8 y9 y10
      go_wp2_with fail
      go_roundw
      case rel => exact ⟨x + 1, by go_num, by omega, P2⟩
      case measure => simp [intOf] <;> omega
    · have x1 : ¬ (x : Int) < (k : Int) := by omega
      have A2 : Hid (AT w wo g n R) := by
        have := A.out
        rw [List.take_of_length_le (by rw [H.out.2.1.len]; omega)] at this
        exact this
      have L0 : Hid (Kept (fun _ => False) wo wo) := Kept.refl _ _
      clear A
      go_wp2_with fail
      go_loopw [8, 10, 11, 54] (fun u8 _ _ u54 wy => ∃ x : Nat, u54 = .int .i64 (x : Int) ∧ u8 = .int .i64 (lastF (ms.map Cm.cl) (R.take x) (-1)) ∧ x ≤ k ∧ Hid (Kept (fun _ => False) wo wy)) (fun _ _ _ u54 _ => k - (intOf u54).toNat)
      case atStart => exact ⟨0, rfl, rfl, Nat.zero_le _, L0⟩
      case round =>
        obtain ⟨x, rfl, rfl, hx2, K⟩ := hrel
        clear L0
        obtain ⟨wb, hwb⟩ : ∃ wb, wb = wr := ⟨_, rfl⟩
        rw [← hwb] at K ⊢
        clear hwb
        have KW : Hid (Kept (fun _ => False) w wb) := A2.out.kept.trans K.out (fun _ _ z => z)
        by_cases hlt : x < k
        · have x1 : (x : Int) < (k : Int) := by omega
          obtain ⟨gq, i, rfl, hi, cq⟩ := (H.out.2.1.k0 KW.out).at hlt
          obtain ⟨c, may⟩ := run_at H.out.2.2 hi
          have ilt := (LT.out x i hi).1
          have i1 : (i : Int) < (n : Int) := by omega
          obtain ⟨mi, hmi⟩ : ∃ mi, ms[i]? = some mi := ⟨_, List.getElem?_eq_getElem (by rw [H.out.1.len]; exact ilt)⟩
          have ec : mi.cl = c := by
            have e := may.1
            rw [List.getElem?_map, hmi] at e
            injection e with e
          obtain ⟨l, hl⟩ : ∃ l, l = lastF (ms.map Cm.cl) (R.take x) (-1) := ⟨_, rfl⟩
          have lb : -1 ≤ l ∧ l < (n : Int) := by
            have := lastF_lt (cs := ms.map Cm.cl) (R.take x) (-1) (by omega) (by omega)
            rw [List.length_map, H.out.1.len, ← hl] at this
            exact ⟨this.2, this.1⟩
          have HI : Hid (R[x]? = some i ∧ ms[i]? = some mi ∧ mi.cl.part = true ∧ (mi.put = true ∨ mi.cl.told = valOf' (ms.map Cm.cl) l) ∧ (∀ j d, ms[j]? = some d → d.cl.part = true → d.cl.ahead mi.cl = true → j ∈ R.take x) ∧ i ∉ R.take x ∧ lastF (ms.map Cm.cl) (R.take (x + 1)) (-1) = if mi.put = true then (i : Int) else l) := by
            rw [hl]
            rw [← ec] at may
            refine ⟨hi, hmi, may.2.1, may.2.2.2.1, fun j d hd hdp hda => may.2.2.2.2 j d.cl (by rw [List.getElem?_map, hd]; rfl) hdp hda, may.2.2.1, lastF_succ hi may.1⟩
          rw [← hl]
          clear hl may ec hi hmi
          have L1 : Hid (Kept (fun _ => False) wo wb) := K.out
          go_wp2_with fail
          go_loopw [11, 60] (fun _ u60 wy => ∃ j : Nat, u60 = .int .i64 (j : Int) ∧ j ≤ n ∧ Hid (Kept (fun _ => False) wo wy)) (fun _ u60 _ => n - (intOf u60).toNat)
          case atStart => exact ⟨0, rfl, Nat.zero_le _, L1⟩
          case round =>
            obtain ⟨j, rfl, hj, K3⟩ := hrel
            clear L1 cq
            obtain ⟨wd, hwd⟩ : ∃ wd, wd = wr := ⟨_, rfl⟩
            rw [← hwd] at K3 ⊢
            clear hwd
            have KD : Hid (Kept (fun _ => False) w wd) := A2.out.kept.trans K3.out (fun _ _ z => z)
            by_cases hjn : j < n
            · have j1 : (j : Int) < (n : Int) := by omega
              obtain ⟨b8, off8, d, rfl, hd, y0, y1, y2, y3, y4, y5, y6, y7, y8, y9, y10, _⟩ := (H.out.1.k0 KD.out).at hjn
              obtain ⟨aj, haj⟩ : ∃ aj, aj = posL R j := ⟨_, rfl⟩
              obtain ⟨ai, hai⟩ : ∃ ai, ai = posL R i := ⟨_, rfl⟩
              have cj := ((A2.out.k0 K3.out).at hjn).1
              have ci := ((A2.out.k0 K3.out).at ilt).1
              rw [← haj] at cj
              rw [← hai] at ci
              obtain ⟨pd, hpd⟩ : ∃ pd, pd = d.pn := ⟨_, rfl⟩
              obtain ⟨ah, hah⟩ : ∃ ah, ah = (mi.cl.part && d.cl.ahead mi.cl) := ⟨_, rfl⟩
              have RP : Hid (∀ V, Kept (fun _ => False) wd V → Calls Try.prog 6 #[d.agg] V fun o w' => o = .returned (.int .i64 pd) ∧ Kept (fun _ => False) V w') := fun V _ => by rw [hpd]; exact tPart d V
              have RA : Hid (∀ V, Kept (fun _ => False) wd V → Calls Try.prog 16 #[.slice (some ⟨b8, off8, none⟩) n c0, .int .i64 (j : Int), .int .i64 (i : Int)] V fun o w' => o = .returned (.bool ah) ∧ Kept (fun _ => False) V w') := fun V kv => by rw [hah]; exact tAhead ((H.out.1.k0 KD.out).k0 kv) hd HI.out.2.1
              have GT : Hid (pd = 2 → ah = true → decide (ai < aj) = false) := fun h1 h2 => by
                refine decide_eq_false ?_
                rw [hpd, pn_two] at h1
                rw [hah, Bool.and_eq_true] at h2
                have h3 : j ∈ R.take x := HI.out.2.2.2.2.1 j d hd (by unfold Cl.must at h1; rw [Bool.and_eq_true] at h1; exact h1.1) h2.2
                have h4 := posL_take HI.out.1 HI.out.2.2.2.2.2.1 h3
                rw [hai, haj]
                omega
              have KP : Hid (∀ V, Kept (fun _ => False) wd V → V.cell? ⟨b8, off8 + j * 11, none⟩ = some (.int .i64 d.client) ∧ V.cell? ⟨b8, off8 + j * 11 + 1, none⟩ = some (.int .i64 d.op) ∧ V.cell? ⟨b8, off8 + j * 11 + 2, none⟩ = some (.bool d.put) ∧ V.cell? ⟨b8, off8 + j * 11 + 3, none⟩ = some (.string d.key) ∧ V.cell? ⟨b8, off8 + j * 11 + 4, none⟩ = some (.slice d.va d.vn d.vc) ∧ V.cell? ⟨b8, off8 + j * 11 + 5, none⟩ = some (.int .i64 d.st) ∧ V.cell? ⟨b8, off8 + j * 11 + 6, none⟩ = some (.int .i64 d.frm) ∧ V.cell? ⟨b8, off8 + j * 11 + 7, none⟩ = some (.int .i64 d.to) ∧ V.cell? ⟨b8, off8 + j * 11 + 8, none⟩ = some (.bool d.opn) ∧ V.cell? ⟨b8, off8 + j * 11 + 9, none⟩ = some (.int .i64 d.tx) ∧ V.cell? ⟨b8, off8 + j * 11 + 10, none⟩ = some (.int .i64 d.ty) ∧ V.cell? ⟨g, j, none⟩ = some (.int .i64 aj) ∧ V.cell? ⟨g, i, none⟩ = some (.int .i64 ai)) := fun V kv => ⟨kv.cell y0 (fun z => z), kv.cell y1 (fun z => z), kv.cell y2 (fun z => z), kv.cell y3 (fun z => z), kv.cell y4 (fun z => z), kv.cell y5 (fun z => z), kv.cell y6 (fun z => z), kv.cell y7 (fun z => z), kv.cell y8 (fun z => z), kv.cell y9 (fun z => z), kv.cell y10 (fun z => z), kv.cell cj (fun z => z), kv.cell ci (fun z => z)⟩
              have kd : Kept (fun _ => False) wd wd.drew := (Kept.refl _ _).drew
              unfold Cm.agg at RP
              clear hd haj hai hpd hah
              by_cases p2 : pd = 2
              · subst p2
                cases ah
                · go_upto_region 16 with fail
                  have SH : Hid (∀ V, Kept (fun _ => False) wd V → V.cell? ⟨b8, off8 + j * 11, none⟩ = some (.int .i64 d.client) ∧ V.cell? ⟨b8, off8 + j * 11 + 1, none⟩ = some (.int .i64 d.op) ∧ V.cell? ⟨b8, off8 + j * 11 + 2, none⟩ = some (.bool d.put) ∧ V.cell? ⟨b8, off8 + j * 11 + 3, none⟩ = some (.string d.key) ∧ V.cell? ⟨b8, off8 + j * 11 + 4, none⟩ = some (.slice d.va d.vn d.vc) ∧ V.cell? ⟨b8, off8 + j * 11 + 5, none⟩ = some (.int .i64 d.st) ∧ V.cell? ⟨b8, off8 + j * 11 + 6, none⟩ = some (.int .i64 d.frm) ∧ V.cell? ⟨b8, off8 + j * 11 + 7, none⟩ = some (.int .i64 d.to) ∧ V.cell? ⟨b8, off8 + j * 11 + 8, none⟩ = some (.bool d.opn) ∧ V.cell? ⟨b8, off8 + j * 11 + 9, none⟩ = some (.int .i64 d.tx) ∧ V.cell? ⟨b8, off8 + j * 11 + 10, none⟩ = some (.int .i64 d.ty) ∧ V.cell? ⟨g, j, none⟩ = some (.int .i64 aj) ∧ V.cell? ⟨g, i, none⟩ = some (.int .i64 ai)) := KP
                  refine wp_region_held_drew (S := (fun V => V.cell? ⟨b8, off8 + j * 11, none⟩ = some (.int .i64 d.client) ∧ V.cell? ⟨b8, off8 + j * 11 + 1, none⟩ = some (.int .i64 d.op) ∧ V.cell? ⟨b8, off8 + j * 11 + 2, none⟩ = some (.bool d.put) ∧ V.cell? ⟨b8, off8 + j * 11 + 3, none⟩ = some (.string d.key) ∧ V.cell? ⟨b8, off8 + j * 11 + 4, none⟩ = some (.slice d.va d.vn d.vc) ∧ V.cell? ⟨b8, off8 + j * 11 + 5, none⟩ = some (.int .i64 d.st) ∧ V.cell? ⟨b8, off8 + j * 11 + 6, none⟩ = some (.int .i64 d.frm) ∧ V.cell? ⟨b8, off8 + j * 11 + 7, none⟩ = some (.int .i64 d.to) ∧ V.cell? ⟨b8, off8 + j * 11 + 8, none⟩ = some (.bool d.opn) ∧ V.cell? ⟨b8, off8 + j * 11 + 9, none⟩ = some (.int .i64 d.tx) ∧ V.cell? ⟨b8, off8 + j * 11 + 10, none⟩ = some (.int .i64 d.ty) ∧ V.cell? ⟨g, j, none⟩ = some (.int .i64 aj) ∧ V.cell? ⟨g, i, none⟩ = some (.int .i64 ai))) (by kernel_rfl) ?_ (fun hHeld => ?_)
                  · exact SH.out _ kd
                  refine wpAnyH_take (i := 0) (oi := { dst := some 63, op := Op.move (Operand.tmp 0), type := 22, pos := "judge.go:50", after := #[], guard := none }) (v := .slice (some ⟨b8, off8, none⟩) n c0) rfl (by kernel_rfl) (by kernel_rfl) (by kernel_rfl) (fun _ _ _ h => h) (Or.inl ⟨by rfl, ?_⟩) (by assumption) ?_
                  · intro w9 hSw
                    (try dsimp only at hSw)
                    go_simp
                  (try simp only [Act.put, List.setIfInBounds_toArray, List.set_cons_zero, List.set_cons_succ])
                  refine wpAnyH_take (i := 1) (oi := { dst := some 64, op := Op.move (Operand.tmp 11), type := 3, pos := "judge.go:50", after := #[], guard := none }) (v := .int .i64 (j : Int)) rfl (by kernel_rfl) (by kernel_rfl) (by kernel_rfl) (fun _ _ _ h => h) (Or.inl ⟨by rfl, ?_⟩) (by assumption) ?_
                  · intro w9 hSw
                    (try dsimp only at hSw)
                    go_simp
                  (try simp only [Act.put, List.setIfInBounds_toArray, List.set_cons_zero, List.set_cons_succ])
                  refine wpAnyH_take (i := 2) (oi := { dst := some 65, op := Op.indexAddr 22 (Operand.tmp 63) (Operand.tmp 64), type := 0, pos := "judge.go:50", after := #[{ on := 0, ground := Ground.data }, { on := 1, ground := Ground.data }], guard := none }) (v := .pointer (some ⟨b8, off8 + j * 11, none⟩)) rfl (by kernel_rfl) (by kernel_rfl) (by kernel_rfl) (fun _ _ _ h => h) (Or.inl ⟨by rfl, ?_⟩) (by assumption) ?_
                  · intro w9 hSw
                    (try dsimp only at hSw)
                    go_simp
                  (try simp only [Act.put, List.setIfInBounds_toArray, List.set_cons_zero, List.set_cons_succ])
                  refine wpAnyH_take (i := 3) (oi := { dst := some 66, op := Op.load 28 (Operand.tmp 65), type := 28, pos := "judge.go:50", after := #[{ on := 2, ground := Ground.data }], guard := none }) (v := .agg #[.int .i64 d.client, .int .i64 d.op, .bool d.put, .string d.key, .slice d.va d.vn d.vc, .int .i64 d.st, .int .i64 d.frm, .int .i64 d.to, .bool d.opn, .int .i64 d.tx, .int .i64 d.ty]) rfl (by kernel_rfl) (by kernel_rfl) (by kernel_rfl) (fun _ _ _ h => h) (Or.inl ⟨by rfl, ?_⟩) (by assumption) ?_
                  · intro w9 hSw
                    (try dsimp only at hSw)
                    go_simp
                  (try simp only [Act.put, List.setIfInBounds_toArray, List.set_cons_zero, List.set_cons_succ])
                  refine wpAnyH_ready (rs := [4]) (by kernel_rfl) (by simp) ?_
                  refine (AllReadyH.cons (o := { dst := some 67, op := Op.call { callee := Callee.value (Operand.func 6), args := #[Operand.tmp 66], argTypes := #[28] }, type := 3, pos := "judge.go:50", after := #[{ on := 3, ground := Ground.data }], guard := none }) rfl (fun K hK => ?_) AllReadyH.nil)
                  go_simp
                  refine (RP.out _ kd).mono ?_
                  rintro o w5 ⟨rfl, KX⟩
                  have K5 : Kept (fun _ => False) wd w5 := Kept.trans kd KX (fun _ _ z => z)
                  refine hK.out _ _ ?_ (fun hHeld => ?_)
                  · exact SH.out w5 K5
                  clear hK K KX
                  (try simp only [Act.put, List.setIfInBounds_toArray, List.set_cons_zero, List.set_cons_succ])
                  refine wpAnyH_take (i := 5) (oi := { dst := some 68, op := Op.binOp BinOp.eql 3 (Operand.tmp 67) (Operand.const (Value.int IntKind.i64 2)) 3, type := 4, pos := "judge.go:50", after := #[{ on := 4, ground := Ground.data }], guard := none }) (v := .bool true) rfl (by kernel_rfl) (by kernel_rfl) (by kernel_rfl) (fun _ _ _ h => h) (Or.inl ⟨by rfl, ?_⟩) (by assumption) ?_
                  · intro w9 hSw
                    (try dsimp only at hSw)
                    go_simp
                  (try simp only [Act.put, List.setIfInBounds_toArray, List.set_cons_zero, List.set_cons_succ])
                  refine wpAnyH_take (i := 6) (oi := { dst := some 69, op := Op.move (Operand.tmp 68), type := 4, pos := "judge.go:50", after := #[{ on := 5, ground := Ground.data }, { on := 4, ground := Ground.chain }], guard := none }) (v := .bool true) rfl (by kernel_rfl) (by kernel_rfl) (by kernel_rfl) (fun _ _ _ h => h) (Or.inl ⟨by rfl, ?_⟩) (by assumption) ?_
                  · intro w9 hSw
                    (try dsimp only at hSw)
                    go_simp
                  (try simp only [Act.put, List.setIfInBounds_toArray, List.set_cons_zero, List.set_cons_succ])
                  refine wpAnyH_take (i := 7) (oi := { dst := some 70, op := Op.move (Operand.tmp 0), type := 22, pos := "judge.go:50", after := #[{ on := 6, ground := Ground.guard }], guard := some (6, true) }) (v := .slice (some ⟨b8, off8, none⟩) n c0) rfl (by kernel_rfl) (by kernel_rfl) (by kernel_rfl) (fun _ _ _ h => h) (Or.inl ⟨by rfl, ?_⟩) (by assumption) ?_
                  · intro w9 hSw
                    (try dsimp only at hSw)
                    go_simp
                  (try simp only [Act.put, List.setIfInBounds_toArray, List.set_cons_zero, List.set_cons_succ])
                  refine wpAnyH_take (i := 8) (oi := { dst := some 71, op := Op.move (Operand.tmp 11), type := 3, pos := "judge.go:50", after := #[{ on := 6, ground := Ground.guard }], guard := some (6, true) }) (v := .int .i64 (j : Int)) rfl (by kernel_rfl) (by kernel_rfl) (by kernel_rfl) (fun _ _ _ h => h) (Or.inl ⟨by rfl, ?_⟩) (by assumption) ?_
                  · intro w9 hSw
                    (try dsimp only at hSw)
                    go_simp
                  (try simp only [Act.put, List.setIfInBounds_toArray, List.set_cons_zero, List.set_cons_succ])
                  refine wpAnyH_take (i := 9) (oi := { dst := some 72, op := Op.move (Operand.tmp 10), type := 3, pos := "judge.go:50", after := #[{ on := 6, ground := Ground.guard }], guard := some (6, true) }) (v := .int .i64 (i : Int)) rfl (by kernel_rfl) (by kernel_rfl) (by kernel_rfl) (fun _ _ _ h => h) (Or.inl ⟨by rfl, ?_⟩) (by assumption) ?_
                  · intro w9 hSw
                    (try dsimp only at hSw)
                    go_simp
                  (try simp only [Act.put, List.setIfInBounds_toArray, List.set_cons_zero, List.set_cons_succ])
                  refine wpAnyH_ready (rs := [10]) (by kernel_rfl) (by simp) ?_
                  refine (AllReadyH.cons (o := { dst := some 73, op := Op.call { callee := Callee.value (Operand.func 16), args := #[Operand.tmp 70, Operand.tmp 71, Operand.tmp 72], argTypes := #[22, 3, 3] }, type := 4, pos := "judge.go:50", after := #[{ on := 7, ground := Ground.data }, { on := 8, ground := Ground.data }, { on := 9, ground := Ground.data }, { on := 6, ground := Ground.chain }, { on := 6, ground := Ground.guard }], guard := some (6, true) }) rfl (fun K hK => ?_) AllReadyH.nil)
                  go_simp
                  refine (RA.out _ K5).mono ?_
                  rintro o w6 ⟨rfl, KX⟩
                  have K6 : Kept (fun _ => False) wd w6 := Kept.trans K5 KX (fun _ _ z => z)
                  refine hK.out _ _ ?_ (fun hHeld => ?_)
                  · exact SH.out w6 K6
                  clear hK K KX
                  (try simp only [Act.put, List.setIfInBounds_toArray, List.set_cons_zero, List.set_cons_succ])
                  refine wpAnyH_take (i := 11) (oi := { dst := some 74, op := Op.pick (Operand.tmp 69) (Operand.tmp 73) (Operand.const (Value.bool false)), type := 4, pos := "judge.go:50", after := #[{ on := 6, ground := Ground.data }, { on := 10, ground := Ground.data }], guard := none }) (v := .bool false) rfl (by kernel_rfl) (by kernel_rfl) (by kernel_rfl) (fun _ _ _ h => h) (Or.inl ⟨by rfl, ?_⟩) (by assumption) ?_
                  · intro w9 hSw
                    (try dsimp only at hSw)
                    go_simp
                  (try simp only [Act.put, List.setIfInBounds_toArray, List.set_cons_zero, List.set_cons_succ])
                  refine wpAnyH_take (i := 12) (oi := { dst := some 75, op := Op.move (Operand.tmp 74), type := 4, pos := "judge.go:50", after := #[{ on := 11, ground := Ground.data }, { on := 10, ground := Ground.chain }], guard := none }) (v := .bool false) rfl (by kernel_rfl) (by kernel_rfl) (by kernel_rfl) (fun _ _ _ h => h) (Or.inl ⟨by rfl, ?_⟩) (by assumption) ?_
                  · intro w9 hSw
                    (try dsimp only at hSw)
                    go_simp
                  (try simp only [Act.put, List.setIfInBounds_toArray, List.set_cons_zero, List.set_cons_succ])
                  refine wpAnyH_take (i := 13) (oi := { dst := some 76, op := Op.move (Operand.tmp 5), type := 29, pos := "judge.go:50", after := #[{ on := 12, ground := Ground.guard }], guard := some (12, true) }) (v := undef) rfl (by kernel_rfl) (by kernel_rfl) (by kernel_rfl) (fun _ _ _ h => h) (Or.inr ⟨by rfl, rfl⟩) (by assumption) ?_
                  (try simp only [Act.put, List.setIfInBounds_toArray, List.set_cons_zero, List.set_cons_succ])
                  refine wpAnyH_take (i := 14) (oi := { dst := some 77, op := Op.move (Operand.tmp 11), type := 3, pos := "judge.go:50", after := #[{ on := 12, ground := Ground.guard }], guard := some (12, true) }) (v := undef) rfl (by kernel_rfl) (by kernel_rfl) (by kernel_rfl) (fun _ _ _ h => h) (Or.inr ⟨by rfl, rfl⟩) (by assumption) ?_
                  (try simp only [Act.put, List.setIfInBounds_toArray, List.set_cons_zero, List.set_cons_succ])
                  refine wpAnyH_take (i := 15) (oi := { dst := some 78, op := Op.indexAddr 29 (Operand.tmp 76) (Operand.tmp 77), type := 0, pos := "judge.go:50", after := #[{ on := 13, ground := Ground.data }, { on := 14, ground := Ground.data }, { on := 12, ground := Ground.guard }], guard := some (12, true) }) (v := undef) rfl (by kernel_rfl) (by kernel_rfl) (by kernel_rfl) (fun _ _ _ h => h) (Or.inr ⟨by rfl, rfl⟩) (by assumption) ?_
                  (try simp only [Act.put, List.setIfInBounds_toArray, List.set_cons_zero, List.set_cons_succ])
                  refine wpAnyH_take (i := 16) (oi := { dst := some 79, op := Op.load 3 (Operand.tmp 78), type := 3, pos := "judge.go:50", after := #[{ on := 15, ground := Ground.data }, { on := 12, ground := Ground.guard }], guard := some (12, true) }) (v := undef) rfl (by kernel_rfl) (by kernel_rfl) (by kernel_rfl) (fun _ _ _ h => h) (Or.inr ⟨by rfl, rfl⟩) (by assumption) ?_
                  (try simp only [Act.put, List.setIfInBounds_toArray, List.set_cons_zero, List.set_cons_succ])
                  refine wpAnyH_take (i := 17) (oi := { dst := some 80, op := Op.move (Operand.tmp 5), type := 29, pos := "judge.go:50", after := #[{ on := 12, ground := Ground.guard }], guard := some (12, true) }) (v := undef) rfl (by kernel_rfl) (by kernel_rfl) (by kernel_rfl) (fun _ _ _ h => h) (Or.inr ⟨by rfl, rfl⟩) (by assumption) ?_
                  (try simp only [Act.put, List.setIfInBounds_toArray, List.set_cons_zero, List.set_cons_succ])
                  refine wpAnyH_take (i := 18) (oi := { dst := some 81, op := Op.move (Operand.tmp 10), type := 3, pos := "judge.go:50", after := #[{ on := 12, ground := Ground.guard }], guard := some (12, true) }) (v := undef) rfl (by kernel_rfl) (by kernel_rfl) (by kernel_rfl) (fun _ _ _ h => h) (Or.inr ⟨by rfl, rfl⟩) (by assumption) ?_
                  (try simp only [Act.put, List.setIfInBounds_toArray, List.set_cons_zero, List.set_cons_succ])
                  refine wpAnyH_take (i := 19) (oi := { dst := some 82, op := Op.indexAddr 29 (Operand.tmp 80) (Operand.tmp 81), type := 0, pos := "judge.go:50", after := #[{ on := 17, ground := Ground.data }, { on := 18, ground := Ground.data }, { on := 12, ground := Ground.guard }], guard := some (12, true) }) (v := undef) rfl (by kernel_rfl) (by kernel_rfl) (by kernel_rfl) (fun _ _ _ h => h) (Or.inr ⟨by rfl, rfl⟩) (by assumption) ?_
                  (try simp only [Act.put, List.setIfInBounds_toArray, List.set_cons_zero, List.set_cons_succ])
                  refine wpAnyH_take (i := 20) (oi := { dst := some 83, op := Op.load 3 (Operand.tmp 82), type := 3, pos := "judge.go:50", after := #[{ on := 19, ground := Ground.data }, { on := 12, ground := Ground.guard }], guard := some (12, true) }) (v := undef) rfl (by kernel_rfl) (by kernel_rfl) (by kernel_rfl) (fun _ _ _ h => h) (Or.inr ⟨by rfl, rfl⟩) (by assumption) ?_
                  (try simp only [Act.put, List.setIfInBounds_toArray, List.set_cons_zero, List.set_cons_succ])
                  refine wpAnyH_take (i := 21) (oi := { dst := some 84, op := Op.binOp BinOp.gtr 3 (Operand.tmp 79) (Operand.tmp 83) 3, type := 4, pos := "judge.go:50", after := #[{ on := 16, ground := Ground.data }, { on := 20, ground := Ground.data }, { on := 12, ground := Ground.guard }], guard := some (12, true) }) (v := undef) rfl (by kernel_rfl) (by kernel_rfl) (by kernel_rfl) (fun _ _ _ h => h) (Or.inr ⟨by rfl, rfl⟩) (by assumption) ?_
                  (try simp only [Act.put, List.setIfInBounds_toArray, List.set_cons_zero, List.set_cons_succ])
                  refine wpAnyH_take (i := 22) (oi := { dst := some 85, op := Op.pick (Operand.tmp 75) (Operand.tmp 84) (Operand.const (Value.bool false)), type := 4, pos := "judge.go:50", after := #[{ on := 12, ground := Ground.data }, { on := 21, ground := Ground.data }], guard := none }) (v := .bool false) rfl (by kernel_rfl) (by kernel_rfl) (by kernel_rfl) (fun _ _ _ h => h) (Or.inl ⟨by rfl, ?_⟩) (by assumption) ?_
                  · intro w9 hSw
                    (try dsimp only at hSw)
                    go_simp
                  (try simp only [Act.put, List.setIfInBounds_toArray, List.set_cons_zero, List.set_cons_succ])
                  refine wpAnyH_done (by kernel_rfl) ?_ _
                  go_wp2_with fail
                  go_roundw
                  case rel => exact ⟨j + 1, by go_num, by omega, K3.out.trans K6 (fun _ _ z => z)⟩
                  case measure => simp [intOf] <;> omega
                · have gt := GT.out rfl rfl
                  go_upto_region 16 with fail
                  go_region_held3 (fun V => V.cell? ⟨b8, off8 + j * 11, none⟩ = some (.int .i64 d.client) ∧ V.cell? ⟨b8, off8 + j * 11 + 1, none⟩ = some (.int .i64 d.op) ∧ V.cell? ⟨b8, off8 + j * 11 + 2, none⟩ = some (.bool d.put) ∧ V.cell? ⟨b8, off8 + j * 11 + 3, none⟩ = some (.string d.key) ∧ V.cell? ⟨b8, off8 + j * 11 + 4, none⟩ = some (.slice d.va d.vn d.vc) ∧ V.cell? ⟨b8, off8 + j * 11 + 5, none⟩ = some (.int .i64 d.st) ∧ V.cell? ⟨b8, off8 + j * 11 + 6, none⟩ = some (.int .i64 d.frm) ∧ V.cell? ⟨b8, off8 + j * 11 + 7, none⟩ = some (.int .i64 d.to) ∧ V.cell? ⟨b8, off8 + j * 11 + 8, none⟩ = some (.bool d.opn) ∧ V.cell? ⟨b8, off8 + j * 11 + 9, none⟩ = some (.int .i64 d.tx) ∧ V.cell? ⟨b8, off8 + j * 11 + 10, none⟩ = some (.int .i64 d.ty) ∧ V.cell? ⟨g, j, none⟩ = some (.int .i64 aj) ∧ V.cell? ⟨g, i, none⟩ = some (.int .i64 ai) ∧ Kept (fun _ => False) wd V) (go_keep)
                    (first | (go_at_call 6; refine (RP.out _ (by assumption)).mono ?_; rintro o w5 ⟨rfl, K5'⟩; have K5 : Kept (fun _ => False) wd w5 := Kept.trans (by assumption) K5' (fun _ _ z => z); obtain ⟨xy0, xy1, xy2, xy3, xy4, xy5, xy6, xy7, xy8, xy9, xy10, xcj, xci⟩ := KP.out w5 K5; clear K5') | (go_at_call 16; refine (RA.out _ (by assumption)).mono ?_; rintro o w6 ⟨rfl, K5'⟩; have K6 : Kept (fun _ => False) wd w6 := Kept.trans (by assumption) K5' (fun _ _ z => z); obtain ⟨zy0, zy1, zy2, zy3, zy4, zy5, zy6, zy7, zy8, zy9, zy10, zcj, zci⟩ := KP.out w6 K6; clear K5') | fail)
                  go_wp2_with fail
                  go_roundw
                  case rel => exact ⟨j + 1, by go_num, by omega, K3.out.trans K6 (fun _ _ z => z)⟩
                  case measure => simp [intOf] <;> omega
              · have p2' : (pd == 2) = false := by simp [p2]
                go_upto_region 16 with fail
                have SH : Hid (∀ V, Kept (fun _ => False) wd V → V.cell? ⟨b8, off8 + j * 11, none⟩ = some (.int .i64 d.client) ∧ V.cell? ⟨b8, off8 + j * 11 + 1, none⟩ = some (.int .i64 d.op) ∧ V.cell? ⟨b8, off8 + j * 11 + 2, none⟩ = some (.bool d.put) ∧ V.cell? ⟨b8, off8 + j * 11 + 3, none⟩ = some (.string d.key) ∧ V.cell? ⟨b8, off8 + j * 11 + 4, none⟩ = some (.slice d.va d.vn d.vc) ∧ V.cell? ⟨b8, off8 + j * 11 + 5, none⟩ = some (.int .i64 d.st) ∧ V.cell? ⟨b8, off8 + j * 11 + 6, none⟩ = some (.int .i64 d.frm) ∧ V.cell? ⟨b8, off8 + j * 11 + 7, none⟩ = some (.int .i64 d.to) ∧ V.cell? ⟨b8, off8 + j * 11 + 8, none⟩ = some (.bool d.opn) ∧ V.cell? ⟨b8, off8 + j * 11 + 9, none⟩ = some (.int .i64 d.tx) ∧ V.cell? ⟨b8, off8 + j * 11 + 10, none⟩ = some (.int .i64 d.ty) ∧ V.cell? ⟨g, j, none⟩ = some (.int .i64 aj) ∧ V.cell? ⟨g, i, none⟩ = some (.int .i64 ai)) := KP
                refine wp_region_held_drew (S := (fun V => V.cell? ⟨b8, off8 + j * 11, none⟩ = some (.int .i64 d.client) ∧ V.cell? ⟨b8, off8 + j * 11 + 1, none⟩ = some (.int .i64 d.op) ∧ V.cell? ⟨b8, off8 + j * 11 + 2, none⟩ = some (.bool d.put) ∧ V.cell? ⟨b8, off8 + j * 11 + 3, none⟩ = some (.string d.key) ∧ V.cell? ⟨b8, off8 + j * 11 + 4, none⟩ = some (.slice d.va d.vn d.vc) ∧ V.cell? ⟨b8, off8 + j * 11 + 5, none⟩ = some (.int .i64 d.st) ∧ V.cell? ⟨b8, off8 + j * 11 + 6, none⟩ = some (.int .i64 d.frm) ∧ V.cell? ⟨b8, off8 + j * 11 + 7, none⟩ = some (.int .i64 d.to) ∧ V.cell? ⟨b8, off8 + j * 11 + 8, none⟩ = some (.bool d.opn) ∧ V.cell? ⟨b8, off8 + j * 11 + 9, none⟩ = some (.int .i64 d.tx) ∧ V.cell? ⟨b8, off8 + j * 11 + 10, none⟩ = some (.int .i64 d.ty) ∧ V.cell? ⟨g, j, none⟩ = some (.int .i64 aj) ∧ V.cell? ⟨g, i, none⟩ = some (.int .i64 ai))) (by kernel_rfl) ?_ (fun hHeld => ?_)
                · exact SH.out _ kd
                refine wpAnyH_take (i := 0) (oi := { dst := some 63, op := Op.move (Operand.tmp 0), type := 22, pos := "judge.go:50", after := #[], guard := none }) (v := .slice (some ⟨b8, off8, none⟩) n c0) rfl (by kernel_rfl) (by kernel_rfl) (by kernel_rfl) (fun _ _ _ h => h) (Or.inl ⟨by rfl, ?_⟩) (by assumption) ?_
                · intro w9 hSw
                  (try dsimp only at hSw)
                  go_simp
                (try simp only [Act.put, List.setIfInBounds_toArray, List.set_cons_zero, List.set_cons_succ])
                refine wpAnyH_take (i := 1) (oi := { dst := some 64, op := Op.move (Operand.tmp 11), type := 3, pos := "judge.go:50", after := #[], guard := none }) (v := .int .i64 (j : Int)) rfl (by kernel_rfl) (by kernel_rfl) (by kernel_rfl) (fun _ _ _ h => h) (Or.inl ⟨by rfl, ?_⟩) (by assumption) ?_
                · intro w9 hSw
                  (try dsimp only at hSw)
                  go_simp
                (try simp only [Act.put, List.setIfInBounds_toArray, List.set_cons_zero, List.set_cons_succ])
                refine wpAnyH_take (i := 2) (oi := { dst := some 65, op := Op.indexAddr 22 (Operand.tmp 63) (Operand.tmp 64), type := 0, pos := "judge.go:50", after := #[{ on := 0, ground := Ground.data }, { on := 1, ground := Ground.data }], guard := none }) (v := .pointer (some ⟨b8, off8 + j * 11, none⟩)) rfl (by kernel_rfl) (by kernel_rfl) (by kernel_rfl) (fun _ _ _ h => h) (Or.inl ⟨by rfl, ?_⟩) (by assumption) ?_
                · intro w9 hSw
                  (try dsimp only at hSw)
                  go_simp
                (try simp only [Act.put, List.setIfInBounds_toArray, List.set_cons_zero, List.set_cons_succ])
                refine wpAnyH_take (i := 3) (oi := { dst := some 66, op := Op.load 28 (Operand.tmp 65), type := 28, pos := "judge.go:50", after := #[{ on := 2, ground := Ground.data }], guard := none }) (v := .agg #[.int .i64 d.client, .int .i64 d.op, .bool d.put, .string d.key, .slice d.va d.vn d.vc, .int .i64 d.st, .int .i64 d.frm, .int .i64 d.to, .bool d.opn, .int .i64 d.tx, .int .i64 d.ty]) rfl (by kernel_rfl) (by kernel_rfl) (by kernel_rfl) (fun _ _ _ h => h) (Or.inl ⟨by rfl, ?_⟩) (by assumption) ?_
                · intro w9 hSw
                  (try dsimp only at hSw)
                  go_simp
                (try simp only [Act.put, List.setIfInBounds_toArray, List.set_cons_zero, List.set_cons_succ])
                refine wpAnyH_ready (rs := [4]) (by kernel_rfl) (by simp) ?_
                refine (AllReadyH.cons (o := { dst := some 67, op := Op.call { callee := Callee.value (Operand.func 6), args := #[Operand.tmp 66], argTypes := #[28] }, type := 3, pos := "judge.go:50", after := #[{ on := 3, ground := Ground.data }], guard := none }) rfl (fun K hK => ?_) AllReadyH.nil)
                go_simp
                refine (RP.out _ kd).mono ?_
                rintro o w5 ⟨rfl, KX⟩
                have K5 : Kept (fun _ => False) wd w5 := Kept.trans kd KX (fun _ _ z => z)
                refine hK.out _ _ ?_ (fun hHeld => ?_)
                · exact SH.out w5 K5
                clear hK K KX
                (try simp only [Act.put, List.setIfInBounds_toArray, List.set_cons_zero, List.set_cons_succ])
                refine wpAnyH_take (i := 5) (oi := { dst := some 68, op := Op.binOp BinOp.eql 3 (Operand.tmp 67) (Operand.const (Value.int IntKind.i64 2)) 3, type := 4, pos := "judge.go:50", after := #[{ on := 4, ground := Ground.data }], guard := none }) (v := .bool false) rfl (by kernel_rfl) (by kernel_rfl) (by kernel_rfl) (fun _ _ _ h => h) (Or.inl ⟨by rfl, ?_⟩) (by assumption) ?_
                · intro w9 hSw
                  (try dsimp only at hSw)
                  go_simp
                (try simp only [Act.put, List.setIfInBounds_toArray, List.set_cons_zero, List.set_cons_succ])
                refine wpAnyH_take (i := 6) (oi := { dst := some 69, op := Op.move (Operand.tmp 68), type := 4, pos := "judge.go:50", after := #[{ on := 5, ground := Ground.data }, { on := 4, ground := Ground.chain }], guard := none }) (v := .bool false) rfl (by kernel_rfl) (by kernel_rfl) (by kernel_rfl) (fun _ _ _ h => h) (Or.inl ⟨by rfl, ?_⟩) (by assumption) ?_
                · intro w9 hSw
                  (try dsimp only at hSw)
                  go_simp
                (try simp only [Act.put, List.setIfInBounds_toArray, List.set_cons_zero, List.set_cons_succ])
                refine wpAnyH_take (i := 7) (oi := { dst := some 70, op := Op.move (Operand.tmp 0), type := 22, pos := "judge.go:50", after := #[{ on := 6, ground := Ground.guard }], guard := some (6, true) }) (v := undef) rfl (by kernel_rfl) (by kernel_rfl) (by kernel_rfl) (fun _ _ _ h => h) (Or.inr ⟨by rfl, rfl⟩) (by assumption) ?_
                (try simp only [Act.put, List.setIfInBounds_toArray, List.set_cons_zero, List.set_cons_succ])
                refine wpAnyH_take (i := 8) (oi := { dst := some 71, op := Op.move (Operand.tmp 11), type := 3, pos := "judge.go:50", after := #[{ on := 6, ground := Ground.guard }], guard := some (6, true) }) (v := undef) rfl (by kernel_rfl) (by kernel_rfl) (by kernel_rfl) (fun _ _ _ h => h) (Or.inr ⟨by rfl, rfl⟩) (by assumption) ?_
                (try simp only [Act.put, List.setIfInBounds_toArray, List.set_cons_zero, List.set_cons_succ])
                refine wpAnyH_take (i := 9) (oi := { dst := some 72, op := Op.move (Operand.tmp 10), type := 3, pos := "judge.go:50", after := #[{ on := 6, ground := Ground.guard }], guard := some (6, true) }) (v := undef) rfl (by kernel_rfl) (by kernel_rfl) (by kernel_rfl) (fun _ _ _ h => h) (Or.inr ⟨by rfl, rfl⟩) (by assumption) ?_
                (try simp only [Act.put, List.setIfInBounds_toArray, List.set_cons_zero, List.set_cons_succ])
                refine wpAnyH_take (i := 10) (oi := { dst := some 73, op := Op.call { callee := Callee.value (Operand.func 16), args := #[Operand.tmp 70, Operand.tmp 71, Operand.tmp 72], argTypes := #[22, 3, 3] }, type := 4, pos := "judge.go:50", after := #[{ on := 7, ground := Ground.data }, { on := 8, ground := Ground.data }, { on := 9, ground := Ground.data }, { on := 6, ground := Ground.chain }, { on := 6, ground := Ground.guard }], guard := some (6, true) }) (v := undef) rfl (by kernel_rfl) (by kernel_rfl) (by kernel_rfl) (fun _ _ _ h => h) (Or.inr ⟨by rfl, rfl⟩) (by assumption) ?_
                (try simp only [Act.put, List.setIfInBounds_toArray, List.set_cons_zero, List.set_cons_succ])
                refine wpAnyH_take (i := 11) (oi := { dst := some 74, op := Op.pick (Operand.tmp 69) (Operand.tmp 73) (Operand.const (Value.bool false)), type := 4, pos := "judge.go:50", after := #[{ on := 6, ground := Ground.data }, { on := 10, ground := Ground.data }], guard := none }) (v := .bool false) rfl (by kernel_rfl) (by kernel_rfl) (by kernel_rfl) (fun _ _ _ h => h) (Or.inl ⟨by rfl, ?_⟩) (by assumption) ?_
                · intro w9 hSw
                  (try dsimp only at hSw)
                  go_simp
                (try simp only [Act.put, List.setIfInBounds_toArray, List.set_cons_zero, List.set_cons_succ])
                refine wpAnyH_take (i := 12) (oi := { dst := some 75, op := Op.move (Operand.tmp 74), type := 4, pos := "judge.go:50", after := #[{ on := 11, ground := Ground.data }, { on := 10, ground := Ground.chain }], guard := none }) (v := .bool false) rfl (by kernel_rfl) (by kernel_rfl) (by kernel_rfl) (fun _ _ _ h => h) (Or.inl ⟨by rfl, ?_⟩) (by assumption) ?_
                · intro w9 hSw
                  (try dsimp only at hSw)
                  go_simp
                (try simp only [Act.put, List.setIfInBounds_toArray, List.set_cons_zero, List.set_cons_succ])
                refine wpAnyH_take (i := 13) (oi := { dst := some 76, op := Op.move (Operand.tmp 5), type := 29, pos := "judge.go:50", after := #[{ on := 12, ground := Ground.guard }], guard := some (12, true) }) (v := undef) rfl (by kernel_rfl) (by kernel_rfl) (by kernel_rfl) (fun _ _ _ h => h) (Or.inr ⟨by rfl, rfl⟩) (by assumption) ?_
                (try simp only [Act.put, List.setIfInBounds_toArray, List.set_cons_zero, List.set_cons_succ])
                refine wpAnyH_take (i := 14) (oi := { dst := some 77, op := Op.move (Operand.tmp 11), type := 3, pos := "judge.go:50", after := #[{ on := 12, ground := Ground.guard }], guard := some (12, true) }) (v := undef) rfl (by kernel_rfl) (by kernel_rfl) (by kernel_rfl) (fun _ _ _ h => h) (Or.inr ⟨by rfl, rfl⟩) (by assumption) ?_
                (try simp only [Act.put, List.setIfInBounds_toArray, List.set_cons_zero, List.set_cons_succ])
                refine wpAnyH_take (i := 15) (oi := { dst := some 78, op := Op.indexAddr 29 (Operand.tmp 76) (Operand.tmp 77), type := 0, pos := "judge.go:50", after := #[{ on := 13, ground := Ground.data }, { on := 14, ground := Ground.data }, { on := 12, ground := Ground.guard }], guard := some (12, true) }) (v := undef) rfl (by kernel_rfl) (by kernel_rfl) (by kernel_rfl) (fun _ _ _ h => h) (Or.inr ⟨by rfl, rfl⟩) (by assumption) ?_
                (try simp only [Act.put, List.setIfInBounds_toArray, List.set_cons_zero, List.set_cons_succ])
                refine wpAnyH_take (i := 16) (oi := { dst := some 79, op := Op.load 3 (Operand.tmp 78), type := 3, pos := "judge.go:50", after := #[{ on := 15, ground := Ground.data }, { on := 12, ground := Ground.guard }], guard := some (12, true) }) (v := undef) rfl (by kernel_rfl) (by kernel_rfl) (by kernel_rfl) (fun _ _ _ h => h) (Or.inr ⟨by rfl, rfl⟩) (by assumption) ?_
                (try simp only [Act.put, List.setIfInBounds_toArray, List.set_cons_zero, List.set_cons_succ])
                refine wpAnyH_take (i := 17) (oi := { dst := some 80, op := Op.move (Operand.tmp 5), type := 29, pos := "judge.go:50", after := #[{ on := 12, ground := Ground.guard }], guard := some (12, true) }) (v := undef) rfl (by kernel_rfl) (by kernel_rfl) (by kernel_rfl) (fun _ _ _ h => h) (Or.inr ⟨by rfl, rfl⟩) (by assumption) ?_
                (try simp only [Act.put, List.setIfInBounds_toArray, List.set_cons_zero, List.set_cons_succ])
                refine wpAnyH_take (i := 18) (oi := { dst := some 81, op := Op.move (Operand.tmp 10), type := 3, pos := "judge.go:50", after := #[{ on := 12, ground := Ground.guard }], guard := some (12, true) }) (v := undef) rfl (by kernel_rfl) (by kernel_rfl) (by kernel_rfl) (fun _ _ _ h => h) (Or.inr ⟨by rfl, rfl⟩) (by assumption) ?_
                (try simp only [Act.put, List.setIfInBounds_toArray, List.set_cons_zero, List.set_cons_succ])
                refine wpAnyH_take (i := 19) (oi := { dst := some 82, op := Op.indexAddr 29 (Operand.tmp 80) (Operand.tmp 81), type := 0, pos := "judge.go:50", after := #[{ on := 17, ground := Ground.data }, { on := 18, ground := Ground.data }, { on := 12, ground := Ground.guard }], guard := some (12, true) }) (v := undef) rfl (by kernel_rfl) (by kernel_rfl) (by kernel_rfl) (fun _ _ _ h => h) (Or.inr ⟨by rfl, rfl⟩) (by assumption) ?_
                (try simp only [Act.put, List.setIfInBounds_toArray, List.set_cons_zero, List.set_cons_succ])
                refine wpAnyH_take (i := 20) (oi := { dst := some 83, op := Op.load 3 (Operand.tmp 82), type := 3, pos := "judge.go:50", after := #[{ on := 19, ground := Ground.data }, { on := 12, ground := Ground.guard }], guard := some (12, true) }) (v := undef) rfl (by kernel_rfl) (by kernel_rfl) (by kernel_rfl) (fun _ _ _ h => h) (Or.inr ⟨by rfl, rfl⟩) (by assumption) ?_
                (try simp only [Act.put, List.setIfInBounds_toArray, List.set_cons_zero, List.set_cons_succ])
                refine wpAnyH_take (i := 21) (oi := { dst := some 84, op := Op.binOp BinOp.gtr 3 (Operand.tmp 79) (Operand.tmp 83) 3, type := 4, pos := "judge.go:50", after := #[{ on := 16, ground := Ground.data }, { on := 20, ground := Ground.data }, { on := 12, ground := Ground.guard }], guard := some (12, true) }) (v := undef) rfl (by kernel_rfl) (by kernel_rfl) (by kernel_rfl) (fun _ _ _ h => h) (Or.inr ⟨by rfl, rfl⟩) (by assumption) ?_
                (try simp only [Act.put, List.setIfInBounds_toArray, List.set_cons_zero, List.set_cons_succ])
                refine wpAnyH_take (i := 22) (oi := { dst := some 85, op := Op.pick (Operand.tmp 75) (Operand.tmp 84) (Operand.const (Value.bool false)), type := 4, pos := "judge.go:50", after := #[{ on := 12, ground := Ground.data }, { on := 21, ground := Ground.data }], guard := none }) (v := .bool false) rfl (by kernel_rfl) (by kernel_rfl) (by kernel_rfl) (fun _ _ _ h => h) (Or.inl ⟨by rfl, ?_⟩) (by assumption) ?_
                · intro w9 hSw
                  (try dsimp only at hSw)
                  go_simp
                (try simp only [Act.put, List.setIfInBounds_toArray, List.set_cons_zero, List.set_cons_succ])
                refine wpAnyH_done (by kernel_rfl) ?_ _
                go_wp2_with fail
                go_roundw
                case rel => exact ⟨j + 1, by go_num, by omega, K3.out.trans K5 (fun _ _ z => z)⟩
                case measure => simp [intOf] <;> omega
            · have j1 : ¬ (j : Int) < (n : Int) := by omega
              go_wp2_with fail
              refine (tFits (H.out.1.k0 KD.out) HI.out.2.1 HI.out.2.2.1 l lb).mono ?_
              rintro o w7 ⟨v, rfl, hv, K7⟩
              have ev : v = true := hv.2 HI.out.2.2.2.1
              subst ev
              have K8 : Hid (Kept (fun _ => False) wo w7) := K3.out.trans K7 (fun _ _ z => z)
              obtain ⟨b8, off8, d, rfl, hd, _, _, y2, _⟩ := (H.out.1.k0 (KD.out.trans K7 (fun _ _ z => z))).at ilt
              have ed : d = mi := by
                have e := HI.out.2.1
                rw [hd] at e
                injection e
              subst ed
              obtain ⟨pu, hpu⟩ : ∃ pu, d.put = pu := ⟨_, rfl⟩
              rw [hpu] at y2
              have LN : Hid (lastF (ms.map Cm.cl) (R.take (x + 1)) (-1) = if pu = true then (i : Int) else l) := by
                have := HI.out.2.2.2.2.2.2
                rw [hpu] at this
                exact this
              clear hv K7 hd hpu
              cases pu
              · have LE : lastF (ms.map Cm.cl) (R.take (x + 1)) (-1) = l := LN.out
                go_wp2_with fail
                go_roundw
                case rel => exact ⟨x + 1, by go_num, by rw [LE], by omega, K8⟩
                case measure => simp [intOf] <;> omega
              · have LE : lastF (ms.map Cm.cl) (R.take (x + 1)) (-1) = (i : Int) := LN.out
                go_wp2_with fail
                go_roundw
                case rel => exact ⟨x + 1, by go_num, by rw [LE], by omega, K8⟩
                case measure => simp [intOf] <;> omega
        · have x1 : ¬ (x : Int) < (k : Int) := by omega
          obtain ⟨l, hl⟩ : ∃ l, l = lastF (ms.map Cm.cl) (R.take x) (-1) := ⟨_, rfl⟩
          rw [← hl]
          clear hl
          have L4 : Hid (Kept (fun _ => False) wo wb) := K.out
          go_wp2_with fail
          go_loopw [12, 101] (fun _ u101 wy => ∃ j : Nat, u101 = .int .i64 (j : Int) ∧ j ≤ n ∧ Hid (Kept (fun _ => False) wo wy)) (fun _ u101 _ => n - (intOf u101).toNat)
          case atStart => exact ⟨0, rfl, Nat.zero_le _, L4⟩
          case round =>
            obtain ⟨j, rfl, hj, K3⟩ := hrel
            clear L4
            obtain ⟨wd, hwd⟩ : ∃ wd, wd = wr := ⟨_, rfl⟩
            rw [← hwd] at K3 ⊢
            clear hwd
            have KD : Hid (Kept (fun _ => False) w wd) := A2.out.kept.trans K3.out (fun _ _ z => z)
            by_cases hjn : j < n
            · have j1 : (j : Int) < (n : Int) := by omega
              obtain ⟨b8, off8, d, rfl, hd, y0, y1, y2, y3, y4, y5, y6, y7, y8, y9, y10, _⟩ := (H.out.1.k0 KD.out).at hjn
              obtain ⟨pd, hpd⟩ : ∃ pd, pd = d.pn := ⟨_, rfl⟩
              have RP : Hid (∀ V, Calls Try.prog 6 #[d.agg] V fun o w' => o = .returned (.int .i64 pd) ∧ Kept (fun _ => False) V w') := fun V => by rw [hpd]; exact tPart d V
              have IN : Hid (pd = 2 → 0 < posL R j) := fun h => by
                rw [hpd, pn_two] at h
                have := (xrun_iff.1 H.out.2.2).2 j d.cl (by rw [List.getElem?_map, hd]; rfl) h
                rw [List.nil_append] at this
                exact posL_in this
              unfold Cm.agg at RP
              clear hd hpd
              go_wp2_with fail
              refine (RP.out _).mono ?_
              rintro o w5 ⟨rfl, K5⟩
              have K6 : Hid (Kept (fun _ => False) wo w5) := K3.out.trans K5 (fun _ _ z => z)
              clear RP K5 y0 y1 y2 y3 y4 y5 y6 y7 y8 y9 y10
              by_cases p2 : pd = 2
              · subst p2
                have cj := ((A2.out.k0 K6.out).at hjn).1
                obtain ⟨aj, haj⟩ : ∃ aj, aj = posL R j := ⟨_, rfl⟩
                rw [← haj] at cj
                have aj0 : (aj == 0) = false := by
                  have h1 := IN.out rfl
                  rw [← haj] at h1
                  have : ¬ aj = 0 := by omega
                  simp [this]
                clear haj
                go_wp2_with fail
                go_roundw
                case rel => exact ⟨j + 1, by go_num, by omega, K6⟩
                case measure => simp [intOf] <;> omega
              · have p2' : (pd == 2) = false := by simp [p2]
                go_wp2_with fail
                go_roundw
                case rel => exact ⟨j + 1, by go_num, by omega, K6⟩
                case measure => simp [intOf] <;> omega
            · have j1 : ¬ (j : Int) < (n : Int) := by omega
              go_wp2_with fail
              go_ret
              exact ⟨rfl, KD.out⟩
end Go.Proofs.Ytginpoofeliimab
