import Derived.Test.YtodmakcklacbfaaRTakAJ
import Derived.Test.YtodmakcklacbfaaRTak
import Derived.Test.YtodmakcklacbfaaRFit
import Derived.BigQuiet
namespace Go.Proofs.Ytodmakcklacbfaa
open Go.RowKit Go.Shelf Go.Lib Go.Sort

theorem KRow.mono {b0 b1 : Nat} {w : World} {p : Option Addr} {k c : Nat} {l : List (Nat × Int × Int)} (h : KRow b0 w p k c l) (hb : b1 ≤ b0) : KRow b1 w p k c l := ⟨h.len, owns_mono h.row hb⟩
/-- The order and its marks on the way. -/
structure PS (wI : World) (ms : List Cm) (IN : List (Nat × Int × Int)) (RA : List Nat) (gd kI : Nat) (po : Option Addr) (ko co m5 : Nat) (R : List Nat) (S : List ((Nat × Int × Int) × List Nat)) (acc : List Nat) (wr : World) : Prop where
  pick : Pick ms IN RA R S acc
  len : R.length = m5
  row : NRow wI.heap.size wr po ko co acc
  is : IS wI.heap.size wr gd kI R
  kept : Kept (fun _ => False) wI wr
theorem PS.k0 {wI : World} {ms : List Cm} {IN : List (Nat × Int × Int)} {RA : List Nat} {gd kI : Nat} {po : Option Addr} {ko co m5 : Nat} {R : List Nat} {S : List ((Nat × Int × Int) × List Nat)} {acc : List Nat} {wr w' : World} (h : PS wI ms IN RA gd kI po ko co m5 R S acc wr) (K : Kept (fun _ => False) wr w') : PS wI ms IN RA gd kI po ko co m5 R S acc w' := ⟨h.pick, h.len, h.row.k0 K, h.is.k0 K, h.kept.trans K (fun _ _ z => z)⟩
structure O3 (wI : World) (ms : List Cm) (IN : List (Nat × Int × Int)) (i : Nat) (po : Option Addr) (ko co : Nat) (T : List Nat) (wr : World) : Prop where
  row : NRow wI.heap.size wr po ko co T
  srt : SortP ms absB i T
  kept : Kept (fun _ => False) wI wr
  rd : ∀ (i' : Nat) (m : Cm), i' < i → ms[i']? = some m → readB m = true → ∃ x ∈ IN, x.2 = tg m
theorem O3.k0 {wI : World} {ms : List Cm} {IN : List (Nat × Int × Int)} {i : Nat} {po : Option Addr} {ko co : Nat} {T : List Nat} {wr w' : World} (h : O3 wI ms IN i po ko co T wr) (K : Kept (fun _ => False) wr w') : O3 wI ms IN i po ko co T w' := ⟨h.row.k0 K, h.srt, h.kept.trans K (fun _ _ z => z), h.rd⟩
theorem O3.reads {wI : World} {ms : List Cm} {IN : List (Nat × Int × Int)} {i : Nat} {po : Option Addr} {ko co : Nat} {T : List Nat} {wr : World} (h : O3 wI ms IN i po ko co T wr) {m : Cm} (hm : ms[i]? = some m) (hr : readB m = true → ∃ x ∈ IN, x.2 = tg m) : ∀ (i' : Nat) (m : Cm), i' < i + 1 → ms[i']? = some m → readB m = true → ∃ x ∈ IN, x.2 = tg m := by
  intro i' m' hi' hm' h'
  by_cases e : i' = i
  · subst e
    rw [hm] at hm'
    have e := Option.some.inj hm'
    subst e
    exact hr h'
  · exact h.rd i' m' (by omega) hm' h'
theorem O3.pass {wI : World} {ms : List Cm} {IN : List (Nat × Int × Int)} {i : Nat} {po : Option Addr} {ko co : Nat} {T : List Nat} {wr : World} (h : O3 wI ms IN i po ko co T wr) {m : Cm} (hm : ms[i]? = some m) (no : absB m = false) (hr : readB m = true → ∃ x ∈ IN, x.2 = tg m) : O3 wI ms IN (i + 1) po ko co T wr := ⟨h.row, h.srt.pass hm no, h.kept, h.reads hm hr⟩
structure O7 (wI : World) (ms : List Cm) (gd kI : Nat) (R P : List Nat) (t : Int × Int) (i : Nat) (pp : Option Addr) (kk cc : Nat) (T : List Nat) (wr : World) : Prop where
  row : NRow wI.heap.size wr pp kk cc (P ++ T)
  srt : SortP ms (rdT t) i T
  is : IS wI.heap.size wr gd kI R
  kept : Kept (fun _ => False) wI wr
theorem O7.k0 {wI : World} {ms : List Cm} {gd kI : Nat} {R P : List Nat} {t : Int × Int} {i : Nat} {pp : Option Addr} {kk cc : Nat} {T : List Nat} {wr w' : World} (h : O7 wI ms gd kI R P t i pp kk cc T wr) (K : Kept (fun _ => False) wr w') : O7 wI ms gd kI R P t i pp kk cc T w' := ⟨h.row.k0 K, h.srt, h.is.k0 K, h.kept.trans K (fun _ _ z => z)⟩
theorem O7.pass {wI : World} {ms : List Cm} {gd kI : Nat} {R P : List Nat} {t : Int × Int} {i : Nat} {pp : Option Addr} {kk cc : Nat} {T : List Nat} {wr : World} (h : O7 wI ms gd kI R P t i pp kk cc T wr) {m : Cm} (hm : ms[i]? = some m) (no : rdT t m = false) : O7 wI ms gd kI R P t (i + 1) pp kk cc T wr := ⟨h.row, h.srt.pass hm no, h.is, h.kept⟩
theorem abs_read {m : Cm} (h : absB m = true) : readB m = false := by
  unfold absB at h
  unfold readB
  simp at h
  simp [h.2]
theorem IS.off {S : Nat → Prop} {b0 : Nat} {w w' : World} {g n : Nat} {b : List Nat} (h : IS b0 w g n b) (K : Kept S w w') (hn : ¬ S g) : IS b0 w' g n b := ⟨K.owns h.row (fun j z => by
  have z : some g = some j := z
  rw [← Option.some.inj z]
  exact hn)⟩
theorem is_apart {b0 b1 : Nat} {w : World} {g n : Nat} {b : List Nat} {p : Option Addr} {k c : Nat} {R : List Nat} (h : IS b0 w g n b) (h2 : NRow b1 w p k c R) : ¬ blockOf p = some g := by
  intro z
  obtain ⟨cs, e⟩ := own_type h2.row g z
  obtain ⟨cs', e'⟩ := own_type h.row g rfl
  rw [e] at e'
  simp at e'
set_option maxRecDepth 100000 in
set_option maxHeartbeats 32000000 in
theorem dByTags {w : World} {p0 : Option Addr} {n c0 : Nat} {ms : List Cm} (cr : CRd w p0 n c0 ms) (hb : n ≤ 1300000000000) : Calls Try.prog 21 #[.slice p0 n c0] w (RetY fun q k c e w' => (∃ D, DocT ms D e ∧ NRow w.heap.size w' q k c D) ∧ Kept (fun _ => False) w w') := by
  have rm := cr.room
  have sm := cr.small
  unfold maxLen at sm
  have C1 : Hid (Calls Try.prog 49 #[.slice p0 n c0] w (RetB fun v w' => (v = true ↔ FitL ms) ∧ Kept (fun _ => False) w w')) := dFit cr
  have H0 : Hid (CRd w p0 n c0 ms ∧ n ≤ 1300000000000) := ⟨cr, hb⟩
  clear cr hb
  go_enter Try.func21, Try.ntmps21
  go_wp2_with fail
  refine C1.out.mono ?_
  rintro o w1 ⟨v1, rfl, hv1, K1'⟩
  have K1 : Hid (Kept (fun _ => False) w w1) := K1'
  clear C1 K1'
  cases v1
  · have F : Hid ((∃ D, DocT ms D 1 ∧ NRow w.heap.size w1 none 0 0 D) ∧ Kept (fun _ => False) w w1) := ⟨⟨[], .inl ⟨rfl, fun f => (by have := hv1.2 f; cases this), rfl⟩, NRow.nil _ _⟩, K1.out⟩
    clear hv1
    go_wp2_with fail
    go_ret2
    exact RetY.mk none 0 0 1 rfl F.out
  · have FT : Hid (FitL ms) := hv1.1 rfl
    clear hv1
    have C2 : Hid (Calls Try.prog 53 #[.slice p0 n c0] w1 (RetS fun p k c w' => ∃ IN, Tak ms IN ∧ IN.length ≤ 2 * n ∧ KRow w1.heap.size w' p k c IN ∧ Kept (fun _ => False) w1 w')) := dTaken (H0.out.1.k0 K1.out) FT.out H0.out.2
    go_wp2_with fail
    refine C2.out.mono ?_
    rintro o wI ⟨pI, kI, cI, rfl, IN, tk, il, rowI', KI'⟩
    have H : Hid (CRd wI p0 n c0 ms ∧ n ≤ 1300000000000 ∧ Tak ms IN ∧ kI ≤ 2 * n ∧ KRow w.heap.size wI pI kI cI IN ∧ Kept (fun _ => False) w wI ∧ FitL ms ∧ IN.length = kI) := by
      have K := K1.out.trans KI' (fun _ _ z => z)
      exact ⟨H0.out.1.k0 K, H0.out.2, tk, by rw [← rowI'.len]; exact il, rowI'.mono K1.out.size, K, FT.out, rowI'.len⟩
    have rI := own_room rowI'.row
    have rI1 := rI.1
    have rI2 := rI.2
    unfold maxLen at rI2
    clear C2 tk il rowI' KI' K1 FT H0 rI
    have BAD : Hid (∀ V, Kept (fun _ => False) wI V → ¬ DOk ms IN → (∃ D, DocT ms D 81 ∧ NRow w.heap.size V none 0 0 D) ∧ Kept (fun _ => False) w V) := fun V kv no => ⟨⟨[], .inr ⟨H.out.2.2.2.2.2.2.1, IN, H.out.2.2.1, .inl ⟨rfl, no, rfl⟩⟩, NRow.nil _ _⟩, H.out.2.2.2.2.2.1.trans kv (fun _ _ z => z)⟩
    have CI : Hid (∀ (V : World) (j : Nat), Kept (fun _ => False) wI V → j < kI → ∃ (g xc : Nat) (xa xb : Int), pI = some ⟨g, 0, none⟩ ∧ IN[j]? = some (xc, xa, xb) ∧ V.cell? ⟨g, j * 3, none⟩ = some (.int .i64 (xc : Int)) ∧ V.cell? ⟨g, j * 3 + 1, none⟩ = some (.int .i64 xa) ∧ V.cell? ⟨g, j * 3 + 2, none⟩ = some (.int .i64 xb)) := by
      intro V j kv hj
      obtain ⟨g, ⟨xc, xa, xb⟩, e, hx, c0, c1, c2⟩ := (H.out.2.2.2.2.1.k0 kv).at hj
      exact ⟨g, xc, xa, xb, e, hx, c0, c1, c2⟩
    have L0 : Hid (Kept (fun _ => False) wI wI ∧ Chk IN 0) := ⟨Kept.refl _ _, Chk.zero _⟩
    go_wp2_with fail
    go_loopw [5, 6] (fun u5 _ wr => ∃ i : Nat, u5 = .int .i64 (i : Int) ∧ i ≤ kI ∧ Hid (Kept (fun _ => False) wI wr ∧ Chk IN i)) (fun u5 _ _ => kI - (intOf u5).toNat)
    case atStart => exact ⟨0, rfl, Nat.zero_le _, L0⟩
    case round =>
      obtain ⟨i, rfl, hi, S⟩ := hrel
      clear L0
      obtain ⟨wo, hwo⟩ : ∃ wo, wo = wr := ⟨_, rfl⟩
      rw [← hwo] at S ⊢
      clear hwo
      by_cases hlt : i < kI
      · have i1 : (i : Int) < (kI : Int) := by omega
        obtain ⟨gI, xc, xa, xb, rfl, hx, x0, x1, x2⟩ := CI.out wo i S.out.1 hlt
        obtain ⟨pb, hpb⟩ : ∃ pb, pb = propB xa xb := ⟨_, rfl⟩
        have RP : Hid (∀ V, Calls Try.prog 54 #[.agg #[.int .i64 xa, .int .i64 xb]] V fun o w' => o = .returned (.bool pb) ∧ Kept (fun _ => False) V w') := fun V => by rw [hpb]; exact dProper xa xb V
        have HX : Hid (IN[i]? = some (xc, xa, xb) ∧ pb = kIsProper xa xb) := ⟨hx, by rw [hpb]; exact propB_eq _ _⟩
        clear hpb hx
        go_wp2_with fail
        refine (RP.out _).mono ?_
        rintro o w3 ⟨rfl, K3'⟩
        have K3 : Kept (fun _ => False) wI w3 := S.out.1.trans K3' (fun _ _ z => z)
        clear K3' RP x0 x1 x2
        cases pb
        · have F := BAD.out w3 K3 (fun z => by have := z.prop _ (List.mem_of_getElem? HX.out.1); rw [← HX.out.2] at this; cases this)
          go_wp2_with fail
          go_ret2
          exact RetY.mk none 0 0 81 rfl F
        · have M0 : Hid (Kept (fun _ => False) wI w3 ∧ ∀ y ∈ IN.take 0, (xa, xb) ≠ y.2 ∧ xc ≠ y.1) := ⟨K3, fun y hy => absurd hy (by simp)⟩
          go_wp2_with fail
          go_loopw [6] (fun u6 wr => ∃ j : Nat, u6 = .int .i64 (j : Int) ∧ j ≤ i ∧ Hid (Kept (fun _ => False) wI wr ∧ ∀ y ∈ IN.take j, (xa, xb) ≠ y.2 ∧ xc ≠ y.1)) (fun u6 _ => i - (intOf u6).toNat)
          case atStart => exact ⟨0, rfl, Nat.zero_le _, M0⟩
          case round =>
            obtain ⟨j, rfl, hj, SJ⟩ := hrel
            clear M0 K3
            obtain ⟨wb, hwb⟩ : ∃ wb, wb = wr := ⟨_, rfl⟩
            rw [← hwb] at SJ ⊢
            clear hwb
            by_cases hji : j < i
            · have j1 : (j : Int) < (i : Int) := by omega
              have j2 : (j : Int) < (kI : Int) := by omega
              obtain ⟨g2, xc2, xa2, xb2, e2, hx2, x0, x1, x2⟩ := CI.out wb i SJ.out.1 hlt
              have e2 : gI = g2 := by simpa using e2
              subst e2
              rw [HX.out.1] at hx2
              have e3 : xc = xc2 ∧ xa = xa2 ∧ xb = xb2 := by simpa using hx2
              obtain ⟨rfl, rfl, rfl⟩ := e3
              obtain ⟨g2, yc, ya, yb, e2, hy, z0, z1, z2⟩ := CI.out wb j SJ.out.1 (by omega)
              have e2 : gI = g2 := by simpa using e2
              subst e2
              have NO : Hid (((xa, xb) = (ya, yb) ∨ xc = yc) → ¬ DOk ms IN) := fun h z => by
                have := dok_at z HX.out.1 hy hji
                rcases h with h | h
                · exact this.1 h
                · exact this.2 h
              have GO : Hid ((xa, xb) ≠ (ya, yb) → xc ≠ yc → ∀ V, Kept (fun _ => False) wb V → Hid (Kept (fun _ => False) wI V ∧ ∀ y ∈ IN.take (j + 1), (xa, xb) ≠ y.2 ∧ xc ≠ y.1)) := fun h1 h2 V kv => ⟨SJ.out.1.trans kv (fun _ _ z => z), fun y hy' => by
                rw [List.take_add_one, hy] at hy'
                rcases List.mem_append.1 hy' with z | z
                · exact SJ.out.2 y z
                · have e : y = (yc, ya, yb) := by simpa using z
                  rw [e]
                  exact ⟨h1, h2⟩⟩
              clear hx2 hy
              have KQ : Hid (∀ k, Kept (fun _ => False) wI (wb.drewN k)) := fun k => SJ.out.1.trans ((Kept.refl _ _).drewN k) (fun _ _ z => z)
              by_cases h1 : xa = ya
              · subst h1
                by_cases h2 : xb = yb
                · subst h2
                  have NO2 : Hid (¬ DOk ms IN) := NO.out (.inl rfl)
                  clear NO GO
                  go_upto_region 12 with fail
                  go_quiet (fail)
                  go_wp2_with fail
                  go_ret2
                  exact RetY.mk none 0 0 81 rfl (BAD.out _ (KQ.out _) NO2.out)
                · have q2 : (xb == yb) = false := by simp [h2]
                  have NE : (xa, xb) ≠ (xa, yb) := fun z => h2 (congrArg Prod.snd z)
                  by_cases hc : xc = yc
                  · subst hc
                    have NO2 : Hid (¬ DOk ms IN) := NO.out (.inr rfl)
                    clear NO GO
                    go_upto_region 12 with fail
                    go_quiet (fail)
                    go_wp2_with fail
                    go_ret2
                    exact RetY.mk none 0 0 81 rfl (BAD.out _ (KQ.out _) NO2.out)
                  · have qc : ((xc : Int) == (yc : Int)) = false := by simp; omega
                    have NX := GO.out NE hc
                    clear NO GO
                    go_upto_region 12 with fail
                    go_quiet (fail)
                    go_wp2_with fail
                    go_roundw
                    case rel => exact ⟨j + 1, by go_num, by omega, NX _ ((Kept.refl _ _).drewN _)⟩
                    case measure => simp [intOf] <;> omega
              · have q1 : (xa == ya) = false := by simp [h1]
                have NE : (xa, xb) ≠ (ya, yb) := fun z => h1 (congrArg Prod.fst z)
                by_cases hc : xc = yc
                · subst hc
                  have NO2 : Hid (¬ DOk ms IN) := NO.out (.inr rfl)
                  clear NO GO
                  go_upto_region 12 with fail
                  go_quiet (fail)
                  go_wp2_with fail
                  go_ret2
                  exact RetY.mk none 0 0 81 rfl (BAD.out _ (KQ.out _) NO2.out)
                · have qc : ((xc : Int) == (yc : Int)) = false := by simp; omega
                  have NX := GO.out NE hc
                  clear NO GO
                  go_upto_region 12 with fail
                  go_quiet (fail)
                  go_wp2_with fail
                  go_roundw
                  case rel => exact ⟨j + 1, by go_num, by omega, NX _ ((Kept.refl _ _).drewN _)⟩
                  case measure => simp [intOf] <;> omega
            · have j1 : ¬ (j : Int) < (i : Int) := by omega
              have NX : Hid (Kept (fun _ => False) wI wb ∧ Chk IN (i + 1)) := by
                refine ⟨SJ.out.1, S.out.2.more HX.out.1 HX.out.2.symm (fun y hy => ?_)⟩
                have ej : j = i := by omega
                rw [← ej] at hy
                exact SJ.out.2 y hy
              clear SJ
              go_wp2_with fail
              go_roundw
              case rel => exact ⟨i + 1, by go_num, by omega, NX⟩
              case measure => simp [intOf] <;> omega
      · have i1 : ¬ (i : Int) < (kI : Int) := by omega
        have CK : Hid ((∀ x ∈ IN, kIsProper x.2.1 x.2.2 = true) ∧ IN.Pairwise (fun x y => x.2 ≠ y.2 ∧ x.1 ≠ y.1)) := by
          have ei : i = IN.length := by have := H.out.2.2.2.2.2.2.2; omega
          have h1 := S.out.2.prop
          have h2 := S.out.2.pair
          rw [ei, List.take_length] at h1 h2
          exact ⟨h1, h2⟩
        have M3 : Hid (O3 wI ms IN 0 none 0 0 [] wo) := ⟨NRow.nil _ _, SortP.nil _ _, S.out.1, fun i' m h => absurd h (by omega)⟩
        clear S hlt hi
        go_wp2_with fail
        go_loopw [7, 8, 9, 10] (fun u7 u8 _ _ wr => ∃ (po : Option Addr) (ko co i : Nat) (T : List Nat), u7 = .slice po ko co ∧ u8 = .int .i64 (i : Int) ∧ i ≤ n ∧ Hid (O3 wI ms IN i po ko co T wr)) (fun _ u8 _ _ _ => n - (intOf u8).toNat)
        case atStart => exact ⟨none, 0, 0, 0, [], rfl, rfl, Nat.zero_le _, M3⟩
        case round =>
          obtain ⟨po, ko, co, i, T, rfl, rfl, hi, S⟩ := hrel
          clear M3 i1
          obtain ⟨wo, hwo⟩ : ∃ wo, wo = wr := ⟨_, rfl⟩
          rw [← hwo] at S ⊢
          clear hwo
          by_cases hlt : i < n
          · have i1 : (i : Int) < (n : Int) := by omega
            obtain ⟨b8, off8, m, rfl, hm, y0, y1, y2, y3, y4, y5, y6, y7, y8, y9, y10, _⟩ := (H.out.1.k0 S.out.kept).at hlt
            obtain ⟨tx, htx⟩ : ∃ tx, m.tx = tx := ⟨_, rfl⟩
            obtain ⟨ty, hty⟩ : ∃ ty, m.ty = ty := ⟨_, rfl⟩
            rw [htx] at y9
            rw [hty] at y10
            obtain ⟨ab, hab⟩ : ∃ ab, ab = absB m := ⟨_, rfl⟩
            obtain ⟨rb, hrb⟩ : ∃ rb, rb = readB m := ⟨_, rfl⟩
            have HM : Hid (ms[i]? = some m ∧ tg m = (tx, ty) ∧ ab = absB m ∧ rb = readB m) := ⟨hm, by rw [← htx, ← hty]; rfl, hab, hrb⟩
            have RA : Hid (∀ V, Calls Try.prog 51 #[.agg #[.int .i64 m.client, .int .i64 m.op, .bool m.put, .string m.key, .slice m.va m.vn m.vc, .int .i64 m.st, .int .i64 m.frm, .int .i64 m.to, .bool m.opn, .int .i64 tx, .int .i64 ty]] V fun o w' => o = .returned (.bool ab) ∧ Kept (fun _ => False) V w') := fun V => by rw [hab, ← htx, ← hty]; exact dAbsent m V
            have RR : Hid (∀ V, Calls Try.prog 52 #[.agg #[.int .i64 m.client, .int .i64 m.op, .bool m.put, .string m.key, .slice m.va m.vn m.vc, .int .i64 m.st, .int .i64 m.frm, .int .i64 m.to, .bool m.opn, .int .i64 tx, .int .i64 ty]] V fun o w' => o = .returned (.bool rb) ∧ Kept (fun _ => False) V w') := fun V => by rw [hrb, ← htx, ← hty]; exact dRead m V
            have KC : Hid (∀ V, Kept (fun _ => False) wI V → V.cell? ⟨b8, off8 + i * 11, none⟩ = some (.int .i64 m.client) ∧ V.cell? ⟨b8, off8 + i * 11 + 1, none⟩ = some (.int .i64 m.op) ∧ V.cell? ⟨b8, off8 + i * 11 + 2, none⟩ = some (.bool m.put) ∧ V.cell? ⟨b8, off8 + i * 11 + 3, none⟩ = some (.string m.key) ∧ V.cell? ⟨b8, off8 + i * 11 + 4, none⟩ = some (.slice m.va m.vn m.vc) ∧ V.cell? ⟨b8, off8 + i * 11 + 5, none⟩ = some (.int .i64 m.st) ∧ V.cell? ⟨b8, off8 + i * 11 + 6, none⟩ = some (.int .i64 m.frm) ∧ V.cell? ⟨b8, off8 + i * 11 + 7, none⟩ = some (.int .i64 m.to) ∧ V.cell? ⟨b8, off8 + i * 11 + 8, none⟩ = some (.bool m.opn) ∧ V.cell? ⟨b8, off8 + i * 11 + 9, none⟩ = some (.int .i64 tx) ∧ V.cell? ⟨b8, off8 + i * 11 + 10, none⟩ = some (.int .i64 ty)) := fun V kv' => by
              obtain ⟨b7, off7, q, e7, hq, x0, x1, x2, x3, x4, x5, x6, x7, x8, x9, x10, _⟩ := (H.out.1.k0 kv').at hlt
              have e7 : b8 = b7 ∧ off8 = off7 := by simpa using e7
              obtain ⟨rfl, rfl⟩ := e7
              rw [hm] at hq
              have e := Option.some.inj hq
              subst e
              rw [htx] at x9
              rw [hty] at x10
              exact ⟨x0, x1, x2, x3, x4, x5, x6, x7, x8, x9, x10⟩
            clear hm hab hrb htx hty
            go_wp2_with fail
            refine (RA.out _).mono ?_
            rintro o w3 ⟨rfl, K3'⟩
            have K3 : Kept (fun _ => False) wo w3 := K3'
            clear K3' y0 y1 y2 y3 y4 y5 y6 y7 y8 y9 y10
            have K3I : Hid (Kept (fun _ => False) wI w3) := S.out.kept.trans K3 (fun _ _ z => z)
            cases ab
            · obtain ⟨y0, y1, y2, y3, y4, y5, y6, y7, y8, y9, y10⟩ := KC.out w3 K3I.out
              go_wp2_with fail
              refine (RR.out _).mono ?_
              rintro o w4 ⟨rfl, K4'⟩
              have K4 : Kept (fun _ => False) wo w4 := K3.trans K4' (fun _ _ z => z)
              have K4I : Hid (Kept (fun _ => False) wI w4) := S.out.kept.trans K4 (fun _ _ z => z)
              clear K4' K3 K3I y0 y1 y2 y3 y4 y5 y6 y7 y8 y9 y10
              cases rb
              · have NX : Hid (O3 wI ms IN (i + 1) po ko co T w4) := (S.out.k0 K4).pass HM.out.1 HM.out.2.2.1.symm (fun z => by rw [← HM.out.2.2.2] at z; cases z)
                clear KC RR RA S
                go_wp2_with fail
                go_roundw
                case rel => exact ⟨po, ko, co, i + 1, T, rfl, by go_num, by omega, NX⟩
                case measure => simp [intOf] <;> omega
              · have Q0 : Hid (Kept (fun _ => False) w4 w4 ∧ (false = true ↔ ∃ x ∈ IN.take 0, x.2 = (tx, ty))) := ⟨Kept.refl _ _, by simp⟩
                go_wp2_with fail
                go_loopw [9, 10] (fun u9 u10 wy => ∃ (fb : Bool) (j : Nat), u9 = .bool fb ∧ u10 = .int .i64 (j : Int) ∧ j ≤ kI ∧ Hid (Kept (fun _ => False) w4 wy ∧ (fb = true ↔ ∃ x ∈ IN.take j, x.2 = (tx, ty)))) (fun _ u10 _ => kI - (intOf u10).toNat)
                case atStart => exact ⟨false, 0, rfl, rfl, Nat.zero_le _, Q0⟩
                case round =>
                  obtain ⟨fb, j, rfl, rfl, hj, SJ⟩ := hrel
                  clear Q0
                  obtain ⟨wb, hwb⟩ : ∃ wb, wb = wr := ⟨_, rfl⟩
                  rw [← hwb] at SJ ⊢
                  clear hwb
                  have KBI : Hid (Kept (fun _ => False) wI wb) := K4I.out.trans SJ.out.1 (fun _ _ z => z)
                  by_cases hjk : j < kI
                  · have j1 : (j : Int) < (kI : Int) := by omega
                    obtain ⟨g2, xc, ta, tb, rfl, hl, x0, x1, x2⟩ := CI.out wb j KBI.out hjk
                    obtain ⟨y0, y1, y2, y3, y4, y5, y6, y7, y8, y9, y10⟩ := KC.out wb KBI.out
                    clear y0 y1 y2 y3 y4 y5 y6 y7 y8 x0
                    have TA : Hid ((∃ x ∈ IN.take (j + 1), x.2 = (tx, ty)) ↔ ((∃ x ∈ IN.take j, x.2 = (tx, ty)) ∨ (ta = tx ∧ tb = ty))) := by
                      show _ ↔ _
                      rw [List.take_add_one, hl]
                      constructor
                      · rintro ⟨x, hx, e⟩
                        rcases List.mem_append.1 hx with z | z
                        · exact .inl ⟨x, z, e⟩
                        · have ex : x = (xc, ta, tb) := by simpa using z
                          rw [ex] at e
                          exact .inr ⟨congrArg Prod.fst e, congrArg Prod.snd e⟩
                      · rintro (⟨x, hx, e⟩ | ⟨rfl, rfl⟩)
                        · exact ⟨x, List.mem_append_left _ hx, e⟩
                        · exact ⟨(xc, ta, tb), List.mem_append_right _ (by simp), rfl⟩
                    clear hl
                    cases fb
                    · by_cases h1 : ta = tx
                      · subst h1
                        by_cases h2 : tb = ty
                        · subst h2
                          have NX : Hid (∀ V, Kept (fun _ => False) wb V → Hid (Kept (fun _ => False) w4 V ∧ (true = true ↔ ∃ x ∈ IN.take (j + 1), x.2 = (ta, tb)))) := fun V kv => ⟨SJ.out.1.trans kv (fun _ _ z => z), by rw [TA.out]; simp⟩
                          go_upto_region 25 with fail
                          go_quiet (fail)
                          go_wp2_with fail
                          go_roundw
                          case rel => exact ⟨true, j + 1, by first | rfl | simp, by go_num, by omega, NX.out _ ((Kept.refl _ _).drewN _)⟩
                          case measure => simp [intOf] <;> omega
                        · have q2 : (tb == ty) = false := by simp [h2]
                          have NX : Hid (∀ V, Kept (fun _ => False) wb V → Hid (Kept (fun _ => False) w4 V ∧ (false = true ↔ ∃ x ∈ IN.take (j + 1), x.2 = (ta, ty)))) := fun V kv => ⟨SJ.out.1.trans kv (fun _ _ z => z), by rw [TA.out, ← SJ.out.2]; simp [h2]⟩
                          go_upto_region 25 with fail
                          go_quiet (fail)
                          go_wp2_with fail
                          go_roundw
                          case rel => exact ⟨false, j + 1, by first | rfl | simp, by go_num, by omega, NX.out _ ((Kept.refl _ _).drewN _)⟩
                          case measure => simp [intOf] <;> omega
                      · have q1 : (ta == tx) = false := by simp [h1]
                        have NX : Hid (∀ V, Kept (fun _ => False) wb V → Hid (Kept (fun _ => False) w4 V ∧ (false = true ↔ ∃ x ∈ IN.take (j + 1), x.2 = (tx, ty)))) := fun V kv => ⟨SJ.out.1.trans kv (fun _ _ z => z), by rw [TA.out, ← SJ.out.2]; simp [h1]⟩
                        go_upto_region 25 with fail
                        go_quiet (fail)
                        go_wp2_with fail
                        go_roundw
                        case rel => exact ⟨false, j + 1, by first | rfl | simp, by go_num, by omega, NX.out _ ((Kept.refl _ _).drewN _)⟩
                        case measure => simp [intOf] <;> omega
                    · have SJ2 := SJ.out.2.1 rfl
                      have NX : Hid (∀ V, Kept (fun _ => False) wb V → Hid (Kept (fun _ => False) w4 V ∧ (true = true ↔ ∃ x ∈ IN.take (j + 1), x.2 = (tx, ty)))) := fun V kv => ⟨SJ.out.1.trans kv (fun _ _ z => z), by rw [TA.out]; exact ⟨fun _ => .inl SJ2, fun _ => rfl⟩⟩
                      go_upto_region 25 with fail
                      go_quiet (fail)
                      go_wp2_with fail
                      go_roundw
                      case rel => exact ⟨true, j + 1, by first | rfl | simp, by go_num, by omega, NX.out _ ((Kept.refl _ _).drewN _)⟩
                      case measure => simp [intOf] <;> omega
                  · have j1 : ¬ (j : Int) < (kI : Int) := by omega
                    have SB : Hid (Kept (fun _ => False) w4 wb ∧ (fb = true ↔ ∃ x ∈ IN, x.2 = (tx, ty))) := by
                      refine ⟨SJ.out.1, ?_⟩
                      have ej : j = IN.length := by have := H.out.2.2.2.2.2.2.2; omega
                      have := SJ.out.2
                      rw [ej, List.take_length] at this
                      exact this
                    clear SJ
                    cases fb
                    · have NO : Hid (¬ DOk ms IN) := fun z => by
                        obtain ⟨x, hx, e⟩ := z.read i m HM.out.1 HM.out.2.2.2.symm
                        have := SB.out.2.2 ⟨x, hx, by rw [e, HM.out.2.1]⟩
                        cases this
                      have F := BAD.out wb KBI.out NO.out
                      go_wp2_with fail
                      go_ret2
                      exact RetY.mk none 0 0 81 rfl F
                    · have KB4 : Kept (fun _ => False) wo wb := K4.trans SB.out.1 (fun _ _ z => z)
                      have HR : Hid (readB m = true → ∃ x ∈ IN, x.2 = tg m) := fun _ => by rw [HM.out.2.1]; exact SB.out.2.1 rfl
                      have NX : Hid (O3 wI ms IN (i + 1) po ko co T wb) := (S.out.k0 KB4).pass HM.out.1 HM.out.2.2.1.symm (HR.out)
                      clear KC RR RA S
                      go_wp2_with fail
                      go_roundw
                      case rel => exact ⟨po, ko, co, i + 1, T, rfl, by go_num, by omega, NX⟩
                      case measure => simp [intOf] <;> omega
            · have BR : Hid (rb = false) := by
                show rb = false
                rw [HM.out.2.2.2]
                exact abs_read HM.out.2.2.1.symm
              have CP : Hid (Calls Try.prog 55 #[.slice (some ⟨b8, off8, none⟩) n c0, .slice po ko co, .int .i64 0, .int .i64 (i : Int)] w3 (RetW (fun p c' w' => ∃ R, NRow wI.heap.size w' p (ko + 1) c' R ∧ PlcQ ms [] T i R ∧ Kept (fun _ => False) wI w' ∧ Kept (fun j => blockOf po = some j) w3 w') (ko + 1))) := by
                have rw3 : NRow wI.heap.size w3 po ko co ([] ++ T) := S.out.row.k0 K3
                have tl := S.out.srt.len
                have tl2 := S.out.row.len
                have n1 := H.out.2.1
                exact dPlaced (P := []) H.out.1 K3I.out rw3 (Nat.le_refl _) K3I.out.size (by omega) (fun y hy => by have := S.out.srt.lt y hy; omega) hlt
              go_wp2_with fail
              refine CP.out.mono ?_
              rintro o w4 ⟨p4, c4, rfl, R4, row4, plc4, K4', _⟩
              have N4 : Hid (∃ T', O3 wI ms IN (i + 1) p4 (ko + 1) c4 T' w4) := by
                obtain ⟨T', e, srt'⟩ := S.out.srt.add HM.out.1 HM.out.2.2.1.symm plc4
                have e : R4 = T' := e
                rw [e] at row4
                exact ⟨T', row4, srt', K4', S.out.reads HM.out.1 (fun z => by rw [← HM.out.2.2.2, BR.out] at z; cases z)⟩
              obtain ⟨y0, y1, y2, y3, y4, y5, y6, y7, y8, y9, y10⟩ := KC.out w4 K4'
              clear CP K3 K3I plc4 row4 K4'
              go_wp2_with fail
              refine (RR.out _).mono ?_
              rintro o w5 ⟨rfl, K5⟩
              rw [BR.out]
              obtain ⟨T', NX'⟩ := N4.out
              have NX : Hid (O3 wI ms IN (i + 1) p4 (ko + 1) c4 T' w5) := NX'.k0 K5
              clear K5 NX' N4 KC RR RA S y0 y1 y2 y3 y4 y5 y6 y7 y8 y9 y10
              go_wp2_with fail
              go_roundw
              case rel => exact ⟨p4, ko + 1, c4, i + 1, T', rfl, by go_num, by omega, NX⟩
              case measure => simp [intOf] <;> omega
          · have i1 : ¬ (i : Int) < (n : Int) := by omega
            have ei : n = i := by omega
            subst ei
            have OK : Hid (DOk ms IN ∧ SortD ms absB T ∧ T.length ≤ n) := by
              have hl := H.out.1.len
              have sr := S.out.srt
              refine ⟨⟨CK.out.1, CK.out.2, fun i' m hm hr => S.out.rd i' m (by have := (List.getElem?_eq_some_iff.1 hm).1; omega) hm hr⟩, ?_, sr.len⟩
              rw [← hl] at sr
              exact sr
            have kb : kI ≤ 2600000000000 := by have h1 := H.out.2.1; have h2 := H.out.2.2.2.1; omega
            have mB : ∀ W : World, (Instr.makeSlice 51 (.int .i64 (kI : Int)) (.int .i64 (kI : Int))).run Try.prog W = .ok (.slice (some ⟨W.heap.size, 0, none⟩) kI kI) (W.alloc (.cells (madeCells #[.bool false] kI) 4)) := run_make_row' 51 4 (.bool false) 1 Try.underlying51 Try.info4c rfl .i64 .i64 kI (by omega) (by omega)
            obtain ⟨C, hC⟩ : ∃ C, C = madeCells #[.bool false] kI := ⟨_, rfl⟩
            have HC : C.toList = boolsB kI [] := by
              rw [hC, vrow_made]
              unfold vrow boolsB
              simp
            rw [← hC] at mB
            obtain ⟨gd, hgd⟩ : ∃ gd, gd = wo.heap.size := ⟨_, rfl⟩
            obtain ⟨W5, hW5⟩ : ∃ W5, W5 = wo.alloc (.cells C 4) := ⟨_, rfl⟩
            have E5 : Hid (W5 = wo.alloc (.cells C 4) ∧ gd = wo.heap.size) := ⟨hW5, hgd⟩
            have P0 : Hid (∃ R S acc, PS wI ms IN T gd kI po ko co 0 R S acc W5) := by
              have K5 : Kept (fun _ => False) wo W5 := by rw [hW5]; exact (Kept.refl _ _).alloc _
              refine ⟨[], [], T, Pick.start _ _ _, rfl, S.out.row.k0 K5, ?_, S.out.kept.trans K5 (fun _ _ z => z)⟩
              have := IS.start wo kI (by unfold maxLen; omega) HC
              rw [← hW5, ← hgd] at this
              exact ⟨owns_mono this.row (by rw [hgd]; exact S.out.kept.size)⟩
            clear S CK hC HC hgd hW5 hi hlt
            go_wp2_with fail
            rw [← E5.out.1, ← E5.out.2]
            clear E5 mB
            go_loopw [7, 12, 13, 14, 15, 16] (fun u7 u12 _ _ _ _ wr => ∃ (po : Option Addr) (ko co m5 : Nat), u7 = .slice po ko co ∧ u12 = .int .i64 (m5 : Int) ∧ m5 ≤ kI ∧ Hid (∃ R S acc, PS wI ms IN T gd kI po ko co m5 R S acc wr)) (fun _ u12 _ _ _ _ _ => kI - (intOf u12).toNat)
            case atStart => exact ⟨po, ko, co, 0, rfl, rfl, Nat.zero_le _, P0⟩
            case round =>
              clear P0
              obtain ⟨po, ko, co, m5, rfl, rfl, hm5, SP⟩ := hrel
              obtain ⟨R, S, acc, ps⟩ := SP.out
              have P : Hid (PS wI ms IN T gd kI po ko co m5 R S acc wr) := ps
              clear SP ps
              obtain ⟨wo, hwo⟩ : ∃ wo, wo = wr := ⟨_, rfl⟩
              rw [← hwo] at P ⊢
              clear hwo
              by_cases hlt5 : m5 < kI
              · have m1 : (m5 : Int) < (kI : Int) := by omega
                have Q0 : Hid (Kept (fun _ => False) wo wo ∧ MinQ IN R 0 (-1)) := ⟨Kept.refl _ _, MinQ.zero _ _⟩
                go_wp2_with fail
                go_loopw [13, 14] (fun u13 u14 wy => ∃ (l : Int) (j : Nat), u13 = .int .i64 l ∧ u14 = .int .i64 (j : Int) ∧ j ≤ kI ∧ Hid (Kept (fun _ => False) wo wy ∧ MinQ IN R j l)) (fun _ u14 _ => kI - (intOf u14).toNat)
                case atStart => exact ⟨-1, 0, rfl, rfl, Nat.zero_le _, Q0⟩
                case round =>
                  obtain ⟨l, j, rfl, rfl, hj, SJ⟩ := hrel
                  clear Q0
                  obtain ⟨wb, hwb⟩ : ∃ wb, wb = wr := ⟨_, rfl⟩
                  rw [← hwb] at SJ ⊢
                  clear hwb
                  have KBI : Hid (Kept (fun _ => False) wI wb) := P.out.kept.trans SJ.out.1 (fun _ _ z => z)
                  by_cases hjk : j < kI
                  · have j1 : (j : Int) < (kI : Int) := by omega
                    obtain ⟨d0, _⟩ := (P.out.is.k0 SJ.out.1).at hjk
                    have kd : Kept (fun _ => False) wb wb.drew := (Kept.refl _ _).drew
                    by_cases hin : j ∈ R
                    · rw [decide_eq_true hin] at d0
                      have SH : Hid (∀ V, Kept (fun _ => False) wb V → V.cell? ⟨gd, j, none⟩ = some (.bool true)) := fun V kv => kv.cell d0 (fun z => z)
                      clear d0
                      go_upto_region 36 with fail
                      refine wp_region_held_drew (S := (fun V => V.cell? ⟨gd, j, none⟩ = some (.bool true))) (by kernel_rfl) ?_ (fun hHeld => ?_)
                      · exact SH.out _ kd
                      refine wpAnyH_take (i := 0) (oi := { dst := some 122, op := Go.Op.move (Go.Operand.tmp 11), type := 51, pos := "ref.go:204", after := #[], guard := none }) (v := .slice (some ⟨gd, 0, none⟩) kI kI) rfl (by kernel_rfl) (by kernel_rfl) (by kernel_rfl) (fun _ _ _ h => h) (Or.inl ⟨by rfl, ?_⟩) (by assumption) ?_
                      · intro w9 hSw
                        (try dsimp only at hSw)
                        go_simp
                      (try simp only [Act.put, List.setIfInBounds_toArray, List.set_cons_zero, List.set_cons_succ])
                      refine wpAnyH_take (i := 1) (oi := { dst := some 123, op := Go.Op.move (Go.Operand.tmp 14), type := 3, pos := "ref.go:204", after := #[], guard := none }) (v := .int .i64 (j : Int)) rfl (by kernel_rfl) (by kernel_rfl) (by kernel_rfl) (fun _ _ _ h => h) (Or.inl ⟨by rfl, ?_⟩) (by assumption) ?_
                      · intro w9 hSw
                        (try dsimp only at hSw)
                        go_simp
                      (try simp only [Act.put, List.setIfInBounds_toArray, List.set_cons_zero, List.set_cons_succ])
                      refine wpAnyH_take (i := 2) (oi := { dst := some 124, op := Go.Op.indexAddr 51 (Go.Operand.tmp 122) (Go.Operand.tmp 123), type := 0, pos := "ref.go:204", after := #[{ on := 0, ground := Go.Ground.data }, { on := 1, ground := Go.Ground.data }], guard := none }) (v := .pointer (some ⟨gd, j, none⟩)) rfl (by kernel_rfl) (by kernel_rfl) (by kernel_rfl) (fun _ _ _ h => h) (Or.inl ⟨by rfl, ?_⟩) (by assumption) ?_
                      · intro w9 hSw
                        (try dsimp only at hSw)
                        go_simp
                      (try simp only [Act.put, List.setIfInBounds_toArray, List.set_cons_zero, List.set_cons_succ])
                      refine wpAnyH_take (i := 3) (oi := { dst := some 125, op := Go.Op.load 4 (Go.Operand.tmp 124), type := 4, pos := "ref.go:204", after := #[{ on := 2, ground := Go.Ground.data }], guard := none }) (v := .bool true) rfl (by kernel_rfl) (by kernel_rfl) (by kernel_rfl) (fun _ _ _ h => h) (Or.inl ⟨by rfl, ?_⟩) (by assumption) ?_
                      · intro w9 hSw
                        (try dsimp only at hSw)
                        go_simp
                      (try simp only [Act.put, List.setIfInBounds_toArray, List.set_cons_zero, List.set_cons_succ])
                      refine wpAnyH_take (i := 4) (oi := { dst := some 126, op := Go.Op.unOp Go.UnOp.not 4 (Go.Operand.tmp 125), type := 4, pos := "ref.go:204", after := #[{ on := 3, ground := Go.Ground.data }], guard := none }) (v := .bool false) rfl (by kernel_rfl) (by kernel_rfl) (by kernel_rfl) (fun _ _ _ h => h) (Or.inl ⟨by rfl, ?_⟩) (by assumption) ?_
                      · intro w9 hSw
                        (try dsimp only at hSw)
                        go_simp
                      (try simp only [Act.put, List.setIfInBounds_toArray, List.set_cons_zero, List.set_cons_succ])
                      refine wpAnyH_take (i := 5) (oi := { dst := some 127, op := Go.Op.move (Go.Operand.tmp 126), type := 4, pos := "ref.go:204", after := #[{ on := 4, ground := Go.Ground.data }], guard := none }) (v := .bool false) rfl (by kernel_rfl) (by kernel_rfl) (by kernel_rfl) (fun _ _ _ h => h) (Or.inl ⟨by rfl, ?_⟩) (by assumption) ?_
                      · intro w9 hSw
                        (try dsimp only at hSw)
                        go_simp
                      (try simp only [Act.put, List.setIfInBounds_toArray, List.set_cons_zero, List.set_cons_succ])
                      refine wpAnyH_take (i := 6) (oi := { dst := some 128, op := Go.Op.move (Go.Operand.tmp 13), type := 3, pos := "ref.go:204", after := #[{ on := 5, ground := Go.Ground.guard }], guard := some (5, true) }) (v := undef) rfl (by kernel_rfl) (by kernel_rfl) (by kernel_rfl) (fun _ _ _ h => h) (Or.inr ⟨by rfl, rfl⟩) (by assumption) ?_
                      (try simp only [Act.put, List.setIfInBounds_toArray, List.set_cons_zero, List.set_cons_succ])
                      refine wpAnyH_take (i := 7) (oi := { dst := some 129, op := Go.Op.binOp Go.BinOp.lss 3 (Go.Operand.tmp 128) (Go.Operand.const (Go.Value.int Go.IntKind.i64 0)) 3, type := 4, pos := "ref.go:204", after := #[{ on := 6, ground := Go.Ground.data }, { on := 5, ground := Go.Ground.guard }], guard := some (5, true) }) (v := undef) rfl (by kernel_rfl) (by kernel_rfl) (by kernel_rfl) (fun _ _ _ h => h) (Or.inr ⟨by rfl, rfl⟩) (by assumption) ?_
                      (try simp only [Act.put, List.setIfInBounds_toArray, List.set_cons_zero, List.set_cons_succ])
                      refine wpAnyH_take (i := 8) (oi := { dst := some 130, op := Go.Op.move (Go.Operand.tmp 129), type := 4, pos := "ref.go:204", after := #[{ on := 7, ground := Go.Ground.data }, { on := 5, ground := Go.Ground.chain }, { on := 5, ground := Go.Ground.guard }], guard := some (5, true) }) (v := undef) rfl (by kernel_rfl) (by kernel_rfl) (by kernel_rfl) (fun _ _ _ h => h) (Or.inr ⟨by rfl, rfl⟩) (by assumption) ?_
                      (try simp only [Act.put, List.setIfInBounds_toArray, List.set_cons_zero, List.set_cons_succ])
                      refine wpAnyH_take (i := 9) (oi := { dst := some 131, op := Go.Op.move (Go.Operand.tmp 4), type := 69, pos := "ref.go:204", after := #[{ on := 8, ground := Go.Ground.guard }], guard := some (8, false) }) (v := undef) rfl (by kernel_rfl) (by kernel_rfl) (by kernel_rfl) (fun _ _ _ h => h) (Or.inr ⟨by rfl, rfl⟩) (by assumption) ?_
                      (try simp only [Act.put, List.setIfInBounds_toArray, List.set_cons_zero, List.set_cons_succ])
                      refine wpAnyH_take (i := 10) (oi := { dst := some 132, op := Go.Op.move (Go.Operand.tmp 14), type := 3, pos := "ref.go:204", after := #[{ on := 8, ground := Go.Ground.guard }], guard := some (8, false) }) (v := undef) rfl (by kernel_rfl) (by kernel_rfl) (by kernel_rfl) (fun _ _ _ h => h) (Or.inr ⟨by rfl, rfl⟩) (by assumption) ?_
                      (try simp only [Act.put, List.setIfInBounds_toArray, List.set_cons_zero, List.set_cons_succ])
                      refine wpAnyH_take (i := 11) (oi := { dst := some 133, op := Go.Op.indexAddr 69 (Go.Operand.tmp 131) (Go.Operand.tmp 132), type := 0, pos := "ref.go:204", after := #[{ on := 9, ground := Go.Ground.data }, { on := 10, ground := Go.Ground.data }, { on := 8, ground := Go.Ground.guard }], guard := some (8, false) }) (v := undef) rfl (by kernel_rfl) (by kernel_rfl) (by kernel_rfl) (fun _ _ _ h => h) (Or.inr ⟨by rfl, rfl⟩) (by assumption) ?_
                      (try simp only [Act.put, List.setIfInBounds_toArray, List.set_cons_zero, List.set_cons_succ])
                      refine wpAnyH_take (i := 12) (oi := { dst := some 134, op := Go.Op.fieldAddr 72 (Go.Operand.tmp 133) 1, type := 0, pos := "ref.go:204", after := #[{ on := 11, ground := Go.Ground.data }, { on := 8, ground := Go.Ground.guard }], guard := some (8, false) }) (v := undef) rfl (by kernel_rfl) (by kernel_rfl) (by kernel_rfl) (fun _ _ _ h => h) (Or.inr ⟨by rfl, rfl⟩) (by assumption) ?_
                      (try simp only [Act.put, List.setIfInBounds_toArray, List.set_cons_zero, List.set_cons_succ])
                      refine wpAnyH_take (i := 13) (oi := { dst := some 135, op := Go.Op.load 35 (Go.Operand.tmp 134), type := 35, pos := "ref.go:204", after := #[{ on := 12, ground := Go.Ground.data }, { on := 8, ground := Go.Ground.guard }], guard := some (8, false) }) (v := undef) rfl (by kernel_rfl) (by kernel_rfl) (by kernel_rfl) (fun _ _ _ h => h) (Or.inr ⟨by rfl, rfl⟩) (by assumption) ?_
                      (try simp only [Act.put, List.setIfInBounds_toArray, List.set_cons_zero, List.set_cons_succ])
                      refine wpAnyH_take (i := 14) (oi := { dst := some 136, op := Go.Op.move (Go.Operand.tmp 4), type := 69, pos := "ref.go:204", after := #[{ on := 8, ground := Go.Ground.guard }], guard := some (8, false) }) (v := undef) rfl (by kernel_rfl) (by kernel_rfl) (by kernel_rfl) (fun _ _ _ h => h) (Or.inr ⟨by rfl, rfl⟩) (by assumption) ?_
                      (try simp only [Act.put, List.setIfInBounds_toArray, List.set_cons_zero, List.set_cons_succ])
                      refine wpAnyH_take (i := 15) (oi := { dst := some 137, op := Go.Op.move (Go.Operand.tmp 13), type := 3, pos := "ref.go:204", after := #[{ on := 8, ground := Go.Ground.guard }], guard := some (8, false) }) (v := undef) rfl (by kernel_rfl) (by kernel_rfl) (by kernel_rfl) (fun _ _ _ h => h) (Or.inr ⟨by rfl, rfl⟩) (by assumption) ?_
                      (try simp only [Act.put, List.setIfInBounds_toArray, List.set_cons_zero, List.set_cons_succ])
                      refine wpAnyH_take (i := 16) (oi := { dst := some 138, op := Go.Op.indexAddr 69 (Go.Operand.tmp 136) (Go.Operand.tmp 137), type := 0, pos := "ref.go:204", after := #[{ on := 14, ground := Go.Ground.data }, { on := 15, ground := Go.Ground.data }, { on := 8, ground := Go.Ground.guard }], guard := some (8, false) }) (v := undef) rfl (by kernel_rfl) (by kernel_rfl) (by kernel_rfl) (fun _ _ _ h => h) (Or.inr ⟨by rfl, rfl⟩) (by assumption) ?_
                      (try simp only [Act.put, List.setIfInBounds_toArray, List.set_cons_zero, List.set_cons_succ])
                      refine wpAnyH_take (i := 17) (oi := { dst := some 139, op := Go.Op.fieldAddr 72 (Go.Operand.tmp 138) 1, type := 0, pos := "ref.go:204", after := #[{ on := 16, ground := Go.Ground.data }, { on := 8, ground := Go.Ground.guard }], guard := some (8, false) }) (v := undef) rfl (by kernel_rfl) (by kernel_rfl) (by kernel_rfl) (fun _ _ _ h => h) (Or.inr ⟨by rfl, rfl⟩) (by assumption) ?_
                      (try simp only [Act.put, List.setIfInBounds_toArray, List.set_cons_zero, List.set_cons_succ])
                      refine wpAnyH_take (i := 18) (oi := { dst := some 140, op := Go.Op.load 35 (Go.Operand.tmp 139), type := 35, pos := "ref.go:204", after := #[{ on := 17, ground := Go.Ground.data }, { on := 8, ground := Go.Ground.guard }], guard := some (8, false) }) (v := undef) rfl (by kernel_rfl) (by kernel_rfl) (by kernel_rfl) (fun _ _ _ h => h) (Or.inr ⟨by rfl, rfl⟩) (by assumption) ?_
                      (try simp only [Act.put, List.setIfInBounds_toArray, List.set_cons_zero, List.set_cons_succ])
                      refine wpAnyH_take (i := 19) (oi := { dst := some 141, op := Go.Op.call { callee := Go.Callee.value (Go.Operand.func 56), args := #[Go.Operand.tmp 135, Go.Operand.tmp 140], argTypes := #[35, 35] }, type := 3, pos := "ref.go:204", after := #[{ on := 13, ground := Go.Ground.data }, { on := 18, ground := Go.Ground.data }, { on := 8, ground := Go.Ground.chain }, { on := 8, ground := Go.Ground.guard }], guard := some (8, false) }) (v := undef) rfl (by kernel_rfl) (by kernel_rfl) (by kernel_rfl) (fun _ _ _ h => h) (Or.inr ⟨by rfl, rfl⟩) (by assumption) ?_
                      (try simp only [Act.put, List.setIfInBounds_toArray, List.set_cons_zero, List.set_cons_succ])
                      refine wpAnyH_take (i := 20) (oi := { dst := some 142, op := Go.Op.binOp Go.BinOp.lss 3 (Go.Operand.tmp 141) (Go.Operand.const (Go.Value.int Go.IntKind.i64 0)) 3, type := 4, pos := "ref.go:204", after := #[{ on := 19, ground := Go.Ground.data }, { on := 8, ground := Go.Ground.guard }], guard := some (8, false) }) (v := undef) rfl (by kernel_rfl) (by kernel_rfl) (by kernel_rfl) (fun _ _ _ h => h) (Or.inr ⟨by rfl, rfl⟩) (by assumption) ?_
                      (try simp only [Act.put, List.setIfInBounds_toArray, List.set_cons_zero, List.set_cons_succ])
                      refine wpAnyH_take (i := 21) (oi := { dst := some 143, op := Go.Op.pick (Go.Operand.tmp 130) (Go.Operand.const (Go.Value.bool true)) (Go.Operand.tmp 142), type := 4, pos := "ref.go:204", after := #[{ on := 8, ground := Go.Ground.data }, { on := 20, ground := Go.Ground.data }, { on := 5, ground := Go.Ground.guard }], guard := some (5, true) }) (v := undef) rfl (by kernel_rfl) (by kernel_rfl) (by kernel_rfl) (fun _ _ _ h => h) (Or.inr ⟨by rfl, rfl⟩) (by assumption) ?_
                      (try simp only [Act.put, List.setIfInBounds_toArray, List.set_cons_zero, List.set_cons_succ])
                      refine wpAnyH_take (i := 22) (oi := { dst := some 144, op := Go.Op.pick (Go.Operand.tmp 127) (Go.Operand.tmp 143) (Go.Operand.const (Go.Value.bool false)), type := 4, pos := "ref.go:204", after := #[{ on := 5, ground := Go.Ground.data }, { on := 21, ground := Go.Ground.data }], guard := none }) (v := .bool false) rfl (by kernel_rfl) (by kernel_rfl) (by kernel_rfl) (fun _ _ _ h => h) (Or.inl ⟨by rfl, ?_⟩) (by assumption) ?_
                      · intro w9 hSw
                        (try dsimp only at hSw)
                        go_simp
                      (try simp only [Act.put, List.setIfInBounds_toArray, List.set_cons_zero, List.set_cons_succ])
                      refine wpAnyH_done (by kernel_rfl) ?_ _
                      have NX : Hid (Kept (fun _ => False) wo wb.drew ∧ MinQ IN R (j + 1) l) := ⟨SJ.out.1.trans kd (fun _ _ z => z), SJ.out.2.pass hin⟩
                      clear SH
                      go_wp2_with fail
                      go_roundw
                      case rel => exact ⟨l, j + 1, by first | rfl | simp, by go_num, by omega, NX⟩
                      case measure => simp [intOf] <;> omega
                    · rw [decide_eq_false hin] at d0
                      by_cases hl0 : l = -1
                      · subst hl0
                        have SH : Hid (∀ V, Kept (fun _ => False) wb V → V.cell? ⟨gd, j, none⟩ = some (.bool false)) := fun V kv => kv.cell d0 (fun z => z)
                        clear d0
                        go_upto_region 36 with fail
                        refine wp_region_held_drew (S := (fun V => V.cell? ⟨gd, j, none⟩ = some (.bool false))) (by kernel_rfl) ?_ (fun hHeld => ?_)
                        · exact SH.out _ kd
                        refine wpAnyH_take (i := 0) (oi := { dst := some 122, op := Go.Op.move (Go.Operand.tmp 11), type := 51, pos := "ref.go:204", after := #[], guard := none }) (v := .slice (some ⟨gd, 0, none⟩) kI kI) rfl (by kernel_rfl) (by kernel_rfl) (by kernel_rfl) (fun _ _ _ h => h) (Or.inl ⟨by rfl, ?_⟩) (by assumption) ?_
                        · intro w9 hSw
                          (try dsimp only at hSw)
                          go_simp
                        (try simp only [Act.put, List.setIfInBounds_toArray, List.set_cons_zero, List.set_cons_succ])
                        refine wpAnyH_take (i := 1) (oi := { dst := some 123, op := Go.Op.move (Go.Operand.tmp 14), type := 3, pos := "ref.go:204", after := #[], guard := none }) (v := .int .i64 (j : Int)) rfl (by kernel_rfl) (by kernel_rfl) (by kernel_rfl) (fun _ _ _ h => h) (Or.inl ⟨by rfl, ?_⟩) (by assumption) ?_
                        · intro w9 hSw
                          (try dsimp only at hSw)
                          go_simp
                        (try simp only [Act.put, List.setIfInBounds_toArray, List.set_cons_zero, List.set_cons_succ])
                        refine wpAnyH_take (i := 2) (oi := { dst := some 124, op := Go.Op.indexAddr 51 (Go.Operand.tmp 122) (Go.Operand.tmp 123), type := 0, pos := "ref.go:204", after := #[{ on := 0, ground := Go.Ground.data }, { on := 1, ground := Go.Ground.data }], guard := none }) (v := .pointer (some ⟨gd, j, none⟩)) rfl (by kernel_rfl) (by kernel_rfl) (by kernel_rfl) (fun _ _ _ h => h) (Or.inl ⟨by rfl, ?_⟩) (by assumption) ?_
                        · intro w9 hSw
                          (try dsimp only at hSw)
                          go_simp
                        (try simp only [Act.put, List.setIfInBounds_toArray, List.set_cons_zero, List.set_cons_succ])
                        refine wpAnyH_take (i := 3) (oi := { dst := some 125, op := Go.Op.load 4 (Go.Operand.tmp 124), type := 4, pos := "ref.go:204", after := #[{ on := 2, ground := Go.Ground.data }], guard := none }) (v := .bool false) rfl (by kernel_rfl) (by kernel_rfl) (by kernel_rfl) (fun _ _ _ h => h) (Or.inl ⟨by rfl, ?_⟩) (by assumption) ?_
                        · intro w9 hSw
                          (try dsimp only at hSw)
                          go_simp
                        (try simp only [Act.put, List.setIfInBounds_toArray, List.set_cons_zero, List.set_cons_succ])
                        refine wpAnyH_take (i := 4) (oi := { dst := some 126, op := Go.Op.unOp Go.UnOp.not 4 (Go.Operand.tmp 125), type := 4, pos := "ref.go:204", after := #[{ on := 3, ground := Go.Ground.data }], guard := none }) (v := .bool true) rfl (by kernel_rfl) (by kernel_rfl) (by kernel_rfl) (fun _ _ _ h => h) (Or.inl ⟨by rfl, ?_⟩) (by assumption) ?_
                        · intro w9 hSw
                          (try dsimp only at hSw)
                          go_simp
                        (try simp only [Act.put, List.setIfInBounds_toArray, List.set_cons_zero, List.set_cons_succ])
                        refine wpAnyH_take (i := 5) (oi := { dst := some 127, op := Go.Op.move (Go.Operand.tmp 126), type := 4, pos := "ref.go:204", after := #[{ on := 4, ground := Go.Ground.data }], guard := none }) (v := .bool true) rfl (by kernel_rfl) (by kernel_rfl) (by kernel_rfl) (fun _ _ _ h => h) (Or.inl ⟨by rfl, ?_⟩) (by assumption) ?_
                        · intro w9 hSw
                          (try dsimp only at hSw)
                          go_simp
                        (try simp only [Act.put, List.setIfInBounds_toArray, List.set_cons_zero, List.set_cons_succ])
                        refine wpAnyH_take (i := 6) (oi := { dst := some 128, op := Go.Op.move (Go.Operand.tmp 13), type := 3, pos := "ref.go:204", after := #[{ on := 5, ground := Go.Ground.guard }], guard := some (5, true) }) (v := .int .i64 (-1)) rfl (by kernel_rfl) (by kernel_rfl) (by kernel_rfl) (fun _ _ _ h => h) (Or.inl ⟨by rfl, ?_⟩) (by assumption) ?_
                        · intro w9 hSw
                          (try dsimp only at hSw)
                          go_simp
                        (try simp only [Act.put, List.setIfInBounds_toArray, List.set_cons_zero, List.set_cons_succ])
                        refine wpAnyH_take (i := 7) (oi := { dst := some 129, op := Go.Op.binOp Go.BinOp.lss 3 (Go.Operand.tmp 128) (Go.Operand.const (Go.Value.int Go.IntKind.i64 0)) 3, type := 4, pos := "ref.go:204", after := #[{ on := 6, ground := Go.Ground.data }, { on := 5, ground := Go.Ground.guard }], guard := some (5, true) }) (v := .bool true) rfl (by kernel_rfl) (by kernel_rfl) (by kernel_rfl) (fun _ _ _ h => h) (Or.inl ⟨by rfl, ?_⟩) (by assumption) ?_
                        · intro w9 hSw
                          (try dsimp only at hSw)
                          go_simp
                        (try simp only [Act.put, List.setIfInBounds_toArray, List.set_cons_zero, List.set_cons_succ])
                        refine wpAnyH_take (i := 8) (oi := { dst := some 130, op := Go.Op.move (Go.Operand.tmp 129), type := 4, pos := "ref.go:204", after := #[{ on := 7, ground := Go.Ground.data }, { on := 5, ground := Go.Ground.chain }, { on := 5, ground := Go.Ground.guard }], guard := some (5, true) }) (v := .bool true) rfl (by kernel_rfl) (by kernel_rfl) (by kernel_rfl) (fun _ _ _ h => h) (Or.inl ⟨by rfl, ?_⟩) (by assumption) ?_
                        · intro w9 hSw
                          (try dsimp only at hSw)
                          go_simp
                        (try simp only [Act.put, List.setIfInBounds_toArray, List.set_cons_zero, List.set_cons_succ])
                        refine wpAnyH_take (i := 9) (oi := { dst := some 131, op := Go.Op.move (Go.Operand.tmp 4), type := 69, pos := "ref.go:204", after := #[{ on := 8, ground := Go.Ground.guard }], guard := some (8, false) }) (v := undef) rfl (by kernel_rfl) (by kernel_rfl) (by kernel_rfl) (fun _ _ _ h => h) (Or.inr ⟨by rfl, rfl⟩) (by assumption) ?_
                        (try simp only [Act.put, List.setIfInBounds_toArray, List.set_cons_zero, List.set_cons_succ])
                        refine wpAnyH_take (i := 10) (oi := { dst := some 132, op := Go.Op.move (Go.Operand.tmp 14), type := 3, pos := "ref.go:204", after := #[{ on := 8, ground := Go.Ground.guard }], guard := some (8, false) }) (v := undef) rfl (by kernel_rfl) (by kernel_rfl) (by kernel_rfl) (fun _ _ _ h => h) (Or.inr ⟨by rfl, rfl⟩) (by assumption) ?_
                        (try simp only [Act.put, List.setIfInBounds_toArray, List.set_cons_zero, List.set_cons_succ])
                        refine wpAnyH_take (i := 11) (oi := { dst := some 133, op := Go.Op.indexAddr 69 (Go.Operand.tmp 131) (Go.Operand.tmp 132), type := 0, pos := "ref.go:204", after := #[{ on := 9, ground := Go.Ground.data }, { on := 10, ground := Go.Ground.data }, { on := 8, ground := Go.Ground.guard }], guard := some (8, false) }) (v := undef) rfl (by kernel_rfl) (by kernel_rfl) (by kernel_rfl) (fun _ _ _ h => h) (Or.inr ⟨by rfl, rfl⟩) (by assumption) ?_
                        (try simp only [Act.put, List.setIfInBounds_toArray, List.set_cons_zero, List.set_cons_succ])
                        refine wpAnyH_take (i := 12) (oi := { dst := some 134, op := Go.Op.fieldAddr 72 (Go.Operand.tmp 133) 1, type := 0, pos := "ref.go:204", after := #[{ on := 11, ground := Go.Ground.data }, { on := 8, ground := Go.Ground.guard }], guard := some (8, false) }) (v := undef) rfl (by kernel_rfl) (by kernel_rfl) (by kernel_rfl) (fun _ _ _ h => h) (Or.inr ⟨by rfl, rfl⟩) (by assumption) ?_
                        (try simp only [Act.put, List.setIfInBounds_toArray, List.set_cons_zero, List.set_cons_succ])
                        refine wpAnyH_take (i := 13) (oi := { dst := some 135, op := Go.Op.load 35 (Go.Operand.tmp 134), type := 35, pos := "ref.go:204", after := #[{ on := 12, ground := Go.Ground.data }, { on := 8, ground := Go.Ground.guard }], guard := some (8, false) }) (v := undef) rfl (by kernel_rfl) (by kernel_rfl) (by kernel_rfl) (fun _ _ _ h => h) (Or.inr ⟨by rfl, rfl⟩) (by assumption) ?_
                        (try simp only [Act.put, List.setIfInBounds_toArray, List.set_cons_zero, List.set_cons_succ])
                        refine wpAnyH_take (i := 14) (oi := { dst := some 136, op := Go.Op.move (Go.Operand.tmp 4), type := 69, pos := "ref.go:204", after := #[{ on := 8, ground := Go.Ground.guard }], guard := some (8, false) }) (v := undef) rfl (by kernel_rfl) (by kernel_rfl) (by kernel_rfl) (fun _ _ _ h => h) (Or.inr ⟨by rfl, rfl⟩) (by assumption) ?_
                        (try simp only [Act.put, List.setIfInBounds_toArray, List.set_cons_zero, List.set_cons_succ])
                        refine wpAnyH_take (i := 15) (oi := { dst := some 137, op := Go.Op.move (Go.Operand.tmp 13), type := 3, pos := "ref.go:204", after := #[{ on := 8, ground := Go.Ground.guard }], guard := some (8, false) }) (v := undef) rfl (by kernel_rfl) (by kernel_rfl) (by kernel_rfl) (fun _ _ _ h => h) (Or.inr ⟨by rfl, rfl⟩) (by assumption) ?_
                        (try simp only [Act.put, List.setIfInBounds_toArray, List.set_cons_zero, List.set_cons_succ])
                        refine wpAnyH_take (i := 16) (oi := { dst := some 138, op := Go.Op.indexAddr 69 (Go.Operand.tmp 136) (Go.Operand.tmp 137), type := 0, pos := "ref.go:204", after := #[{ on := 14, ground := Go.Ground.data }, { on := 15, ground := Go.Ground.data }, { on := 8, ground := Go.Ground.guard }], guard := some (8, false) }) (v := undef) rfl (by kernel_rfl) (by kernel_rfl) (by kernel_rfl) (fun _ _ _ h => h) (Or.inr ⟨by rfl, rfl⟩) (by assumption) ?_
                        (try simp only [Act.put, List.setIfInBounds_toArray, List.set_cons_zero, List.set_cons_succ])
                        refine wpAnyH_take (i := 17) (oi := { dst := some 139, op := Go.Op.fieldAddr 72 (Go.Operand.tmp 138) 1, type := 0, pos := "ref.go:204", after := #[{ on := 16, ground := Go.Ground.data }, { on := 8, ground := Go.Ground.guard }], guard := some (8, false) }) (v := undef) rfl (by kernel_rfl) (by kernel_rfl) (by kernel_rfl) (fun _ _ _ h => h) (Or.inr ⟨by rfl, rfl⟩) (by assumption) ?_
                        (try simp only [Act.put, List.setIfInBounds_toArray, List.set_cons_zero, List.set_cons_succ])
                        refine wpAnyH_take (i := 18) (oi := { dst := some 140, op := Go.Op.load 35 (Go.Operand.tmp 139), type := 35, pos := "ref.go:204", after := #[{ on := 17, ground := Go.Ground.data }, { on := 8, ground := Go.Ground.guard }], guard := some (8, false) }) (v := undef) rfl (by kernel_rfl) (by kernel_rfl) (by kernel_rfl) (fun _ _ _ h => h) (Or.inr ⟨by rfl, rfl⟩) (by assumption) ?_
                        (try simp only [Act.put, List.setIfInBounds_toArray, List.set_cons_zero, List.set_cons_succ])
                        refine wpAnyH_take (i := 19) (oi := { dst := some 141, op := Go.Op.call { callee := Go.Callee.value (Go.Operand.func 56), args := #[Go.Operand.tmp 135, Go.Operand.tmp 140], argTypes := #[35, 35] }, type := 3, pos := "ref.go:204", after := #[{ on := 13, ground := Go.Ground.data }, { on := 18, ground := Go.Ground.data }, { on := 8, ground := Go.Ground.chain }, { on := 8, ground := Go.Ground.guard }], guard := some (8, false) }) (v := undef) rfl (by kernel_rfl) (by kernel_rfl) (by kernel_rfl) (fun _ _ _ h => h) (Or.inr ⟨by rfl, rfl⟩) (by assumption) ?_
                        (try simp only [Act.put, List.setIfInBounds_toArray, List.set_cons_zero, List.set_cons_succ])
                        refine wpAnyH_take (i := 20) (oi := { dst := some 142, op := Go.Op.binOp Go.BinOp.lss 3 (Go.Operand.tmp 141) (Go.Operand.const (Go.Value.int Go.IntKind.i64 0)) 3, type := 4, pos := "ref.go:204", after := #[{ on := 19, ground := Go.Ground.data }, { on := 8, ground := Go.Ground.guard }], guard := some (8, false) }) (v := undef) rfl (by kernel_rfl) (by kernel_rfl) (by kernel_rfl) (fun _ _ _ h => h) (Or.inr ⟨by rfl, rfl⟩) (by assumption) ?_
                        (try simp only [Act.put, List.setIfInBounds_toArray, List.set_cons_zero, List.set_cons_succ])
                        refine wpAnyH_take (i := 21) (oi := { dst := some 143, op := Go.Op.pick (Go.Operand.tmp 130) (Go.Operand.const (Go.Value.bool true)) (Go.Operand.tmp 142), type := 4, pos := "ref.go:204", after := #[{ on := 8, ground := Go.Ground.data }, { on := 20, ground := Go.Ground.data }, { on := 5, ground := Go.Ground.guard }], guard := some (5, true) }) (v := .bool true) rfl (by kernel_rfl) (by kernel_rfl) (by kernel_rfl) (fun _ _ _ h => h) (Or.inl ⟨by rfl, ?_⟩) (by assumption) ?_
                        · intro w9 hSw
                          (try dsimp only at hSw)
                          go_simp
                        (try simp only [Act.put, List.setIfInBounds_toArray, List.set_cons_zero, List.set_cons_succ])
                        refine wpAnyH_take (i := 22) (oi := { dst := some 144, op := Go.Op.pick (Go.Operand.tmp 127) (Go.Operand.tmp 143) (Go.Operand.const (Go.Value.bool false)), type := 4, pos := "ref.go:204", after := #[{ on := 5, ground := Go.Ground.data }, { on := 21, ground := Go.Ground.data }], guard := none }) (v := .bool true) rfl (by kernel_rfl) (by kernel_rfl) (by kernel_rfl) (fun _ _ _ h => h) (Or.inl ⟨by rfl, ?_⟩) (by assumption) ?_
                        · intro w9 hSw
                          (try dsimp only at hSw)
                          go_simp
                        (try simp only [Act.put, List.setIfInBounds_toArray, List.set_cons_zero, List.set_cons_succ])
                        refine wpAnyH_done (by kernel_rfl) ?_ _
                        have NX : Hid (Kept (fun _ => False) wo wb.drew ∧ MinQ IN R (j + 1) (j : Int)) := ⟨SJ.out.1.trans kd (fun _ _ z => z), SJ.out.2.first hin⟩
                        clear SH
                        go_wp2_with fail
                        go_roundw
                        case rel => exact ⟨(j : Int), j + 1, by first | rfl | simp, by go_num, by omega, NX⟩
                        case measure => simp [intOf] <;> omega
                      · obtain ⟨a, rfl, haj⟩ : ∃ a : Nat, l = (a : Int) ∧ a < j := by
                          rcases SJ.out.2 with ⟨z, _⟩ | ⟨a, z, z2, _⟩
                          · exact absurd z hl0
                          · exact ⟨a, z, z2⟩
                        have a1 : (a : Int) < (kI : Int) := by omega
                        have an : ¬ (a : Int) < 0 := by omega
                        obtain ⟨gI, xc, ta, tb, rfl, hx, _, x1, x2⟩ := CI.out wb j KBI.out hjk
                        obtain ⟨g2, yc, ya, yb, e2, hy, _, z1, z2⟩ := CI.out wb a KBI.out (by omega)
                        have e2 : gI = g2 := by simpa using e2
                        subst e2
                        have SH : Hid (∀ V, Kept (fun _ => False) wb V → V.cell? ⟨gd, j, none⟩ = some (.bool false) ∧ V.cell? ⟨gI, j * 3 + 1, none⟩ = some (.int .i64 ta) ∧ V.cell? ⟨gI, j * 3 + 2, none⟩ = some (.int .i64 tb) ∧ V.cell? ⟨gI, a * 3 + 1, none⟩ = some (.int .i64 ya) ∧ V.cell? ⟨gI, a * 3 + 2, none⟩ = some (.int .i64 yb)) := fun V kv => ⟨kv.cell d0 (fun z => z), kv.cell x1 (fun z => z), kv.cell x2 (fun z => z), kv.cell z1 (fun z => z), kv.cell z2 (fun z => z)⟩
                        have RC : Hid (∀ V, Calls Try.prog 56 #[.agg #[.int .i64 ta, .int .i64 tb], .agg #[.int .i64 ya, .int .i64 yb]] V (RetC fun r w' => CmpR ta tb ya yb r ∧ Kept (fun _ => False) V w')) := fun V => dCompare ta tb ya yb V
                        have MS : Hid ((tlt2 (ta, tb) (ya, yb) → MinQ IN R (j + 1) (j : Int)) ∧ (¬ tlt2 (ta, tb) (ya, yb) → MinQ IN R (j + 1) (a : Int))) := by
                          have := SJ.out.2.step hin (fun a' ha' z => by
                            have hx' : IN[j]? = some (xc, ta, tb) := hx
                            have ha2 : a' < IN.length := by have := (List.getElem?_eq_some_iff.1 hx).1; omega
                            have hy' : IN[a']? = some IN[a'] := List.getElem?_eq_getElem ha2
                            rw [inAt_of hx', inAt_of hy'] at z
                            exact (dok_at OK.out.1 hx' hy' ha').1 z)
                          rw [inAt_of hx, inAt_of hy] at this
                          exact this
                        clear d0 x1 x2 z1 z2 hx hy hl0
                        go_upto_region 36 with fail
                        by_cases hlt2 : ta < ya ∨ (ta = ya ∧ tb < yb)
                        · have M := MS.out.1 hlt2
                          refine wp_region_held_drew (S := (fun V => V.cell? ⟨gd, j, none⟩ = some (.bool false) ∧ V.cell? ⟨gI, j * 3 + 1, none⟩ = some (.int .i64 ta) ∧ V.cell? ⟨gI, j * 3 + 2, none⟩ = some (.int .i64 tb) ∧ V.cell? ⟨gI, a * 3 + 1, none⟩ = some (.int .i64 ya) ∧ V.cell? ⟨gI, a * 3 + 2, none⟩ = some (.int .i64 yb))) (by kernel_rfl) ?_ (fun hHeld => ?_)
                          · exact SH.out _ kd
                          refine wpAnyH_take (i := 0) (oi := { dst := some 122, op := Go.Op.move (Go.Operand.tmp 11), type := 51, pos := "ref.go:204", after := #[], guard := none }) (v := .slice (some ⟨gd, 0, none⟩) kI kI) rfl (by kernel_rfl) (by kernel_rfl) (by kernel_rfl) (fun _ _ _ h => h) (Or.inl ⟨by rfl, ?_⟩) (by assumption) ?_
                          · intro w9 hSw
                            (try dsimp only at hSw)
                            go_simp
                          (try simp only [Act.put, List.setIfInBounds_toArray, List.set_cons_zero, List.set_cons_succ])
                          refine wpAnyH_take (i := 1) (oi := { dst := some 123, op := Go.Op.move (Go.Operand.tmp 14), type := 3, pos := "ref.go:204", after := #[], guard := none }) (v := .int .i64 (j : Int)) rfl (by kernel_rfl) (by kernel_rfl) (by kernel_rfl) (fun _ _ _ h => h) (Or.inl ⟨by rfl, ?_⟩) (by assumption) ?_
                          · intro w9 hSw
                            (try dsimp only at hSw)
                            go_simp
                          (try simp only [Act.put, List.setIfInBounds_toArray, List.set_cons_zero, List.set_cons_succ])
                          refine wpAnyH_take (i := 2) (oi := { dst := some 124, op := Go.Op.indexAddr 51 (Go.Operand.tmp 122) (Go.Operand.tmp 123), type := 0, pos := "ref.go:204", after := #[{ on := 0, ground := Go.Ground.data }, { on := 1, ground := Go.Ground.data }], guard := none }) (v := .pointer (some ⟨gd, j, none⟩)) rfl (by kernel_rfl) (by kernel_rfl) (by kernel_rfl) (fun _ _ _ h => h) (Or.inl ⟨by rfl, ?_⟩) (by assumption) ?_
                          · intro w9 hSw
                            (try dsimp only at hSw)
                            go_simp
                          (try simp only [Act.put, List.setIfInBounds_toArray, List.set_cons_zero, List.set_cons_succ])
                          refine wpAnyH_take (i := 3) (oi := { dst := some 125, op := Go.Op.load 4 (Go.Operand.tmp 124), type := 4, pos := "ref.go:204", after := #[{ on := 2, ground := Go.Ground.data }], guard := none }) (v := .bool false) rfl (by kernel_rfl) (by kernel_rfl) (by kernel_rfl) (fun _ _ _ h => h) (Or.inl ⟨by rfl, ?_⟩) (by assumption) ?_
                          · intro w9 hSw
                            (try dsimp only at hSw)
                            go_simp
                          (try simp only [Act.put, List.setIfInBounds_toArray, List.set_cons_zero, List.set_cons_succ])
                          refine wpAnyH_take (i := 4) (oi := { dst := some 126, op := Go.Op.unOp Go.UnOp.not 4 (Go.Operand.tmp 125), type := 4, pos := "ref.go:204", after := #[{ on := 3, ground := Go.Ground.data }], guard := none }) (v := .bool true) rfl (by kernel_rfl) (by kernel_rfl) (by kernel_rfl) (fun _ _ _ h => h) (Or.inl ⟨by rfl, ?_⟩) (by assumption) ?_
                          · intro w9 hSw
                            (try dsimp only at hSw)
                            go_simp
                          (try simp only [Act.put, List.setIfInBounds_toArray, List.set_cons_zero, List.set_cons_succ])
                          refine wpAnyH_take (i := 5) (oi := { dst := some 127, op := Go.Op.move (Go.Operand.tmp 126), type := 4, pos := "ref.go:204", after := #[{ on := 4, ground := Go.Ground.data }], guard := none }) (v := .bool true) rfl (by kernel_rfl) (by kernel_rfl) (by kernel_rfl) (fun _ _ _ h => h) (Or.inl ⟨by rfl, ?_⟩) (by assumption) ?_
                          · intro w9 hSw
                            (try dsimp only at hSw)
                            go_simp
                          (try simp only [Act.put, List.setIfInBounds_toArray, List.set_cons_zero, List.set_cons_succ])
                          refine wpAnyH_take (i := 6) (oi := { dst := some 128, op := Go.Op.move (Go.Operand.tmp 13), type := 3, pos := "ref.go:204", after := #[{ on := 5, ground := Go.Ground.guard }], guard := some (5, true) }) (v := .int .i64 (a : Int)) rfl (by kernel_rfl) (by kernel_rfl) (by kernel_rfl) (fun _ _ _ h => h) (Or.inl ⟨by rfl, ?_⟩) (by assumption) ?_
                          · intro w9 hSw
                            (try dsimp only at hSw)
                            go_simp
                          (try simp only [Act.put, List.setIfInBounds_toArray, List.set_cons_zero, List.set_cons_succ])
                          refine wpAnyH_take (i := 7) (oi := { dst := some 129, op := Go.Op.binOp Go.BinOp.lss 3 (Go.Operand.tmp 128) (Go.Operand.const (Go.Value.int Go.IntKind.i64 0)) 3, type := 4, pos := "ref.go:204", after := #[{ on := 6, ground := Go.Ground.data }, { on := 5, ground := Go.Ground.guard }], guard := some (5, true) }) (v := .bool false) rfl (by kernel_rfl) (by kernel_rfl) (by kernel_rfl) (fun _ _ _ h => h) (Or.inl ⟨by rfl, ?_⟩) (by assumption) ?_
                          · intro w9 hSw
                            (try dsimp only at hSw)
                            go_simp
                          (try simp only [Act.put, List.setIfInBounds_toArray, List.set_cons_zero, List.set_cons_succ])
                          refine wpAnyH_take (i := 8) (oi := { dst := some 130, op := Go.Op.move (Go.Operand.tmp 129), type := 4, pos := "ref.go:204", after := #[{ on := 7, ground := Go.Ground.data }, { on := 5, ground := Go.Ground.chain }, { on := 5, ground := Go.Ground.guard }], guard := some (5, true) }) (v := .bool false) rfl (by kernel_rfl) (by kernel_rfl) (by kernel_rfl) (fun _ _ _ h => h) (Or.inl ⟨by rfl, ?_⟩) (by assumption) ?_
                          · intro w9 hSw
                            (try dsimp only at hSw)
                            go_simp
                          (try simp only [Act.put, List.setIfInBounds_toArray, List.set_cons_zero, List.set_cons_succ])
                          refine wpAnyH_take (i := 9) (oi := { dst := some 131, op := Go.Op.move (Go.Operand.tmp 4), type := 69, pos := "ref.go:204", after := #[{ on := 8, ground := Go.Ground.guard }], guard := some (8, false) }) (v := .slice (some ⟨gI, 0, none⟩) kI cI) rfl (by kernel_rfl) (by kernel_rfl) (by kernel_rfl) (fun _ _ _ h => h) (Or.inl ⟨by rfl, ?_⟩) (by assumption) ?_
                          · intro w9 hSw
                            (try dsimp only at hSw)
                            go_simp
                          (try simp only [Act.put, List.setIfInBounds_toArray, List.set_cons_zero, List.set_cons_succ])
                          refine wpAnyH_take (i := 10) (oi := { dst := some 132, op := Go.Op.move (Go.Operand.tmp 14), type := 3, pos := "ref.go:204", after := #[{ on := 8, ground := Go.Ground.guard }], guard := some (8, false) }) (v := .int .i64 (j : Int)) rfl (by kernel_rfl) (by kernel_rfl) (by kernel_rfl) (fun _ _ _ h => h) (Or.inl ⟨by rfl, ?_⟩) (by assumption) ?_
                          · intro w9 hSw
                            (try dsimp only at hSw)
                            go_simp
                          (try simp only [Act.put, List.setIfInBounds_toArray, List.set_cons_zero, List.set_cons_succ])
                          refine wpAnyH_take (i := 11) (oi := { dst := some 133, op := Go.Op.indexAddr 69 (Go.Operand.tmp 131) (Go.Operand.tmp 132), type := 0, pos := "ref.go:204", after := #[{ on := 9, ground := Go.Ground.data }, { on := 10, ground := Go.Ground.data }, { on := 8, ground := Go.Ground.guard }], guard := some (8, false) }) (v := .pointer (some ⟨gI, j * 3, none⟩)) rfl (by kernel_rfl) (by kernel_rfl) (by kernel_rfl) (fun _ _ _ h => h) (Or.inl ⟨by rfl, ?_⟩) (by assumption) ?_
                          · intro w9 hSw
                            (try dsimp only at hSw)
                            go_simp
                          (try simp only [Act.put, List.setIfInBounds_toArray, List.set_cons_zero, List.set_cons_succ])
                          refine wpAnyH_take (i := 12) (oi := { dst := some 134, op := Go.Op.fieldAddr 72 (Go.Operand.tmp 133) 1, type := 0, pos := "ref.go:204", after := #[{ on := 11, ground := Go.Ground.data }, { on := 8, ground := Go.Ground.guard }], guard := some (8, false) }) (v := .pointer (some ⟨gI, j * 3 + 1, none⟩)) rfl (by kernel_rfl) (by kernel_rfl) (by kernel_rfl) (fun _ _ _ h => h) (Or.inl ⟨by rfl, ?_⟩) (by assumption) ?_
                          · intro w9 hSw
                            (try dsimp only at hSw)
                            go_simp
                          (try simp only [Act.put, List.setIfInBounds_toArray, List.set_cons_zero, List.set_cons_succ])
                          refine wpAnyH_take (i := 13) (oi := { dst := some 135, op := Go.Op.load 35 (Go.Operand.tmp 134), type := 35, pos := "ref.go:204", after := #[{ on := 12, ground := Go.Ground.data }, { on := 8, ground := Go.Ground.guard }], guard := some (8, false) }) (v := .agg #[.int .i64 ta, .int .i64 tb]) rfl (by kernel_rfl) (by kernel_rfl) (by kernel_rfl) (fun _ _ _ h => h) (Or.inl ⟨by rfl, ?_⟩) (by assumption) ?_
                          · intro w9 hSw
                            (try dsimp only at hSw)
                            go_simp
                          (try simp only [Act.put, List.setIfInBounds_toArray, List.set_cons_zero, List.set_cons_succ])
                          refine wpAnyH_take (i := 14) (oi := { dst := some 136, op := Go.Op.move (Go.Operand.tmp 4), type := 69, pos := "ref.go:204", after := #[{ on := 8, ground := Go.Ground.guard }], guard := some (8, false) }) (v := .slice (some ⟨gI, 0, none⟩) kI cI) rfl (by kernel_rfl) (by kernel_rfl) (by kernel_rfl) (fun _ _ _ h => h) (Or.inl ⟨by rfl, ?_⟩) (by assumption) ?_
                          · intro w9 hSw
                            (try dsimp only at hSw)
                            go_simp
                          (try simp only [Act.put, List.setIfInBounds_toArray, List.set_cons_zero, List.set_cons_succ])
                          refine wpAnyH_take (i := 15) (oi := { dst := some 137, op := Go.Op.move (Go.Operand.tmp 13), type := 3, pos := "ref.go:204", after := #[{ on := 8, ground := Go.Ground.guard }], guard := some (8, false) }) (v := .int .i64 (a : Int)) rfl (by kernel_rfl) (by kernel_rfl) (by kernel_rfl) (fun _ _ _ h => h) (Or.inl ⟨by rfl, ?_⟩) (by assumption) ?_
                          · intro w9 hSw
                            (try dsimp only at hSw)
                            go_simp
                          (try simp only [Act.put, List.setIfInBounds_toArray, List.set_cons_zero, List.set_cons_succ])
                          refine wpAnyH_take (i := 16) (oi := { dst := some 138, op := Go.Op.indexAddr 69 (Go.Operand.tmp 136) (Go.Operand.tmp 137), type := 0, pos := "ref.go:204", after := #[{ on := 14, ground := Go.Ground.data }, { on := 15, ground := Go.Ground.data }, { on := 8, ground := Go.Ground.guard }], guard := some (8, false) }) (v := .pointer (some ⟨gI, a * 3, none⟩)) rfl (by kernel_rfl) (by kernel_rfl) (by kernel_rfl) (fun _ _ _ h => h) (Or.inl ⟨by rfl, ?_⟩) (by assumption) ?_
                          · intro w9 hSw
                            (try dsimp only at hSw)
                            go_simp
                          (try simp only [Act.put, List.setIfInBounds_toArray, List.set_cons_zero, List.set_cons_succ])
                          refine wpAnyH_take (i := 17) (oi := { dst := some 139, op := Go.Op.fieldAddr 72 (Go.Operand.tmp 138) 1, type := 0, pos := "ref.go:204", after := #[{ on := 16, ground := Go.Ground.data }, { on := 8, ground := Go.Ground.guard }], guard := some (8, false) }) (v := .pointer (some ⟨gI, a * 3 + 1, none⟩)) rfl (by kernel_rfl) (by kernel_rfl) (by kernel_rfl) (fun _ _ _ h => h) (Or.inl ⟨by rfl, ?_⟩) (by assumption) ?_
                          · intro w9 hSw
                            (try dsimp only at hSw)
                            go_simp
                          (try simp only [Act.put, List.setIfInBounds_toArray, List.set_cons_zero, List.set_cons_succ])
                          refine wpAnyH_take (i := 18) (oi := { dst := some 140, op := Go.Op.load 35 (Go.Operand.tmp 139), type := 35, pos := "ref.go:204", after := #[{ on := 17, ground := Go.Ground.data }, { on := 8, ground := Go.Ground.guard }], guard := some (8, false) }) (v := .agg #[.int .i64 ya, .int .i64 yb]) rfl (by kernel_rfl) (by kernel_rfl) (by kernel_rfl) (fun _ _ _ h => h) (Or.inl ⟨by rfl, ?_⟩) (by assumption) ?_
                          · intro w9 hSw
                            (try dsimp only at hSw)
                            go_simp
                          (try simp only [Act.put, List.setIfInBounds_toArray, List.set_cons_zero, List.set_cons_succ])
                          refine wpAnyH_ready (rs := [19]) (by kernel_rfl) (by simp) ?_
                          refine (AllReadyH.cons (o := { dst := some 141, op := Go.Op.call { callee := Go.Callee.value (Go.Operand.func 56), args := #[Go.Operand.tmp 135, Go.Operand.tmp 140], argTypes := #[35, 35] }, type := 3, pos := "ref.go:204", after := #[{ on := 13, ground := Go.Ground.data }, { on := 18, ground := Go.Ground.data }, { on := 8, ground := Go.Ground.chain }, { on := 8, ground := Go.Ground.guard }], guard := some (8, false) }) rfl (fun K hK => ?_) AllReadyH.nil)
                          go_simp
                          refine (RC.out _).mono ?_
                          rintro o w6 ⟨r, rfl, cm, KX⟩
                          have K6 : Kept (fun _ => False) wb w6 := Kept.trans kd KX (fun _ _ z => z)
                          have r1 : decide (r < 0) = true := decide_eq_true (cm.lt.2 hlt2)
                          clear KX cm
                          refine hK.out _ _ ?_ (fun hHeld => ?_)
                          · exact SH.out w6 K6
                          clear hK K
                          (try simp only [Act.put, List.setIfInBounds_toArray, List.set_cons_zero, List.set_cons_succ])
                          refine wpAnyH_take (i := 20) (oi := { dst := some 142, op := Go.Op.binOp Go.BinOp.lss 3 (Go.Operand.tmp 141) (Go.Operand.const (Go.Value.int Go.IntKind.i64 0)) 3, type := 4, pos := "ref.go:204", after := #[{ on := 19, ground := Go.Ground.data }, { on := 8, ground := Go.Ground.guard }], guard := some (8, false) }) (v := .bool true) rfl (by kernel_rfl) (by kernel_rfl) (by kernel_rfl) (fun _ _ _ h => h) (Or.inl ⟨by rfl, ?_⟩) (by assumption) ?_
                          · intro w9 hSw
                            (try dsimp only at hSw)
                            go_simp
                          (try simp only [Act.put, List.setIfInBounds_toArray, List.set_cons_zero, List.set_cons_succ])
                          refine wpAnyH_take (i := 21) (oi := { dst := some 143, op := Go.Op.pick (Go.Operand.tmp 130) (Go.Operand.const (Go.Value.bool true)) (Go.Operand.tmp 142), type := 4, pos := "ref.go:204", after := #[{ on := 8, ground := Go.Ground.data }, { on := 20, ground := Go.Ground.data }, { on := 5, ground := Go.Ground.guard }], guard := some (5, true) }) (v := .bool true) rfl (by kernel_rfl) (by kernel_rfl) (by kernel_rfl) (fun _ _ _ h => h) (Or.inl ⟨by rfl, ?_⟩) (by assumption) ?_
                          · intro w9 hSw
                            (try dsimp only at hSw)
                            go_simp
                          (try simp only [Act.put, List.setIfInBounds_toArray, List.set_cons_zero, List.set_cons_succ])
                          refine wpAnyH_take (i := 22) (oi := { dst := some 144, op := Go.Op.pick (Go.Operand.tmp 127) (Go.Operand.tmp 143) (Go.Operand.const (Go.Value.bool false)), type := 4, pos := "ref.go:204", after := #[{ on := 5, ground := Go.Ground.data }, { on := 21, ground := Go.Ground.data }], guard := none }) (v := .bool true) rfl (by kernel_rfl) (by kernel_rfl) (by kernel_rfl) (fun _ _ _ h => h) (Or.inl ⟨by rfl, ?_⟩) (by assumption) ?_
                          · intro w9 hSw
                            (try dsimp only at hSw)
                            go_simp
                          (try simp only [Act.put, List.setIfInBounds_toArray, List.set_cons_zero, List.set_cons_succ])
                          refine wpAnyH_done (by kernel_rfl) ?_ _
                          clear r1
                          have NX : Hid (Kept (fun _ => False) wo w6 ∧ MinQ IN R (j + 1) (j : Int)) := ⟨SJ.out.1.trans K6 (fun _ _ z => z), M⟩
                          clear SH
                          go_wp2_with fail
                          go_roundw
                          case rel => exact ⟨(j : Int), j + 1, by first | rfl | simp, by go_num, by omega, NX⟩
                          case measure => simp [intOf] <;> omega
                        · have M := MS.out.2 hlt2
                          refine wp_region_held_drew (S := (fun V => V.cell? ⟨gd, j, none⟩ = some (.bool false) ∧ V.cell? ⟨gI, j * 3 + 1, none⟩ = some (.int .i64 ta) ∧ V.cell? ⟨gI, j * 3 + 2, none⟩ = some (.int .i64 tb) ∧ V.cell? ⟨gI, a * 3 + 1, none⟩ = some (.int .i64 ya) ∧ V.cell? ⟨gI, a * 3 + 2, none⟩ = some (.int .i64 yb))) (by kernel_rfl) ?_ (fun hHeld => ?_)
                          · exact SH.out _ kd
                          refine wpAnyH_take (i := 0) (oi := { dst := some 122, op := Go.Op.move (Go.Operand.tmp 11), type := 51, pos := "ref.go:204", after := #[], guard := none }) (v := .slice (some ⟨gd, 0, none⟩) kI kI) rfl (by kernel_rfl) (by kernel_rfl) (by kernel_rfl) (fun _ _ _ h => h) (Or.inl ⟨by rfl, ?_⟩) (by assumption) ?_
                          · intro w9 hSw
                            (try dsimp only at hSw)
                            go_simp
                          (try simp only [Act.put, List.setIfInBounds_toArray, List.set_cons_zero, List.set_cons_succ])
                          refine wpAnyH_take (i := 1) (oi := { dst := some 123, op := Go.Op.move (Go.Operand.tmp 14), type := 3, pos := "ref.go:204", after := #[], guard := none }) (v := .int .i64 (j : Int)) rfl (by kernel_rfl) (by kernel_rfl) (by kernel_rfl) (fun _ _ _ h => h) (Or.inl ⟨by rfl, ?_⟩) (by assumption) ?_
                          · intro w9 hSw
                            (try dsimp only at hSw)
                            go_simp
                          (try simp only [Act.put, List.setIfInBounds_toArray, List.set_cons_zero, List.set_cons_succ])
                          refine wpAnyH_take (i := 2) (oi := { dst := some 124, op := Go.Op.indexAddr 51 (Go.Operand.tmp 122) (Go.Operand.tmp 123), type := 0, pos := "ref.go:204", after := #[{ on := 0, ground := Go.Ground.data }, { on := 1, ground := Go.Ground.data }], guard := none }) (v := .pointer (some ⟨gd, j, none⟩)) rfl (by kernel_rfl) (by kernel_rfl) (by kernel_rfl) (fun _ _ _ h => h) (Or.inl ⟨by rfl, ?_⟩) (by assumption) ?_
                          · intro w9 hSw
                            (try dsimp only at hSw)
                            go_simp
                          (try simp only [Act.put, List.setIfInBounds_toArray, List.set_cons_zero, List.set_cons_succ])
                          refine wpAnyH_take (i := 3) (oi := { dst := some 125, op := Go.Op.load 4 (Go.Operand.tmp 124), type := 4, pos := "ref.go:204", after := #[{ on := 2, ground := Go.Ground.data }], guard := none }) (v := .bool false) rfl (by kernel_rfl) (by kernel_rfl) (by kernel_rfl) (fun _ _ _ h => h) (Or.inl ⟨by rfl, ?_⟩) (by assumption) ?_
                          · intro w9 hSw
                            (try dsimp only at hSw)
                            go_simp
                          (try simp only [Act.put, List.setIfInBounds_toArray, List.set_cons_zero, List.set_cons_succ])
                          refine wpAnyH_take (i := 4) (oi := { dst := some 126, op := Go.Op.unOp Go.UnOp.not 4 (Go.Operand.tmp 125), type := 4, pos := "ref.go:204", after := #[{ on := 3, ground := Go.Ground.data }], guard := none }) (v := .bool true) rfl (by kernel_rfl) (by kernel_rfl) (by kernel_rfl) (fun _ _ _ h => h) (Or.inl ⟨by rfl, ?_⟩) (by assumption) ?_
                          · intro w9 hSw
                            (try dsimp only at hSw)
                            go_simp
                          (try simp only [Act.put, List.setIfInBounds_toArray, List.set_cons_zero, List.set_cons_succ])
                          refine wpAnyH_take (i := 5) (oi := { dst := some 127, op := Go.Op.move (Go.Operand.tmp 126), type := 4, pos := "ref.go:204", after := #[{ on := 4, ground := Go.Ground.data }], guard := none }) (v := .bool true) rfl (by kernel_rfl) (by kernel_rfl) (by kernel_rfl) (fun _ _ _ h => h) (Or.inl ⟨by rfl, ?_⟩) (by assumption) ?_
                          · intro w9 hSw
                            (try dsimp only at hSw)
                            go_simp
                          (try simp only [Act.put, List.setIfInBounds_toArray, List.set_cons_zero, List.set_cons_succ])
                          refine wpAnyH_take (i := 6) (oi := { dst := some 128, op := Go.Op.move (Go.Operand.tmp 13), type := 3, pos := "ref.go:204", after := #[{ on := 5, ground := Go.Ground.guard }], guard := some (5, true) }) (v := .int .i64 (a : Int)) rfl (by kernel_rfl) (by kernel_rfl) (by kernel_rfl) (fun _ _ _ h => h) (Or.inl ⟨by rfl, ?_⟩) (by assumption) ?_
                          · intro w9 hSw
                            (try dsimp only at hSw)
                            go_simp
                          (try simp only [Act.put, List.setIfInBounds_toArray, List.set_cons_zero, List.set_cons_succ])
                          refine wpAnyH_take (i := 7) (oi := { dst := some 129, op := Go.Op.binOp Go.BinOp.lss 3 (Go.Operand.tmp 128) (Go.Operand.const (Go.Value.int Go.IntKind.i64 0)) 3, type := 4, pos := "ref.go:204", after := #[{ on := 6, ground := Go.Ground.data }, { on := 5, ground := Go.Ground.guard }], guard := some (5, true) }) (v := .bool false) rfl (by kernel_rfl) (by kernel_rfl) (by kernel_rfl) (fun _ _ _ h => h) (Or.inl ⟨by rfl, ?_⟩) (by assumption) ?_
                          · intro w9 hSw
                            (try dsimp only at hSw)
                            go_simp
                          (try simp only [Act.put, List.setIfInBounds_toArray, List.set_cons_zero, List.set_cons_succ])
                          refine wpAnyH_take (i := 8) (oi := { dst := some 130, op := Go.Op.move (Go.Operand.tmp 129), type := 4, pos := "ref.go:204", after := #[{ on := 7, ground := Go.Ground.data }, { on := 5, ground := Go.Ground.chain }, { on := 5, ground := Go.Ground.guard }], guard := some (5, true) }) (v := .bool false) rfl (by kernel_rfl) (by kernel_rfl) (by kernel_rfl) (fun _ _ _ h => h) (Or.inl ⟨by rfl, ?_⟩) (by assumption) ?_
                          · intro w9 hSw
                            (try dsimp only at hSw)
                            go_simp
                          (try simp only [Act.put, List.setIfInBounds_toArray, List.set_cons_zero, List.set_cons_succ])
                          refine wpAnyH_take (i := 9) (oi := { dst := some 131, op := Go.Op.move (Go.Operand.tmp 4), type := 69, pos := "ref.go:204", after := #[{ on := 8, ground := Go.Ground.guard }], guard := some (8, false) }) (v := .slice (some ⟨gI, 0, none⟩) kI cI) rfl (by kernel_rfl) (by kernel_rfl) (by kernel_rfl) (fun _ _ _ h => h) (Or.inl ⟨by rfl, ?_⟩) (by assumption) ?_
                          · intro w9 hSw
                            (try dsimp only at hSw)
                            go_simp
                          (try simp only [Act.put, List.setIfInBounds_toArray, List.set_cons_zero, List.set_cons_succ])
                          refine wpAnyH_take (i := 10) (oi := { dst := some 132, op := Go.Op.move (Go.Operand.tmp 14), type := 3, pos := "ref.go:204", after := #[{ on := 8, ground := Go.Ground.guard }], guard := some (8, false) }) (v := .int .i64 (j : Int)) rfl (by kernel_rfl) (by kernel_rfl) (by kernel_rfl) (fun _ _ _ h => h) (Or.inl ⟨by rfl, ?_⟩) (by assumption) ?_
                          · intro w9 hSw
                            (try dsimp only at hSw)
                            go_simp
                          (try simp only [Act.put, List.setIfInBounds_toArray, List.set_cons_zero, List.set_cons_succ])
                          refine wpAnyH_take (i := 11) (oi := { dst := some 133, op := Go.Op.indexAddr 69 (Go.Operand.tmp 131) (Go.Operand.tmp 132), type := 0, pos := "ref.go:204", after := #[{ on := 9, ground := Go.Ground.data }, { on := 10, ground := Go.Ground.data }, { on := 8, ground := Go.Ground.guard }], guard := some (8, false) }) (v := .pointer (some ⟨gI, j * 3, none⟩)) rfl (by kernel_rfl) (by kernel_rfl) (by kernel_rfl) (fun _ _ _ h => h) (Or.inl ⟨by rfl, ?_⟩) (by assumption) ?_
                          · intro w9 hSw
                            (try dsimp only at hSw)
                            go_simp
                          (try simp only [Act.put, List.setIfInBounds_toArray, List.set_cons_zero, List.set_cons_succ])
                          refine wpAnyH_take (i := 12) (oi := { dst := some 134, op := Go.Op.fieldAddr 72 (Go.Operand.tmp 133) 1, type := 0, pos := "ref.go:204", after := #[{ on := 11, ground := Go.Ground.data }, { on := 8, ground := Go.Ground.guard }], guard := some (8, false) }) (v := .pointer (some ⟨gI, j * 3 + 1, none⟩)) rfl (by kernel_rfl) (by kernel_rfl) (by kernel_rfl) (fun _ _ _ h => h) (Or.inl ⟨by rfl, ?_⟩) (by assumption) ?_
                          · intro w9 hSw
                            (try dsimp only at hSw)
                            go_simp
                          (try simp only [Act.put, List.setIfInBounds_toArray, List.set_cons_zero, List.set_cons_succ])
                          refine wpAnyH_take (i := 13) (oi := { dst := some 135, op := Go.Op.load 35 (Go.Operand.tmp 134), type := 35, pos := "ref.go:204", after := #[{ on := 12, ground := Go.Ground.data }, { on := 8, ground := Go.Ground.guard }], guard := some (8, false) }) (v := .agg #[.int .i64 ta, .int .i64 tb]) rfl (by kernel_rfl) (by kernel_rfl) (by kernel_rfl) (fun _ _ _ h => h) (Or.inl ⟨by rfl, ?_⟩) (by assumption) ?_
                          · intro w9 hSw
                            (try dsimp only at hSw)
                            go_simp
                          (try simp only [Act.put, List.setIfInBounds_toArray, List.set_cons_zero, List.set_cons_succ])
                          refine wpAnyH_take (i := 14) (oi := { dst := some 136, op := Go.Op.move (Go.Operand.tmp 4), type := 69, pos := "ref.go:204", after := #[{ on := 8, ground := Go.Ground.guard }], guard := some (8, false) }) (v := .slice (some ⟨gI, 0, none⟩) kI cI) rfl (by kernel_rfl) (by kernel_rfl) (by kernel_rfl) (fun _ _ _ h => h) (Or.inl ⟨by rfl, ?_⟩) (by assumption) ?_
                          · intro w9 hSw
                            (try dsimp only at hSw)
                            go_simp
                          (try simp only [Act.put, List.setIfInBounds_toArray, List.set_cons_zero, List.set_cons_succ])
                          refine wpAnyH_take (i := 15) (oi := { dst := some 137, op := Go.Op.move (Go.Operand.tmp 13), type := 3, pos := "ref.go:204", after := #[{ on := 8, ground := Go.Ground.guard }], guard := some (8, false) }) (v := .int .i64 (a : Int)) rfl (by kernel_rfl) (by kernel_rfl) (by kernel_rfl) (fun _ _ _ h => h) (Or.inl ⟨by rfl, ?_⟩) (by assumption) ?_
                          · intro w9 hSw
                            (try dsimp only at hSw)
                            go_simp
                          (try simp only [Act.put, List.setIfInBounds_toArray, List.set_cons_zero, List.set_cons_succ])
                          refine wpAnyH_take (i := 16) (oi := { dst := some 138, op := Go.Op.indexAddr 69 (Go.Operand.tmp 136) (Go.Operand.tmp 137), type := 0, pos := "ref.go:204", after := #[{ on := 14, ground := Go.Ground.data }, { on := 15, ground := Go.Ground.data }, { on := 8, ground := Go.Ground.guard }], guard := some (8, false) }) (v := .pointer (some ⟨gI, a * 3, none⟩)) rfl (by kernel_rfl) (by kernel_rfl) (by kernel_rfl) (fun _ _ _ h => h) (Or.inl ⟨by rfl, ?_⟩) (by assumption) ?_
                          · intro w9 hSw
                            (try dsimp only at hSw)
                            go_simp
                          (try simp only [Act.put, List.setIfInBounds_toArray, List.set_cons_zero, List.set_cons_succ])
                          refine wpAnyH_take (i := 17) (oi := { dst := some 139, op := Go.Op.fieldAddr 72 (Go.Operand.tmp 138) 1, type := 0, pos := "ref.go:204", after := #[{ on := 16, ground := Go.Ground.data }, { on := 8, ground := Go.Ground.guard }], guard := some (8, false) }) (v := .pointer (some ⟨gI, a * 3 + 1, none⟩)) rfl (by kernel_rfl) (by kernel_rfl) (by kernel_rfl) (fun _ _ _ h => h) (Or.inl ⟨by rfl, ?_⟩) (by assumption) ?_
                          · intro w9 hSw
                            (try dsimp only at hSw)
                            go_simp
                          (try simp only [Act.put, List.setIfInBounds_toArray, List.set_cons_zero, List.set_cons_succ])
                          refine wpAnyH_take (i := 18) (oi := { dst := some 140, op := Go.Op.load 35 (Go.Operand.tmp 139), type := 35, pos := "ref.go:204", after := #[{ on := 17, ground := Go.Ground.data }, { on := 8, ground := Go.Ground.guard }], guard := some (8, false) }) (v := .agg #[.int .i64 ya, .int .i64 yb]) rfl (by kernel_rfl) (by kernel_rfl) (by kernel_rfl) (fun _ _ _ h => h) (Or.inl ⟨by rfl, ?_⟩) (by assumption) ?_
                          · intro w9 hSw
                            (try dsimp only at hSw)
                            go_simp
                          (try simp only [Act.put, List.setIfInBounds_toArray, List.set_cons_zero, List.set_cons_succ])
                          refine wpAnyH_ready (rs := [19]) (by kernel_rfl) (by simp) ?_
                          refine (AllReadyH.cons (o := { dst := some 141, op := Go.Op.call { callee := Go.Callee.value (Go.Operand.func 56), args := #[Go.Operand.tmp 135, Go.Operand.tmp 140], argTypes := #[35, 35] }, type := 3, pos := "ref.go:204", after := #[{ on := 13, ground := Go.Ground.data }, { on := 18, ground := Go.Ground.data }, { on := 8, ground := Go.Ground.chain }, { on := 8, ground := Go.Ground.guard }], guard := some (8, false) }) rfl (fun K hK => ?_) AllReadyH.nil)
                          go_simp
                          refine (RC.out _).mono ?_
                          rintro o w6 ⟨r, rfl, cm, KX⟩
                          have K6 : Kept (fun _ => False) wb w6 := Kept.trans kd KX (fun _ _ z => z)
                          have r1 : decide (r < 0) = false := decide_eq_false (fun z => hlt2 (cm.lt.1 z))
                          clear KX cm
                          refine hK.out _ _ ?_ (fun hHeld => ?_)
                          · exact SH.out w6 K6
                          clear hK K
                          (try simp only [Act.put, List.setIfInBounds_toArray, List.set_cons_zero, List.set_cons_succ])
                          refine wpAnyH_take (i := 20) (oi := { dst := some 142, op := Go.Op.binOp Go.BinOp.lss 3 (Go.Operand.tmp 141) (Go.Operand.const (Go.Value.int Go.IntKind.i64 0)) 3, type := 4, pos := "ref.go:204", after := #[{ on := 19, ground := Go.Ground.data }, { on := 8, ground := Go.Ground.guard }], guard := some (8, false) }) (v := .bool false) rfl (by kernel_rfl) (by kernel_rfl) (by kernel_rfl) (fun _ _ _ h => h) (Or.inl ⟨by rfl, ?_⟩) (by assumption) ?_
                          · intro w9 hSw
                            (try dsimp only at hSw)
                            go_simp
                          (try simp only [Act.put, List.setIfInBounds_toArray, List.set_cons_zero, List.set_cons_succ])
                          refine wpAnyH_take (i := 21) (oi := { dst := some 143, op := Go.Op.pick (Go.Operand.tmp 130) (Go.Operand.const (Go.Value.bool true)) (Go.Operand.tmp 142), type := 4, pos := "ref.go:204", after := #[{ on := 8, ground := Go.Ground.data }, { on := 20, ground := Go.Ground.data }, { on := 5, ground := Go.Ground.guard }], guard := some (5, true) }) (v := .bool false) rfl (by kernel_rfl) (by kernel_rfl) (by kernel_rfl) (fun _ _ _ h => h) (Or.inl ⟨by rfl, ?_⟩) (by assumption) ?_
                          · intro w9 hSw
                            (try dsimp only at hSw)
                            go_simp
                          (try simp only [Act.put, List.setIfInBounds_toArray, List.set_cons_zero, List.set_cons_succ])
                          refine wpAnyH_take (i := 22) (oi := { dst := some 144, op := Go.Op.pick (Go.Operand.tmp 127) (Go.Operand.tmp 143) (Go.Operand.const (Go.Value.bool false)), type := 4, pos := "ref.go:204", after := #[{ on := 5, ground := Go.Ground.data }, { on := 21, ground := Go.Ground.data }], guard := none }) (v := .bool false) rfl (by kernel_rfl) (by kernel_rfl) (by kernel_rfl) (fun _ _ _ h => h) (Or.inl ⟨by rfl, ?_⟩) (by assumption) ?_
                          · intro w9 hSw
                            (try dsimp only at hSw)
                            go_simp
                          (try simp only [Act.put, List.setIfInBounds_toArray, List.set_cons_zero, List.set_cons_succ])
                          refine wpAnyH_done (by kernel_rfl) ?_ _
                          clear r1
                          have NX : Hid (Kept (fun _ => False) wo w6 ∧ MinQ IN R (j + 1) (a : Int)) := ⟨SJ.out.1.trans K6 (fun _ _ z => z), M⟩
                          clear SH
                          go_wp2_with fail
                          go_roundw
                          case rel => exact ⟨(a : Int), j + 1, by first | rfl | simp, by go_num, by omega, NX⟩
                          case measure => simp [intOf] <;> omega
                  · have j1 : ¬ (j : Int) < (kI : Int) := by omega
                    have ML : Hid (∃ a : Nat, l = (a : Int) ∧ a < kI ∧ MinQ IN R IN.length (a : Int)) := by
                      have hl := H.out.2.2.2.2.2.2.2
                      have ej : j = IN.length := by omega
                      have q := SJ.out.2
                      rw [ej] at q
                      rcases q with ⟨_, z⟩ | ⟨a, z, z2, z3, z4⟩
                      · exact absurd z (pick_left (by rw [P.out.len]; omega))
                      · exact ⟨a, z, by omega, .inr ⟨a, rfl, z2, z3, z4⟩⟩
                    obtain ⟨a, rfl, alt, mn⟩ := ML.out
                    have a1 : (a : Int) < (kI : Int) := by omega
                    obtain ⟨gI, xc, ta, tb, rfl, hx, x0, x1, x2⟩ := CI.out wb a KBI.out alt
                    have HA : Hid (inAt IN a = (xc, ta, tb) ∧ IN[a]? = some (xc, ta, tb) ∧ MinQ IN R IN.length (a : Int)) := ⟨inAt_of hx, hx, mn⟩
                    obtain ⟨d0, f0⟩ := (P.out.is.k0 SJ.out.1).at alt
                    obtain ⟨X, hX⟩ : ∃ X, X = wb.setCell ⟨gd, a, none⟩ (.bool true) := ⟨_, rfl⟩
                    have PX : Hid (NRow wI.heap.size X po ko co acc ∧ IS wI.heap.size X gd kI (R ++ [a]) ∧ Kept (fun _ => False) wI X) := by
                      have ps := P.out.k0 SJ.out.1
                      have KX : Kept (fun j => j = gd) wb X := by rw [hX]; exact (Kept.refl (fun j => j = gd) wb).setCell (p := ⟨gd, a, none⟩) (fun _ => rfl) _
                      refine ⟨ps.row.off KX (fun j z y => ?_), by rw [hX]; exact ps.is.on a, ?_⟩
                      · have y : j = gd := y
                        rw [y] at z
                        exact is_apart ps.is ps.row z
                      · rw [hX]
                        exact kept_set ps.kept (own_lt ps.is.row gd rfl).1 _ _
                    have LN : Hid (ko + 1 ≤ maxLen ∧ ((ko + 1) + (ko + 1) / 4 + 192) * 8 ≤ 281474976710656 ∧ ko ≤ 4 * n) := by
                      have l1 := P.out.pick.len
                      have l2 := P.out.row.len
                      have l3 := P.out.len
                      have l4 := OK.out.2.2
                      have l5 := H.out.1.len
                      have l6 := H.out.2.1
                      have l7 := H.out.2.2.2.1
                      have l8 : ko ≤ 4 * n := by omega
                      unfold maxLen
                      exact ⟨by omega, by omega, l8⟩
                    have EX : Hid (X = wb.setCell ⟨gd, a, none⟩ (.bool true)) := hX
                    have xX : X.cell? ⟨gI, a * 3, none⟩ = some (.int .i64 (xc : Int)) := by
                      obtain ⟨g2, xc2, ta2, tb2, e2, hx2, q0, _, _⟩ := CI.out X a PX.out.2.2 alt
                      have e2 : gI = g2 := by simpa using e2
                      subst e2
                      rw [hx] at hx2
                      have e3 : xc = xc2 ∧ ta = ta2 ∧ tb = tb2 := by simpa using hx2
                      rw [e3.1]
                      exact q0
                    clear hX hx mn ML x0 x1 x2 SJ
                    go_upto_region 39 with fail
                    rw [← EX.out]
                    clear EX d0 f0
                    go_upto_region 40 with
                      (first
                        | (at_builtin; refine wpList_append_all _ rfl (.tmp 149) (.tmp 155) 22 3 22 _ 1 8 rfl Try.underlying22 Try.info3c rfl wI.heap.size (.slice po ko co) ko (intsN acc) rfl ((PX.out.1.k0 ((Kept.refl (fun _ => False) X).alloc _)).row) _ 1 (intsN [xc]) rfl (src_one (heap_alloc_new X _)) LN.out.1 LN.out.2.1 (Nat.le_trans PX.out.2.2.size ((Kept.refl (fun _ => False) X).alloc _).size) ?_; intro p9 c9 w9 ho hg hn9)
                        | fail)
                    have Z0 : Hid (O7 wI ms gd kI (R ++ [a]) (acc ++ [xc]) (ta, tb) 0 p9 (ko + 1) c9 [] w9) := by
                      have KA : Kept (fun _ => False) X (X.alloc (.cells #[.int .i64 (xc : Int)] 3)) := (Kept.refl _ _).alloc _
                      have KG : Kept (fun j => blockOf po = some j) (X.alloc (.cells #[.int .i64 (xc : Int)] 3)) w9 := (Kept.refl _ _).grown hg.out (fun j _ z => by rw [blockOf_own] at z; exact z)
                      have iA := PX.out.2.1.k0 KA
                      have rA := PX.out.1.k0 KA
                      refine ⟨⟨?_, ?_⟩, SortP.nil _ _, iA.off KG (is_apart iA rA), Kept.own (PX.out.2.2.trans KA (fun _ _ z => z)) KG (fun j z => (own_lt rA.row j z).1)⟩
                      · rw [List.append_nil, List.length_append, rA.len]
                        rfl
                      · rw [List.append_nil, intsN_append]
                        exact ho.out
                    clear ho hg hn9 PX xX
                    go_wp2_with fail
                    go_loopw [7, 16] (fun u7 u16 wy => ∃ (pp : Option Addr) (kk cc i : Nat) (T7 : List Nat), u7 = .slice pp kk cc ∧ u16 = .int .i64 (i : Int) ∧ i ≤ n ∧ Hid (O7 wI ms gd kI (R ++ [a]) (acc ++ [xc]) (ta, tb) i pp kk cc T7 wy)) (fun _ u16 _ => n - (intOf u16).toNat)
                    case atStart => exact ⟨p9, ko + 1, c9, 0, [], rfl, rfl, Nat.zero_le _, Z0⟩
                    case round =>
                      obtain ⟨pp, kk, cc, i, T7, rfl, rfl, hi, S7⟩ := hrel
                      clear Z0
                      obtain ⟨wd, hwd⟩ : ∃ wd, wd = wr := ⟨_, rfl⟩
                      rw [← hwd] at S7 ⊢
                      clear hwd
                      by_cases hlt : i < n
                      · have i1 : (i : Int) < (n : Int) := by omega
                        obtain ⟨b8, off8, m, rfl, hm, y0, y1, y2, y3, y4, y5, y6, y7, y8, y9, y10, _⟩ := (H.out.1.k0 S7.out.kept).at hlt
                        obtain ⟨tx, htx⟩ : ∃ tx, m.tx = tx := ⟨_, rfl⟩
                        obtain ⟨ty, hty⟩ : ∃ ty, m.ty = ty := ⟨_, rfl⟩
                        rw [htx] at y9
                        rw [hty] at y10
                        obtain ⟨rb, hrb⟩ : ∃ rb, rb = readB m := ⟨_, rfl⟩
                        have HM : Hid (ms[i]? = some m ∧ tg m = (tx, ty) ∧ rb = readB m) := ⟨hm, by rw [← htx, ← hty]; rfl, hrb⟩
                        have RR : Hid (∀ V, Calls Try.prog 52 #[.agg #[.int .i64 m.client, .int .i64 m.op, .bool m.put, .string m.key, .slice m.va m.vn m.vc, .int .i64 m.st, .int .i64 m.frm, .int .i64 m.to, .bool m.opn, .int .i64 tx, .int .i64 ty]] V fun o w' => o = .returned (.bool rb) ∧ Kept (fun _ => False) V w') := fun V => by rw [hrb, ← htx, ← hty]; exact dRead m V
                        obtain ⟨g2, xc2, ta2, tb2, e2, hx2, _, x1, x2⟩ := CI.out wd a S7.out.kept alt
                        have e2 : gI = g2 := by simpa using e2
                        subst e2
                        rw [HA.out.2.1] at hx2
                        have e3 : xc = xc2 ∧ ta = ta2 ∧ tb = tb2 := by simpa using hx2
                        obtain ⟨rfl, rfl, rfl⟩ := e3
                        have SH : Hid (∀ V, Kept (fun _ => False) wd V → V.cell? ⟨b8, off8 + i * 11, none⟩ = some (.int .i64 m.client) ∧ V.cell? ⟨b8, off8 + i * 11 + 1, none⟩ = some (.int .i64 m.op) ∧ V.cell? ⟨b8, off8 + i * 11 + 2, none⟩ = some (.bool m.put) ∧ V.cell? ⟨b8, off8 + i * 11 + 3, none⟩ = some (.string m.key) ∧ V.cell? ⟨b8, off8 + i * 11 + 4, none⟩ = some (.slice m.va m.vn m.vc) ∧ V.cell? ⟨b8, off8 + i * 11 + 5, none⟩ = some (.int .i64 m.st) ∧ V.cell? ⟨b8, off8 + i * 11 + 6, none⟩ = some (.int .i64 m.frm) ∧ V.cell? ⟨b8, off8 + i * 11 + 7, none⟩ = some (.int .i64 m.to) ∧ V.cell? ⟨b8, off8 + i * 11 + 8, none⟩ = some (.bool m.opn) ∧ V.cell? ⟨b8, off8 + i * 11 + 9, none⟩ = some (.int .i64 tx) ∧ V.cell? ⟨b8, off8 + i * 11 + 10, none⟩ = some (.int .i64 ty) ∧ V.cell? ⟨gI, a * 3 + 1, none⟩ = some (.int .i64 ta) ∧ V.cell? ⟨gI, a * 3 + 2, none⟩ = some (.int .i64 tb)) := fun V kv => ⟨kv.cell y0 (fun z => z), kv.cell y1 (fun z => z), kv.cell y2 (fun z => z), kv.cell y3 (fun z => z), kv.cell y4 (fun z => z), kv.cell y5 (fun z => z), kv.cell y6 (fun z => z), kv.cell y7 (fun z => z), kv.cell y8 (fun z => z), kv.cell y9 (fun z => z), kv.cell y10 (fun z => z), kv.cell x1 (fun z => z), kv.cell x2 (fun z => z)⟩
                        have kd : Kept (fun _ => False) wd wd.drew := (Kept.refl _ _).drew
                        clear hm htx hty hrb hx2 x1 x2 y0 y1 y2 y3 y4 y5 y6 y7 y8 y9 y10
                        go_upto_region 44 with fail
                        cases rb
                        · refine wp_region_held_drew (S := (fun V => V.cell? ⟨b8, off8 + i * 11, none⟩ = some (.int .i64 m.client) ∧ V.cell? ⟨b8, off8 + i * 11 + 1, none⟩ = some (.int .i64 m.op) ∧ V.cell? ⟨b8, off8 + i * 11 + 2, none⟩ = some (.bool m.put) ∧ V.cell? ⟨b8, off8 + i * 11 + 3, none⟩ = some (.string m.key) ∧ V.cell? ⟨b8, off8 + i * 11 + 4, none⟩ = some (.slice m.va m.vn m.vc) ∧ V.cell? ⟨b8, off8 + i * 11 + 5, none⟩ = some (.int .i64 m.st) ∧ V.cell? ⟨b8, off8 + i * 11 + 6, none⟩ = some (.int .i64 m.frm) ∧ V.cell? ⟨b8, off8 + i * 11 + 7, none⟩ = some (.int .i64 m.to) ∧ V.cell? ⟨b8, off8 + i * 11 + 8, none⟩ = some (.bool m.opn) ∧ V.cell? ⟨b8, off8 + i * 11 + 9, none⟩ = some (.int .i64 tx) ∧ V.cell? ⟨b8, off8 + i * 11 + 10, none⟩ = some (.int .i64 ty) ∧ V.cell? ⟨gI, a * 3 + 1, none⟩ = some (.int .i64 ta) ∧ V.cell? ⟨gI, a * 3 + 2, none⟩ = some (.int .i64 tb))) (by kernel_rfl) ?_ (fun hHeld => ?_)
                          · exact SH.out _ kd
                          refine wpAnyH_take (i := 0) (oi := { dst := some 165, op := Go.Op.move (Go.Operand.tmp 0), type := 27, pos := "ref.go:212", after := #[], guard := none }) (v := .slice (some ⟨b8, off8, none⟩) n c0) rfl (by kernel_rfl) (by kernel_rfl) (by kernel_rfl) (fun _ _ _ h => h) (Or.inl ⟨by rfl, ?_⟩) (by assumption) ?_
                          · intro w9 hSw
                            (try dsimp only at hSw)
                            go_simp
                          (try simp only [Act.put, List.setIfInBounds_toArray, List.set_cons_zero, List.set_cons_succ])
                          refine wpAnyH_take (i := 1) (oi := { dst := some 166, op := Go.Op.move (Go.Operand.tmp 16), type := 3, pos := "ref.go:212", after := #[], guard := none }) (v := .int .i64 (i : Int)) rfl (by kernel_rfl) (by kernel_rfl) (by kernel_rfl) (fun _ _ _ h => h) (Or.inl ⟨by rfl, ?_⟩) (by assumption) ?_
                          · intro w9 hSw
                            (try dsimp only at hSw)
                            go_simp
                          (try simp only [Act.put, List.setIfInBounds_toArray, List.set_cons_zero, List.set_cons_succ])
                          refine wpAnyH_take (i := 2) (oi := { dst := some 167, op := Go.Op.indexAddr 27 (Go.Operand.tmp 165) (Go.Operand.tmp 166), type := 0, pos := "ref.go:212", after := #[{ on := 0, ground := Go.Ground.data }, { on := 1, ground := Go.Ground.data }], guard := none }) (v := .pointer (some ⟨b8, off8 + i * 11, none⟩)) rfl (by kernel_rfl) (by kernel_rfl) (by kernel_rfl) (fun _ _ _ h => h) (Or.inl ⟨by rfl, ?_⟩) (by assumption) ?_
                          · intro w9 hSw
                            (try dsimp only at hSw)
                            go_simp
                          (try simp only [Act.put, List.setIfInBounds_toArray, List.set_cons_zero, List.set_cons_succ])
                          refine wpAnyH_take (i := 3) (oi := { dst := some 168, op := Go.Op.load 38 (Go.Operand.tmp 167), type := 38, pos := "ref.go:212", after := #[{ on := 2, ground := Go.Ground.data }], guard := none }) (v := .agg #[.int .i64 m.client, .int .i64 m.op, .bool m.put, .string m.key, .slice m.va m.vn m.vc, .int .i64 m.st, .int .i64 m.frm, .int .i64 m.to, .bool m.opn, .int .i64 tx, .int .i64 ty]) rfl (by kernel_rfl) (by kernel_rfl) (by kernel_rfl) (fun _ _ _ h => h) (Or.inl ⟨by rfl, ?_⟩) (by assumption) ?_
                          · intro w9 hSw
                            (try dsimp only at hSw)
                            go_simp
                          (try simp only [Act.put, List.setIfInBounds_toArray, List.set_cons_zero, List.set_cons_succ])
                          refine wpAnyH_ready (rs := [4]) (by kernel_rfl) (by simp) ?_
                          refine (AllReadyH.cons (o := { dst := some 169, op := Go.Op.call { callee := Go.Callee.value (Go.Operand.func 52), args := #[Go.Operand.tmp 168], argTypes := #[38] }, type := 4, pos := "ref.go:212", after := #[{ on := 3, ground := Go.Ground.data }], guard := none }) rfl (fun K hK => ?_) AllReadyH.nil)
                          go_simp
                          refine (RR.out _).mono ?_
                          rintro o w6 ⟨rfl, KX⟩
                          have K6 : Kept (fun _ => False) wd w6 := Kept.trans kd KX (fun _ _ z => z)
                          clear KX
                          refine hK.out _ _ ?_ (fun hHeld => ?_)
                          · exact SH.out w6 K6
                          clear hK K
                          (try simp only [Act.put, List.setIfInBounds_toArray, List.set_cons_zero, List.set_cons_succ])
                          refine wpAnyH_take (i := 5) (oi := { dst := some 170, op := Go.Op.move (Go.Operand.tmp 169), type := 4, pos := "ref.go:212", after := #[{ on := 4, ground := Go.Ground.data }, { on := 4, ground := Go.Ground.chain }], guard := none }) (v := .bool false) rfl (by kernel_rfl) (by kernel_rfl) (by kernel_rfl) (fun _ _ _ h => h) (Or.inl ⟨by rfl, ?_⟩) (by assumption) ?_
                          · intro w9 hSw
                            (try dsimp only at hSw)
                            go_simp
                          (try simp only [Act.put, List.setIfInBounds_toArray, List.set_cons_zero, List.set_cons_succ])
                          refine wpAnyH_take (i := 6) (oi := { dst := some 171, op := Go.Op.move (Go.Operand.tmp 0), type := 27, pos := "ref.go:212", after := #[{ on := 5, ground := Go.Ground.guard }], guard := some (5, true) }) (v := undef) rfl (by kernel_rfl) (by kernel_rfl) (by kernel_rfl) (fun _ _ _ h => h) (Or.inr ⟨by rfl, rfl⟩) (by assumption) ?_
                          (try simp only [Act.put, List.setIfInBounds_toArray, List.set_cons_zero, List.set_cons_succ])
                          refine wpAnyH_take (i := 7) (oi := { dst := some 172, op := Go.Op.move (Go.Operand.tmp 16), type := 3, pos := "ref.go:212", after := #[{ on := 5, ground := Go.Ground.guard }], guard := some (5, true) }) (v := undef) rfl (by kernel_rfl) (by kernel_rfl) (by kernel_rfl) (fun _ _ _ h => h) (Or.inr ⟨by rfl, rfl⟩) (by assumption) ?_
                          (try simp only [Act.put, List.setIfInBounds_toArray, List.set_cons_zero, List.set_cons_succ])
                          refine wpAnyH_take (i := 8) (oi := { dst := some 173, op := Go.Op.indexAddr 27 (Go.Operand.tmp 171) (Go.Operand.tmp 172), type := 0, pos := "ref.go:212", after := #[{ on := 6, ground := Go.Ground.data }, { on := 7, ground := Go.Ground.data }, { on := 5, ground := Go.Ground.guard }], guard := some (5, true) }) (v := undef) rfl (by kernel_rfl) (by kernel_rfl) (by kernel_rfl) (fun _ _ _ h => h) (Or.inr ⟨by rfl, rfl⟩) (by assumption) ?_
                          (try simp only [Act.put, List.setIfInBounds_toArray, List.set_cons_zero, List.set_cons_succ])
                          refine wpAnyH_take (i := 9) (oi := { dst := some 174, op := Go.Op.fieldAddr 38 (Go.Operand.tmp 173) 9, type := 0, pos := "ref.go:212", after := #[{ on := 8, ground := Go.Ground.data }, { on := 5, ground := Go.Ground.guard }], guard := some (5, true) }) (v := undef) rfl (by kernel_rfl) (by kernel_rfl) (by kernel_rfl) (fun _ _ _ h => h) (Or.inr ⟨by rfl, rfl⟩) (by assumption) ?_
                          (try simp only [Act.put, List.setIfInBounds_toArray, List.set_cons_zero, List.set_cons_succ])
                          refine wpAnyH_take (i := 10) (oi := { dst := some 175, op := Go.Op.load 35 (Go.Operand.tmp 174), type := 35, pos := "ref.go:212", after := #[{ on := 9, ground := Go.Ground.data }, { on := 5, ground := Go.Ground.guard }], guard := some (5, true) }) (v := undef) rfl (by kernel_rfl) (by kernel_rfl) (by kernel_rfl) (fun _ _ _ h => h) (Or.inr ⟨by rfl, rfl⟩) (by assumption) ?_
                          (try simp only [Act.put, List.setIfInBounds_toArray, List.set_cons_zero, List.set_cons_succ])
                          refine wpAnyH_take (i := 11) (oi := { dst := some 176, op := Go.Op.move (Go.Operand.tmp 4), type := 69, pos := "ref.go:212", after := #[{ on := 5, ground := Go.Ground.guard }], guard := some (5, true) }) (v := undef) rfl (by kernel_rfl) (by kernel_rfl) (by kernel_rfl) (fun _ _ _ h => h) (Or.inr ⟨by rfl, rfl⟩) (by assumption) ?_
                          (try simp only [Act.put, List.setIfInBounds_toArray, List.set_cons_zero, List.set_cons_succ])
                          refine wpAnyH_take (i := 12) (oi := { dst := some 177, op := Go.Op.move (Go.Operand.tmp 13), type := 3, pos := "ref.go:212", after := #[{ on := 5, ground := Go.Ground.guard }], guard := some (5, true) }) (v := undef) rfl (by kernel_rfl) (by kernel_rfl) (by kernel_rfl) (fun _ _ _ h => h) (Or.inr ⟨by rfl, rfl⟩) (by assumption) ?_
                          (try simp only [Act.put, List.setIfInBounds_toArray, List.set_cons_zero, List.set_cons_succ])
                          refine wpAnyH_take (i := 13) (oi := { dst := some 178, op := Go.Op.indexAddr 69 (Go.Operand.tmp 176) (Go.Operand.tmp 177), type := 0, pos := "ref.go:212", after := #[{ on := 11, ground := Go.Ground.data }, { on := 12, ground := Go.Ground.data }, { on := 5, ground := Go.Ground.guard }], guard := some (5, true) }) (v := undef) rfl (by kernel_rfl) (by kernel_rfl) (by kernel_rfl) (fun _ _ _ h => h) (Or.inr ⟨by rfl, rfl⟩) (by assumption) ?_
                          (try simp only [Act.put, List.setIfInBounds_toArray, List.set_cons_zero, List.set_cons_succ])
                          refine wpAnyH_take (i := 14) (oi := { dst := some 179, op := Go.Op.fieldAddr 72 (Go.Operand.tmp 178) 1, type := 0, pos := "ref.go:212", after := #[{ on := 13, ground := Go.Ground.data }, { on := 5, ground := Go.Ground.guard }], guard := some (5, true) }) (v := undef) rfl (by kernel_rfl) (by kernel_rfl) (by kernel_rfl) (fun _ _ _ h => h) (Or.inr ⟨by rfl, rfl⟩) (by assumption) ?_
                          (try simp only [Act.put, List.setIfInBounds_toArray, List.set_cons_zero, List.set_cons_succ])
                          refine wpAnyH_take (i := 15) (oi := { dst := some 180, op := Go.Op.load 35 (Go.Operand.tmp 179), type := 35, pos := "ref.go:212", after := #[{ on := 14, ground := Go.Ground.data }, { on := 5, ground := Go.Ground.guard }], guard := some (5, true) }) (v := undef) rfl (by kernel_rfl) (by kernel_rfl) (by kernel_rfl) (fun _ _ _ h => h) (Or.inr ⟨by rfl, rfl⟩) (by assumption) ?_
                          (try simp only [Act.put, List.setIfInBounds_toArray, List.set_cons_zero, List.set_cons_succ])
                          refine wpAnyH_take (i := 16) (oi := { dst := some 181, op := Go.Op.binOp Go.BinOp.eql 35 (Go.Operand.tmp 175) (Go.Operand.tmp 180) 35, type := 4, pos := "ref.go:212", after := #[{ on := 10, ground := Go.Ground.data }, { on := 15, ground := Go.Ground.data }, { on := 5, ground := Go.Ground.guard }], guard := some (5, true) }) (v := undef) rfl (by kernel_rfl) (by kernel_rfl) (by kernel_rfl) (fun _ _ _ h => h) (Or.inr ⟨by rfl, rfl⟩) (by assumption) ?_
                          (try simp only [Act.put, List.setIfInBounds_toArray, List.set_cons_zero, List.set_cons_succ])
                          refine wpAnyH_take (i := 17) (oi := { dst := some 182, op := Go.Op.pick (Go.Operand.tmp 170) (Go.Operand.tmp 181) (Go.Operand.const (Go.Value.bool false)), type := 4, pos := "ref.go:212", after := #[{ on := 5, ground := Go.Ground.data }, { on := 16, ground := Go.Ground.data }], guard := none }) (v := .bool false) rfl (by kernel_rfl) (by kernel_rfl) (by kernel_rfl) (fun _ _ _ h => h) (Or.inl ⟨by rfl, ?_⟩) (by assumption) ?_
                          · intro w9 hSw
                            (try dsimp only at hSw)
                            go_simp
                          (try simp only [Act.put, List.setIfInBounds_toArray, List.set_cons_zero, List.set_cons_succ])
                          refine wpAnyH_done (by kernel_rfl) ?_ _
                          have NX : Hid (O7 wI ms gd kI (R ++ [a]) (acc ++ [xc]) (ta, tb) (i + 1) pp kk cc T7 w6) := (S7.out.k0 K6).pass HM.out.1 (by unfold rdT; rw [← HM.out.2.2]; rfl)
                          clear SH RR S7 K6
                          go_wp2_with fail
                          go_roundw
                          case rel => exact ⟨pp, kk, cc, i + 1, T7, rfl, by go_num, by omega, NX⟩
                          case measure => simp [intOf] <;> omega
                        · by_cases h1 : tx = ta
                          · subst h1
                            by_cases h2 : ty = tb
                            · subst h2
                              have CP : Hid (∀ V, Kept (fun _ => False) wd V → Calls Try.prog 55 #[.slice (some ⟨b8, off8, none⟩) n c0, .slice pp kk cc, .int .i64 ((ko : Int) + 1), .int .i64 (i : Int)] V (RetW (fun p c' w' => ∃ R', NRow wI.heap.size w' p (kk + 1) c' R' ∧ PlcQ ms (acc ++ [xc]) T7 i R' ∧ Kept (fun _ => False) wI w' ∧ Kept (fun j => blockOf pp = some j) V w') (kk + 1))) := by
                                intro V kv
                                have l0 : (acc ++ [xc]).length = ko + 1 := by rw [List.length_append, P.out.row.len]; rfl
                                have e0 : ((ko : Int) + 1) = ((acc ++ [xc]).length : Int) := by rw [l0]; omega
                                rw [e0]
                                have q1 := S7.out.srt.len
                                have q2 := S7.out.row.len
                                rw [List.length_append, l0] at q2
                                have q3 := H.out.2.1
                                have q4 := LN.out.2.2
                                have K := S7.out.kept.trans kv (fun _ _ z => z)
                                exact dPlaced H.out.1 K (S7.out.row.k0 kv) (Nat.le_refl _) K.size (by omega) (fun y hy => by have := S7.out.srt.lt y hy; omega) hlt
                              refine wp_region_held_drew (S := (fun V => V.cell? ⟨b8, off8 + i * 11, none⟩ = some (.int .i64 m.client) ∧ V.cell? ⟨b8, off8 + i * 11 + 1, none⟩ = some (.int .i64 m.op) ∧ V.cell? ⟨b8, off8 + i * 11 + 2, none⟩ = some (.bool m.put) ∧ V.cell? ⟨b8, off8 + i * 11 + 3, none⟩ = some (.string m.key) ∧ V.cell? ⟨b8, off8 + i * 11 + 4, none⟩ = some (.slice m.va m.vn m.vc) ∧ V.cell? ⟨b8, off8 + i * 11 + 5, none⟩ = some (.int .i64 m.st) ∧ V.cell? ⟨b8, off8 + i * 11 + 6, none⟩ = some (.int .i64 m.frm) ∧ V.cell? ⟨b8, off8 + i * 11 + 7, none⟩ = some (.int .i64 m.to) ∧ V.cell? ⟨b8, off8 + i * 11 + 8, none⟩ = some (.bool m.opn) ∧ V.cell? ⟨b8, off8 + i * 11 + 9, none⟩ = some (.int .i64 tx) ∧ V.cell? ⟨b8, off8 + i * 11 + 10, none⟩ = some (.int .i64 ty) ∧ V.cell? ⟨gI, a * 3 + 1, none⟩ = some (.int .i64 tx) ∧ V.cell? ⟨gI, a * 3 + 2, none⟩ = some (.int .i64 ty))) (by kernel_rfl) ?_ (fun hHeld => ?_)
                              · exact SH.out _ kd
                              refine wpAnyH_take (i := 0) (oi := { dst := some 165, op := Go.Op.move (Go.Operand.tmp 0), type := 27, pos := "ref.go:212", after := #[], guard := none }) (v := .slice (some ⟨b8, off8, none⟩) n c0) rfl (by kernel_rfl) (by kernel_rfl) (by kernel_rfl) (fun _ _ _ h => h) (Or.inl ⟨by rfl, ?_⟩) (by assumption) ?_
                              · intro w9 hSw
                                (try dsimp only at hSw)
                                go_simp
                              (try simp only [Act.put, List.setIfInBounds_toArray, List.set_cons_zero, List.set_cons_succ])
                              refine wpAnyH_take (i := 1) (oi := { dst := some 166, op := Go.Op.move (Go.Operand.tmp 16), type := 3, pos := "ref.go:212", after := #[], guard := none }) (v := .int .i64 (i : Int)) rfl (by kernel_rfl) (by kernel_rfl) (by kernel_rfl) (fun _ _ _ h => h) (Or.inl ⟨by rfl, ?_⟩) (by assumption) ?_
                              · intro w9 hSw
                                (try dsimp only at hSw)
                                go_simp
                              (try simp only [Act.put, List.setIfInBounds_toArray, List.set_cons_zero, List.set_cons_succ])
                              refine wpAnyH_take (i := 2) (oi := { dst := some 167, op := Go.Op.indexAddr 27 (Go.Operand.tmp 165) (Go.Operand.tmp 166), type := 0, pos := "ref.go:212", after := #[{ on := 0, ground := Go.Ground.data }, { on := 1, ground := Go.Ground.data }], guard := none }) (v := .pointer (some ⟨b8, off8 + i * 11, none⟩)) rfl (by kernel_rfl) (by kernel_rfl) (by kernel_rfl) (fun _ _ _ h => h) (Or.inl ⟨by rfl, ?_⟩) (by assumption) ?_
                              · intro w9 hSw
                                (try dsimp only at hSw)
                                go_simp
                              (try simp only [Act.put, List.setIfInBounds_toArray, List.set_cons_zero, List.set_cons_succ])
                              refine wpAnyH_take (i := 3) (oi := { dst := some 168, op := Go.Op.load 38 (Go.Operand.tmp 167), type := 38, pos := "ref.go:212", after := #[{ on := 2, ground := Go.Ground.data }], guard := none }) (v := .agg #[.int .i64 m.client, .int .i64 m.op, .bool m.put, .string m.key, .slice m.va m.vn m.vc, .int .i64 m.st, .int .i64 m.frm, .int .i64 m.to, .bool m.opn, .int .i64 tx, .int .i64 ty]) rfl (by kernel_rfl) (by kernel_rfl) (by kernel_rfl) (fun _ _ _ h => h) (Or.inl ⟨by rfl, ?_⟩) (by assumption) ?_
                              · intro w9 hSw
                                (try dsimp only at hSw)
                                go_simp
                              (try simp only [Act.put, List.setIfInBounds_toArray, List.set_cons_zero, List.set_cons_succ])
                              refine wpAnyH_ready (rs := [4]) (by kernel_rfl) (by simp) ?_
                              refine (AllReadyH.cons (o := { dst := some 169, op := Go.Op.call { callee := Go.Callee.value (Go.Operand.func 52), args := #[Go.Operand.tmp 168], argTypes := #[38] }, type := 4, pos := "ref.go:212", after := #[{ on := 3, ground := Go.Ground.data }], guard := none }) rfl (fun K hK => ?_) AllReadyH.nil)
                              go_simp
                              refine (RR.out _).mono ?_
                              rintro o w6 ⟨rfl, KX⟩
                              have K6 : Kept (fun _ => False) wd w6 := Kept.trans kd KX (fun _ _ z => z)
                              clear KX
                              refine hK.out _ _ ?_ (fun hHeld => ?_)
                              · exact SH.out w6 K6
                              clear hK K
                              (try simp only [Act.put, List.setIfInBounds_toArray, List.set_cons_zero, List.set_cons_succ])
                              refine wpAnyH_take (i := 5) (oi := { dst := some 170, op := Go.Op.move (Go.Operand.tmp 169), type := 4, pos := "ref.go:212", after := #[{ on := 4, ground := Go.Ground.data }, { on := 4, ground := Go.Ground.chain }], guard := none }) (v := .bool true) rfl (by kernel_rfl) (by kernel_rfl) (by kernel_rfl) (fun _ _ _ h => h) (Or.inl ⟨by rfl, ?_⟩) (by assumption) ?_
                              · intro w9 hSw
                                (try dsimp only at hSw)
                                go_simp
                              (try simp only [Act.put, List.setIfInBounds_toArray, List.set_cons_zero, List.set_cons_succ])
                              refine wpAnyH_take (i := 6) (oi := { dst := some 171, op := Go.Op.move (Go.Operand.tmp 0), type := 27, pos := "ref.go:212", after := #[{ on := 5, ground := Go.Ground.guard }], guard := some (5, true) }) (v := .slice (some ⟨b8, off8, none⟩) n c0) rfl (by kernel_rfl) (by kernel_rfl) (by kernel_rfl) (fun _ _ _ h => h) (Or.inl ⟨by rfl, ?_⟩) (by assumption) ?_
                              · intro w9 hSw
                                (try dsimp only at hSw)
                                go_simp
                              (try simp only [Act.put, List.setIfInBounds_toArray, List.set_cons_zero, List.set_cons_succ])
                              refine wpAnyH_take (i := 7) (oi := { dst := some 172, op := Go.Op.move (Go.Operand.tmp 16), type := 3, pos := "ref.go:212", after := #[{ on := 5, ground := Go.Ground.guard }], guard := some (5, true) }) (v := .int .i64 (i : Int)) rfl (by kernel_rfl) (by kernel_rfl) (by kernel_rfl) (fun _ _ _ h => h) (Or.inl ⟨by rfl, ?_⟩) (by assumption) ?_
                              · intro w9 hSw
                                (try dsimp only at hSw)
                                go_simp
                              (try simp only [Act.put, List.setIfInBounds_toArray, List.set_cons_zero, List.set_cons_succ])
                              refine wpAnyH_take (i := 8) (oi := { dst := some 173, op := Go.Op.indexAddr 27 (Go.Operand.tmp 171) (Go.Operand.tmp 172), type := 0, pos := "ref.go:212", after := #[{ on := 6, ground := Go.Ground.data }, { on := 7, ground := Go.Ground.data }, { on := 5, ground := Go.Ground.guard }], guard := some (5, true) }) (v := .pointer (some ⟨b8, off8 + i * 11, none⟩)) rfl (by kernel_rfl) (by kernel_rfl) (by kernel_rfl) (fun _ _ _ h => h) (Or.inl ⟨by rfl, ?_⟩) (by assumption) ?_
                              · intro w9 hSw
                                (try dsimp only at hSw)
                                go_simp
                              (try simp only [Act.put, List.setIfInBounds_toArray, List.set_cons_zero, List.set_cons_succ])
                              refine wpAnyH_take (i := 9) (oi := { dst := some 174, op := Go.Op.fieldAddr 38 (Go.Operand.tmp 173) 9, type := 0, pos := "ref.go:212", after := #[{ on := 8, ground := Go.Ground.data }, { on := 5, ground := Go.Ground.guard }], guard := some (5, true) }) (v := .pointer (some ⟨b8, off8 + i * 11 + 9, none⟩)) rfl (by kernel_rfl) (by kernel_rfl) (by kernel_rfl) (fun _ _ _ h => h) (Or.inl ⟨by rfl, ?_⟩) (by assumption) ?_
                              · intro w9 hSw
                                (try dsimp only at hSw)
                                go_simp
                              (try simp only [Act.put, List.setIfInBounds_toArray, List.set_cons_zero, List.set_cons_succ])
                              refine wpAnyH_take (i := 10) (oi := { dst := some 175, op := Go.Op.load 35 (Go.Operand.tmp 174), type := 35, pos := "ref.go:212", after := #[{ on := 9, ground := Go.Ground.data }, { on := 5, ground := Go.Ground.guard }], guard := some (5, true) }) (v := .agg #[.int .i64 tx, .int .i64 ty]) rfl (by kernel_rfl) (by kernel_rfl) (by kernel_rfl) (fun _ _ _ h => h) (Or.inl ⟨by rfl, ?_⟩) (by assumption) ?_
                              · intro w9 hSw
                                (try dsimp only at hSw)
                                go_simp
                              (try simp only [Act.put, List.setIfInBounds_toArray, List.set_cons_zero, List.set_cons_succ])
                              refine wpAnyH_take (i := 11) (oi := { dst := some 176, op := Go.Op.move (Go.Operand.tmp 4), type := 69, pos := "ref.go:212", after := #[{ on := 5, ground := Go.Ground.guard }], guard := some (5, true) }) (v := .slice (some ⟨gI, 0, none⟩) kI cI) rfl (by kernel_rfl) (by kernel_rfl) (by kernel_rfl) (fun _ _ _ h => h) (Or.inl ⟨by rfl, ?_⟩) (by assumption) ?_
                              · intro w9 hSw
                                (try dsimp only at hSw)
                                go_simp
                              (try simp only [Act.put, List.setIfInBounds_toArray, List.set_cons_zero, List.set_cons_succ])
                              refine wpAnyH_take (i := 12) (oi := { dst := some 177, op := Go.Op.move (Go.Operand.tmp 13), type := 3, pos := "ref.go:212", after := #[{ on := 5, ground := Go.Ground.guard }], guard := some (5, true) }) (v := .int .i64 (a : Int)) rfl (by kernel_rfl) (by kernel_rfl) (by kernel_rfl) (fun _ _ _ h => h) (Or.inl ⟨by rfl, ?_⟩) (by assumption) ?_
                              · intro w9 hSw
                                (try dsimp only at hSw)
                                go_simp
                              (try simp only [Act.put, List.setIfInBounds_toArray, List.set_cons_zero, List.set_cons_succ])
                              refine wpAnyH_take (i := 13) (oi := { dst := some 178, op := Go.Op.indexAddr 69 (Go.Operand.tmp 176) (Go.Operand.tmp 177), type := 0, pos := "ref.go:212", after := #[{ on := 11, ground := Go.Ground.data }, { on := 12, ground := Go.Ground.data }, { on := 5, ground := Go.Ground.guard }], guard := some (5, true) }) (v := .pointer (some ⟨gI, a * 3, none⟩)) rfl (by kernel_rfl) (by kernel_rfl) (by kernel_rfl) (fun _ _ _ h => h) (Or.inl ⟨by rfl, ?_⟩) (by assumption) ?_
                              · intro w9 hSw
                                (try dsimp only at hSw)
                                go_simp
                              (try simp only [Act.put, List.setIfInBounds_toArray, List.set_cons_zero, List.set_cons_succ])
                              refine wpAnyH_take (i := 14) (oi := { dst := some 179, op := Go.Op.fieldAddr 72 (Go.Operand.tmp 178) 1, type := 0, pos := "ref.go:212", after := #[{ on := 13, ground := Go.Ground.data }, { on := 5, ground := Go.Ground.guard }], guard := some (5, true) }) (v := .pointer (some ⟨gI, a * 3 + 1, none⟩)) rfl (by kernel_rfl) (by kernel_rfl) (by kernel_rfl) (fun _ _ _ h => h) (Or.inl ⟨by rfl, ?_⟩) (by assumption) ?_
                              · intro w9 hSw
                                (try dsimp only at hSw)
                                go_simp
                              (try simp only [Act.put, List.setIfInBounds_toArray, List.set_cons_zero, List.set_cons_succ])
                              refine wpAnyH_take (i := 15) (oi := { dst := some 180, op := Go.Op.load 35 (Go.Operand.tmp 179), type := 35, pos := "ref.go:212", after := #[{ on := 14, ground := Go.Ground.data }, { on := 5, ground := Go.Ground.guard }], guard := some (5, true) }) (v := .agg #[.int .i64 tx, .int .i64 ty]) rfl (by kernel_rfl) (by kernel_rfl) (by kernel_rfl) (fun _ _ _ h => h) (Or.inl ⟨by rfl, ?_⟩) (by assumption) ?_
                              · intro w9 hSw
                                (try dsimp only at hSw)
                                go_simp
                              (try simp only [Act.put, List.setIfInBounds_toArray, List.set_cons_zero, List.set_cons_succ])
                              refine wpAnyH_take (i := 16) (oi := { dst := some 181, op := Go.Op.binOp Go.BinOp.eql 35 (Go.Operand.tmp 175) (Go.Operand.tmp 180) 35, type := 4, pos := "ref.go:212", after := #[{ on := 10, ground := Go.Ground.data }, { on := 15, ground := Go.Ground.data }, { on := 5, ground := Go.Ground.guard }], guard := some (5, true) }) (v := .bool true) rfl (by kernel_rfl) (by kernel_rfl) (by kernel_rfl) (fun _ _ _ h => h) (Or.inl ⟨by rfl, ?_⟩) (by assumption) ?_
                              · intro w9 hSw
                                (try dsimp only at hSw)
                                go_simp
                              (try simp only [Act.put, List.setIfInBounds_toArray, List.set_cons_zero, List.set_cons_succ])
                              refine wpAnyH_take (i := 17) (oi := { dst := some 182, op := Go.Op.pick (Go.Operand.tmp 170) (Go.Operand.tmp 181) (Go.Operand.const (Go.Value.bool false)), type := 4, pos := "ref.go:212", after := #[{ on := 5, ground := Go.Ground.data }, { on := 16, ground := Go.Ground.data }], guard := none }) (v := .bool true) rfl (by kernel_rfl) (by kernel_rfl) (by kernel_rfl) (fun _ _ _ h => h) (Or.inl ⟨by rfl, ?_⟩) (by assumption) ?_
                              · intro w9 hSw
                                (try dsimp only at hSw)
                                go_simp
                              (try simp only [Act.put, List.setIfInBounds_toArray, List.set_cons_zero, List.set_cons_succ])
                              refine wpAnyH_done (by kernel_rfl) ?_ _
                              clear SH RR
                              go_wp2_with fail
                              refine (CP.out _ K6).mono ?_
                              rintro o w7 ⟨p7, c7, rfl, R7, row7, plc7, K7, near7⟩
                              have NX : Hid (∃ T', O7 wI ms gd kI (R ++ [a]) (acc ++ [xc]) (tx, ty) (i + 1) p7 (kk + 1) c7 T' w7) := by
                                obtain ⟨T', e, srt'⟩ := S7.out.srt.add HM.out.1 (by unfold rdT; rw [← HM.out.2.2, HM.out.2.1]; simp) plc7
                                rw [e] at row7
                                exact ⟨T', row7, srt', (S7.out.is.k0 K6).off near7 (is_apart (S7.out.is.k0 K6) (S7.out.row.k0 K6)), K7⟩
                              clear row7 plc7 K7 near7 CP S7 K6
                              obtain ⟨T', NX'⟩ := NX.out
                              have NX2 : Hid (O7 wI ms gd kI (R ++ [a]) (acc ++ [xc]) (tx, ty) (i + 1) p7 (kk + 1) c7 T' w7) := NX'
                              clear NX NX'
                              go_wp2_with fail
                              go_roundw
                              case rel => exact ⟨p7, kk + 1, c7, i + 1, T', rfl, by go_num, by omega, NX2⟩
                              case measure => simp [intOf] <;> omega
                            · have q2 : (ty == tb) = false := by simp [h2]
                              refine wp_region_held_drew (S := (fun V => V.cell? ⟨b8, off8 + i * 11, none⟩ = some (.int .i64 m.client) ∧ V.cell? ⟨b8, off8 + i * 11 + 1, none⟩ = some (.int .i64 m.op) ∧ V.cell? ⟨b8, off8 + i * 11 + 2, none⟩ = some (.bool m.put) ∧ V.cell? ⟨b8, off8 + i * 11 + 3, none⟩ = some (.string m.key) ∧ V.cell? ⟨b8, off8 + i * 11 + 4, none⟩ = some (.slice m.va m.vn m.vc) ∧ V.cell? ⟨b8, off8 + i * 11 + 5, none⟩ = some (.int .i64 m.st) ∧ V.cell? ⟨b8, off8 + i * 11 + 6, none⟩ = some (.int .i64 m.frm) ∧ V.cell? ⟨b8, off8 + i * 11 + 7, none⟩ = some (.int .i64 m.to) ∧ V.cell? ⟨b8, off8 + i * 11 + 8, none⟩ = some (.bool m.opn) ∧ V.cell? ⟨b8, off8 + i * 11 + 9, none⟩ = some (.int .i64 tx) ∧ V.cell? ⟨b8, off8 + i * 11 + 10, none⟩ = some (.int .i64 ty) ∧ V.cell? ⟨gI, a * 3 + 1, none⟩ = some (.int .i64 tx) ∧ V.cell? ⟨gI, a * 3 + 2, none⟩ = some (.int .i64 tb))) (by kernel_rfl) ?_ (fun hHeld => ?_)
                              · exact SH.out _ kd
                              refine wpAnyH_take (i := 0) (oi := { dst := some 165, op := Go.Op.move (Go.Operand.tmp 0), type := 27, pos := "ref.go:212", after := #[], guard := none }) (v := .slice (some ⟨b8, off8, none⟩) n c0) rfl (by kernel_rfl) (by kernel_rfl) (by kernel_rfl) (fun _ _ _ h => h) (Or.inl ⟨by rfl, ?_⟩) (by assumption) ?_
                              · intro w9 hSw
                                (try dsimp only at hSw)
                                go_simp
                              (try simp only [Act.put, List.setIfInBounds_toArray, List.set_cons_zero, List.set_cons_succ])
                              refine wpAnyH_take (i := 1) (oi := { dst := some 166, op := Go.Op.move (Go.Operand.tmp 16), type := 3, pos := "ref.go:212", after := #[], guard := none }) (v := .int .i64 (i : Int)) rfl (by kernel_rfl) (by kernel_rfl) (by kernel_rfl) (fun _ _ _ h => h) (Or.inl ⟨by rfl, ?_⟩) (by assumption) ?_
                              · intro w9 hSw
                                (try dsimp only at hSw)
                                go_simp
                              (try simp only [Act.put, List.setIfInBounds_toArray, List.set_cons_zero, List.set_cons_succ])
                              refine wpAnyH_take (i := 2) (oi := { dst := some 167, op := Go.Op.indexAddr 27 (Go.Operand.tmp 165) (Go.Operand.tmp 166), type := 0, pos := "ref.go:212", after := #[{ on := 0, ground := Go.Ground.data }, { on := 1, ground := Go.Ground.data }], guard := none }) (v := .pointer (some ⟨b8, off8 + i * 11, none⟩)) rfl (by kernel_rfl) (by kernel_rfl) (by kernel_rfl) (fun _ _ _ h => h) (Or.inl ⟨by rfl, ?_⟩) (by assumption) ?_
                              · intro w9 hSw
                                (try dsimp only at hSw)
                                go_simp
                              (try simp only [Act.put, List.setIfInBounds_toArray, List.set_cons_zero, List.set_cons_succ])
                              refine wpAnyH_take (i := 3) (oi := { dst := some 168, op := Go.Op.load 38 (Go.Operand.tmp 167), type := 38, pos := "ref.go:212", after := #[{ on := 2, ground := Go.Ground.data }], guard := none }) (v := .agg #[.int .i64 m.client, .int .i64 m.op, .bool m.put, .string m.key, .slice m.va m.vn m.vc, .int .i64 m.st, .int .i64 m.frm, .int .i64 m.to, .bool m.opn, .int .i64 tx, .int .i64 ty]) rfl (by kernel_rfl) (by kernel_rfl) (by kernel_rfl) (fun _ _ _ h => h) (Or.inl ⟨by rfl, ?_⟩) (by assumption) ?_
                              · intro w9 hSw
                                (try dsimp only at hSw)
                                go_simp
                              (try simp only [Act.put, List.setIfInBounds_toArray, List.set_cons_zero, List.set_cons_succ])
                              refine wpAnyH_ready (rs := [4]) (by kernel_rfl) (by simp) ?_
                              refine (AllReadyH.cons (o := { dst := some 169, op := Go.Op.call { callee := Go.Callee.value (Go.Operand.func 52), args := #[Go.Operand.tmp 168], argTypes := #[38] }, type := 4, pos := "ref.go:212", after := #[{ on := 3, ground := Go.Ground.data }], guard := none }) rfl (fun K hK => ?_) AllReadyH.nil)
                              go_simp
                              refine (RR.out _).mono ?_
                              rintro o w6 ⟨rfl, KX⟩
                              have K6 : Kept (fun _ => False) wd w6 := Kept.trans kd KX (fun _ _ z => z)
                              clear KX
                              refine hK.out _ _ ?_ (fun hHeld => ?_)
                              · exact SH.out w6 K6
                              clear hK K
                              (try simp only [Act.put, List.setIfInBounds_toArray, List.set_cons_zero, List.set_cons_succ])
                              refine wpAnyH_take (i := 5) (oi := { dst := some 170, op := Go.Op.move (Go.Operand.tmp 169), type := 4, pos := "ref.go:212", after := #[{ on := 4, ground := Go.Ground.data }, { on := 4, ground := Go.Ground.chain }], guard := none }) (v := .bool true) rfl (by kernel_rfl) (by kernel_rfl) (by kernel_rfl) (fun _ _ _ h => h) (Or.inl ⟨by rfl, ?_⟩) (by assumption) ?_
                              · intro w9 hSw
                                (try dsimp only at hSw)
                                go_simp
                              (try simp only [Act.put, List.setIfInBounds_toArray, List.set_cons_zero, List.set_cons_succ])
                              refine wpAnyH_take (i := 6) (oi := { dst := some 171, op := Go.Op.move (Go.Operand.tmp 0), type := 27, pos := "ref.go:212", after := #[{ on := 5, ground := Go.Ground.guard }], guard := some (5, true) }) (v := .slice (some ⟨b8, off8, none⟩) n c0) rfl (by kernel_rfl) (by kernel_rfl) (by kernel_rfl) (fun _ _ _ h => h) (Or.inl ⟨by rfl, ?_⟩) (by assumption) ?_
                              · intro w9 hSw
                                (try dsimp only at hSw)
                                go_simp
                              (try simp only [Act.put, List.setIfInBounds_toArray, List.set_cons_zero, List.set_cons_succ])
                              refine wpAnyH_take (i := 7) (oi := { dst := some 172, op := Go.Op.move (Go.Operand.tmp 16), type := 3, pos := "ref.go:212", after := #[{ on := 5, ground := Go.Ground.guard }], guard := some (5, true) }) (v := .int .i64 (i : Int)) rfl (by kernel_rfl) (by kernel_rfl) (by kernel_rfl) (fun _ _ _ h => h) (Or.inl ⟨by rfl, ?_⟩) (by assumption) ?_
                              · intro w9 hSw
                                (try dsimp only at hSw)
                                go_simp
                              (try simp only [Act.put, List.setIfInBounds_toArray, List.set_cons_zero, List.set_cons_succ])
                              refine wpAnyH_take (i := 8) (oi := { dst := some 173, op := Go.Op.indexAddr 27 (Go.Operand.tmp 171) (Go.Operand.tmp 172), type := 0, pos := "ref.go:212", after := #[{ on := 6, ground := Go.Ground.data }, { on := 7, ground := Go.Ground.data }, { on := 5, ground := Go.Ground.guard }], guard := some (5, true) }) (v := .pointer (some ⟨b8, off8 + i * 11, none⟩)) rfl (by kernel_rfl) (by kernel_rfl) (by kernel_rfl) (fun _ _ _ h => h) (Or.inl ⟨by rfl, ?_⟩) (by assumption) ?_
                              · intro w9 hSw
                                (try dsimp only at hSw)
                                go_simp
                              (try simp only [Act.put, List.setIfInBounds_toArray, List.set_cons_zero, List.set_cons_succ])
                              refine wpAnyH_take (i := 9) (oi := { dst := some 174, op := Go.Op.fieldAddr 38 (Go.Operand.tmp 173) 9, type := 0, pos := "ref.go:212", after := #[{ on := 8, ground := Go.Ground.data }, { on := 5, ground := Go.Ground.guard }], guard := some (5, true) }) (v := .pointer (some ⟨b8, off8 + i * 11 + 9, none⟩)) rfl (by kernel_rfl) (by kernel_rfl) (by kernel_rfl) (fun _ _ _ h => h) (Or.inl ⟨by rfl, ?_⟩) (by assumption) ?_
                              · intro w9 hSw
                                (try dsimp only at hSw)
                                go_simp
                              (try simp only [Act.put, List.setIfInBounds_toArray, List.set_cons_zero, List.set_cons_succ])
                              refine wpAnyH_take (i := 10) (oi := { dst := some 175, op := Go.Op.load 35 (Go.Operand.tmp 174), type := 35, pos := "ref.go:212", after := #[{ on := 9, ground := Go.Ground.data }, { on := 5, ground := Go.Ground.guard }], guard := some (5, true) }) (v := .agg #[.int .i64 tx, .int .i64 ty]) rfl (by kernel_rfl) (by kernel_rfl) (by kernel_rfl) (fun _ _ _ h => h) (Or.inl ⟨by rfl, ?_⟩) (by assumption) ?_
                              · intro w9 hSw
                                (try dsimp only at hSw)
                                go_simp
                              (try simp only [Act.put, List.setIfInBounds_toArray, List.set_cons_zero, List.set_cons_succ])
                              refine wpAnyH_take (i := 11) (oi := { dst := some 176, op := Go.Op.move (Go.Operand.tmp 4), type := 69, pos := "ref.go:212", after := #[{ on := 5, ground := Go.Ground.guard }], guard := some (5, true) }) (v := .slice (some ⟨gI, 0, none⟩) kI cI) rfl (by kernel_rfl) (by kernel_rfl) (by kernel_rfl) (fun _ _ _ h => h) (Or.inl ⟨by rfl, ?_⟩) (by assumption) ?_
                              · intro w9 hSw
                                (try dsimp only at hSw)
                                go_simp
                              (try simp only [Act.put, List.setIfInBounds_toArray, List.set_cons_zero, List.set_cons_succ])
                              refine wpAnyH_take (i := 12) (oi := { dst := some 177, op := Go.Op.move (Go.Operand.tmp 13), type := 3, pos := "ref.go:212", after := #[{ on := 5, ground := Go.Ground.guard }], guard := some (5, true) }) (v := .int .i64 (a : Int)) rfl (by kernel_rfl) (by kernel_rfl) (by kernel_rfl) (fun _ _ _ h => h) (Or.inl ⟨by rfl, ?_⟩) (by assumption) ?_
                              · intro w9 hSw
                                (try dsimp only at hSw)
                                go_simp
                              (try simp only [Act.put, List.setIfInBounds_toArray, List.set_cons_zero, List.set_cons_succ])
                              refine wpAnyH_take (i := 13) (oi := { dst := some 178, op := Go.Op.indexAddr 69 (Go.Operand.tmp 176) (Go.Operand.tmp 177), type := 0, pos := "ref.go:212", after := #[{ on := 11, ground := Go.Ground.data }, { on := 12, ground := Go.Ground.data }, { on := 5, ground := Go.Ground.guard }], guard := some (5, true) }) (v := .pointer (some ⟨gI, a * 3, none⟩)) rfl (by kernel_rfl) (by kernel_rfl) (by kernel_rfl) (fun _ _ _ h => h) (Or.inl ⟨by rfl, ?_⟩) (by assumption) ?_
                              · intro w9 hSw
                                (try dsimp only at hSw)
                                go_simp
                              (try simp only [Act.put, List.setIfInBounds_toArray, List.set_cons_zero, List.set_cons_succ])
                              refine wpAnyH_take (i := 14) (oi := { dst := some 179, op := Go.Op.fieldAddr 72 (Go.Operand.tmp 178) 1, type := 0, pos := "ref.go:212", after := #[{ on := 13, ground := Go.Ground.data }, { on := 5, ground := Go.Ground.guard }], guard := some (5, true) }) (v := .pointer (some ⟨gI, a * 3 + 1, none⟩)) rfl (by kernel_rfl) (by kernel_rfl) (by kernel_rfl) (fun _ _ _ h => h) (Or.inl ⟨by rfl, ?_⟩) (by assumption) ?_
                              · intro w9 hSw
                                (try dsimp only at hSw)
                                go_simp
                              (try simp only [Act.put, List.setIfInBounds_toArray, List.set_cons_zero, List.set_cons_succ])
                              refine wpAnyH_take (i := 15) (oi := { dst := some 180, op := Go.Op.load 35 (Go.Operand.tmp 179), type := 35, pos := "ref.go:212", after := #[{ on := 14, ground := Go.Ground.data }, { on := 5, ground := Go.Ground.guard }], guard := some (5, true) }) (v := .agg #[.int .i64 tx, .int .i64 tb]) rfl (by kernel_rfl) (by kernel_rfl) (by kernel_rfl) (fun _ _ _ h => h) (Or.inl ⟨by rfl, ?_⟩) (by assumption) ?_
                              · intro w9 hSw
                                (try dsimp only at hSw)
                                go_simp
                              (try simp only [Act.put, List.setIfInBounds_toArray, List.set_cons_zero, List.set_cons_succ])
                              refine wpAnyH_take (i := 16) (oi := { dst := some 181, op := Go.Op.binOp Go.BinOp.eql 35 (Go.Operand.tmp 175) (Go.Operand.tmp 180) 35, type := 4, pos := "ref.go:212", after := #[{ on := 10, ground := Go.Ground.data }, { on := 15, ground := Go.Ground.data }, { on := 5, ground := Go.Ground.guard }], guard := some (5, true) }) (v := .bool false) rfl (by kernel_rfl) (by kernel_rfl) (by kernel_rfl) (fun _ _ _ h => h) (Or.inl ⟨by rfl, ?_⟩) (by assumption) ?_
                              · intro w9 hSw
                                (try dsimp only at hSw)
                                go_simp
                              (try simp only [Act.put, List.setIfInBounds_toArray, List.set_cons_zero, List.set_cons_succ])
                              refine wpAnyH_take (i := 17) (oi := { dst := some 182, op := Go.Op.pick (Go.Operand.tmp 170) (Go.Operand.tmp 181) (Go.Operand.const (Go.Value.bool false)), type := 4, pos := "ref.go:212", after := #[{ on := 5, ground := Go.Ground.data }, { on := 16, ground := Go.Ground.data }], guard := none }) (v := .bool false) rfl (by kernel_rfl) (by kernel_rfl) (by kernel_rfl) (fun _ _ _ h => h) (Or.inl ⟨by rfl, ?_⟩) (by assumption) ?_
                              · intro w9 hSw
                                (try dsimp only at hSw)
                                go_simp
                              (try simp only [Act.put, List.setIfInBounds_toArray, List.set_cons_zero, List.set_cons_succ])
                              refine wpAnyH_done (by kernel_rfl) ?_ _
                              have NX : Hid (O7 wI ms gd kI (R ++ [a]) (acc ++ [xc]) (tx, tb) (i + 1) pp kk cc T7 w6) := (S7.out.k0 K6).pass HM.out.1 (by unfold rdT; rw [HM.out.2.1]; simp [h2])
                              clear SH RR S7 K6
                              go_wp2_with fail
                              go_roundw
                              case rel => exact ⟨pp, kk, cc, i + 1, T7, rfl, by go_num, by omega, NX⟩
                              case measure => simp [intOf] <;> omega
                          · have q1 : (tx == ta) = false := by simp [h1]
                            refine wp_region_held_drew (S := (fun V => V.cell? ⟨b8, off8 + i * 11, none⟩ = some (.int .i64 m.client) ∧ V.cell? ⟨b8, off8 + i * 11 + 1, none⟩ = some (.int .i64 m.op) ∧ V.cell? ⟨b8, off8 + i * 11 + 2, none⟩ = some (.bool m.put) ∧ V.cell? ⟨b8, off8 + i * 11 + 3, none⟩ = some (.string m.key) ∧ V.cell? ⟨b8, off8 + i * 11 + 4, none⟩ = some (.slice m.va m.vn m.vc) ∧ V.cell? ⟨b8, off8 + i * 11 + 5, none⟩ = some (.int .i64 m.st) ∧ V.cell? ⟨b8, off8 + i * 11 + 6, none⟩ = some (.int .i64 m.frm) ∧ V.cell? ⟨b8, off8 + i * 11 + 7, none⟩ = some (.int .i64 m.to) ∧ V.cell? ⟨b8, off8 + i * 11 + 8, none⟩ = some (.bool m.opn) ∧ V.cell? ⟨b8, off8 + i * 11 + 9, none⟩ = some (.int .i64 tx) ∧ V.cell? ⟨b8, off8 + i * 11 + 10, none⟩ = some (.int .i64 ty) ∧ V.cell? ⟨gI, a * 3 + 1, none⟩ = some (.int .i64 ta) ∧ V.cell? ⟨gI, a * 3 + 2, none⟩ = some (.int .i64 tb))) (by kernel_rfl) ?_ (fun hHeld => ?_)
                            · exact SH.out _ kd
                            refine wpAnyH_take (i := 0) (oi := { dst := some 165, op := Go.Op.move (Go.Operand.tmp 0), type := 27, pos := "ref.go:212", after := #[], guard := none }) (v := .slice (some ⟨b8, off8, none⟩) n c0) rfl (by kernel_rfl) (by kernel_rfl) (by kernel_rfl) (fun _ _ _ h => h) (Or.inl ⟨by rfl, ?_⟩) (by assumption) ?_
                            · intro w9 hSw
                              (try dsimp only at hSw)
                              go_simp
                            (try simp only [Act.put, List.setIfInBounds_toArray, List.set_cons_zero, List.set_cons_succ])
                            refine wpAnyH_take (i := 1) (oi := { dst := some 166, op := Go.Op.move (Go.Operand.tmp 16), type := 3, pos := "ref.go:212", after := #[], guard := none }) (v := .int .i64 (i : Int)) rfl (by kernel_rfl) (by kernel_rfl) (by kernel_rfl) (fun _ _ _ h => h) (Or.inl ⟨by rfl, ?_⟩) (by assumption) ?_
                            · intro w9 hSw
                              (try dsimp only at hSw)
                              go_simp
                            (try simp only [Act.put, List.setIfInBounds_toArray, List.set_cons_zero, List.set_cons_succ])
                            refine wpAnyH_take (i := 2) (oi := { dst := some 167, op := Go.Op.indexAddr 27 (Go.Operand.tmp 165) (Go.Operand.tmp 166), type := 0, pos := "ref.go:212", after := #[{ on := 0, ground := Go.Ground.data }, { on := 1, ground := Go.Ground.data }], guard := none }) (v := .pointer (some ⟨b8, off8 + i * 11, none⟩)) rfl (by kernel_rfl) (by kernel_rfl) (by kernel_rfl) (fun _ _ _ h => h) (Or.inl ⟨by rfl, ?_⟩) (by assumption) ?_
                            · intro w9 hSw
                              (try dsimp only at hSw)
                              go_simp
                            (try simp only [Act.put, List.setIfInBounds_toArray, List.set_cons_zero, List.set_cons_succ])
                            refine wpAnyH_take (i := 3) (oi := { dst := some 168, op := Go.Op.load 38 (Go.Operand.tmp 167), type := 38, pos := "ref.go:212", after := #[{ on := 2, ground := Go.Ground.data }], guard := none }) (v := .agg #[.int .i64 m.client, .int .i64 m.op, .bool m.put, .string m.key, .slice m.va m.vn m.vc, .int .i64 m.st, .int .i64 m.frm, .int .i64 m.to, .bool m.opn, .int .i64 tx, .int .i64 ty]) rfl (by kernel_rfl) (by kernel_rfl) (by kernel_rfl) (fun _ _ _ h => h) (Or.inl ⟨by rfl, ?_⟩) (by assumption) ?_
                            · intro w9 hSw
                              (try dsimp only at hSw)
                              go_simp
                            (try simp only [Act.put, List.setIfInBounds_toArray, List.set_cons_zero, List.set_cons_succ])
                            refine wpAnyH_ready (rs := [4]) (by kernel_rfl) (by simp) ?_
                            refine (AllReadyH.cons (o := { dst := some 169, op := Go.Op.call { callee := Go.Callee.value (Go.Operand.func 52), args := #[Go.Operand.tmp 168], argTypes := #[38] }, type := 4, pos := "ref.go:212", after := #[{ on := 3, ground := Go.Ground.data }], guard := none }) rfl (fun K hK => ?_) AllReadyH.nil)
                            go_simp
                            refine (RR.out _).mono ?_
                            rintro o w6 ⟨rfl, KX⟩
                            have K6 : Kept (fun _ => False) wd w6 := Kept.trans kd KX (fun _ _ z => z)
                            clear KX
                            refine hK.out _ _ ?_ (fun hHeld => ?_)
                            · exact SH.out w6 K6
                            clear hK K
                            (try simp only [Act.put, List.setIfInBounds_toArray, List.set_cons_zero, List.set_cons_succ])
                            refine wpAnyH_take (i := 5) (oi := { dst := some 170, op := Go.Op.move (Go.Operand.tmp 169), type := 4, pos := "ref.go:212", after := #[{ on := 4, ground := Go.Ground.data }, { on := 4, ground := Go.Ground.chain }], guard := none }) (v := .bool true) rfl (by kernel_rfl) (by kernel_rfl) (by kernel_rfl) (fun _ _ _ h => h) (Or.inl ⟨by rfl, ?_⟩) (by assumption) ?_
                            · intro w9 hSw
                              (try dsimp only at hSw)
                              go_simp
                            (try simp only [Act.put, List.setIfInBounds_toArray, List.set_cons_zero, List.set_cons_succ])
                            refine wpAnyH_take (i := 6) (oi := { dst := some 171, op := Go.Op.move (Go.Operand.tmp 0), type := 27, pos := "ref.go:212", after := #[{ on := 5, ground := Go.Ground.guard }], guard := some (5, true) }) (v := .slice (some ⟨b8, off8, none⟩) n c0) rfl (by kernel_rfl) (by kernel_rfl) (by kernel_rfl) (fun _ _ _ h => h) (Or.inl ⟨by rfl, ?_⟩) (by assumption) ?_
                            · intro w9 hSw
                              (try dsimp only at hSw)
                              go_simp
                            (try simp only [Act.put, List.setIfInBounds_toArray, List.set_cons_zero, List.set_cons_succ])
                            refine wpAnyH_take (i := 7) (oi := { dst := some 172, op := Go.Op.move (Go.Operand.tmp 16), type := 3, pos := "ref.go:212", after := #[{ on := 5, ground := Go.Ground.guard }], guard := some (5, true) }) (v := .int .i64 (i : Int)) rfl (by kernel_rfl) (by kernel_rfl) (by kernel_rfl) (fun _ _ _ h => h) (Or.inl ⟨by rfl, ?_⟩) (by assumption) ?_
                            · intro w9 hSw
                              (try dsimp only at hSw)
                              go_simp
                            (try simp only [Act.put, List.setIfInBounds_toArray, List.set_cons_zero, List.set_cons_succ])
                            refine wpAnyH_take (i := 8) (oi := { dst := some 173, op := Go.Op.indexAddr 27 (Go.Operand.tmp 171) (Go.Operand.tmp 172), type := 0, pos := "ref.go:212", after := #[{ on := 6, ground := Go.Ground.data }, { on := 7, ground := Go.Ground.data }, { on := 5, ground := Go.Ground.guard }], guard := some (5, true) }) (v := .pointer (some ⟨b8, off8 + i * 11, none⟩)) rfl (by kernel_rfl) (by kernel_rfl) (by kernel_rfl) (fun _ _ _ h => h) (Or.inl ⟨by rfl, ?_⟩) (by assumption) ?_
                            · intro w9 hSw
                              (try dsimp only at hSw)
                              go_simp
                            (try simp only [Act.put, List.setIfInBounds_toArray, List.set_cons_zero, List.set_cons_succ])
                            refine wpAnyH_take (i := 9) (oi := { dst := some 174, op := Go.Op.fieldAddr 38 (Go.Operand.tmp 173) 9, type := 0, pos := "ref.go:212", after := #[{ on := 8, ground := Go.Ground.data }, { on := 5, ground := Go.Ground.guard }], guard := some (5, true) }) (v := .pointer (some ⟨b8, off8 + i * 11 + 9, none⟩)) rfl (by kernel_rfl) (by kernel_rfl) (by kernel_rfl) (fun _ _ _ h => h) (Or.inl ⟨by rfl, ?_⟩) (by assumption) ?_
                            · intro w9 hSw
                              (try dsimp only at hSw)
                              go_simp
                            (try simp only [Act.put, List.setIfInBounds_toArray, List.set_cons_zero, List.set_cons_succ])
                            refine wpAnyH_take (i := 10) (oi := { dst := some 175, op := Go.Op.load 35 (Go.Operand.tmp 174), type := 35, pos := "ref.go:212", after := #[{ on := 9, ground := Go.Ground.data }, { on := 5, ground := Go.Ground.guard }], guard := some (5, true) }) (v := .agg #[.int .i64 tx, .int .i64 ty]) rfl (by kernel_rfl) (by kernel_rfl) (by kernel_rfl) (fun _ _ _ h => h) (Or.inl ⟨by rfl, ?_⟩) (by assumption) ?_
                            · intro w9 hSw
                              (try dsimp only at hSw)
                              go_simp
                            (try simp only [Act.put, List.setIfInBounds_toArray, List.set_cons_zero, List.set_cons_succ])
                            refine wpAnyH_take (i := 11) (oi := { dst := some 176, op := Go.Op.move (Go.Operand.tmp 4), type := 69, pos := "ref.go:212", after := #[{ on := 5, ground := Go.Ground.guard }], guard := some (5, true) }) (v := .slice (some ⟨gI, 0, none⟩) kI cI) rfl (by kernel_rfl) (by kernel_rfl) (by kernel_rfl) (fun _ _ _ h => h) (Or.inl ⟨by rfl, ?_⟩) (by assumption) ?_
                            · intro w9 hSw
                              (try dsimp only at hSw)
                              go_simp
                            (try simp only [Act.put, List.setIfInBounds_toArray, List.set_cons_zero, List.set_cons_succ])
                            refine wpAnyH_take (i := 12) (oi := { dst := some 177, op := Go.Op.move (Go.Operand.tmp 13), type := 3, pos := "ref.go:212", after := #[{ on := 5, ground := Go.Ground.guard }], guard := some (5, true) }) (v := .int .i64 (a : Int)) rfl (by kernel_rfl) (by kernel_rfl) (by kernel_rfl) (fun _ _ _ h => h) (Or.inl ⟨by rfl, ?_⟩) (by assumption) ?_
                            · intro w9 hSw
                              (try dsimp only at hSw)
                              go_simp
                            (try simp only [Act.put, List.setIfInBounds_toArray, List.set_cons_zero, List.set_cons_succ])
                            refine wpAnyH_take (i := 13) (oi := { dst := some 178, op := Go.Op.indexAddr 69 (Go.Operand.tmp 176) (Go.Operand.tmp 177), type := 0, pos := "ref.go:212", after := #[{ on := 11, ground := Go.Ground.data }, { on := 12, ground := Go.Ground.data }, { on := 5, ground := Go.Ground.guard }], guard := some (5, true) }) (v := .pointer (some ⟨gI, a * 3, none⟩)) rfl (by kernel_rfl) (by kernel_rfl) (by kernel_rfl) (fun _ _ _ h => h) (Or.inl ⟨by rfl, ?_⟩) (by assumption) ?_
                            · intro w9 hSw
                              (try dsimp only at hSw)
                              go_simp
                            (try simp only [Act.put, List.setIfInBounds_toArray, List.set_cons_zero, List.set_cons_succ])
                            refine wpAnyH_take (i := 14) (oi := { dst := some 179, op := Go.Op.fieldAddr 72 (Go.Operand.tmp 178) 1, type := 0, pos := "ref.go:212", after := #[{ on := 13, ground := Go.Ground.data }, { on := 5, ground := Go.Ground.guard }], guard := some (5, true) }) (v := .pointer (some ⟨gI, a * 3 + 1, none⟩)) rfl (by kernel_rfl) (by kernel_rfl) (by kernel_rfl) (fun _ _ _ h => h) (Or.inl ⟨by rfl, ?_⟩) (by assumption) ?_
                            · intro w9 hSw
                              (try dsimp only at hSw)
                              go_simp
                            (try simp only [Act.put, List.setIfInBounds_toArray, List.set_cons_zero, List.set_cons_succ])
                            refine wpAnyH_take (i := 15) (oi := { dst := some 180, op := Go.Op.load 35 (Go.Operand.tmp 179), type := 35, pos := "ref.go:212", after := #[{ on := 14, ground := Go.Ground.data }, { on := 5, ground := Go.Ground.guard }], guard := some (5, true) }) (v := .agg #[.int .i64 ta, .int .i64 tb]) rfl (by kernel_rfl) (by kernel_rfl) (by kernel_rfl) (fun _ _ _ h => h) (Or.inl ⟨by rfl, ?_⟩) (by assumption) ?_
                            · intro w9 hSw
                              (try dsimp only at hSw)
                              go_simp
                            (try simp only [Act.put, List.setIfInBounds_toArray, List.set_cons_zero, List.set_cons_succ])
                            refine wpAnyH_take (i := 16) (oi := { dst := some 181, op := Go.Op.binOp Go.BinOp.eql 35 (Go.Operand.tmp 175) (Go.Operand.tmp 180) 35, type := 4, pos := "ref.go:212", after := #[{ on := 10, ground := Go.Ground.data }, { on := 15, ground := Go.Ground.data }, { on := 5, ground := Go.Ground.guard }], guard := some (5, true) }) (v := .bool false) rfl (by kernel_rfl) (by kernel_rfl) (by kernel_rfl) (fun _ _ _ h => h) (Or.inl ⟨by rfl, ?_⟩) (by assumption) ?_
                            · intro w9 hSw
                              (try dsimp only at hSw)
                              go_simp
                            (try simp only [Act.put, List.setIfInBounds_toArray, List.set_cons_zero, List.set_cons_succ])
                            refine wpAnyH_take (i := 17) (oi := { dst := some 182, op := Go.Op.pick (Go.Operand.tmp 170) (Go.Operand.tmp 181) (Go.Operand.const (Go.Value.bool false)), type := 4, pos := "ref.go:212", after := #[{ on := 5, ground := Go.Ground.data }, { on := 16, ground := Go.Ground.data }], guard := none }) (v := .bool false) rfl (by kernel_rfl) (by kernel_rfl) (by kernel_rfl) (fun _ _ _ h => h) (Or.inl ⟨by rfl, ?_⟩) (by assumption) ?_
                            · intro w9 hSw
                              (try dsimp only at hSw)
                              go_simp
                            (try simp only [Act.put, List.setIfInBounds_toArray, List.set_cons_zero, List.set_cons_succ])
                            refine wpAnyH_done (by kernel_rfl) ?_ _
                            have NX : Hid (O7 wI ms gd kI (R ++ [a]) (acc ++ [xc]) (ta, tb) (i + 1) pp kk cc T7 w6) := (S7.out.k0 K6).pass HM.out.1 (by unfold rdT; rw [HM.out.2.1]; simp [h1])
                            clear SH RR S7 K6
                            go_wp2_with fail
                            go_roundw
                            case rel => exact ⟨pp, kk, cc, i + 1, T7, rfl, by go_num, by omega, NX⟩
                            case measure => simp [intOf] <;> omega
                      · have i1 : ¬ (i : Int) < (n : Int) := by omega
                        have NX : Hid (∃ R S acc, PS wI ms IN T gd kI pp kk cc (m5 + 1) R S acc wd) := by
                          have ei : i = ms.length := by have := H.out.1.len; omega
                          have sd : SortD ms (rdT (inAt IN a).2) T7 := by
                            rw [HA.out.1]
                            have := S7.out.srt
                            rw [ei] at this
                            exact this
                          have pk := P.out.pick.next HA.out.2.2 sd
                          rw [HA.out.1] at pk
                          exact ⟨R ++ [a], _, _, pk, by rw [List.length_append, P.out.len]; rfl, S7.out.row, S7.out.is, S7.out.kept⟩
                        clear S7
                        go_wp2_with fail
                        go_roundw
                        case rel => exact ⟨pp, kk, cc, m5 + 1, rfl, by go_num, by omega, NX⟩
                        case measure => simp [intOf] <;> omega
              · have m1 : ¬ (m5 : Int) < (kI : Int) := by omega
                have FIN : Hid ((∃ D, DocT ms D 0 ∧ NRow w.heap.size wo po ko co D) ∧ Kept (fun _ => False) w wo) := by
                  have hl := H.out.2.2.2.2.2.2.2
                  have KW := H.out.2.2.2.2.2.1
                  refine ⟨⟨acc, .inr ⟨H.out.2.2.2.2.2.2.1, IN, H.out.2.2.1, .inr ⟨rfl, OK.out.1, P.out.pick.done (by rw [P.out.len, hl]; omega) OK.out.2.1⟩⟩, P.out.row.mono KW.size⟩, KW.trans P.out.kept (fun _ _ z => z)⟩
                clear P
                go_wp2_with fail
                go_ret2
                exact RetY.mk po ko co 0 rfl FIN.out
end Go.Proofs.Ytodmakcklacbfaa
