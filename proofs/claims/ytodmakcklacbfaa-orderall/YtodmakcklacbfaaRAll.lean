import Derived.Test.YtodmakcklacbfaaRTakAJ
import Derived.Test.YtodmakcklacbfaaRDoc
import Derived.Test.YtodmakcklacbfaaRChk
import Derived.Test.YtodmakcklacbfaaRKeptJ
import Derived.Test.YtodmakcklacbfaaPByTags
import Derived.Test.YtodmakcklacbfaaPSrcJ
namespace Go.Proofs.Ytodmakcklacbfaa
open Go.RowKit Go.Shelf Go.Lib Go.Sort

set_option maxRecDepth 100000 in
set_option maxHeartbeats 16000000 in
theorem oAll {w : World} {p0 : Option Addr} {n c0 : Nat} {ms : List Cm} (cr : CRd w p0 n c0 ms) (hb : n ≤ 1300000000000) (ck : ∀ m ∈ ms, KI m.client) (ct : ∀ m ∈ ms, KI m.ty) (hv : ∀ m ∈ ms, m.vn + 8 ≤ 140737488355328) {q : Option Addr} {k kc : Nat} {R : List Int} (ir : IRd w q k kc R) (hk : k ≤ 17592186044416) : Calls Try.prog 6 #[.slice p0 n c0, .slice q k kc] w fun o w' => o = .returned (.bool true) ∧ Kept (fun _ => False) w w' := by
  have rm := cr.room
  have sm := cr.small
  unfold maxLen at sm
  have r1 := ir.room
  have r2 := ir.small
  unfold maxLen at r2
  have C1 : Hid (Calls Try.prog 16 #[.slice p0 n c0] w (RetW (fun p c' w' => OZ w w' ms n p c') n)) := lCalls cr hb hv
  have H : Hid (CRd w p0 n c0 ms ∧ n ≤ 1300000000000 ∧ (∀ m ∈ ms, KI m.client) ∧ (∀ m ∈ ms, KI m.ty) ∧ (∀ m ∈ ms, m.vn + 8 ≤ 140737488355328) ∧ IRd w q k kc R ∧ k ≤ 17592186044416) := ⟨cr, hb, ck, ct, hv, ir, hk⟩
  clear cr hb ck ct hv ir hk
  go_enter Try.func6, Try.ntmps6
  go_wp2_with fail
  refine C1.out.mono ?_
  rintro o w1 ⟨p1, ca, rfl, oz⟩
  obtain ⟨L, qr, eL, wd⟩ := oz.ok
  obtain ⟨g, rfl, _, _⟩ := qr.ptr (by omega)
  have G1 : Hid (CRd w1 (some ⟨g, 0, none⟩) (n + 1) ca (L ++ [markC]) ∧ L.map er = ms.map er ∧ (∀ m ∈ L, Reads w1 m.va (m.vn + 2) m.vc (m.val ++ [193, 194])) ∧ Kept (fun _ => False) w w1 ∧ CRd w1 (some ⟨g, 0, none⟩) n ca L) := by
    have e0 : ms.take n = ms := by rw [← H.out.1.len]; exact List.take_length
    rw [e0] at eL
    have hl : L.length = n := by
      have := congrArg List.length eL
      rw [List.length_map, List.length_map, H.out.1.len] at this
      exact this
    have c1 := crd_take qr.crd (i := n) (by omega)
    have e1 : (L ++ [markC]).take n = L := by rw [← hl]; exact List.take_left
    rw [e1] at c1
    exact ⟨qr.crd, eL, wd, oz.kept, c1⟩
  have ra := G1.out.1.room
  have rs := G1.out.1.small
  unfold maxLen at rs
  clear C1 oz qr eL wd
  have C2 : Hid (Calls Try.prog 17 #[.slice q k kc] w1 (RetW (fun p c' w' => IRd w' p (k + 1) c' (R ++ [-77]) ∧ Kept (fun _ => False) w1 w') k)) := lInts (H.out.2.2.2.2.2.1.k0 G1.out.2.2.2.1) H.out.2.2.2.2.2.2
  go_wp2_with fail
  refine C2.out.mono ?_
  rintro o w2 ⟨p2, c2, rfl, ir2, K2'⟩
  have W2 : Hid (Kept (fun _ => False) w w2) := G1.out.2.2.2.1.trans K2' (fun _ _ z => z)
  have OWN : Hid (∀ V, Kept (fun _ => False) w2 V → IRd V p2 (k + 1) c2 (R ++ [-77]) ∧ IRd V p2 k c2 R) := fun V kv => by
    have a := ir2.k0 kv
    have b := a.take (s := k) (by omega)
    have e : (R ++ [-77]).take k = R := by rw [← H.out.2.2.2.2.2.1.len]; exact List.take_left
    rw [e] at b
    exact ⟨a, b⟩
  have ro := ir2.room
  have rso := ir2.small
  unfold maxLen at rso
  have KEPT : Hid (∀ V, Kept (fun _ => False) w2 V → Calls Try.prog 19 #[.slice (some ⟨g, 0, none⟩) n ca, .slice p0 n c0] V fun o w' => o = .returned (.bool true) ∧ Kept (fun _ => False) V w') := fun V kv => by
    have K1 := K2'.trans kv (fun _ _ z => z)
    exact lKept (G1.out.1.k0 K1) (fun m hm => Reads.kept K1 (G1.out.2.2.1 m hm) (fun _ _ z => z)) (H.out.1.k0 (W2.out.trans kv (fun _ _ z => z))) G1.out.2.1 H.out.2.2.2.2.1
  have CKA : Hid (∀ (V : World) (q : Option Addr) (k c : Nat) (S : List Int), Kept (fun _ => False) w2 V → IRd V q k c S → Calls Try.prog 11 #[.slice (some ⟨g, 0, none⟩) n ca, .slice q k c] V (RetC fun v w' => CkA ms S v ∧ Kept (fun _ => False) V w')) := fun V q k c S kv i => by
    refine (oCheck (G1.out.2.2.2.2.k0 (K2'.trans kv (fun _ _ z => z))) H.out.2.1 i).mono ?_
    rintro o w' ⟨v, e, h, K⟩
    exact ⟨v, e, er_cka G1.out.2.1 h, K⟩
  have CKB : Hid (∀ (V : World) (q : Option Addr) (k c : Nat) (S : List Int), Kept (fun _ => False) w2 V → IRd V q k c S → Calls Try.prog 18 #[.slice p0 n c0, .slice q k c] V (RetC fun v w' => CkA ms S v ∧ Kept (fun _ => False) V w')) := fun V q k c S kv i => dCheck (H.out.1.k0 (W2.out.trans kv (fun _ _ z => z))) i
  have BYT : Hid (∀ V, Kept (fun _ => False) w2 V → Calls Try.prog 10 #[.slice (some ⟨g, 0, none⟩) n ca] V (RetY fun q k c e w' => (∃ Lb, ByT ms Lb e ∧ NRow V.heap.size w' q k c Lb) ∧ Kept (fun _ => False) V w')) := fun V kv => by
    obtain ⟨k1, k2⟩ := er_ki G1.out.2.1 H.out.2.2.1 H.out.2.2.2.1
    refine (oByTags (G1.out.2.2.2.2.k0 (K2'.trans kv (fun _ _ z => z))) H.out.2.1 k1 k2).mono ?_
    rintro o w' ⟨q, k, c, e, h, bq⟩
    obtain ⟨Lb, b1, b2⟩ := bq.ans
    exact ⟨q, k, c, e, h, ⟨Lb, byT_same G1.out.2.1 b1, b2⟩, bq.kept⟩
  clear C2 K2' G1
  have K22 : Kept (fun _ => False) w2 w2 := Kept.refl _ _
  have E1 : Hid (Calls Try.prog 11 #[.slice (some ⟨g, 0, none⟩) n ca, .slice p2 k c2] w2 (RetC fun v w' => CkA ms R v ∧ Kept (fun _ => False) w2 w')) := CKA.out w2 p2 k c2 R K22 (OWN.out w2 K22).2
  go_wp2_with fail
  refine E1.out.mono ?_
  rintro o w3 ⟨v3, rfl, h3, K3⟩
  clear E1
  have E2 : Hid (Calls Try.prog 18 #[.slice p0 n c0, .slice q k kc] w3 (RetC fun v w' => CkA ms R v ∧ Kept (fun _ => False) w3 w')) := CKB.out w3 q k kc R K3 (H.out.2.2.2.2.2.1.k0 (W2.out.trans K3 (fun _ _ z => z)))
  go_wp2_with fail
  refine E2.out.mono ?_
  rintro o w4 ⟨v4, rfl, h4, K4'⟩
  have K4 : Kept (fun _ => False) w2 w4 := K3.trans K4' (fun _ _ z => z)
  have ev := cka_one h3 h4
  subst ev
  clear E2 h3 h4 K3 K4' K22
  go_wp2_with fail
  refine (KEPT.out w4 K4).mono ?_
  rintro o w5 ⟨rfl, K5'⟩
  have K5 : Kept (fun _ => False) w2 w5 := K4.trans K5' (fun _ _ z => z)
  clear K4 K5'
  have E3 : Hid (Calls Try.prog 20 #[.slice p2 k c2, .slice q k kc] w5 fun o w' => o = .returned (.bool true) ∧ Kept (fun _ => False) w5 w') := by
    have := lEqual (OWN.out w5 K5).2 (H.out.2.2.2.2.2.1.k0 (W2.out.trans K5 (fun _ _ z => z)))
    rw [decide_eq_true (rfl : R = R)] at this
    exact this
  go_wp2_with fail
  refine E3.out.mono ?_
  rintro o w6 ⟨rfl, K6'⟩
  have K6 : Hid (Kept (fun _ => False) w2 w6) := K5.trans K6' (fun _ _ z => z)
  clear E3 K5 K6'
  obtain ⟨b2, off2, x2, rfl, hx2, cx2⟩ := (OWN.out w6 K6.out).1.at (Nat.lt_succ_self k)
  have ex2 : x2 = -77 := by
    rw [List.getElem?_append_right (by rw [H.out.2.2.2.2.2.1.len]; exact Nat.le_refl _), H.out.2.2.2.2.2.1.len, Nat.sub_self] at hx2
    exact (Option.some.inj hx2).symm
  subst ex2
  have k1 : (k : Int) + 1 ≤ (c2 : Int) := by omega
  have k2 : (k : Int) < (k : Int) + 1 := by omega
  have kw : wrap64 ((k : Int) + 1) = (k : Int) + 1 := by
    have := H.out.2.2.2.2.2.2
    unfold wrap64
    omega
  have kt : ((k : Int) + 1).toNat = k + 1 := by omega
  have kp : (0 : Int) ≤ (k : Int) + 1 := by omega
  have D1 : Hid (Calls Try.prog 21 #[.slice p0 n c0] w6 (RetY fun q k c e w' => (∃ D, DocT ms D e ∧ NRow w6.heap.size w' q k c D) ∧ Kept (fun _ => False) w6 w')) := dByTags (H.out.1.k0 (W2.out.trans K6.out (fun _ _ z => z))) H.out.2.1
  clear hx2
  go_wp2_with fail
  refine D1.out.mono ?_
  rintro o w7 ⟨qw, kw2, cw, f, rfl, ⟨D, dD, rowD⟩, K7'⟩
  have K7 : Hid (Kept (fun _ => False) w2 w7) := K6.out.trans K7' (fun _ _ z => z)
  clear D1 K7' cx2 k1 k2 kw kt kp OWN
  go_wp2_with fail
  refine (BYT.out w7 K7.out).mono ?_
  rintro o w8 ⟨qg, kg, cg, e, rfl, ⟨Lb, bL, rowL⟩, K8'⟩
  obtain ⟨ee, el⟩ := byT_doc bL dD
  subst ee
  subst el
  have K8 : Hid (Kept (fun _ => False) w7 w8) := K8'
  have LG : Hid (kg ≤ n) := by
    have := rowL.len
    have h1 : Lb.length ≤ n := by
      rcases by_ok bL with ⟨_, _, z⟩ | ⟨_, _, z⟩ | ⟨_, _, tk⟩
      · rw [z]; exact Nat.zero_le _
      · rw [z]; exact Nat.zero_le _
      · have := List.Nodup.length_le_of_subset tk.nd (l₂ := List.range n) (fun x hx => by
          obtain ⟨m, hm, _⟩ := tk.pt x hx
          have := (List.getElem?_eq_some_iff.1 hm).1
          rw [H.out.1.len] at this
          exact List.mem_range.2 this)
        rw [List.length_range] at this
        exact this
    show kg ≤ n
    omega
  have RD : Hid (∀ V, Kept (fun _ => False) w7 V → IRd V qw kw2 cw (Lb.map fun x : Nat => (x : Int))) := fun V kv => (rowD.k0 kv).ird
  have RG : Hid (NRow w7.heap.size w8 qg kg cg Lb) := rowL
  have DD : Hid (DocT ms Lb e) := dD
  have rg := own_room rowL.row
  have rg1 := rg.1
  have rg2 := rg.2
  unfold maxLen at rg2
  have rdd := (RD.out w7 (Kept.refl _ _))
  have rd1 := rdd.room
  have rd2 := rdd.small
  unfold maxLen at rd2
  clear rg rdd bL dD rowL rowD K8'
  have E4 : Hid (Calls Try.prog 20 #[.slice qg kg cg, .slice qw kw2 cw] w8 fun o w' => o = .returned (.bool true) ∧ Kept (fun _ => False) w8 w') := by
    have := lEqual RG.out.ird (RD.out w8 K8.out)
    rw [decide_eq_true (rfl : (Lb.map fun x : Nat => (x : Int)) = _)] at this
    exact this
  go_wp2_with fail
  refine E4.out.mono ?_
  rintro o w9 ⟨rfl, K9'⟩
  have K9 : Hid (Kept (fun _ => False) w8 w9) := K9'
  clear E4 K9'
  go_wp2_with fail
  refine (KEPT.out w9 (K7.out.trans (K8.out.trans K9.out (fun _ _ z => z)) (fun _ _ z => z))).mono ?_
  rintro o wa ⟨rfl, Ka'⟩
  have Ka : Hid (Kept (fun _ => False) w8 wa) := K9.out.trans Ka' (fun _ _ z => z)
  clear K9 Ka'
  have E5 : Hid (Calls Try.prog 11 #[.slice (some ⟨g, 0, none⟩) n ca, .slice qg kg cg] wa (RetC fun v w' => CkA ms (Lb.map fun x : Nat => (x : Int)) v ∧ Kept (fun _ => False) wa w')) := CKA.out wa qg kg cg _ (K7.out.trans (K8.out.trans Ka.out (fun _ _ z => z)) (fun _ _ z => z)) (RG.out.ird.k0 Ka.out)
  go_wp2_with fail
  refine E5.out.mono ?_
  rintro o wb ⟨v5, rfl, h5, Kb'⟩
  have Kb : Hid (Kept (fun _ => False) w8 wb) := Ka.out.trans Kb' (fun _ _ z => z)
  clear E5 Ka Kb'
  have E6 : Hid (Calls Try.prog 18 #[.slice p0 n c0, .slice qw kw2 cw] wb (RetC fun v w' => CkA ms (Lb.map fun x : Nat => (x : Int)) v ∧ Kept (fun _ => False) wb w')) := CKB.out wb qw kw2 cw _ (K7.out.trans (K8.out.trans Kb.out (fun _ _ z => z)) (fun _ _ z => z)) (RD.out wb (K8.out.trans Kb.out (fun _ _ z => z)))
  go_wp2_with fail
  refine E6.out.mono ?_
  rintro o wc ⟨v6, rfl, h6, Kc'⟩
  have ev := cka_one h5 h6
  subst ev
  have S0 : Hid (∃ X, NRow w7.heap.size wc qg kg cg X ∧ Kept (fun _ => False) w7 wc) := by
    have K := Kb.out.trans Kc' (fun _ _ z => z)
    exact ⟨Lb, RG.out.k0 K, K8.out.trans K (fun _ _ z => z)⟩
  clear E6 h5 h6 Kb Kc' RG K8
  go_wp2_with fail
  go_loopw [11] (fun u11 wy => ∃ i : Nat, u11 = .int .i64 (i : Int) ∧ i ≤ kg ∧ Hid (∃ X, NRow w7.heap.size wy qg kg cg X ∧ Kept (fun _ => False) w7 wy)) (fun u11 _ => kg - (intOf u11).toNat)
  case atStart => exact ⟨0, rfl, Nat.zero_le _, S0⟩
  case round =>
    obtain ⟨i, rfl, hi, SX⟩ := hrel
    clear S0
    obtain ⟨X, xr, xk⟩ := SX.out
    have S : Hid (NRow w7.heap.size wr qg kg cg X ∧ Kept (fun _ => False) w7 wr) := ⟨xr, xk⟩
    clear SX xr xk
    obtain ⟨wo, hwo⟩ : ∃ wo, wo = wr := ⟨_, rfl⟩
    rw [← hwo] at S ⊢
    clear hwo
    by_cases hlt : i < kg
    · have i1 : (i : Int) < (kg : Int) := by omega
      obtain ⟨g9, r9, rfl, _, x9⟩ := S.out.1.at hlt
      have f9 := soft_own S.out.1 i
      have NX : Hid (∃ X, NRow w7.heap.size (wo.setCell ⟨g9, i, none⟩ (.int .i64 9)) (some ⟨g9, 0, none⟩) kg cg X ∧ Kept (fun _ => False) w7 (wo.setCell ⟨g9, i, none⟩ (.int .i64 9))) := ⟨X.set i 9, S.out.1.put i 9, kept_set S.out.2 (own_lt S.out.1.row g9 rfl).1 _ _⟩
      clear S
      go_wp2_with fail
      go_roundw
      case rel => exact ⟨i + 1, by go_num, by omega, NX⟩
      case measure => simp [intOf] <;> omega
    · have i1 : ¬ (i : Int) < (kg : Int) := by omega
      have LN : Hid (kg + 1 ≤ maxLen ∧ ((kg + 1) + (kg + 1) / 4 + 192) * 8 ≤ 281474976710656) := by
        have l1 := LG.out
        have l2 := H.out.2.1
        unfold maxLen
        exact ⟨by omega, by omega⟩
      go_upto_region 14 with
        (first
          | (at_builtin; refine wpList_append_all _ rfl (.tmp 92) (.tmp 93) 22 3 22 _ 1 8 rfl Try.underlying22 Try.info3c rfl w7.heap.size (.slice qg kg cg) kg (intsN X) rfl ((S.out.1.k0 ((Kept.refl (fun _ => False) wo).alloc _)).row) _ 1 (intsI [9]) rfl (src_mark _ _ _ (alloc_new wo _)) LN.out.1 LN.out.2 (Nat.le_trans S.out.2.size ((Kept.refl (fun _ => False) wo).alloc _).size) ?_; intro p9 c9 wA ho hg hn9)
          | fail)
      have KA : Hid (Kept (fun _ => False) w7 wA) := by
        have KO : Kept (fun _ => False) wo (wo.alloc (.cells #[.int .i64 9] 3)) := (Kept.refl _ _).alloc _
        have KG : Kept (fun j => blockOf qg = some j) (wo.alloc (.cells #[.int .i64 9] 3)) wA := (Kept.refl _ _).grown hg.out (fun j _ z => by rw [blockOf_own] at z; exact z)
        exact Kept.own (S.out.2.trans KO (fun _ _ z => z)) KG (fun j z => (own_lt S.out.1.row j z).1)
      clear ho hg hn9 S
      go_wp2_with fail
      refine (BYT.out wA (K7.out.trans KA.out (fun _ _ z => z))).mono ?_
      rintro o wB ⟨qh, kh, ch, eh, rfl, ⟨Lh, bh, rowh⟩, KB'⟩
      obtain ⟨ee, el⟩ := byT_doc bh DD.out
      subst ee
      subst el
      have KB : Hid (Kept (fun _ => False) w7 wB) := KA.out.trans KB' (fun _ _ z => z)
      have rh := own_room rowh.row
      have rh1 := rh.1
      have rh2 := rh.2
      unfold maxLen at rh2
      have E7 : Hid (Calls Try.prog 20 #[.slice qh kh ch, .slice qw kw2 cw] wB fun o w' => o = .returned (.bool true) ∧ Kept (fun _ => False) wB w') := by
        have := lEqual rowh.ird (RD.out wB KB.out)
        rw [decide_eq_true (rfl : (Lh.map fun x : Nat => (x : Int)) = _)] at this
        exact this
      clear rh bh rowh KB' KA
      go_wp2_with fail
      refine E7.out.mono ?_
      rintro o wC ⟨rfl, KC'⟩
      have KC : Hid (Kept (fun _ => False) w2 wC) := K7.out.trans (KB.out.trans KC' (fun _ _ z => z)) (fun _ _ z => z)
      clear E7 KB KC'
      have kq : (kg : Int) + 1 < 9223372036854775808 := by
        have l1 := LG.out
        have l2 := H.out.2.1
        omega
      go_wp2_with fail
      refine (KEPT.out wC KC.out).mono ?_
      rintro o wD ⟨rfl, KD'⟩
      have KD := W2.out.trans (KC.out.trans KD' (fun _ _ z => z)) (fun _ _ z => z)
      clear KD'
      go_wp2_with fail
      go_ret
      exact ⟨by first | rfl | simp, KD⟩
end Go.Proofs.Ytodmakcklacbfaa
