import Derived.Test.YtbangbobfeflcaaGreatDoorTPu
namespace Go.Proofs.YtbangbobfeflcaaGreatDoor
open Go.RowKit 

theorem results_tmp4 {fn : Func} {t u v x : Tmp} (h : fn.results = #[.tmp t, .tmp u, .tmp v, .tmp x]) (tmps : Array Value) (P : Program) (w : World) :
    (results fn tmps).run P w = .ok (.tuple #[tmps.getD t undef, tmps.getD u undef, tmps.getD v undef, tmps.getD x undef]) w := by
  simp [results, h]
/-- What tells tells. -/
structure TlR (w w' : World) (es : List Ev) (key : ByteArray) (Pa : Option Addr) (na Ka : Nat) (q : Option Addr) (k c : Nat) (L : List Ca) (Po : Option Addr) (no Co : Nat) (O : List Ol) : Prop where
  ta : TA w w' Pa na Ka (L.map rwC ++ vls O) q k c L none 0 0 [] Po no Co O O
  tol : ∃ e, Tol es e L
  oft : OfT es (keysR es ++ [key]) O
def TlQ (w : World) (es : List Ev) (key : ByteArray) (o : Ending) (w' : World) : Prop := ∃ Pa na Ka q k c L Po no Co O, o = .returned (.tuple #[.slice Pa na Ka, .slice q k c, .slice Po no Co, .bool true]) ∧ TlR w w' es key Pa na Ka q k c L Po no Co O
set_option maxRecDepth 100000 in
set_option maxHeartbeats 8000000 in
theorem hTells {w : World} {p0 p1 : Option Addr} {n c0 c1 : Nat} {L0 es : List Ev} {key : ByteArray} (er0 : ERd w p0 n c0 L0) (er : ERd w p1 n c1 es) (hc : L0.map Ev.core = es.map Ev.core) (nb : n ≤ 500000000) (ck : ∀ e ∈ es, KI e.client ∧ KI e.op) (sk : ∀ e ∈ es, strF e.key) (hk : strF key) (vb : ∀ e ∈ es, e.vn + 1 ≤ 140737488355328) (tz : (txtF es).length ≤ 140737488355328) (V : Tab w) (kw : KWs w) : Calls Tryz.prog 7 #[.slice p0 n c0, .slice p1 n c1, .string key] w (TlQ w es key) := by
  have ck0 : ∀ e ∈ L0, KI e.client ∧ KI e.op := core_all (P := fun e => KI e.client ∧ KI e.op) hc (fun _ => Iff.rfl) ck
  have sk0 : ∀ e ∈ L0, strF e.key := core_all (P := fun e => strF e.key) hc (fun _ => Iff.rfl) sk
  have vb0 : ∀ e ∈ L0, e.vn + 1 ≤ 140737488355328 := core_all (P := fun e => e.vn + 1 ≤ 140737488355328) hc (fun _ => Iff.rfl) vb
  have C19 : Hid (∀ U, Kept (fun _ => False) w U → Calls Tryz.prog 19 #[.slice p0 n c0] U (RetI2 fun a b w' => (a, b) = chkE es noM 0 ∧ Kept (fun _ => False) U w')) := fun U K => by
    rw [← chk_same hc]
    exact hCheck (er0.k0 K) (by omega) (fun e he => (ck0 e he).1)
  have C20 : Hid (∀ U, Kept (fun _ => False) w U → Calls Tryz.prog 20 #[.slice p1 n c1] U (RetI2 fun a b w' => (a, b) = chkE es noM 0 ∧ Kept (fun _ => False) U w')) := fun U K => hRefCheck (er.k0 K) (by omega)
  have C21 : Hid (∀ U, Kept (fun _ => False) w U → Calls Tryz.prog 21 #[.slice p0 n c0] U (RetK fun q k c e w' => ∃ L, KaR U.heap.size w' q k c L ∧ DsC w' L ∧ Tol es e L ∧ Kept (fun _ => False) U w')) := fun U K => by
    refine (hCallsD (er0.k0 K) (by omega) ck0 vb0).mono ?_
    rintro o w' ⟨q, k, c, e, rfl, ⟨L, h1, h2, h3⟩, h4⟩
    exact ⟨q, k, c, e, rfl, L, h1, h2, Tol.core h3 hc, h4⟩
  have C22 : Hid (∀ U, Kept (fun _ => False) w U → Calls Tryz.prog 22 #[.slice p1 n c1] U (RetK fun q k c e w' => ∃ L, KaR U.heap.size w' q k c L ∧ Tol es e L ∧ Kept (fun _ => False) U w')) := fun U K => by
    refine (hRefCalls (er.k0 K) (by omega) vb).mono ?_
    rintro o w' ⟨q, k, c, e, rfl, ⟨L, h1, h3⟩, h4⟩
    exact ⟨q, k, c, e, rfl, L, h1, h3, h4⟩
  have C23 : Hid (∀ U, Kept (fun _ => False) w U → Calls Tryz.prog 23 #[.slice p0 n c0] U fun o w' => o = .returned (.tuple #[.string (txtE es).1, .int .i64 (txtE es).2]) ∧ Kept (fun _ => False) U w') := fun U K => by
    rw [← txtE_same hc]
    exact hTextG (er0.k0 K) (by rw [txt_same hc]; exact tz) (V.kept K) (kw.kept K (fun z => z))
  have C24 : Hid (∀ U, Kept (fun _ => False) w U → Calls Tryz.prog 24 #[.slice p1 n c1] U fun o w' => o = .returned (.tuple #[.string (txtE es).1, .int .i64 (txtE es).2]) ∧ Kept (fun _ => False) U w') := fun U K => hRefText (er.k0 K) tz
  have C15 : Hid (∀ U, Kept (fun _ => False) w U → Calls Tryz.prog 15 #[.slice p0 n c0] U (RetKy fun p m c ks w' => ks = keysR es ∧ w'.ownsRow U.heap.size 9 1 (.slice p m c) m (strs ks) ∧ Kept (fun _ => False) U w')) := fun U K => by
    refine (hKeysO (er0.k0 K) (by omega) sk0).mono ?_
    rintro o w' ⟨p, m, c, ks, rfl, h1, h2⟩
    exact ⟨p, m, c, ks, rfl, by rw [← keysR_same hc]; exact keys_eq h1.rise (fun k hk => (h1.has k hk).2) h1.all, h2, h1.kept⟩
  have C26 : Hid (∀ U, Kept (fun _ => False) w U → Calls Tryz.prog 26 #[.slice p1 n c1] U (KeQ U es)) := fun U K => hRefKeys (er.k0 K) (by omega)
  have C16 : Hid (∀ U (s : ByteArray), Kept (fun _ => False) w U → strF s → Calls Tryz.prog 16 #[.slice p0 n c0, .string s] U fun o w' => ∃ p m c L, o = .returned (.slice p m c) ∧ Hid (PS U w' p m c L ∧ Dst w' L ∧ L.map Ev.core = (ofK es s).map Ev.core)) := fun U s K hs => by
    refine (hOfD (er0.k0 K) (by omega) sk0 vb0 hs).mono ?_
    rintro o w' ⟨p, c, L, rfl, h⟩
    exact ⟨p, _, c, L, rfl, h.out.1.ps, h.out.2.1, by rw [h.out.1.core]; exact ofK_same hc s⟩
  have C27 : Hid (∀ U (s : ByteArray), Kept (fun _ => False) w U → Calls Tryz.prog 27 #[.slice p1 n c1, .string s] U (OfQ U es s)) := fun U s K => hRefOf (er.k0 K) (by omega) vb
  have EL : Hid (es.length = n ∧ ERd w p1 n c1 es ∧ (∀ e ∈ es, ∀ x ∈ e.val, x < 256) ∧ (∀ e ∈ es, strF e.key)) := ⟨er.len, er, fun e he => (er.rd e he).bytes, sk⟩
  have HKY : Hid (strF key) := hk
  clear er0 er hc ck sk hk vb tz V kw ck0 sk0 vb0
  go_enter Tryz.func7, Tryz.ntmps7
  go_wp2_with fail
  refine (C19.out w (Kept.refl _ _)).mono ?_
  rintro o w1 ⟨a, b, rfl, hab, K1'⟩
  have K1 : Hid (Kept (fun _ => False) w w1) := K1'
  clear K1' C19
  go_wp2_with fail
  refine (C20.out w1 K1.out).mono ?_
  rintro o w2 ⟨a2, b2, rfl, hab2, K2'⟩
  obtain ⟨rfl, rfl⟩ : a2 = a ∧ b2 = b := by
    rw [← hab] at hab2
    injection hab2 with z1 z2
    exact ⟨z1, z2⟩
  have K2 : Hid (Kept (fun _ => False) w w2) := K1.out.trans K2' (fun _ _ z => z)
  clear K2' C20 hab hab2
  go_wp2_with fail
  refine (C21.out w2 K2.out).mono ?_
  rintro o w3 ⟨q, k, c, e, rfl, L, R3, D3, T3, K3'⟩
  have X3 : Hid (KaR w2.heap.size w3 q k c L ∧ DsC w3 L ∧ Tol es e L ∧ Kept (fun _ => False) w2 w3) := ⟨R3, D3, T3, K3'⟩
  have K3 : Hid (Kept (fun _ => False) w w3) := K2.out.trans K3' (fun _ _ z => z)
  clear R3 D3 T3 K3' C21
  go_wp2_with fail
  refine (C22.out w3 K3.out).mono ?_
  rintro o w4 ⟨q4, k4, c4, e4, rfl, L4, R4, T4, K4'⟩
  obtain ⟨ee, ec⟩ := X3.out.2.2.1.same T4
  have ek : k4 = k := by
    have z := congrArg List.length ec
    rw [List.length_map, List.length_map, X3.out.1.len, R4.len] at z
    exact z.symm
  subst ek
  subst ee
  have X4 : Hid (KaR w3.heap.size w4 q4 k4 c4 L4 ∧ L.map Ca.cc = L4.map Ca.cc ∧ Tol es e L4) := ⟨R4, ec, T4⟩
  have K4 : Hid (Kept (fun _ => False) w w4 ∧ Kept (fun _ => False) w3 w4) := ⟨K3.out.trans K4' (fun _ _ z => z), K4'⟩
  clear R4 T4 K4' ec C22
  go_wp2_with fail
  refine (C23.out w4 K4.out.1).mono ?_
  rintro o w5 ⟨rfl, K5'⟩
  have K5 : Hid (Kept (fun _ => False) w w5 ∧ Kept (fun _ => False) w4 w5) := ⟨K4.out.1.trans K5' (fun _ _ z => z), K5'⟩
  clear K5' C23
  go_wp2_with fail
  refine (C24.out w5 K5.out.1).mono ?_
  rintro o w6 ⟨rfl, K6'⟩
  have K6 : Hid (Kept (fun _ => False) w w6 ∧ Kept (fun _ => False) w5 w6) := ⟨K5.out.1.trans K6' (fun _ _ z => z), K6'⟩
  clear K6' C24
  go_wp2_with fail
  refine (C15.out w6 K6.out.1).mono ?_
  rintro o w7 ⟨pk, nk, cck, ks, rfl, hks, R7, K7'⟩
  have X7 : Hid (ks = keysR es ∧ w7.ownsRow w6.heap.size 9 1 (.slice pk nk cck) nk (strs ks)) := ⟨hks, R7⟩
  have K7 : Hid (Kept (fun _ => False) w w7 ∧ Kept (fun _ => False) w6 w7) := ⟨K6.out.1.trans K7' (fun _ _ z => z), K7'⟩
  clear R7 K7' hks C15
  have C8 : Hid (Calls Tryz.prog 8 #[.slice q k4 c, .slice q4 k4 c4] w7 fun o w' => o = .returned (.bool true) ∧ Kept (fun _ => False) w7 w') := by
    have KK : Kept (fun _ => False) w4 w7 := (K5.out.2.trans K6.out.2 (fun _ _ z => z)).trans K7.out.2 (fun _ _ z => z)
    exact hSameCalls (((X3.out.1.k0 K4.out.2).k0 KK).crd (X3.out.2.2.1.bytes EL.out.2.1)) ((X4.out.1.k0 KK).crd (X4.out.2.2.bytes EL.out.2.1)) X4.out.2.1
  have q1 : (a2 != a2) = false := by simp
  have q2 : (b2 != b2) = false := by simp
  have q3 : (e != e) = false := by simp
  go_wp2_with fail
  refine C8.out.mono ?_
  rintro o w8 ⟨rfl, K8'⟩
  have K8 : Hid (Kept (fun _ => False) w w8 ∧ Kept (fun _ => False) w7 w8) := ⟨K7.out.1.trans K8' (fun _ _ z => z), K8'⟩
  clear K8' C8
  have q4 : ((txtE es).2 != (txtE es).2) = false := by simp
  go_wp2_with fail
  refine (C26.out w8 K8.out.1).mono ?_
  rintro o w9 ⟨pr, kr, ccr, rfl, SKr⟩
  have ek : kr = nk := by
    have z1 := SKr.len
    have z2 := X7.out.2.1
    rw [strs_lenK, X7.out.1] at z2
    omega
  subst ek
  have K9 : Hid (Kept (fun _ => False) w w9 ∧ Kept (fun _ => False) w8 w9) := ⟨K8.out.1.trans SKr.kept (fun _ _ z => z), SKr.kept⟩
  have KNL : ks.length = kr ∧ kr ≤ n := by
    have z1 := SKr.len
    have z2 := keys_le es
    have z3 := EL.out.1
    rw [X7.out.1]
    omega
  obtain ⟨ksl, krn⟩ := KNL
  have C25 : Hid (Calls Tryz.prog 25 #[.slice pk kr cck, .slice pr kr ccr] w9 fun o w' => o = .returned (.bool true) ∧ Kept (fun _ => False) w9 w') := by
    refine hNames (ks := ks) (str_of (K9.out.2.owns (K8.out.2.owns X7.out.2 (fun _ _ z => z)) (fun _ _ z => z))) ?_ ksl (by omega)
    rw [X7.out.1]
    exact str_of SKr.row
  clear SKr C26
  go_wp2_with fail
  refine C25.out.mono ?_
  rintro o w10 ⟨rfl, K10'⟩
  have KX : Kept (fun _ => False) w3 w10 := ((((((K4.out.2.trans K5.out.2 (fun _ _ z => z)).trans K6.out.2 (fun _ _ z => z)).trans K7.out.2 (fun _ _ z => z)).trans K8.out.2 (fun _ _ z => z)).trans K9.out.2 (fun _ _ z => z)).trans K10' (fun _ _ z => z))
  have K10 : Hid (Kept (fun _ => False) w w10) := K9.out.1.trans K10' (fun _ _ z => z)
  have A0 : Hid (TA w w10 none 0 0 ((L.take 0).map rwC) q k4 c L pk kr cck ks none 0 0 [] []) := by
    refine TA.start ((X3.out.1.k0 KX).mono K2.out.size) X3.out.2.1.1 ?_ K10.out
    exact owns_mono (((K8.out.2.trans K9.out.2 (fun _ _ z => z)).trans K10' (fun _ _ z => z)).owns X7.out.2 (fun _ _ z => z)) K6.out.1.size
  have TOL : Hid (Tol es e L ∧ L.length = k4 ∧ k4 ≤ n ∧ ks = keysR es) := by
    have z1 := X3.out.1.len
    have z2 := X3.out.2.2.1.len
    have z3 := EL.out.1
    exact ⟨X3.out.2.2.1, z1, by omega, X7.out.1⟩
  have kn := TOL.out.2.2.1
  clear C25 K10' KX K1 K2 K3 K4 K5 K6 K7 K8 K9 X3 X4 X7 q1 q2 q3 q4
  go_upto_region 13 with fail
  go_loopw [23, 25] (fun u23 u25 wr => ∃ (i : Nat) (Pa : Option Addr) (Ka : Nat), u23 = .slice Pa i Ka ∧ u25 = .int .i64 (i : Int) ∧ i ≤ k4 ∧ Hid (TA w wr Pa i Ka ((L.take i).map rwC) q k4 c L pk kr cck ks none 0 0 [] [])) (fun _ u25 _ => k4 - (intOf u25).toNat)
  case atStart => exact ⟨0, none, 0, rfl, rfl, Nat.zero_le _, A0⟩
  case round =>
    clear A0
    obtain ⟨i, Pa, Ka, rfl, rfl, hi, S⟩ := hrel
    obtain ⟨wo, hwo⟩ : ∃ wo, wo = wr := ⟨_, rfl⟩
    rw [← hwo] at S ⊢
    clear hwo
    obtain ⟨rr1, rr2⟩ := own_room S.out.cal.row
    unfold maxLen at rr2
    by_cases hik : i < k4
    · have lti : (i : Int) < (k4 : Int) := by omega
      obtain ⟨b, off, x, rfl, hx, -, -, -, -, d4, -, -, -, -, -, -, -⟩ := (S.out.cal.crd (TOL.out.1.bytes EL.out.2.1)).at hik
      have HX : Hid (L[i]? = some x) := hx
      obtain ⟨X, hX⟩ : ∃ X, wo.alloc (.cells #[.slice x.va x.vn x.vc] 34) = X := ⟨_, rfl⟩
      have SR : Hid (Src Tryz.prog 1 24 (.slice (some ⟨wo.heap.size, 0, none⟩) 1 1) 1 [.slice x.va x.vn x.vc] X) := by rw [← hX]; exact src_sl Tryz.underlying24 (alloc_new _ _) rfl
      have SX : Hid (TA w X Pa i Ka ((L.take i).map rwC) (some ⟨b, off, none⟩) k4 c L pk kr cck ks none 0 0 [] []) := S.out.k0 (by rw [← hX]; exact (Kept.refl _ _).alloc _)
      have EX : Hid (wo.alloc (.cells #[.slice x.va x.vn x.vc] 34) = X) := hX
      have BB : Hid (w.heap.size ≤ X.heap.size) := SX.out.kept.size
      clear hX hx S
      go_wp2_with
        (first
          | (at_builtin; rw [EX.out]; refine wpList_append_all _ rfl (.tmp 105) (.tmp 111) 24 34 24 _ 1 24 rfl Tryz.underlying24 Tryz.info34c rfl w.heap.size (.slice Pa i Ka) i (slv ((L.take i).map rwC)) rfl SX.out.all _ 1 [.slice x.va x.vn x.vc] rfl SR.out (by unfold maxLen; omega) (by omega) BB.out ?_; intro p9 c9 w9 ho hg hn9)
          | fail)
      have NX : Hid (TA w w9 p9 (i + 1) c9 ((L.take (i + 1)).map rwC) (some ⟨b, off, none⟩) k4 c L pk kr cck ks none 0 0 [] []) := by
        rw [rwC_take HX.out]
        exact SX.out.growA (r := rwC x) ho.out hg.out
      clear ho hg hn9 SX SR EX BB d4
      go_roundw
      case rel => exact ⟨i + 1, p9, c9, rfl, by go_num, by omega, NX⟩
      case measure => simp [intOf] <;> omega
    · have lti : ¬ (i : Int) < (k4 : Int) := by omega
      have S0 : Hid (TA w wo Pa i Ka ((L.take i).map rwC) q k4 c L pk kr cck ks none 0 0 [] [] ∧ OfT es ((ks ++ [key]).take 0) [] ∧ (L.take i).map rwC = L.map rwC ++ vls []) := by
        refine ⟨S.out, rfl, ?_⟩
        rw [List.take_of_length_le (by have z := TOL.out.2.1; omega)]
        simp [vls]
      clear S
      go_upto_region 17 with fail
      go_loopw [23, 24, 26, 27, 28, 29] (fun u23 u24 u26 _ _ _ wr => ∃ (i : Nat) (Pa : Option Addr) (na Ka : Nat) (RA : List Rw) (Po : Option Addr) (Co : Nat) (O : List Ol), u23 = .slice Pa na Ka ∧ u24 = .slice Po i Co ∧ u26 = .int .i64 (i : Int) ∧ i ≤ kr + 1 ∧ Hid (TA w wr Pa na Ka RA q k4 c L pk kr cck ks Po i Co O O ∧ OfT es ((ks ++ [key]).take i) O ∧ RA = L.map rwC ++ vls O)) (fun _ _ u26 _ _ _ _ => kr + 1 - (intOf u26).toNat)
      case atStart => exact ⟨0, Pa, i, Ka, _, none, 0, [], rfl, rfl, rfl, Nat.zero_le _, S0⟩
      case round =>
        clear S0
        clear hi lti hik
        obtain ⟨i, Pa, na, Ka, RA, Po, Co, O, rfl, rfl, rfl, hi, S⟩ := hrel
        obtain ⟨wo, hwo⟩ : ∃ wo, wo = wr := ⟨_, rfl⟩
        rw [← hwo] at S ⊢
        clear hwo
        obtain ⟨kk1, kk2⟩ := own_room S.out.1.key
        unfold maxLen at kk2
        by_cases hik : i ≤ kr
        · have lei : (i : Int) ≤ (kr : Int) := by omega
          by_cases hir : i < kr
          · have lti : (i : Int) < (kr : Int) := by omega
            obtain ⟨nm, hnm⟩ : ∃ nm, ks[i]? = some nm := ⟨_, List.getElem?_eq_getElem (by omega)⟩
            obtain ⟨g, rfl, dk⟩ := str_of S.out.1.key i nm hnm
            have HN : Hid (((i < ks.length ∧ ks[i]? = some nm) ∨ (i = ks.length ∧ nm = key)) ∧ strF nm) := by
              refine ⟨.inl ⟨by omega, hnm⟩, ?_⟩
              have m := List.mem_of_getElem? hnm
              rw [TOL.out.2.2.2] at m
              obtain ⟨e9, he9, z⟩ := (keysR_mem nm es).1 m
              rw [← z]
              exact EL.out.2.2.2 e9 he9
            clear hnm
            have KW : Hid (Kept (fun _ => False) w wo) := S.out.1.kept
            go_wp2_with fail
            refine (C16.out wo nm KW.out HN.out.2).mono ?_
            rintro o wa ⟨xp, xm, xc, xl, rfl, Q⟩
            have Ta : Hid (TA w wa Pa na Ka RA q k4 c L (some ⟨g, 0, none⟩) kr cck ks Po i Co O (O ++ [⟨xp, xm, xc, xl⟩]) ∧ PS wo wa xp xm xc xl) := ⟨S.out.1.newO (x := ⟨xp, xm, xc, xl⟩) Q.out.1 Q.out.2.1, Q.out.1⟩
            have XO : Hid (xl.map Ev.core = (ofK es nm).map Ev.core ∧ OfT es ((ks ++ [key]).take (i + 1)) (O ++ [⟨xp, xm, xc, xl⟩]) ∧ xl.length = xm ∧ RA = L.map rwC ++ vls O) := by
              refine ⟨Q.out.2.2, ?_, Q.out.1.row.len, S.out.2.2⟩
              rw [names_take (k := nm) HN.out.1]
              exact S.out.2.1.snoc Q.out.2.2
            clear Q S
            go_wp2_with fail
            refine (C27.out wa nm Ta.out.1.kept).mono ?_
            rintro o wb ⟨yp, ym, yc, yl, rfl, PY, hy⟩
            have em : ym = xm := by
              have z1 := core_len hy
              have z2 := core_len XO.out.1
              have z3 := PY.row.len
              have z4 := XO.out.2.2.1
              omega
            subst em
            have C9 : Hid (Calls Tryz.prog 9 #[.slice xp ym xc, .slice yp ym yc] wb fun o w' => o = .returned (.bool true) ∧ Kept (fun _ => False) wb w') := by
              have ob : ∀ e ∈ ofK es nm, ∀ x ∈ e.val, x < 256 := fun e he => EL.out.2.2.1 e (List.mem_filter.1 he).1
              exact hEvents ((Ta.out.2.erd XO.out.1 ob).k0 PY.kept) (PY.erd hy ob) (XO.out.1.trans hy.symm)
            have Tb : Hid (TA w wb Pa na Ka RA q k4 c L (some ⟨g, 0, none⟩) kr cck ks Po i Co O (O ++ [⟨xp, ym, xc, xl⟩])) := Ta.out.1.k0 PY.kept
            clear PY hy Ta
            go_wp2_with fail
            refine C9.out.mono ?_
            rintro o wc ⟨rfl, Kc⟩
            have T0 : Hid (TA w wc Pa na Ka RA q k4 c L (some ⟨g, 0, none⟩) kr cck ks Po i Co O (O ++ [⟨xp, ym, xc, xl⟩]) ∧ RA = L.map rwC ++ vls O ++ (xl.take 0).map rwE) := ⟨Tb.out.k0 Kc, by rw [XO.out.2.2.2]; simp⟩
            have VB : Hid ((vls O).length + ym ≤ 2 * n) := by
              have z := XO.out.2.1.len
              rw [flat_snoc, List.length_append, List.length_map] at z
              have z2 := ofs_le es key (i + 1)
              rw [← TOL.out.2.2.2] at z2
              have z3 := XO.out.2.2.1
              have z4 := EL.out.1
              show (vls O).length + ym ≤ 2 * n
              have z5 : (Ol.mk xp ym xc xl).l.length = ym := z3
              omega
            clear Tb C9 Kc KW
            go_upto_region 26 with fail
            go_loopw [23, 29] (fun u23 u29 wr => ∃ (j : Nat) (Pa : Option Addr) (na Ka : Nat) (RA : List Rw), u23 = .slice Pa na Ka ∧ u29 = .int .i64 (j : Int) ∧ j ≤ ym ∧ Hid (TA w wr Pa na Ka RA q k4 c L (some ⟨g, 0, none⟩) kr cck ks Po i Co O (O ++ [⟨xp, ym, xc, xl⟩]) ∧ RA = L.map rwC ++ vls O ++ (xl.take j).map rwE)) (fun _ u29 _ => ym - (intOf u29).toNat)
            case atStart => exact ⟨0, Pa, na, Ka, RA, rfl, rfl, Nat.zero_le _, T0⟩
            case round =>
              clear T0
              obtain ⟨j, Pa, na, Ka, RA, rfl, rfl, hj, S⟩ := hrel
              obtain ⟨wd, hwd⟩ : ∃ wd, wd = wr := ⟨_, rfl⟩
              rw [← hwd] at S ⊢
              clear hwd
              have xin : (Ol.mk xp ym xc xl) ∈ O ++ [⟨xp, ym, xc, xl⟩] := List.mem_append_right _ (List.mem_singleton.2 rfl)
              obtain ⟨rr1, rr2⟩ := own_room (S.out.1.ev _ xin).1.row
              unfold maxLen at rr2
              have rr1 : ym ≤ xc := rr1
              have rr2 : xc ≤ 2 ^ 63 - 1 := rr2
              by_cases hjm : j < ym
              · have ltj : (j : Int) < (ym : Int) := by omega
                have hrd : ∀ e ∈ xl, Reads wd e.va e.vn e.vc e.val := fun e he => reads_own ((S.out.1.ev _ xin).2 e he) (core_all (P := fun e => ∀ x ∈ e.val, x < 256) XO.out.1 (fun _ => Iff.rfl) (fun e he => EL.out.2.2.1 e (List.mem_filter.1 he).1) e he)
                obtain ⟨b, off, x, rfl, hx, -, -, -, -, -, d5, -, -, -, -⟩ := ((S.out.1.ev _ xin).1.erd hrd).at (show j < ym from hjm)
                have HX : Hid (xl[j]? = some x) := hx
                have nb2 : na ≤ 3 * n := by
                  have z := S.out.1.all.1
                  unfold slv at z
                  rw [List.length_map, S.out.2, List.length_append, List.length_append, List.length_map, List.length_map, List.length_take] at z
                  have z2 := VB.out
                  have z3 := TOL.out.2.1
                  omega
                obtain ⟨X, hX⟩ : ∃ X, wd.alloc (.cells #[.slice x.va x.vn x.vc] 34) = X := ⟨_, rfl⟩
                have SR : Hid (Src Tryz.prog 1 24 (.slice (some ⟨wd.heap.size, 0, none⟩) 1 1) 1 [.slice x.va x.vn x.vc] X) := by rw [← hX]; exact src_sl Tryz.underlying24 (alloc_new _ _) rfl
                have SX : Hid (TA w X Pa na Ka RA q k4 c L (some ⟨g, 0, none⟩) kr cck ks Po i Co O (O ++ [⟨some ⟨b, off, none⟩, ym, xc, xl⟩]) ∧ RA = L.map rwC ++ vls O ++ (xl.take j).map rwE) := ⟨S.out.1.k0 (by rw [← hX]; exact (Kept.refl _ _).alloc _), S.out.2⟩
                have EX : Hid (wd.alloc (.cells #[.slice x.va x.vn x.vc] 34) = X) := hX
                have BB : Hid (w.heap.size ≤ X.heap.size) := SX.out.1.kept.size
                clear hX hrd hx S
                go_wp2_with
                  (first
                    | (at_builtin; rw [EX.out]; refine wpList_append_all _ rfl (.tmp 143) (.tmp 149) 24 34 24 _ 1 24 rfl Tryz.underlying24 Tryz.info34c rfl w.heap.size (.slice Pa na Ka) na (slv RA) rfl SX.out.1.all _ 1 [.slice x.va x.vn x.vc] rfl SR.out (by unfold maxLen; omega) (by omega) BB.out ?_; intro p9 c9 w9 ho hg hn9)
                    | fail)
                have NX : Hid (TA w w9 p9 (na + 1) c9 (RA ++ [rwE x]) q k4 c L (some ⟨g, 0, none⟩) kr cck ks Po i Co O (O ++ [⟨some ⟨b, off, none⟩, ym, xc, xl⟩]) ∧ RA ++ [rwE x] = L.map rwC ++ vls O ++ (xl.take (j + 1)).map rwE) := ⟨SX.out.1.growA (r := rwE x) ho.out hg.out, by rw [rwE_take HX.out, SX.out.2, List.append_assoc]⟩
                clear ho hg hn9 SX SR EX BB d5
                go_roundw
                case rel => exact ⟨j + 1, p9, na + 1, c9, _, rfl, by go_num, by omega, NX⟩
                case measure => simp [intOf] <;> omega
              · have ltj : ¬ (j : Int) < (ym : Int) := by omega
                obtain ⟨X, hX⟩ : ∃ X, wd.alloc (.cells #[.slice xp ym xc] 22) = X := ⟨_, rfl⟩
                have SR : Hid (Src Tryz.prog 1 26 (.slice (some ⟨wd.heap.size, 0, none⟩) 1 1) 1 [.slice xp ym xc] X) := by rw [← hX]; exact src_sl Tryz.underlying26 (alloc_new _ _) rfl
                have SX : Hid (TA w X Pa na Ka RA q k4 c L (some ⟨g, 0, none⟩) kr cck ks Po i Co O (O ++ [⟨xp, ym, xc, xl⟩]) ∧ RA = L.map rwC ++ vls (O ++ [⟨xp, ym, xc, xl⟩])) := by
                  refine ⟨S.out.1.k0 (by rw [← hX]; exact (Kept.refl _ _).alloc _), ?_⟩
                  rw [S.out.2, flat_snoc, ← List.append_assoc]
                  rw [List.take_of_length_le (by have z := XO.out.2.2.1; omega)]
                have EX : Hid (wd.alloc (.cells #[.slice xp ym xc] 22) = X) := hX
                have BB : Hid (w.heap.size ≤ X.heap.size) := SX.out.1.kept.size
                clear hX S
                go_wp2_with
                  (first
                    | (at_builtin; rw [EX.out]; refine wpList_append_all _ rfl (.tmp 151) (.tmp 153) 26 22 26 _ 1 24 rfl Tryz.underlying26 Tryz.info22c rfl w.heap.size (.slice Po i Co) i (slv (O.map rwO)) rfl SX.out.1.ofs _ 1 [.slice xp ym xc] rfl SR.out (by unfold maxLen; omega) (by omega) BB.out ?_; intro p9 c9 w9 ho hg hn9)
                    | fail)
                have NX : Hid (TA w w9 Pa na Ka RA q k4 c L (some ⟨g, 0, none⟩) kr cck ks p9 (i + 1) c9 (O ++ [⟨xp, ym, xc, xl⟩]) (O ++ [⟨xp, ym, xc, xl⟩]) ∧ OfT es ((ks ++ [key]).take (i + 1)) (O ++ [⟨xp, ym, xc, xl⟩]) ∧ RA = L.map rwC ++ vls (O ++ [⟨xp, ym, xc, xl⟩])) := ⟨SX.out.1.growO (x := ⟨xp, ym, xc, xl⟩) ho.out hg.out, XO.out.2.1, SX.out.2⟩
                clear ho hg hn9 SX SR EX BB XO VB
                go_roundw
                case rel => exact ⟨i + 1, Pa, na, Ka, RA, p9, c9, O ++ [⟨xp, ym, xc, xl⟩], rfl, rfl, by go_num, by omega, NX⟩
                case measure => simp [intOf] <;> omega
          · have lti : ¬ (i : Int) < (kr : Int) := by omega
            have KW : Hid (Kept (fun _ => False) w wo) := S.out.1.kept
            go_wp2_with fail
            refine (C16.out wo key KW.out HKY.out).mono ?_
            rintro o wa ⟨xp, xm, xc, xl, rfl, Q⟩
            have Ta : Hid (TA w wa Pa na Ka RA q k4 c L pk kr cck ks Po i Co O (O ++ [⟨xp, xm, xc, xl⟩]) ∧ PS wo wa xp xm xc xl) := ⟨S.out.1.newO (x := ⟨xp, xm, xc, xl⟩) Q.out.1 Q.out.2.1, Q.out.1⟩
            have XO : Hid (xl.map Ev.core = (ofK es key).map Ev.core ∧ OfT es ((ks ++ [key]).take (i + 1)) (O ++ [⟨xp, xm, xc, xl⟩]) ∧ xl.length = xm ∧ RA = L.map rwC ++ vls O) := by
              refine ⟨Q.out.2.2, ?_, Q.out.1.row.len, S.out.2.2⟩
              rw [names_take (k := key) (.inr ⟨by omega, rfl⟩)]
              exact S.out.2.1.snoc Q.out.2.2
            clear Q S
            go_wp2_with fail
            refine (C27.out wa key Ta.out.1.kept).mono ?_
            rintro o wb ⟨yp, ym, yc, yl, rfl, PY, hy⟩
            have em : ym = xm := by
              have z1 := core_len hy
              have z2 := core_len XO.out.1
              have z3 := PY.row.len
              have z4 := XO.out.2.2.1
              omega
            subst em
            have C9 : Hid (Calls Tryz.prog 9 #[.slice xp ym xc, .slice yp ym yc] wb fun o w' => o = .returned (.bool true) ∧ Kept (fun _ => False) wb w') := by
              have ob : ∀ e ∈ ofK es key, ∀ x ∈ e.val, x < 256 := fun e he => EL.out.2.2.1 e (List.mem_filter.1 he).1
              exact hEvents ((Ta.out.2.erd XO.out.1 ob).k0 PY.kept) (PY.erd hy ob) (XO.out.1.trans hy.symm)
            have Tb : Hid (TA w wb Pa na Ka RA q k4 c L pk kr cck ks Po i Co O (O ++ [⟨xp, ym, xc, xl⟩])) := Ta.out.1.k0 PY.kept
            clear PY hy Ta
            go_wp2_with fail
            refine C9.out.mono ?_
            rintro o wc ⟨rfl, Kc⟩
            have T0 : Hid (TA w wc Pa na Ka RA q k4 c L pk kr cck ks Po i Co O (O ++ [⟨xp, ym, xc, xl⟩]) ∧ RA = L.map rwC ++ vls O ++ (xl.take 0).map rwE) := ⟨Tb.out.k0 Kc, by rw [XO.out.2.2.2]; simp⟩
            have VB : Hid ((vls O).length + ym ≤ 2 * n) := by
              have z := XO.out.2.1.len
              rw [flat_snoc, List.length_append, List.length_map] at z
              have z2 := ofs_le es key (i + 1)
              rw [← TOL.out.2.2.2] at z2
              have z3 := XO.out.2.2.1
              have z4 := EL.out.1
              show (vls O).length + ym ≤ 2 * n
              have z5 : (Ol.mk xp ym xc xl).l.length = ym := z3
              omega
            clear Tb C9 Kc KW
            go_upto_region 26 with fail
            go_loopw [23, 29] (fun u23 u29 wr => ∃ (j : Nat) (Pa : Option Addr) (na Ka : Nat) (RA : List Rw), u23 = .slice Pa na Ka ∧ u29 = .int .i64 (j : Int) ∧ j ≤ ym ∧ Hid (TA w wr Pa na Ka RA q k4 c L pk kr cck ks Po i Co O (O ++ [⟨xp, ym, xc, xl⟩]) ∧ RA = L.map rwC ++ vls O ++ (xl.take j).map rwE)) (fun _ u29 _ => ym - (intOf u29).toNat)
            case atStart => exact ⟨0, Pa, na, Ka, RA, rfl, rfl, Nat.zero_le _, T0⟩
            case round =>
              clear T0
              obtain ⟨j, Pa, na, Ka, RA, rfl, rfl, hj, S⟩ := hrel
              obtain ⟨wd, hwd⟩ : ∃ wd, wd = wr := ⟨_, rfl⟩
              rw [← hwd] at S ⊢
              clear hwd
              have xin : (Ol.mk xp ym xc xl) ∈ O ++ [⟨xp, ym, xc, xl⟩] := List.mem_append_right _ (List.mem_singleton.2 rfl)
              obtain ⟨rr1, rr2⟩ := own_room (S.out.1.ev _ xin).1.row
              unfold maxLen at rr2
              have rr1 : ym ≤ xc := rr1
              have rr2 : xc ≤ 2 ^ 63 - 1 := rr2
              by_cases hjm : j < ym
              · have ltj : (j : Int) < (ym : Int) := by omega
                have hrd : ∀ e ∈ xl, Reads wd e.va e.vn e.vc e.val := fun e he => reads_own ((S.out.1.ev _ xin).2 e he) (core_all (P := fun e => ∀ x ∈ e.val, x < 256) XO.out.1 (fun _ => Iff.rfl) (fun e he => EL.out.2.2.1 e (List.mem_filter.1 he).1) e he)
                obtain ⟨b, off, x, rfl, hx, -, -, -, -, -, d5, -, -, -, -⟩ := ((S.out.1.ev _ xin).1.erd hrd).at (show j < ym from hjm)
                have HX : Hid (xl[j]? = some x) := hx
                have nb2 : na ≤ 3 * n := by
                  have z := S.out.1.all.1
                  unfold slv at z
                  rw [List.length_map, S.out.2, List.length_append, List.length_append, List.length_map, List.length_map, List.length_take] at z
                  have z2 := VB.out
                  have z3 := TOL.out.2.1
                  omega
                obtain ⟨X, hX⟩ : ∃ X, wd.alloc (.cells #[.slice x.va x.vn x.vc] 34) = X := ⟨_, rfl⟩
                have SR : Hid (Src Tryz.prog 1 24 (.slice (some ⟨wd.heap.size, 0, none⟩) 1 1) 1 [.slice x.va x.vn x.vc] X) := by rw [← hX]; exact src_sl Tryz.underlying24 (alloc_new _ _) rfl
                have SX : Hid (TA w X Pa na Ka RA q k4 c L pk kr cck ks Po i Co O (O ++ [⟨some ⟨b, off, none⟩, ym, xc, xl⟩]) ∧ RA = L.map rwC ++ vls O ++ (xl.take j).map rwE) := ⟨S.out.1.k0 (by rw [← hX]; exact (Kept.refl _ _).alloc _), S.out.2⟩
                have EX : Hid (wd.alloc (.cells #[.slice x.va x.vn x.vc] 34) = X) := hX
                have BB : Hid (w.heap.size ≤ X.heap.size) := SX.out.1.kept.size
                clear hX hrd hx S
                go_wp2_with
                  (first
                    | (at_builtin; rw [EX.out]; refine wpList_append_all _ rfl (.tmp 143) (.tmp 149) 24 34 24 _ 1 24 rfl Tryz.underlying24 Tryz.info34c rfl w.heap.size (.slice Pa na Ka) na (slv RA) rfl SX.out.1.all _ 1 [.slice x.va x.vn x.vc] rfl SR.out (by unfold maxLen; omega) (by omega) BB.out ?_; intro p9 c9 w9 ho hg hn9)
                    | fail)
                have NX : Hid (TA w w9 p9 (na + 1) c9 (RA ++ [rwE x]) q k4 c L pk kr cck ks Po i Co O (O ++ [⟨some ⟨b, off, none⟩, ym, xc, xl⟩]) ∧ RA ++ [rwE x] = L.map rwC ++ vls O ++ (xl.take (j + 1)).map rwE) := ⟨SX.out.1.growA (r := rwE x) ho.out hg.out, by rw [rwE_take HX.out, SX.out.2, List.append_assoc]⟩
                clear ho hg hn9 SX SR EX BB d5
                go_roundw
                case rel => exact ⟨j + 1, p9, na + 1, c9, _, rfl, by go_num, by omega, NX⟩
                case measure => simp [intOf] <;> omega
              · have ltj : ¬ (j : Int) < (ym : Int) := by omega
                obtain ⟨X, hX⟩ : ∃ X, wd.alloc (.cells #[.slice xp ym xc] 22) = X := ⟨_, rfl⟩
                have SR : Hid (Src Tryz.prog 1 26 (.slice (some ⟨wd.heap.size, 0, none⟩) 1 1) 1 [.slice xp ym xc] X) := by rw [← hX]; exact src_sl Tryz.underlying26 (alloc_new _ _) rfl
                have SX : Hid (TA w X Pa na Ka RA q k4 c L pk kr cck ks Po i Co O (O ++ [⟨xp, ym, xc, xl⟩]) ∧ RA = L.map rwC ++ vls (O ++ [⟨xp, ym, xc, xl⟩])) := by
                  refine ⟨S.out.1.k0 (by rw [← hX]; exact (Kept.refl _ _).alloc _), ?_⟩
                  rw [S.out.2, flat_snoc, ← List.append_assoc]
                  rw [List.take_of_length_le (by have z := XO.out.2.2.1; omega)]
                have EX : Hid (wd.alloc (.cells #[.slice xp ym xc] 22) = X) := hX
                have BB : Hid (w.heap.size ≤ X.heap.size) := SX.out.1.kept.size
                clear hX S
                go_wp2_with
                  (first
                    | (at_builtin; rw [EX.out]; refine wpList_append_all _ rfl (.tmp 151) (.tmp 153) 26 22 26 _ 1 24 rfl Tryz.underlying26 Tryz.info22c rfl w.heap.size (.slice Po i Co) i (slv (O.map rwO)) rfl SX.out.1.ofs _ 1 [.slice xp ym xc] rfl SR.out (by unfold maxLen; omega) (by omega) BB.out ?_; intro p9 c9 w9 ho hg hn9)
                    | fail)
                have NX : Hid (TA w w9 Pa na Ka RA q k4 c L pk kr cck ks p9 (i + 1) c9 (O ++ [⟨xp, ym, xc, xl⟩]) (O ++ [⟨xp, ym, xc, xl⟩]) ∧ OfT es ((ks ++ [key]).take (i + 1)) (O ++ [⟨xp, ym, xc, xl⟩]) ∧ RA = L.map rwC ++ vls (O ++ [⟨xp, ym, xc, xl⟩])) := ⟨SX.out.1.growO (x := ⟨xp, ym, xc, xl⟩) ho.out hg.out, XO.out.2.1, SX.out.2⟩
                clear ho hg hn9 SX SR EX BB XO VB
                go_roundw
                case rel => exact ⟨i + 1, Pa, na, Ka, RA, p9, c9, O ++ [⟨xp, ym, xc, xl⟩], rfl, rfl, by go_num, by omega, NX⟩
                case measure => simp [intOf] <;> omega
        · have lei : ¬ (i : Int) ≤ (kr : Int) := by omega
          have ei : i = kr + 1 := by omega
          subst ei
          have F0 : Hid ((∃ ks', TA w wo Pa na Ka RA q k4 c L pk kr cck ks' Po (kr + 1) Co O O) ∧ OfT es (keysR es ++ [key]) O ∧ RA = L.map rwC ++ vls O) := by
            refine ⟨⟨ks, S.out.1⟩, ?_, S.out.2.2⟩
            have z := S.out.2.1
            rw [List.take_of_length_le (by rw [List.length_append, List.length_singleton]; omega), TOL.out.2.2.2] at z
            exact z
          clear S C16 C27
          go_upto_region 31 with fail
          go_loopw [30] (fun u30 wr => ∃ j : Nat, u30 = .int .i64 (j : Int) ∧ j ≤ kr ∧ Hid ((∃ ks', TA w wr Pa na Ka RA q k4 c L pk kr cck ks' Po (kr + 1) Co O O) ∧ OfT es (keysR es ++ [key]) O ∧ RA = L.map rwC ++ vls O)) (fun u30 _ => kr - (intOf u30).toNat)
          case atStart => exact ⟨0, rfl, Nat.zero_le _, F0⟩
          case round =>
            clear F0
            obtain ⟨j, rfl, hj, S⟩ := hrel
            obtain ⟨wd, hwd⟩ : ∃ wd, wd = wr := ⟨_, rfl⟩
            rw [← hwd] at S ⊢
            clear hwd
            obtain ⟨⟨ks', T⟩, S1⟩ := S.out
            have T : Hid (TA w wd Pa na Ka RA q k4 c L pk kr cck ks' Po (kr + 1) Co O O) := T
            have S1 : Hid (OfT es (keysR es ++ [key]) O ∧ RA = L.map rwC ++ vls O) := S1
            clear S
            by_cases hjk : j < kr
            · have ltj : (j : Int) < (kr : Int) := by omega
              have kl : ks'.length = kr := by
                have z := T.out.key.1
                rw [strs_lenK] at z
                omega
              obtain ⟨nm, hnm⟩ : ∃ nm, ks'[j]? = some nm := ⟨_, List.getElem?_eq_getElem (by omega)⟩
              obtain ⟨g, rfl, dk⟩ := str_of T.out.key j nm hnm
              obtain ⟨cs, hcs⟩ := own_type T.out.key g rfl
              have df := soft_blk hcs j
              have NX : Hid ((∃ ks', TA w (wd.setCell ⟨g, j, none⟩ (.string ⟨#[115, 109, 117, 100, 103, 101, 100]⟩)) Pa na Ka RA q k4 c L (some ⟨g, 0, none⟩) kr cck ks' Po (kr + 1) Co O O) ∧ OfT es (keysR es ++ [key]) O ∧ RA = L.map rwC ++ vls O) := ⟨⟨_, T.out.setK j ⟨#[115, 109, 117, 100, 103, 101, 100]⟩⟩, S1.out⟩
              clear hcs hnm T
              go_wp2_with fail
              go_roundw
              case rel => exact ⟨j + 1, by go_num, by omega, NX⟩
              case measure => simp [intOf] <;> omega
            · have ltj : ¬ (j : Int) < (kr : Int) := by omega
              obtain ⟨X, hX⟩ : ∃ X, wd.alloc (.cells #[.string ⟨#[115, 109, 117, 100, 103, 101, 100]⟩] 9) = X := ⟨_, rfl⟩
              have SR : Hid (Src Tryz.prog 1 44 (.slice (some ⟨wd.heap.size, 0, none⟩) 1 1) 1 [.string ⟨#[115, 109, 117, 100, 103, 101, 100]⟩] X) := by rw [← hX]; exact src_sl Tryz.underlying44 (alloc_new _ _) rfl
              have SX : Hid (TA w X Pa na Ka RA q k4 c L pk kr cck ks' Po (kr + 1) Co O O) := T.out.k0 (by rw [← hX]; exact (Kept.refl _ _).alloc _)
              have EX : Hid (wd.alloc (.cells #[.string ⟨#[115, 109, 117, 100, 103, 101, 100]⟩] 9) = X) := hX
              have BB : Hid (w.heap.size ≤ X.heap.size) := SX.out.kept.size
              clear hX T
              go_upto_region 35 with
                (first
                  | (at_builtin; rw [EX.out]; refine wpList_append_all _ rfl (.tmp 164) (.tmp 165) 44 9 44 _ 1 16 rfl Tryz.underlying44 Tryz.info9c rfl w.heap.size (.slice pk kr cck) kr (strs ks') rfl SX.out.key _ 1 [.string ⟨#[115, 109, 117, 100, 103, 101, 100]⟩] rfl SR.out (by unfold maxLen; omega) (by omega) BB.out ?_; intro p9 c9 w9 ho hg hn9)
                  | fail)
              have FIN : Hid (TlR w w9 es key Pa na Ka q k4 c L Po (kr + 1) Co O) := by
                refine ⟨?_, ⟨e, TOL.out.1⟩, S1.out.1⟩
                have z := SX.out.dropK hg.out
                rw [S1.out.2] at z
                exact z
              clear ho hg hn9 SX SR EX BB S1
              go_wp2_with fail
              (try simp only [Exit.inBlock, Exit.then])
              refine bodyPost_ret (results_tmp4 rfl _ _ _) rfl ?_
              exact ⟨Pa, na, Ka, q, k4, c, L, Po, kr + 1, Co, O, rfl, FIN.out⟩
end Go.Proofs.YtbangbobfeflcaaGreatDoor
