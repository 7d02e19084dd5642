import Derived.Test.YtodmakcklacbfaaPAwake
namespace Go.Proofs.Ytodmakcklacbfaa
open Go.RowKit Go.Shelf Go.Lib Go.Sort

theorem one_fit {ms : List Cm} {o : List Nat} {ok : Bool} {e : Int} (f : FitL ms) (h : OneS (ms.map Cm.cl) o ok e) : (e = 4) ∨ (e = 0 ∧ (ok = true → Expl ms (o.map fun r : Nat => (r : Int))) ∧ (ok = false → ∀ R, ¬ Expl ms R)) := by
  by_cases hv : 24 < ((ms.map Cm.cl).filter Cl.part).length
  · exact .inl (h.heavy f.nb hv).2.2
  · obtain ⟨h1, h2, h3⟩ := h.good f.nb (by omega)
    refine .inr ⟨h1, fun z => ⟨o, rfl, (h2 z).1⟩, fun z R x => ?_⟩
    obtain ⟨Rn, _, x⟩ := x
    exact (h3 z).2 Rn x
set_option maxRecDepth 100000 in
set_option maxHeartbeats 4000000 in
theorem foundW {w : World} {a : Option Addr} {n c : Nat} {ms : List Cm} (cr : CRd w a n c ms) (hb : n ≤ 1300000000000) (ck : ∀ m ∈ ms, KI m.client) (ct : ∀ m ∈ ms, KI m.ty) {q : Option Addr} {k kc : Nat} {R : List Int} (ir : IRd w q k kc R) :
    Calls Try.prog 5 #[.slice a n c, .slice q k kc] w fun o w' => o = .returned (.bool true) ∧ Kept (fun _ => False) w w' := by
  have H : Hid (CRd w a n c ms ∧ n ≤ 1300000000000 ∧ (∀ m ∈ ms, KI m.client) ∧ (∀ m ∈ ms, KI m.ty) ∧ IRd w q k kc R) := ⟨cr, hb, ck, ct, ir⟩
  clear cr hb ck ct ir
  go_enter Try.func5, Try.ntmps5
  go_wp2_with fail
  refine (oAwake _).mono ?_
  rintro o w1 ⟨rfl, K1'⟩
  have K1 : Hid (Kept (fun _ => False) w w1) := K1'
  clear K1'
  have C2 : Hid (Calls Try.prog 11 #[.slice a n c, .slice q k kc] w1 (RetC fun v w' => CkA ms R v ∧ Kept (fun _ => False) w1 w')) := oCheck (H.out.1.k0 K1.out) H.out.2.1 (H.out.2.2.2.2.k0 K1.out)
  go_wp2_with fail
  refine C2.out.mono ?_
  rintro o w2 ⟨v2, rfl, hv2, K2'⟩
  have K2 : Hid (Kept (fun _ => False) w w2) := K1.out.trans K2' (fun _ _ z => z)
  have V2 : Hid (CkA ms R v2) := hv2
  clear C2 hv2 K2' K1
  by_cases e2 : v2 = 1
  · subst e2
    go_wp2_with fail
    go_ret
    exact ⟨rfl, K2.out⟩
  · have FT : Hid (FitL ms) := by
      rcases V2.out with ⟨z, _⟩ | ⟨_, z, _⟩ | ⟨_, z, _⟩
      · exact absurd z e2
      · exact z
      · exact z
    have C3 : Hid (Calls Try.prog 15 #[.slice a n c] w2 (RetO (OneQ ms w2))) := one (H.out.1.k0 K2.out) H.out.2.1
    go_wp2_with fail
    refine C3.out.mono ?_
    rintro o w3 ⟨q3, k3, c3, ok, e3, rfl, Q3'⟩
    have Q3 : Hid (OneQ ms w2 q3 k3 c3 ok e3 w3) := Q3'
    clear C3 Q3'
    obtain ⟨L3, oneS, row3⟩ := Q3.out.ans
    have K3 : Hid (Kept (fun _ => False) w w3) := K2.out.trans Q3.out.k (fun _ _ z => z)
    have R3 : Hid (IRd w3 q3 k3 c3 (L3.map fun r : Nat => (r : Int))) := row3.ird
    have OF : Hid ((e3 = 4) ∨ (e3 = 0 ∧ (ok = true → Expl ms (L3.map fun r : Nat => (r : Int))) ∧ (ok = false → ∀ R, ¬ Expl ms R))) := one_fit FT.out oneS
    clear oneS row3 Q3 K2
    by_cases e4 : e3 = 0
    · have OG : Hid ((ok = true → Expl ms (L3.map fun r : Nat => (r : Int))) ∧ (ok = false → ∀ R, ¬ Expl ms R)) := by
        rcases OF.out with z | z
        · omega
        · exact z.2
      subst e4
      clear OF
      have C4 : Hid (Calls Try.prog 10 #[.slice a n c] w3 (RetY (ByQ w3 ms))) := oByTags (H.out.1.k0 K3.out) H.out.2.1 H.out.2.2.1 H.out.2.2.2.1
      go_wp2_with fail
      refine C4.out.mono ?_
      rintro o w4 ⟨q4, k4, c4, e5, rfl, ⟨L4, by4, row4⟩, K4'⟩
      have K4 : Hid (Kept (fun _ => False) w3 w4) := K4'
      have R4 : Hid (IRd w4 q4 k4 c4 (L4.map fun r : Nat => (r : Int))) := row4.ird
      have KW : Hid (Kept (fun _ => False) w w4) := K3.out.trans K4.out (fun _ _ z => z)
      clear C4 by4 row4 K4'
      cases ok
      · have NO : Hid (∀ R, ¬ Expl ms R) := OG.out.2 rfl
        have C5 : Hid (Calls Try.prog 11 #[.slice a n c, .slice q k kc] w4 (RetC fun v w' => CkA ms R v ∧ Kept (fun _ => False) w4 w')) := oCheck (H.out.1.k0 KW.out) H.out.2.1 (H.out.2.2.2.2.k0 KW.out)
        go_wp2_with fail
        refine C5.out.mono ?_
        rintro o w5 ⟨v5, rfl, hv5, K5'⟩
        have e6 := ck_no FT.out (NO.out _) hv5
        subst e6
        have K5 : Hid (Kept (fun _ => False) w4 w5) := K5'
        clear C5 hv5 K5'
        by_cases f5 : e5 = 0
        · subst f5
          have C6 : Hid (Calls Try.prog 11 #[.slice a n c, .slice q4 k4 c4] w5 (RetC fun v w' => CkA ms (L4.map fun r : Nat => (r : Int)) v ∧ Kept (fun _ => False) w5 w')) := oCheck ((H.out.1.k0 KW.out).k0 K5.out) H.out.2.1 (R4.out.k0 K5.out)
          go_wp2_with fail
          refine C6.out.mono ?_
          rintro o w6 ⟨v6, rfl, hv6, K6'⟩
          have e6 := ck_no FT.out (NO.out _) hv6
          subst e6
          have K6 : Hid (Kept (fun _ => False) w w6) := (KW.out.trans K5.out (fun _ _ z => z)).trans K6' (fun _ _ z => z)
          clear C6 hv6 K6'
          go_wp2_with fail
          go_ret
          exact ⟨rfl, K6.out⟩
        · have K6 : Hid (Kept (fun _ => False) w w5) := KW.out.trans K5.out (fun _ _ z => z)
          go_wp2_with fail
          go_ret
          exact ⟨rfl, K6.out⟩
      · have YE : Hid (Expl ms (L3.map fun r : Nat => (r : Int))) := OG.out.1 rfl
        have C5 : Hid (Calls Try.prog 11 #[.slice a n c, .slice q3 k3 c3] w4 (RetC fun v w' => CkA ms (L3.map fun r : Nat => (r : Int)) v ∧ Kept (fun _ => False) w4 w')) := oCheck (H.out.1.k0 KW.out) H.out.2.1 (R3.out.k0 K4.out)
        go_wp2_with fail
        refine C5.out.mono ?_
        rintro o w5 ⟨v5, rfl, hv5, K5'⟩
        have e6 := ck_yes FT.out YE.out hv5
        subst e6
        have K5 : Hid (Kept (fun _ => False) w w5) := KW.out.trans K5' (fun _ _ z => z)
        clear C5 hv5 K5'
        go_wp2_with fail
        go_ret
        exact ⟨rfl, K5.out⟩
    · have e5 : e3 = 4 := by
        rcases OF.out with z | z
        · exact z
        · exact absurd z.1 e4
      subst e5
      go_wp2_with fail
      go_ret
      exact ⟨rfl, K3.out⟩
end Go.Proofs.Ytodmakcklacbfaa
