import Derived.Test.YtodmakcklacbfaaPVals
namespace Go.Proofs.Ytodmakcklacbfaa
open Go.RowKit 

/-- The order explains the calls. -/
def Expl (ms : List Cm) (R : List Int) : Prop := ∃ Rn : List Nat, (R = Rn.map fun r : Nat => (r : Int)) ∧ XRun (ms.map Cm.cl) Rn [] none
theorem FitL.nb {ms : List Cm} (fit : FitL ms) : ∀ c ∈ ms.map Cm.cl, c.bad = false := fun c hc => by
  obtain ⟨m, hm, rfl⟩ := List.mem_map.1 hc
  exact fit_bad (fit m hm).2
theorem expl_just {ms : List Cm} {R : List Int} (fit : FitL ms) (h : Expl ms R) : Just (ms.map Cm.cl) R := by
  obtain ⟨Rn, e, x⟩ := h
  obtain ⟨a, b, _, _⟩ := (explain_iff fit.nb).1 x
  exact ⟨Rn, e, a, b⟩
theorem expl_iff {ms : List Cm} {R : List Int} (fit : FitL ms) {Rn : List Nat} (e : R = Rn.map fun r : Nat => (r : Int)) (a : ExA (ms.map Cm.cl) Rn Rn.length) (b : ExB (ms.map Cm.cl) Rn (ms.map Cm.cl).length) : Expl ms R ↔ ExC (ms.map Cm.cl) Rn (ms.map Cm.cl).length ∧ ExD (ms.map Cm.cl) Rn Rn.length := by
  constructor
  · rintro ⟨Rm, e2, x⟩
    have := map_inj (e2.symm.trans e)
    subst this
    exact ((explain_iff fit.nb).1 x).2.2
  · rintro ⟨c, d⟩
    exact ⟨Rn, e, (explain_iff fit.nb).2 ⟨a, b, c, d⟩⟩
/-- Check's answer. -/
def CkA (ms : List Cm) (R : List Int) (v : Int) : Prop := (v = 1 ∧ ¬ FitL ms) ∨ (v = 0 ∧ FitL ms ∧ Expl ms R) ∨ (v = 81 ∧ FitL ms ∧ ¬ Expl ms R)
def RetC (Q : Int → World → Prop) (o : Ending) (w : World) : Prop := ∃ r : Int, o = .returned (.int .i64 r) ∧ Q r w
theorem RetC.mk {Q : Int → World → Prop} {o : Ending} {w : World} (r : Int) (h : o = .returned (.int .i64 r)) (q : Q r w) : RetC Q o w := ⟨r, h, q⟩
set_option maxRecDepth 100000 in
set_option maxHeartbeats 4000000 in
theorem oCheck {w : World} {p0 : Option Addr} {n c0 : Nat} {ms : List Cm} (cr : CRd w p0 n c0 ms) (hb : n ≤ 1300000000000) {q : Option Addr} {k kc : Nat} {R : List Int} (ir : IRd w q k kc R) : Calls Try.prog 11 #[.slice p0 n c0, .slice q k kc] w (RetC fun v w' => CkA ms R v ∧ Kept (fun _ => False) w w') := by
  have hn : (ms.map Cm.cl).length = n := by rw [List.length_map]; exact cr.len
  have H : Hid (CRd w p0 n c0 ms ∧ IRd w q k kc R ∧ n ≤ 1300000000000 ∧ (ms.map Cm.cl).length = n) := ⟨cr, ir, hb, hn⟩
  have C1 : Hid (Calls Try.prog 28 #[.slice p0 n c0] w (RetB fun v w' => (v = true ↔ FitL ms) ∧ Kept (fun _ => False) w w')) := oFits cr
  clear cr ir hb hn
  go_enter Try.func11, Try.ntmps11
  go_wp2_with fail
  refine C1.out.mono ?_
  rintro o w1 ⟨v1, rfl, hv1, K1⟩
  have S1 : Hid ((v1 = true ↔ FitL ms) ∧ Kept (fun _ => False) w w1) := ⟨hv1, K1⟩
  clear C1 hv1 K1
  cases v1
  · have N1 : Hid (¬ FitL ms) := fun z => by cases S1.out.1.2 z
    go_wp2_with fail
    go_ret
    exact RetC.mk 1 rfl ⟨.inl ⟨rfl, N1.out⟩, S1.out.2⟩
  · have F1 : Hid (FitL ms) := S1.out.1.1 (by first | rfl | trivial)
    have C2 : Hid (Calls Try.prog 39 #[.slice p0 n c0, .slice q k kc] w1 (RetB fun v w' => (v = true ↔ Just (ms.map Cm.cl) R) ∧ Kept (fun _ => False) w1 w')) := oJust (H.out.1.k0 S1.out.2) H.out.2.2.1 F1.out (H.out.2.1.k0 S1.out.2)
    go_wp2_with fail
    refine C2.out.mono ?_
    rintro o w2 ⟨v2, rfl, hv2, K2⟩
    have S2 : Hid ((v2 = true ↔ Just (ms.map Cm.cl) R) ∧ Kept (fun _ => False) w w2) := ⟨hv2, S1.out.2.trans K2 (fun _ _ z => z)⟩
    clear C2 hv2 K2
    cases v2
    · have N2 : Hid (¬ Expl ms R) := fun z => by cases S2.out.1.2 (expl_just F1.out z)
      go_wp2_with fail
      go_ret
      exact RetC.mk 81 rfl ⟨.inr (.inr ⟨rfl, F1.out, N2.out⟩), S2.out.2⟩
    · obtain ⟨Rn, e, a, b⟩ := S2.out.1.1 (by first | rfl | trivial)
      have J : Hid ((R = Rn.map fun r : Nat => (r : Int)) ∧ Rn.length = k ∧ ExA (ms.map Cm.cl) Rn Rn.length ∧ (Expl ms R ↔ ExC (ms.map Cm.cl) Rn n ∧ ExD (ms.map Cm.cl) Rn k)) := by
        have hk : Rn.length = k := by rw [← H.out.2.1.len, e, List.length_map]
        refine ⟨e, hk, a, ?_⟩
        have := expl_iff F1.out e a b
        rw [H.out.2.2.2, hk] at this
        exact this
      clear e a b
      have C3 : Hid (Calls Try.prog 40 #[.slice p0 n c0, .slice q k kc] w2 (RetB fun v w' => (v = true ↔ ExC (ms.map Cm.cl) Rn n) ∧ Kept (fun _ => False) w2 w')) := oTimes (H.out.1.k0 S2.out.2) F1.out (H.out.2.1.k0 S2.out.2) J.out.1 J.out.2.2.1
      go_wp2_with fail
      refine C3.out.mono ?_
      rintro o w3 ⟨v3, rfl, hv3, K3⟩
      have S3 : Hid ((v3 = true ↔ ExC (ms.map Cm.cl) Rn n) ∧ Kept (fun _ => False) w w3) := ⟨hv3, S2.out.2.trans K3 (fun _ _ z => z)⟩
      clear C3 hv3 K3
      cases v3
      · have N3 : Hid (¬ Expl ms R) := fun z => by cases S3.out.1.2 (J.out.2.2.2.1 z).1
        go_wp2_with fail
        go_ret
        exact RetC.mk 81 rfl ⟨.inr (.inr ⟨rfl, F1.out, N3.out⟩), S3.out.2⟩
      · have C4 : Hid (Calls Try.prog 41 #[.slice p0 n c0, .slice q k kc] w3 (RetB fun v w' => (v = true ↔ ExD (ms.map Cm.cl) Rn k) ∧ Kept (fun _ => False) w3 w')) := oValues (H.out.1.k0 S3.out.2) F1.out (H.out.2.1.k0 S3.out.2) J.out.1 J.out.2.2.1
        go_wp2_with fail
        refine C4.out.mono ?_
        rintro o w4 ⟨v4, rfl, hv4, K4⟩
        have S4 : Hid ((v4 = true ↔ ExD (ms.map Cm.cl) Rn k) ∧ Kept (fun _ => False) w w4) := ⟨hv4, S3.out.2.trans K4 (fun _ _ z => z)⟩
        clear C4 hv4 K4
        cases v4
        · have N4 : Hid (¬ Expl ms R) := fun z => by cases S4.out.1.2 (J.out.2.2.2.1 z).2
          go_wp2_with fail
          go_ret
          exact RetC.mk 81 rfl ⟨.inr (.inr ⟨rfl, F1.out, N4.out⟩), S4.out.2⟩
        · have Y : Hid (Expl ms R) := J.out.2.2.2.2 ⟨S3.out.1.1 (by first | rfl | trivial), S4.out.1.1 (by first | rfl | trivial)⟩
          go_wp2_with fail
          go_ret
          exact RetC.mk 0 rfl ⟨.inr (.inl ⟨rfl, F1.out, Y.out⟩), S4.out.2⟩
end Go.Proofs.Ytodmakcklacbfaa
