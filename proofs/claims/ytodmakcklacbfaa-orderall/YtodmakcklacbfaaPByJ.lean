import Derived.Test.YtodmakcklacbfaaPValsJ
import Derived.Sort.Grow
import Derived.Below
import Derived.Deep.RegionHeld3
namespace Go.Proofs.Ytodmakcklacbfaa
open Go.RowKit 

/-- The order explains the calls. -/
def Expl (ms : List Cm) (R : List Int) : Prop := ∃ Rn : List Nat, (R = Rn.map fun r : Nat => (r : Int)) ∧ XRun (ms.map Cm.cl) Rn [] none
theorem FitL.nb {ms : List Cm} (fit : FitL ms) : ∀ c ∈ ms.map Cm.cl, c.bad = false := fun c hc => by
  obtain ⟨m, hm, rfl⟩ := List.mem_map.1 hc
  exact fit_bad (fit m hm).2
theorem expl_just {ms : List Cm} {R : List Int} (fit : FitL ms) (h : Expl ms R) : Just (ms.map Cm.cl) R := by
  obtain ⟨Rn, e, x⟩ := h
  obtain ⟨a, b, _, _⟩ := (explain_iff fit.nb).1 x
  exact ⟨Rn, e, a, b⟩
theorem expl_iff {ms : List Cm} {R : List Int} (fit : FitL ms) {Rn : List Nat} (e : R = Rn.map fun r : Nat => (r : Int)) (a : ExA (ms.map Cm.cl) Rn Rn.length) (b : ExB (ms.map Cm.cl) Rn (ms.map Cm.cl).length) : Expl ms R ↔ ExC (ms.map Cm.cl) Rn (ms.map Cm.cl).length ∧ ExD (ms.map Cm.cl) Rn Rn.length := by
  constructor
  · rintro ⟨Rm, e2, x⟩
    have := map_inj (e2.symm.trans e)
    subst this
    exact ((explain_iff fit.nb).1 x).2.2
  · rintro ⟨c, d⟩
    exact ⟨Rn, e, (explain_iff fit.nb).2 ⟨a, b, c, d⟩⟩
/-- Check's answer. -/
def CkA (ms : List Cm) (R : List Int) (v : Int) : Prop := (v = 1 ∧ ¬ FitL ms) ∨ (v = 0 ∧ FitL ms ∧ Expl ms R) ∨ (v = 81 ∧ FitL ms ∧ ¬ Expl ms R)
def RetC (Q : Int → World → Prop) (o : Ending) (w : World) : Prop := ∃ r : Int, o = .returned (.int .i64 r) ∧ Q r w
theorem RetC.mk {Q : Int → World → Prop} {o : Ending} {w : World} (r : Int) (h : o = .returned (.int .i64 r)) (q : Q r w) : RetC Q o w := ⟨r, h, q⟩
set_option maxRecDepth 100000 in
set_option maxHeartbeats 4000000 in
theorem oCheck {w : World} {p0 : Option Addr} {n c0 : Nat} {ms : List Cm} (cr : CRd w p0 n c0 ms) (hb : n ≤ 1300000000000) {q : Option Addr} {k kc : Nat} {R : List Int} (ir : IRd w q k kc R) : Calls Try.prog 11 #[.slice p0 n c0, .slice q k kc] w (RetC fun v w' => CkA ms R v ∧ Kept (fun _ => False) w w') := by
  have hn : (ms.map Cm.cl).length = n := by rw [List.length_map]; exact cr.len
  have H : Hid (CRd w p0 n c0 ms ∧ IRd w q k kc R ∧ n ≤ 1300000000000 ∧ (ms.map Cm.cl).length = n) := ⟨cr, ir, hb, hn⟩
  have C1 : Hid (Calls Try.prog 28 #[.slice p0 n c0] w (RetB fun v w' => (v = true ↔ FitL ms) ∧ Kept (fun _ => False) w w')) := oFits cr
  clear cr ir hb hn
  go_enter Try.func11, Try.ntmps11
  go_wp2_with fail
  refine C1.out.mono ?_
  rintro o w1 ⟨v1, rfl, hv1, K1⟩
  have S1 : Hid ((v1 = true ↔ FitL ms) ∧ Kept (fun _ => False) w w1) := ⟨hv1, K1⟩
  clear C1 hv1 K1
  cases v1
  · have N1 : Hid (¬ FitL ms) := fun z => by cases S1.out.1.2 z
    go_wp2_with fail
    go_ret
    exact RetC.mk 1 rfl ⟨.inl ⟨rfl, N1.out⟩, S1.out.2⟩
  · have F1 : Hid (FitL ms) := S1.out.1.1 (by first | rfl | trivial)
    have C2 : Hid (Calls Try.prog 39 #[.slice p0 n c0, .slice q k kc] w1 (RetB fun v w' => (v = true ↔ Just (ms.map Cm.cl) R) ∧ Kept (fun _ => False) w1 w')) := oJust (H.out.1.k0 S1.out.2) H.out.2.2.1 F1.out (H.out.2.1.k0 S1.out.2)
    go_wp2_with fail
    refine C2.out.mono ?_
    rintro o w2 ⟨v2, rfl, hv2, K2⟩
    have S2 : Hid ((v2 = true ↔ Just (ms.map Cm.cl) R) ∧ Kept (fun _ => False) w w2) := ⟨hv2, S1.out.2.trans K2 (fun _ _ z => z)⟩
    clear C2 hv2 K2
    cases v2
    · have N2 : Hid (¬ Expl ms R) := fun z => by cases S2.out.1.2 (expl_just F1.out z)
      go_wp2_with fail
      go_ret
      exact RetC.mk 81 rfl ⟨.inr (.inr ⟨rfl, F1.out, N2.out⟩), S2.out.2⟩
    · obtain ⟨Rn, e, a, b⟩ := S2.out.1.1 (by first | rfl | trivial)
      have J : Hid ((R = Rn.map fun r : Nat => (r : Int)) ∧ Rn.length = k ∧ ExA (ms.map Cm.cl) Rn Rn.length ∧ (Expl ms R ↔ ExC (ms.map Cm.cl) Rn n ∧ ExD (ms.map Cm.cl) Rn k)) := by
        have hk : Rn.length = k := by rw [← H.out.2.1.len, e, List.length_map]
        refine ⟨e, hk, a, ?_⟩
        have := expl_iff F1.out e a b
        rw [H.out.2.2.2, hk] at this
        exact this
      clear e a b
      have C3 : Hid (Calls Try.prog 40 #[.slice p0 n c0, .slice q k kc] w2 (RetB fun v w' => (v = true ↔ ExC (ms.map Cm.cl) Rn n) ∧ Kept (fun _ => False) w2 w')) := oTimes (H.out.1.k0 S2.out.2) F1.out (H.out.2.1.k0 S2.out.2) J.out.1 J.out.2.2.1
      go_wp2_with fail
      refine C3.out.mono ?_
      rintro o w3 ⟨v3, rfl, hv3, K3⟩
      have S3 : Hid ((v3 = true ↔ ExC (ms.map Cm.cl) Rn n) ∧ Kept (fun _ => False) w w3) := ⟨hv3, S2.out.2.trans K3 (fun _ _ z => z)⟩
      clear C3 hv3 K3
      cases v3
      · have N3 : Hid (¬ Expl ms R) := fun z => by cases S3.out.1.2 (J.out.2.2.2.1 z).1
        go_wp2_with fail
        go_ret
        exact RetC.mk 81 rfl ⟨.inr (.inr ⟨rfl, F1.out, N3.out⟩), S3.out.2⟩
      · have C4 : Hid (Calls Try.prog 41 #[.slice p0 n c0, .slice q k kc] w3 (RetB fun v w' => (v = true ↔ ExD (ms.map Cm.cl) Rn k) ∧ Kept (fun _ => False) w3 w')) := oValues (H.out.1.k0 S3.out.2) F1.out (H.out.2.1.k0 S3.out.2) J.out.1 J.out.2.2.1
        go_wp2_with fail
        refine C4.out.mono ?_
        rintro o w4 ⟨v4, rfl, hv4, K4⟩
        have S4 : Hid ((v4 = true ↔ ExD (ms.map Cm.cl) Rn k) ∧ Kept (fun _ => False) w w4) := ⟨hv4, S3.out.2.trans K4 (fun _ _ z => z)⟩
        clear C4 hv4 K4
        cases v4
        · have N4 : Hid (¬ Expl ms R) := fun z => by cases S4.out.1.2 (J.out.2.2.2.1 z).2
          go_wp2_with fail
          go_ret
          exact RetC.mk 81 rfl ⟨.inr (.inr ⟨rfl, F1.out, N4.out⟩), S4.out.2⟩
        · have Y : Hid (Expl ms R) := J.out.2.2.2.2 ⟨S3.out.1.1 (by first | rfl | trivial), S4.out.1.1 (by first | rfl | trivial)⟩
          go_wp2_with fail
          go_ret
          exact RetC.mk 0 rfl ⟨.inr (.inl ⟨rfl, F1.out, Y.out⟩), S4.out.2⟩
end Go.Proofs.Ytodmakcklacbfaa

namespace Go.Proofs.Ytodmakcklacbfaa
open Go.RowKit Go.Sort

/-- How two numbers are ordered. -/
def kIcmp (a b : Int) : Int := if a < b then -1 else if b < a then 1 else 0
/-- How two tags are ordered. -/
def kOrI (a b : Int) : Int := if a = 0 then b else a
def kTcmp (a b c d : Int) : Int := kOrI (kIcmp a c) (kIcmp b d)

theorem kCmp64 (a b : Int) (w : World) : Calls Try.prog 42 #[.int .i64 a, .int .i64 b] w fun x w' => x = .returned (.int .i64 (kIcmp a b)) ∧ w' = w := by
  unfold kIcmp
  go_enter Try.func42, Try.ntmps42
  by_cases h : a < b
  · go_wp2_with (go_in)
    go_ret
    exact ⟨by simp, rfl⟩
  · by_cases h2 : b < a
    · go_wp2_with (go_in)
      go_ret
      exact ⟨by simp, rfl⟩
    · go_wp2_with (go_in)
      go_ret
      exact ⟨by simp, rfl⟩
theorem kCmpInt (a b : Int) (w : World) : Calls Try.prog 31 #[.int .i64 a, .int .i64 b] w fun x w' => x = .returned (.int .i64 (kIcmp a b)) ∧ w' = w := by
  unfold kIcmp
  go_enter Try.func31, Try.ntmps31
  by_cases h : a < b
  · go_wp2_with (go_in)
    go_ret
    exact ⟨by simp, rfl⟩
  · by_cases h2 : b < a
    · go_wp2_with (go_in)
      go_ret
      exact ⟨by simp, rfl⟩
    · go_wp2_with (go_in)
      go_ret
      exact ⟨by simp, rfl⟩
theorem kOr2 (a b : Int) (B cap : Nat) (w : World) (h0 : w.cell? ⟨B, 0, none⟩ = some (.int .i64 a)) (h1 : w.cell? ⟨B, 1, none⟩ = some (.int .i64 b)) :
    Calls Try.prog 30 #[.slice (some ⟨B, 0, none⟩) 2 cap] w fun x w' => x = .returned (.int .i64 (kOrI a b)) ∧ w' = w := by
  unfold kOrI
  go_enter Try.func30, Try.ntmps30
  go_wp2_with fail
  go_loop [5, 8] (fun _ x => (x = .int .i64 0) ∨ (x = .int .i64 1 ∧ a = 0) ∨ (x = .int .i64 2 ∧ a = 0 ∧ b = 0)) (fun _ x => 2 - (intOf x).toNat)
  case atStart => exact .inl rfl
  case round =>
    rcases hrel with rfl | ⟨rfl, rfl⟩ | ⟨rfl, rfl, rfl⟩
    · by_cases h : a = 0
      · subst h
        go_wp2_with fail
        go_round
        case rel => simp
        case measure => simp [intOf]
      · go_wp2_with fail
        go_ret
        exact ⟨by simp, rfl⟩
    · by_cases h : b = 0
      · subst h
        go_wp2_with fail
        go_round
        case rel => simp
        case measure => simp [intOf]
      · go_wp2_with fail
        go_ret
        exact ⟨by simp, rfl⟩
    · go_wp2_with fail
      go_ret
      exact ⟨by simp, rfl⟩
/-- Compare lays blocks and draws, no more. -/
theorem kCompareGrow (a b c d : Int) (w : World) : Calls Try.prog 13 #[.agg #[.int .i64 a, .int .i64 b], .agg #[.int .i64 c, .int .i64 d]] w fun x w' => x = .returned (.int .i64 (kTcmp a b c d)) ∧ ∃ q os, w' = grow (w.drewN q) os := by
  unfold kTcmp
  have B1 : Hid (grow (w.drewN 0) #[Obj.cells #[.int .i64 a, .int .i64 b] 35, Obj.cells #[.int .i64 c, .int .i64 d] 35] = ((w.alloc (Obj.cells #[.int .i64 a, .int .i64 b] 35)).alloc (Obj.cells #[.int .i64 c, .int .i64 d] 35))) := by
    show _ = _
    rw [alloc_eq_grow, alloc_eq_grow, grow_grow]; rfl
  go_enter Try.func13, Try.ntmps13
  go_wp2_with fail
  have g0 : ((w.alloc (Obj.cells #[.int .i64 a, .int .i64 b] 35)).alloc (Obj.cells #[.int .i64 c, .int .i64 d] 35)).cell? ⟨w.heap.size, 0, none⟩ = some (.int .i64 a) := by simp
  have g1 : ((w.alloc (Obj.cells #[.int .i64 a, .int .i64 b] 35)).alloc (Obj.cells #[.int .i64 c, .int .i64 d] 35)).cell? ⟨w.heap.size, 1, none⟩ = some (.int .i64 b) := by simp
  have g2 : ((w.alloc (Obj.cells #[.int .i64 a, .int .i64 b] 35)).alloc (Obj.cells #[.int .i64 c, .int .i64 d] 35)).cell? ⟨w.heap.size + 1, 0, none⟩ = some (.int .i64 c) := by simp
  have g3 : ((w.alloc (Obj.cells #[.int .i64 a, .int .i64 b] 35)).alloc (Obj.cells #[.int .i64 c, .int .i64 d] 35)).cell? ⟨w.heap.size + 1, 1, none⟩ = some (.int .i64 d) := by simp
  have sz : ((w.alloc (Obj.cells #[.int .i64 a, .int .i64 b] 35)).alloc (Obj.cells #[.int .i64 c, .int .i64 d] 35)).heap.size = w.heap.size + 2 := by simp
  generalize (w.alloc (Obj.cells #[.int .i64 a, .int .i64 b] 35)).alloc (Obj.cells #[.int .i64 c, .int .i64 d] 35) = w1 at g0 g1 g2 g3 sz B1 ⊢
  go_region_held3 (fun w' => w'.cell? ⟨w.heap.size, 0, none⟩ = some (.int .i64 a) ∧ w'.cell? ⟨w.heap.size, 1, none⟩ = some (.int .i64 b) ∧ w'.cell? ⟨w.heap.size + 1, 0, none⟩ = some (.int .i64 c) ∧ w'.cell? ⟨w.heap.size + 1, 1, none⟩ = some (.int .i64 d))
    (go_keep) (first | (go_at_call 42; refine (kCmp64 _ _ _).mono ?_; rintro x w2 ⟨rfl, rfl⟩) | (go_at_call 31; refine (kCmpInt _ _ _).mono ?_; rintro x w2 ⟨rfl, rfl⟩) | (go_at_call 30; refine (kOr2 (kIcmp a c) (kIcmp b d) _ _ _ (by rw [← sz]; simp) (by rw [← sz]; simp)).mono ?_; rintro x w2 ⟨rfl, rfl⟩) | fail)
  go_wp2_with fail
  go_ret
  refine ⟨rfl, 1, #[Obj.cells #[.int .i64 a, .int .i64 b] 35, Obj.cells #[.int .i64 c, .int .i64 d] 35, Obj.cells #[.int .i64 (kIcmp a c), .int .i64 (kIcmp b d)] 3], ?_⟩
  rw [← B1.out, alloc_eq_grow, grow_grow]
  rfl
/-- May a tag be, and is it not the initial one? -/
def kIsProper (a b : Int) : Bool := decide (1 ≤ a ∧ a ≤ 4611686018427387903 ∧ 1 ≤ b ∧ b ≤ 65535)
def kIsZero (a b : Int) : Bool := decide (a = 0 ∧ b = 0)
def kIsClientB (n : Int) : Bool := decide (1 ≤ n ∧ n ≤ 65535)
theorem kIsClient (n : Int) (w : World) : Calls Try.prog 111 #[.int .i64 n] w fun x w' => x = .returned (.bool (kIsClientB n)) ∧ w' = w := by
  unfold kIsClientB
  go_enter Try.func111, Try.ntmps111
  by_cases h : 1 ≤ n
  · by_cases h2 : n ≤ 65535
    · go_wp2_with fail
      go_ret
      exact ⟨by simp [h, h2], rfl⟩
    · go_wp2_with fail
      go_ret
      exact ⟨by simp [h2], rfl⟩
  · go_wp2_with fail
    go_ret
    exact ⟨by simp; omega, rfl⟩
theorem kZero (a b : Int) (w : World) : Calls Try.prog 12 #[.agg #[.int .i64 a, .int .i64 b]] w fun x w' => x = .returned (.bool (kIsZero a b)) ∧ Below w.heap.size w w' := by
  unfold kIsZero
  go_enter Try.func12, Try.ntmps12
  by_cases h : a = 0
  · by_cases h2 : b = 0
    · go_wp2_with fail
      go_ret
      exact ⟨by simp [h, h2], (Below.refl _ _).alloc (Nat.le_refl _) _⟩
    · go_wp2_with fail
      go_ret
      exact ⟨by simp [h, h2], (Below.refl _ _).alloc (Nat.le_refl _) _⟩
  · go_wp2_with fail
    go_ret
    exact ⟨by simp [h], (Below.refl _ _).alloc (Nat.le_refl _) _⟩
theorem kProper (a b : Int) (w : World) : Calls Try.prog 102 #[.agg #[.int .i64 a, .int .i64 b]] w fun x w' => x = .returned (.bool (kIsProper a b)) ∧ Below w.heap.size w w' := by
  have bel := (Below.refl w.heap.size w).alloc (Nat.le_refl _) (Obj.cells #[.int .i64 a, .int .i64 b] 35)
  have BH : Hid (Below w.heap.size w (w.alloc (Obj.cells #[.int .i64 a, .int .i64 b] 35))) := bel
  clear bel
  unfold kIsProper
  go_enter Try.func102, Try.ntmps102
  by_cases h : 1 ≤ a
  · by_cases h2 : a ≤ 4611686018427387903
    · go_wp2_with (first | (go_at_call 111; refine (kIsClient _ _).mono ?_; rintro x w1 ⟨rfl, rfl⟩) | fail)
      go_ret
      exact ⟨by simp [kIsClientB, h, h2], BH.out⟩
    · go_wp2_with fail
      go_ret
      exact ⟨by simp; omega, BH.out⟩
  · go_wp2_with fail
    go_ret
    exact ⟨by simp; omega, BH.out⟩
theorem kValid (a b : Int) (w : World) : Calls Try.prog 87 #[.agg #[.int .i64 a, .int .i64 b]] w fun x w' => x = .returned (.bool (kIsZero a b || kIsProper a b)) ∧ Below w.heap.size w w' := by
  have B0 : Hid (Below w.heap.size w (w.alloc (Obj.cells #[.int .i64 a, .int .i64 b] 35))) := (Below.refl w.heap.size w).alloc (Nat.le_refl _) _
  go_enter Try.func87, Try.ntmps87
  go_wp2_with fail
  refine (kZero a b _).mono ?_
  rintro x w1 ⟨rfl, B1'⟩
  have B1 : Hid (Below _ _ _) := B1'
  clear B1'
  have c0 : w1.cell? ⟨w.heap.size, 0, none⟩ = some (.int .i64 a) := (B1.out.cell (by simp)).trans (by simp)
  have c1 : w1.cell? ⟨w.heap.size, 1, none⟩ = some (.int .i64 b) := (B1.out.cell (by simp)).trans (by simp)
  have B1 : Hid (Below w.heap.size w w1) := B0.out.trans (B1.out.mono (by simp))
  cases h : kIsZero a b
  · go_wp2_with fail
    refine (kProper a b _).mono ?_
    rintro x w2 ⟨rfl, B2⟩
    have B2 : Hid (Below w.heap.size w w2) := B1.out.trans (B2.mono B1.out.size)
    go_wp2_with fail
    go_ret
    exact ⟨by simp [h], B2.out⟩
  · go_wp2_with fail
    go_ret
    exact ⟨by simp [h], B1.out⟩

end Go.Proofs.Ytodmakcklacbfaa

namespace Go.Proofs.Ytodmakcklacbfaa
open Go.RowKit Go.Sort

theorem keptB {w w' : World} (h : Below w.heap.size w w') : Kept (fun _ => False) w w' := (Kept.of_below h).mono (fun j hj z => by have z : w.heap.size ≤ j := z; omega)
/-- A tag that a value may have. -/
theorem oProper (a b : Int) (w : World) : Calls Try.prog 68 #[.agg #[.int .i64 a, .int .i64 b]] w fun x w' => x = .returned (.bool (kIsProper a b)) ∧ Kept (fun _ => False) w w' := by
  obtain ⟨v, hv⟩ : ∃ v, v = (kIsZero a b || kIsProper a b) := ⟨_, rfl⟩
  obtain ⟨z, hz⟩ : ∃ z, z = kIsZero a b := ⟨_, rfl⟩
  have RV : Hid (∀ V, Calls Try.prog 87 #[.agg #[.int .i64 a, .int .i64 b]] V fun o w' => o = .returned (.bool v) ∧ Kept (fun _ => False) V w') := fun V => by rw [hv]; exact (kValid a b V).mono (fun o w' ⟨e, h⟩ => ⟨e, keptB h⟩)
  have RZ : Hid (∀ V, Calls Try.prog 12 #[.agg #[.int .i64 a, .int .i64 b]] V fun o w' => o = .returned (.bool z) ∧ Kept (fun _ => False) V w') := fun V => by rw [hz]; exact (kZero a b V).mono (fun o w' ⟨e, h⟩ => ⟨e, keptB h⟩)
  have HV : Hid (kIsProper a b = (v && !z)) := by
    show kIsProper a b = (v && !z)
    rw [hv, hz]
    unfold kIsProper kIsZero
    rw [Bool.eq_iff_iff]
    simp
    omega
  obtain ⟨r, hr⟩ : ∃ r, r = kIsProper a b := ⟨_, rfl⟩
  rw [← hr] at HV ⊢
  clear hv hz hr
  go_enter Try.func68, Try.ntmps68
  go_wp2_with fail
  refine (RV.out _).mono ?_
  rintro o w1 ⟨rfl, K1⟩
  have b1 : w1.heap[w.heap.size]? = some (.cells #[.int .i64 a, .int .i64 b] 35 (0, 0)) := K1.get (alloc_new _ _) (fun z => z)
  have K2 : Hid (Kept (fun _ => False) w w1) := ((Kept.refl _ _).alloc _).trans K1 (fun _ _ z => z)
  have d0 := cell_blk b1 0 (v := .int .i64 a) rfl
  have d1 := cell_blk b1 1 (v := .int .i64 b) rfl
  clear b1 K1 RV
  cases v
  · go_wp2_with fail
    go_ret
    exact ⟨by rw [HV.out]; first | rfl | simp, K2.out⟩
  · go_wp2_with fail
    refine (RZ.out _).mono ?_
    rintro o w2 ⟨rfl, K3⟩
    have K4 : Hid (Kept (fun _ => False) w w2) := K2.out.trans K3 (fun _ _ z => z)
    clear K3
    go_wp2_with fail
    go_ret
    exact ⟨by rw [HV.out]; first | rfl | simp, K4.out⟩
/-- Does a call tell a tag by itself? -/
def Cm.tells (m : Cm) : Bool := if m.opn = true then !kIsZero m.tx m.ty else (m.put || (!m.put && decide (0 ≤ m.to) && decide (m.st = 0)))
set_option maxRecDepth 100000 in
set_option maxHeartbeats 4000000 in
theorem oTells (m : Cm) (w : World) : Calls Try.prog 36 #[m.agg] w fun o w' => o = .returned (.bool m.tells) ∧ Kept (fun _ => False) w w' := by
  obtain ⟨v, hv⟩ : ∃ v, v = m.tells := ⟨_, rfl⟩
  rw [← hv]
  obtain ⟨pu, hpu⟩ : ∃ pu, m.put = pu := ⟨_, rfl⟩
  obtain ⟨op, hop⟩ : ∃ op, m.opn = op := ⟨_, rfl⟩
  obtain ⟨rb, hrb⟩ : ∃ rb, rb = (!m.put && decide (0 ≤ m.to) && decide (m.st = 0)) := ⟨_, rfl⟩
  obtain ⟨z, hz⟩ : ∃ z, z = kIsZero m.tx m.ty := ⟨_, rfl⟩
  have RR : Hid (∀ V, Calls Try.prog 63 #[m.agg] V fun o w' => o = .returned (.bool rb) ∧ Kept (fun _ => False) V w') := fun V => by rw [hrb]; exact oRead m V
  have RZ : Hid (∀ V, Calls Try.prog 12 #[.agg #[.int .i64 m.tx, .int .i64 m.ty]] V fun o w' => o = .returned (.bool z) ∧ Kept (fun _ => False) V w') := fun V => by rw [hz]; exact (kZero _ _ V).mono (fun o w' ⟨e, h⟩ => ⟨e, keptB h⟩)
  have HV : Hid (v = if op = true then !z else (pu || rb)) := by
    show v = _
    rw [hv, hrb, hz]
    unfold Cm.tells
    rw [hop, hpu]
  have HP : Hid (m.put = pu ∧ m.opn = op) := ⟨hpu, hop⟩
  clear hv hpu hrb hop hz
  unfold Cm.agg at RR ⊢
  rw [HP.out.1, HP.out.2] at RR ⊢
  go_enter Try.func36, Try.ntmps36
  cases op
  · cases pu
    · go_wp2_with fail
      refine (RR.out _).mono ?_
      rintro o w1 ⟨rfl, K1⟩
      have K2 : Hid (Kept (fun _ => False) w w1) := ((Kept.refl _ _).alloc _).trans K1 (fun _ _ z => z)
      clear K1 RR
      go_wp2_with fail
      go_ret
      exact ⟨by rw [HV.out]; first | rfl | simp, K2.out⟩
    · go_wp2_with fail
      go_ret
      exact ⟨by rw [HV.out]; first | rfl | simp, (Kept.refl _ _).alloc _⟩
  · go_wp2_with fail
    refine (RZ.out _).mono ?_
    rintro o w1 ⟨rfl, K1⟩
    have K2 : Hid (Kept (fun _ => False) w w1) := ((Kept.refl _ _).alloc _).trans K1 (fun _ _ z => z)
    clear K1 RR
    go_wp2_with fail
    go_ret
    exact ⟨by rw [HV.out]; first | rfl | simp, K2.out⟩
end Go.Proofs.Ytodmakcklacbfaa

namespace Go.Proofs.Ytodmakcklacbfaa
open Go.RowKit Go.Sort

/-- Only drawn, and more blocks. -/
def Grown (w w' : World) : Prop := ∃ q os, w' = grow (w.drewN q) os
theorem kept_grow {w : World} (os : Array Obj) : Kept (fun _ => False) w (grow w os) := by
  refine ⟨rfl, rfl, rfl, ?_, fun k hk _ => ?_⟩
  · unfold grow; simp
  · unfold grow
    show (w.heap ++ os)[k]? = w.heap[k]?
    rw [Array.getElem?_append_left hk]
theorem Grown.kept {w w' : World} (h : Grown w w') : Kept (fun _ => False) w w' := by
  obtain ⟨q, os, rfl⟩ := h
  exact ((Kept.refl _ _).drewN q).trans (kept_grow os) (fun _ _ z => z)
/-- By their beginnings. -/
def byFromI (i j : Nat) (a b : Int) : Int := kOrI (kIcmp a b) (kIcmp (i : Int) (j : Int))
set_option maxRecDepth 100000 in
theorem oByFrom {w : World} {p : Option Addr} {n c : Nat} {ms : List Cm} (h : CRd w p n c ms) {CB : Nat} (c1 : w.cell? ⟨CB, 0, none⟩ = some (.slice p n c)) {i j : Nat} {mi mj : Cm} (hi : ms[i]? = some mi) (hj : ms[j]? = some mj) :
    Calls Try.prog 29 #[.int .i64 (i : Int), .int .i64 (j : Int), .pointer (some ⟨CB, 0, none⟩)] w fun x w' => x = .returned (.int .i64 (byFromI i j mi.frm mj.frm)) ∧ Grown w w' := by
  unfold byFromI
  have hin : i < n := by rw [← h.len]; exact (List.getElem?_eq_some_iff.1 hi).1
  have hjn : j < n := by rw [← h.len]; exact (List.getElem?_eq_some_iff.1 hj).1
  have rm := h.room
  have sm := h.small
  unfold maxLen at sm
  obtain ⟨b, off, m2, rfl, hm2, _, _, _, _, _, _, d1, _⟩ := h.at hin
  obtain ⟨b', off', m3, e3, hm3, _, _, _, _, _, _, d2, _⟩ := h.at hjn
  cases e3
  rw [hi] at hm2
  have hm2 := Option.some.inj hm2
  subst hm2
  rw [hj] at hm3
  have hm3 := Option.some.inj hm3
  subst hm3
  have i1 : (i : Int) < (n : Int) := by omega
  have i0 : (0 : Int) ≤ (i : Int) := by omega
  have j1 : (j : Int) < (n : Int) := by omega
  have j0 : (0 : Int) ≤ (j : Int) := by omega
  obtain ⟨x, hx⟩ : ∃ x, x = mi.frm := ⟨_, rfl⟩
  obtain ⟨y, hy⟩ : ∃ y, y = mj.frm := ⟨_, rfl⟩
  rw [← hx] at d1 ⊢
  rw [← hy] at d2 ⊢
  clear h hi hj hx hy
  go_enter Try.func29, Try.ntmps29
  go_wp2_with fail
  go_region_held3 (fun w' => w'.cell? ⟨CB, 0, none⟩ = some (.slice (some ⟨b, off, none⟩) n c) ∧ w'.cell? ⟨b, off + i * 11 + 6, none⟩ = some (.int .i64 x) ∧ w'.cell? ⟨b, off + j * 11 + 6, none⟩ = some (.int .i64 y))
    (go_keep) (first | (go_at_call 31; refine (kCmpInt _ _ _).mono ?_; rintro x w2 ⟨rfl, rfl⟩) | (go_at_call 30; refine (kOr2 (kIcmp x y) (kIcmp (i : Int) (j : Int)) _ _ _ (by simp) (by simp)).mono ?_; rintro x w2 ⟨rfl, rfl⟩) | fail)
  go_wp2_with fail
  go_ret
  refine ⟨rfl, 1, #[Obj.cells #[.int .i64 (kIcmp x y), .int .i64 (kIcmp (i : Int) (j : Int))] 3], ?_⟩
  rw [alloc_eq_grow]
  rfl
end Go.Proofs.Ytodmakcklacbfaa
