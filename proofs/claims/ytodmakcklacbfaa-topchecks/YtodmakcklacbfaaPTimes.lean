import Derived.Test.YtodmakcklacbfaaPJust
namespace Go.Proofs.Ytodmakcklacbfaa
open Go.RowKit 

theorem fit_bad {m : Cm} (h : m.fit = true) : m.cl.bad = false := by
  unfold Cm.fit at h
  rw [Bool.and_eq_true, Bool.and_eq_true, Bool.and_eq_true] at h
  have h1 := of_decide_eq_true h.1.1.1
  have h2 := h.1.1.2
  unfold Cl.bad Cm.cl
  dsimp only
  rw [decide_eq_false (show ¬ m.frm < 0 by omega), Bool.false_or]
  by_cases e : m.to = -1
  · simp [e]
  · rw [decide_eq_false e, Bool.false_or] at h2
    have := of_decide_eq_true h2
    rw [decide_eq_false (show ¬ m.to ≤ m.frm by omega), Bool.and_false]
/-- A call that isn't open, of an order, has returned. -/
theorem fit_done {m : Cm} (h : m.fit = true) (hp : m.cl.part = true) (ho : m.opn = false) : m.cl.must = true ∧ 0 ≤ m.to := by
  have hm : m.cl.must = true := by
    have := fit_part h
    rw [ho, hp] at this
    simpa using this
  refine ⟨hm, ?_⟩
  unfold Cm.fit at h
  rw [Bool.and_eq_true, Bool.and_eq_true, Bool.and_eq_true] at h
  have h1 := of_decide_eq_true h.1.1.1
  have h2 := h.1.1.2
  have h3 : m.opn = m.opb := by simpa using h.1.2
  rw [ho] at h3
  by_cases e : m.to = -1
  · unfold Cm.opb at h3
    rw [decide_eq_true e] at h3
    have hpu : m.put = false := by simpa using h3.symm
    unfold Cl.part Cm.cl at hp
    dsimp only at hp
    rw [hpu] at hp
    simp at hp
    exact hp.1
  · rw [decide_eq_false e, Bool.false_or] at h2
    have := of_decide_eq_true h2
    omega
/-- What stands at the places of an order. -/
structure OQ (ms : List Cm) (Rn : List Nat) (x i : Nat) (m : Cm) : Prop where
  at_ : Rn[x]? = some i
  m_ : ms[i]? = some m
  part : m.cl.part = true
  fit : m.fit = true
/-- The latest beginning of those ahead. -/
structure LQ (ms : List Cm) (Rn : List Nat) (x : Nat) (l : Int) : Prop where
  up : ∀ y i m, y < x → Rn[y]? = some i → ms[i]? = some m → m.frm ≤ l
  is : l = 0 ∨ ∃ y i m, y < x ∧ Rn[y]? = some i ∧ ms[i]? = some m ∧ m.frm = l
  ok : ∀ y z i j a b, y < x → z < y → Rn[y]? = some i → Rn[z]? = some j → ms[i]? = some a → ms[j]? = some b → a.cl.ahead b.cl = false
theorem LQ.add {ms : List Cm} {Rn : List Nat} {x i : Nat} {m : Cm} {l : Int} (h : LQ ms Rn x l) (o : OQ ms Rn x i m) (no : m.opn = true ∨ ¬ m.to < l) : LQ ms Rn (x + 1) (max l m.frm) := by
  have same : ∀ j, Rn[x]? = some j → j = i := fun j hj => by rw [o.at_] at hj; exact (Option.some.inj hj).symm
  refine ⟨fun y j b hy hj hb => ?_, ?_, fun y z j k a b hy hz hj hk ha hb => ?_⟩
  · rcases Nat.lt_succ_iff_lt_or_eq.1 hy with q | q
    · have := h.up y j b q hj hb
      omega
    · rw [q] at hj
      rw [same j hj, o.m_] at hb
      injection hb with hb
      rw [hb]
      omega
  · by_cases q : l ≤ m.frm
    · exact .inr ⟨x, i, m, by omega, o.at_, o.m_, by omega⟩
    · rcases h.is with e | ⟨y, j, b, h1, h2, h3, h4⟩
      · left; omega
      · exact .inr ⟨y, j, b, by omega, h2, h3, by omega⟩
  · rcases Nat.lt_succ_iff_lt_or_eq.1 hy with q | q
    · exact h.ok y z j k a b q hz hj hk ha hb
    · rw [q] at hj hz
      rw [same j hj, o.m_] at ha
      injection ha with ha
      rw [← ha]
      have h1 := h.up z k b hz hk hb
      rcases no with no | no
      · unfold Cl.ahead Cl.must Cl.open_
        have hpu : m.cl.put = true := by
          have h2 := o.fit
          unfold Cm.fit at h2
          rw [Bool.and_eq_true, Bool.and_eq_true] at h2
          have h3 : m.opn = m.opb := by simpa using h2.1.2
          rw [no] at h3
          unfold Cm.opb at h3
          cases p : m.put
          · rw [p] at h3; cases h3
          · exact p
        rw [hpu, show m.cl.opn = true from no]
        simp
      · unfold Cl.ahead
        rw [decide_eq_false (show ¬ m.cl.to < b.cl.frm by show ¬ m.to < b.frm; omega), Bool.and_false]
theorem LQ.bad {ms : List Cm} {Rn : List Nat} {x i : Nat} {m : Cm} {l : Int} (h : LQ ms Rn x l) (o : OQ ms Rn x i m) (ho : m.opn = false) (hlt : m.to < l) : ¬ ExC (ms.map Cm.cl) Rn (ms.map Cm.cl).length := by
  intro e
  obtain ⟨h1, h2⟩ := fit_done o.fit o.part ho
  rcases h.is with z | ⟨y, j, b, hy, hj, hb, hf⟩
  · omega
  · have hi : (ms.map Cm.cl)[i]? = some m.cl := by rw [List.getElem?_map, o.m_]; rfl
    have hjj : (ms.map Cm.cl)[j]? = some b.cl := by rw [List.getElem?_map, hb]; rfl
    have := e i (List.getElem?_eq_some_iff.1 hi).1 j (List.getElem?_eq_some_iff.1 hjj).1 m.cl b.cl hi hjj (by
      unfold Cl.ahead
      rw [h1, decide_eq_true (show 0 ≤ m.cl.to from h2), decide_eq_true (show m.cl.to < b.cl.frm by show m.to < b.frm; omega)]
      rfl) y x hj o.at_
    omega
theorem LQ.good {ms : List Cm} {Rn : List Nat} {l : Int} (h : LQ ms Rn Rn.length l) : ExC (ms.map Cm.cl) Rn (ms.map Cm.cl).length := by
  intro i hi j hj a b ha hb hab x y hx hy
  rw [List.getElem?_map] at ha hb
  cases qa : ms[i]? with
  | none => rw [qa] at ha; cases ha
  | some ma =>
    cases qb : ms[j]? with
    | none => rw [qb] at hb; cases hb
    | some mb =>
      rw [qa] at ha
      rw [qb] at hb
      have ea : ma.cl = a := by simpa using ha
      have eb : mb.cl = b := by simpa using hb
      by_cases q : y ≤ x
      · exact q
      · have := h.ok y x i j ma mb (List.getElem?_eq_some_iff.1 hy).1 (by omega) hy hx qa qb
        rw [ea, eb, hab] at this
        cases this
set_option maxRecDepth 100000 in
set_option maxHeartbeats 4000000 in
theorem oTimes {w : World} {p0 : Option Addr} {n c0 : Nat} {ms : List Cm} (cr : CRd w p0 n c0 ms) (fit : FitL ms) {q : Option Addr} {k kc : Nat} {R : List Int} (ir : IRd w q k kc R) {Rn : List Nat} (hR : R = Rn.map fun r : Nat => (r : Int)) (hA : ExA (ms.map Cm.cl) Rn Rn.length) : Calls Try.prog 40 #[.slice p0 n c0, .slice q k kc] w (RetB fun v w' => (v = true ↔ ExC (ms.map Cm.cl) Rn n) ∧ Kept (fun _ => False) w w') := by
  have rm := cr.room
  have sm := cr.small
  have rk := ir.room
  have sk := ir.small
  unfold maxLen at sm sk
  have hk : Rn.length = k := by rw [← ir.len, hR, List.length_map]
  have LN : Hid ((ms.map Cm.cl).length = n) := by unfold Hid; rw [List.length_map]; exact cr.len
  have AT : Hid (∀ x, x < k → ∃ i m, R[x]? = some ((i : Nat) : Int) ∧ i < n ∧ OQ ms Rn x i m) := fun x hx => by
    have hx2 : x < Rn.length := by rw [hk]; exact hx
    obtain ⟨_, c, h2, h3⟩ := hA x hx2 Rn[x] (List.getElem?_eq_getElem hx2)
    rw [List.getElem?_map] at h2
    cases qm : ms[Rn[x]]? with
    | none => rw [qm] at h2; cases h2
    | some m =>
      rw [qm] at h2
      have e : m.cl = c := by simpa using h2
      have hin := (List.getElem?_eq_some_iff.1 qm).1
      rw [cr.len] at hin
      exact ⟨Rn[x], m, by rw [hR, List.getElem?_map, List.getElem?_eq_getElem hx2]; rfl, hin, ⟨List.getElem?_eq_getElem hx2, qm, by rw [e]; exact h3, (fit m (List.mem_of_getElem? qm)).2⟩⟩
  have H : Hid (CRd w p0 n c0 ms ∧ IRd w q k kc R) := ⟨cr, ir⟩
  have L0 : Hid (LQ ms Rn 0 0 ∧ Kept (fun _ => False) w w) := ⟨⟨fun _ _ _ h => absurd h (Nat.not_lt_zero _), .inl rfl, fun _ _ _ _ _ _ h => absurd h (Nat.not_lt_zero _)⟩, Kept.refl _ _⟩
  clear cr fit ir hR hA
  go_enter Try.func40, Try.ntmps40
  go_wp2_with fail
  go_loopw [5, 7, 10] (fun u5 _ u10 wy => ∃ (x : Nat) (l : Int), u10 = .int .i64 (x : Int) ∧ u5 = .int .i64 l ∧ x ≤ k ∧ 0 ≤ l ∧ Hid (LQ ms Rn x l ∧ Kept (fun _ => False) w wy)) (fun _ _ u10 _ => k - (intOf u10).toNat)
  case atStart => exact ⟨0, 0, rfl, rfl, Nat.zero_le _, Int.le_refl _, L0⟩
  case round =>
    obtain ⟨x, l, rfl, rfl, hx, hl0, S⟩ := hrel
    clear L0
    obtain ⟨wo, hwo⟩ : ∃ wo, wo = wr := ⟨_, rfl⟩
    rw [← hwo] at S ⊢
    clear hwo
    by_cases hlt : x < k
    · have x1 : (x : Int) < (k : Int) := by omega
      obtain ⟨i, m, hz, hin, oq⟩ := AT.out x hlt
      obtain ⟨bq, oq', z, rfl, hz2, cz⟩ := (H.out.2.k0 S.out.2).at hlt
      have ez : z = (i : Int) := by rw [hz] at hz2; exact (Option.some.inj hz2).symm
      subst ez
      have i1 : (i : Int) < (n : Int) := by omega
      obtain ⟨b8, off8, m', rfl, hm', _, _, _, _, _, _, y6, y7, y8, _, _, _⟩ := (H.out.1.k0 S.out.2).at hin
      have em : m' = m := by
        have e := oq.m_
        rw [hm'] at e
        injection e
      subst em
      have OH : Hid (OQ ms Rn x i m') := oq
      obtain ⟨on, hon⟩ : ∃ on, m'.opn = on := ⟨_, rfl⟩
      rw [hon] at y8
      have HON : Hid (m'.opn = on) := hon
      clear hz hz2 hm' oq hon
      cases on
      · by_cases ht : m'.to < l
        · have ht' : decide (m'.to < l) = true := decide_eq_true ht
          have NO : Hid (¬ ExC (ms.map Cm.cl) Rn n) := by
            have h := S.out.1.bad OH.out HON.out ht
            rw [LN.out] at h
            exact h
          go_wp2_with fail
          go_ret
          exact RetB.mk false rfl ⟨⟨fun z => (by cases z), fun z => absurd z NO.out⟩, S.out.2⟩
        · have ht' : decide (m'.to < l) = false := decide_eq_false ht
          have NX : Hid (LQ ms Rn (x + 1) (max l m'.frm)) := S.out.1.add OH.out (.inr ht)
          go_wp2_with fail
          go_roundw
          case rel => exact ⟨x + 1, max l m'.frm, by go_num, by first | rfl | simp, by omega, by omega, NX.out, S.out.2⟩
          case measure => simp [intOf] <;> omega
      · have NX : Hid (LQ ms Rn (x + 1) (max l m'.frm)) := S.out.1.add OH.out (.inl HON.out)
        go_wp2_with fail
        go_roundw
        case rel => exact ⟨x + 1, max l m'.frm, by go_num, by first | rfl | simp, by omega, by omega, NX.out, S.out.2⟩
        case measure => simp [intOf] <;> omega
    · have x1 : ¬ (x : Int) < (k : Int) := by omega
      have YES : Hid (ExC (ms.map Cm.cl) Rn n) := by
        have h1 := S.out.1
        rw [show x = Rn.length by omega] at h1
        have h2 := h1.good
        rw [LN.out] at h2
        exact h2
      go_wp2_with fail
      go_ret
      exact RetB.mk true rfl ⟨⟨fun _ => YES.out, fun _ => rfl⟩, S.out.2⟩
end Go.Proofs.Ytodmakcklacbfaa
