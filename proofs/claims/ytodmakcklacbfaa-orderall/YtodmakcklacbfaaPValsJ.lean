import Derived.Test.YtodmakcklacbfaaPJust
namespace Go.Proofs.Ytodmakcklacbfaa
open Go.RowKit 

theorem fit_bad {m : Cm} (h : m.fit = true) : m.cl.bad = false := by
  unfold Cm.fit at h
  rw [Bool.and_eq_true, Bool.and_eq_true, Bool.and_eq_true] at h
  have h1 := of_decide_eq_true h.1.1.1
  have h2 := h.1.1.2
  unfold Cl.bad Cm.cl
  dsimp only
  rw [decide_eq_false (show ¬ m.frm < 0 by omega), Bool.false_or]
  by_cases e : m.to = -1
  · simp [e]
  · rw [decide_eq_false e, Bool.false_or] at h2
    have := of_decide_eq_true h2
    rw [decide_eq_false (show ¬ m.to ≤ m.frm by omega), Bool.and_false]
/-- A call that isn't open, of an order, has returned. -/
theorem fit_done {m : Cm} (h : m.fit = true) (hp : m.cl.part = true) (ho : m.opn = false) : m.cl.must = true ∧ 0 ≤ m.to := by
  have hm : m.cl.must = true := by
    have := fit_part h
    rw [ho, hp] at this
    simpa using this
  refine ⟨hm, ?_⟩
  unfold Cm.fit at h
  rw [Bool.and_eq_true, Bool.and_eq_true, Bool.and_eq_true] at h
  have h1 := of_decide_eq_true h.1.1.1
  have h2 := h.1.1.2
  have h3 : m.opn = m.opb := by simpa using h.1.2
  rw [ho] at h3
  by_cases e : m.to = -1
  · unfold Cm.opb at h3
    rw [decide_eq_true e] at h3
    have hpu : m.put = false := by simpa using h3.symm
    unfold Cl.part Cm.cl at hp
    dsimp only at hp
    rw [hpu] at hp
    simp at hp
    exact hp.1
  · rw [decide_eq_false e, Bool.false_or] at h2
    have := of_decide_eq_true h2
    omega
/-- What stands at the places of an order. -/
structure OQ (ms : List Cm) (Rn : List Nat) (x i : Nat) (m : Cm) : Prop where
  at_ : Rn[x]? = some i
  m_ : ms[i]? = some m
  part : m.cl.part = true
  fit : m.fit = true
/-- The latest beginning of those ahead. -/
structure LQ (ms : List Cm) (Rn : List Nat) (x : Nat) (l : Int) : Prop where
  up : ∀ y i m, y < x → Rn[y]? = some i → ms[i]? = some m → m.frm ≤ l
  is : l = 0 ∨ ∃ y i m, y < x ∧ Rn[y]? = some i ∧ ms[i]? = some m ∧ m.frm = l
  ok : ∀ y z i j a b, y < x → z < y → Rn[y]? = some i → Rn[z]? = some j → ms[i]? = some a → ms[j]? = some b → a.cl.ahead b.cl = false
theorem LQ.add {ms : List Cm} {Rn : List Nat} {x i : Nat} {m : Cm} {l : Int} (h : LQ ms Rn x l) (o : OQ ms Rn x i m) (no : m.opn = true ∨ ¬ m.to < l) : LQ ms Rn (x + 1) (max l m.frm) := by
  have same : ∀ j, Rn[x]? = some j → j = i := fun j hj => by rw [o.at_] at hj; exact (Option.some.inj hj).symm
  refine ⟨fun y j b hy hj hb => ?_, ?_, fun y z j k a b hy hz hj hk ha hb => ?_⟩
  · rcases Nat.lt_succ_iff_lt_or_eq.1 hy with q | q
    · have := h.up y j b q hj hb
      omega
    · rw [q] at hj
      rw [same j hj, o.m_] at hb
      injection hb with hb
      rw [hb]
      omega
  · by_cases q : l ≤ m.frm
    · exact .inr ⟨x, i, m, by omega, o.at_, o.m_, by omega⟩
    · rcases h.is with e | ⟨y, j, b, h1, h2, h3, h4⟩
      · left; omega
      · exact .inr ⟨y, j, b, by omega, h2, h3, by omega⟩
  · rcases Nat.lt_succ_iff_lt_or_eq.1 hy with q | q
    · exact h.ok y z j k a b q hz hj hk ha hb
    · rw [q] at hj hz
      rw [same j hj, o.m_] at ha
      injection ha with ha
      rw [← ha]
      have h1 := h.up z k b hz hk hb
      rcases no with no | no
      · unfold Cl.ahead Cl.must Cl.open_
        have hpu : m.cl.put = true := by
          have h2 := o.fit
          unfold Cm.fit at h2
          rw [Bool.and_eq_true, Bool.and_eq_true] at h2
          have h3 : m.opn = m.opb := by simpa using h2.1.2
          rw [no] at h3
          unfold Cm.opb at h3
          cases p : m.put
          · rw [p] at h3; cases h3
          · exact p
        rw [hpu, show m.cl.opn = true from no]
        simp
      · unfold Cl.ahead
        rw [decide_eq_false (show ¬ m.cl.to < b.cl.frm by show ¬ m.to < b.frm; omega), Bool.and_false]
theorem LQ.bad {ms : List Cm} {Rn : List Nat} {x i : Nat} {m : Cm} {l : Int} (h : LQ ms Rn x l) (o : OQ ms Rn x i m) (ho : m.opn = false) (hlt : m.to < l) : ¬ ExC (ms.map Cm.cl) Rn (ms.map Cm.cl).length := by
  intro e
  obtain ⟨h1, h2⟩ := fit_done o.fit o.part ho
  rcases h.is with z | ⟨y, j, b, hy, hj, hb, hf⟩
  · omega
  · have hi : (ms.map Cm.cl)[i]? = some m.cl := by rw [List.getElem?_map, o.m_]; rfl
    have hjj : (ms.map Cm.cl)[j]? = some b.cl := by rw [List.getElem?_map, hb]; rfl
    have := e i (List.getElem?_eq_some_iff.1 hi).1 j (List.getElem?_eq_some_iff.1 hjj).1 m.cl b.cl hi hjj (by
      unfold Cl.ahead
      rw [h1, decide_eq_true (show 0 ≤ m.cl.to from h2), decide_eq_true (show m.cl.to < b.cl.frm by show m.to < b.frm; omega)]
      rfl) y x hj o.at_
    omega
theorem LQ.good {ms : List Cm} {Rn : List Nat} {l : Int} (h : LQ ms Rn Rn.length l) : ExC (ms.map Cm.cl) Rn (ms.map Cm.cl).length := by
  intro i hi j hj a b ha hb hab x y hx hy
  rw [List.getElem?_map] at ha hb
  cases qa : ms[i]? with
  | none => rw [qa] at ha; cases ha
  | some ma =>
    cases qb : ms[j]? with
    | none => rw [qb] at hb; cases hb
    | some mb =>
      rw [qa] at ha
      rw [qb] at hb
      have ea : ma.cl = a := by simpa using ha
      have eb : mb.cl = b := by simpa using hb
      by_cases q : y ≤ x
      · exact q
      · have := h.ok y x i j ma mb (List.getElem?_eq_some_iff.1 hy).1 (by omega) hy hx qa qb
        rw [ea, eb, hab] at this
        cases this
set_option maxRecDepth 100000 in
set_option maxHeartbeats 4000000 in
theorem oTimes {w : World} {p0 : Option Addr} {n c0 : Nat} {ms : List Cm} (cr : CRd w p0 n c0 ms) (fit : FitL ms) {q : Option Addr} {k kc : Nat} {R : List Int} (ir : IRd w q k kc R) {Rn : List Nat} (hR : R = Rn.map fun r : Nat => (r : Int)) (hA : ExA (ms.map Cm.cl) Rn Rn.length) : Calls Try.prog 40 #[.slice p0 n c0, .slice q k kc] w (RetB fun v w' => (v = true ↔ ExC (ms.map Cm.cl) Rn n) ∧ Kept (fun _ => False) w w') := by
  have rm := cr.room
  have sm := cr.small
  have rk := ir.room
  have sk := ir.small
  unfold maxLen at sm sk
  have hk : Rn.length = k := by rw [← ir.len, hR, List.length_map]
  have LN : Hid ((ms.map Cm.cl).length = n) := by unfold Hid; rw [List.length_map]; exact cr.len
  have AT : Hid (∀ x, x < k → ∃ i m, R[x]? = some ((i : Nat) : Int) ∧ i < n ∧ OQ ms Rn x i m) := fun x hx => by
    have hx2 : x < Rn.length := by rw [hk]; exact hx
    obtain ⟨_, c, h2, h3⟩ := hA x hx2 Rn[x] (List.getElem?_eq_getElem hx2)
    rw [List.getElem?_map] at h2
    cases qm : ms[Rn[x]]? with
    | none => rw [qm] at h2; cases h2
    | some m =>
      rw [qm] at h2
      have e : m.cl = c := by simpa using h2
      have hin := (List.getElem?_eq_some_iff.1 qm).1
      rw [cr.len] at hin
      exact ⟨Rn[x], m, by rw [hR, List.getElem?_map, List.getElem?_eq_getElem hx2]; rfl, hin, ⟨List.getElem?_eq_getElem hx2, qm, by rw [e]; exact h3, (fit m (List.mem_of_getElem? qm)).2⟩⟩
  have H : Hid (CRd w p0 n c0 ms ∧ IRd w q k kc R) := ⟨cr, ir⟩
  have L0 : Hid (LQ ms Rn 0 0 ∧ Kept (fun _ => False) w w) := ⟨⟨fun _ _ _ h => absurd h (Nat.not_lt_zero _), .inl rfl, fun _ _ _ _ _ _ h => absurd h (Nat.not_lt_zero _)⟩, Kept.refl _ _⟩
  clear cr fit ir hR hA
  go_enter Try.func40, Try.ntmps40
  go_wp2_with fail
  go_loopw [5, 7, 10] (fun u5 _ u10 wy => ∃ (x : Nat) (l : Int), u10 = .int .i64 (x : Int) ∧ u5 = .int .i64 l ∧ x ≤ k ∧ 0 ≤ l ∧ Hid (LQ ms Rn x l ∧ Kept (fun _ => False) w wy)) (fun _ _ u10 _ => k - (intOf u10).toNat)
  case atStart => exact ⟨0, 0, rfl, rfl, Nat.zero_le _, Int.le_refl _, L0⟩
  case round =>
    obtain ⟨x, l, rfl, rfl, hx, hl0, S⟩ := hrel
    clear L0
    obtain ⟨wo, hwo⟩ : ∃ wo, wo = wr := ⟨_, rfl⟩
    rw [← hwo] at S ⊢
    clear hwo
    by_cases hlt : x < k
    · have x1 : (x : Int) < (k : Int) := by omega
      obtain ⟨i, m, hz, hin, oq⟩ := AT.out x hlt
      obtain ⟨bq, oq', z, rfl, hz2, cz⟩ := (H.out.2.k0 S.out.2).at hlt
      have ez : z = (i : Int) := by rw [hz] at hz2; exact (Option.some.inj hz2).symm
      subst ez
      have i1 : (i : Int) < (n : Int) := by omega
      obtain ⟨b8, off8, m', rfl, hm', _, _, _, _, _, _, y6, y7, y8, _, _, _⟩ := (H.out.1.k0 S.out.2).at hin
      have em : m' = m := by
        have e := oq.m_
        rw [hm'] at e
        injection e
      subst em
      have OH : Hid (OQ ms Rn x i m') := oq
      obtain ⟨on, hon⟩ : ∃ on, m'.opn = on := ⟨_, rfl⟩
      rw [hon] at y8
      have HON : Hid (m'.opn = on) := hon
      clear hz hz2 hm' oq hon
      cases on
      · by_cases ht : m'.to < l
        · have ht' : decide (m'.to < l) = true := decide_eq_true ht
          have NO : Hid (¬ ExC (ms.map Cm.cl) Rn n) := by
            have h := S.out.1.bad OH.out HON.out ht
            rw [LN.out] at h
            exact h
          go_wp2_with fail
          go_ret
          exact RetB.mk false rfl ⟨⟨fun z => (by cases z), fun z => absurd z NO.out⟩, S.out.2⟩
        · have ht' : decide (m'.to < l) = false := decide_eq_false ht
          have NX : Hid (LQ ms Rn (x + 1) (max l m'.frm)) := S.out.1.add OH.out (.inr ht)
          go_wp2_with fail
          go_roundw
          case rel => exact ⟨x + 1, max l m'.frm, by go_num, by first | rfl | simp, by omega, by omega, NX.out, S.out.2⟩
          case measure => simp [intOf] <;> omega
      · have NX : Hid (LQ ms Rn (x + 1) (max l m'.frm)) := S.out.1.add OH.out (.inl HON.out)
        go_wp2_with fail
        go_roundw
        case rel => exact ⟨x + 1, max l m'.frm, by go_num, by first | rfl | simp, by omega, by omega, NX.out, S.out.2⟩
        case measure => simp [intOf] <;> omega
    · have x1 : ¬ (x : Int) < (k : Int) := by omega
      have YES : Hid (ExC (ms.map Cm.cl) Rn n) := by
        have h1 := S.out.1
        rw [show x = Rn.length by omega] at h1
        have h2 := h1.good
        rw [LN.out] at h2
        exact h2
      go_wp2_with fail
      go_ret
      exact RetB.mk true rfl ⟨⟨fun _ => YES.out, fun _ => rfl⟩, S.out.2⟩
end Go.Proofs.Ytodmakcklacbfaa

namespace Go.Proofs.Ytodmakcklacbfaa
open Go.RowKit 

/-- The value that stands, as the program carries it. -/
structure VQ (ms : List Cm) (w : World) (Rn : List Nat) (x : Nat) (is : Bool) (va : Option Addr) (vn vc : Nat) : Prop where
  no : is = false → lastF (ms.map Cm.cl) (Rn.take x) (-1) < 0
  yes : is = true → ∃ l v, lastF (ms.map Cm.cl) (Rn.take x) (-1) = ((l : Nat) : Int) ∧ valOf' (ms.map Cm.cl) (l : Int) = some v ∧ Reads w va vn vc v
theorem VQ.k0 {ms : List Cm} {w w' : World} {Rn : List Nat} {x : Nat} {is : Bool} {va : Option Addr} {vn vc : Nat} (h : VQ ms w Rn x is va vn vc) (K : Kept (fun _ => False) w w') : VQ ms w' Rn x is va vn vc := by
  refine ⟨h.no, fun z => ?_⟩
  obtain ⟨l, v, h1, h2, h3⟩ := h.yes z
  exact ⟨l, v, h1, h2, Reads.kept K h3 (fun _ _ z => z)⟩
theorem lastF_snoc {ms : List Cm} {Rn : List Nat} {x i : Nat} {m : Cm} (o : OQ ms Rn x i m) : lastF (ms.map Cm.cl) (Rn.take (x + 1)) (-1) = if m.put = true then (i : Int) else lastF (ms.map Cm.cl) (Rn.take x) (-1) := by
  rw [List.take_add_one, o.at_]
  show lastF (ms.map Cm.cl) (Rn.take x ++ [i]) (-1) = _
  rw [lastF_add, List.getElem?_map, o.m_]
  rfl
theorem ExD.add {ms : List Cm} {Rn : List Nat} {x i : Nat} {m : Cm} (h : ExD (ms.map Cm.cl) Rn x) (o : OQ ms Rn x i m) (h1 : ExD1 (ms.map Cm.cl) Rn x m.cl) : ExD (ms.map Cm.cl) Rn (x + 1) := by
  intro n hn r c hr hc
  rcases Nat.lt_succ_iff_lt_or_eq.1 hn with z | z
  · exact h n z r c hr hc
  · rw [z] at hr ⊢
    rw [o.at_] at hr
    injection hr with hr
    rw [← hr, List.getElem?_map, o.m_] at hc
    have hc : m.cl = c := by simpa using hc
    rw [← hc]
    exact h1
theorem ExD.not {ms : List Cm} {Rn : List Nat} {x i : Nat} {m : Cm} (o : OQ ms Rn x i m) (h1 : ¬ ExD1 (ms.map Cm.cl) Rn x m.cl) : ¬ ExD (ms.map Cm.cl) Rn Rn.length := fun h =>
  h1 (h x (List.getElem?_eq_some_iff.1 o.at_).1 i m.cl o.at_ (by rw [List.getElem?_map, o.m_]; rfl))
set_option maxRecDepth 100000 in
set_option maxHeartbeats 4000000 in
theorem oValues {w : World} {p0 : Option Addr} {n c0 : Nat} {ms : List Cm} (cr : CRd w p0 n c0 ms) (fit : FitL ms) {q : Option Addr} {k kc : Nat} {R : List Int} (ir : IRd w q k kc R) {Rn : List Nat} (hR : R = Rn.map fun r : Nat => (r : Int)) (hA : ExA (ms.map Cm.cl) Rn Rn.length) : Calls Try.prog 41 #[.slice p0 n c0, .slice q k kc] w (RetB fun v w' => (v = true ↔ ExD (ms.map Cm.cl) Rn k) ∧ Kept (fun _ => False) w w') := by
  have rm := cr.room
  have sm := cr.small
  have rk := ir.room
  have sk := ir.small
  unfold maxLen at sm sk
  have hk : Rn.length = k := by rw [← ir.len, hR, List.length_map]
  have AT : Hid (∀ x, x < k → ∃ i m, R[x]? = some ((i : Nat) : Int) ∧ i < n ∧ OQ ms Rn x i m) := fun x hx => by
    have hx2 : x < Rn.length := by rw [hk]; exact hx
    obtain ⟨_, c, h2, h3⟩ := hA x hx2 Rn[x] (List.getElem?_eq_getElem hx2)
    rw [List.getElem?_map] at h2
    cases qm : ms[Rn[x]]? with
    | none => rw [qm] at h2; cases h2
    | some m =>
      rw [qm] at h2
      have e : m.cl = c := by simpa using h2
      have hin := (List.getElem?_eq_some_iff.1 qm).1
      rw [cr.len] at hin
      exact ⟨Rn[x], m, by rw [hR, List.getElem?_map, List.getElem?_eq_getElem hx2]; rfl, hin, ⟨List.getElem?_eq_getElem hx2, qm, by rw [e]; exact h3, (fit m (List.mem_of_getElem? qm)).2⟩⟩
  have H : Hid (CRd w p0 n c0 ms ∧ IRd w q k kc R ∧ Rn.length = k) := ⟨cr, ir, hk⟩
  have L0 : Hid (VQ ms w Rn 0 false none 0 0 ∧ ExD (ms.map Cm.cl) Rn 0 ∧ Kept (fun _ => False) w w) := ⟨⟨fun _ => by show (-1 : Int) < 0; omega, fun z => by cases z⟩, fun n hn => absurd hn (Nat.not_lt_zero _), Kept.refl _ _⟩
  clear cr fit ir hR hA hk
  go_enter Try.func41, Try.ntmps41
  go_wp2_with fail
  go_loopw [5, 6, 8, 9, 12] (fun u5 u6 _ _ u12 wy => ∃ (x : Nat) (is : Bool) (va : Option Addr) (vn vc : Nat), u12 = .int .i64 (x : Int) ∧ u5 = .bool is ∧ u6 = .slice va vn vc ∧ x ≤ k ∧ Hid (VQ ms wy Rn x is va vn vc ∧ ExD (ms.map Cm.cl) Rn x ∧ Kept (fun _ => False) w wy)) (fun _ _ _ _ u12 _ => k - (intOf u12).toNat)
  case atStart => exact ⟨0, false, none, 0, 0, rfl, rfl, rfl, Nat.zero_le _, L0⟩
  case round =>
    obtain ⟨x, is, va, vn, vc, rfl, rfl, rfl, hx, S⟩ := hrel
    clear L0
    obtain ⟨wo, hwo⟩ : ∃ wo, wo = wr := ⟨_, rfl⟩
    rw [← hwo] at S ⊢
    clear hwo
    by_cases hlt : x < k
    · have x1 : (x : Int) < (k : Int) := by omega
      obtain ⟨i, m, hz, hin, oq⟩ := AT.out x hlt
      obtain ⟨bq, oq', z, rfl, hz2, cz⟩ := (H.out.2.1.k0 S.out.2.2).at hlt
      have ez : z = (i : Int) := by rw [hz] at hz2; exact (Option.some.inj hz2).symm
      subst ez
      have i1 : (i : Int) < (n : Int) := by omega
      obtain ⟨b8, off8, m', rfl, hm', y0, y1, y2, y3, y4, y5, y6, y7, y8, y9, y10, rd⟩ := (H.out.1.k0 S.out.2.2).at hin
      have em : m' = m := by
        have e := oq.m_
        rw [hm'] at e
        injection e
      subst em
      have OH : Hid (OQ ms Rn x i m') := oq
      obtain ⟨wd, hW⟩ : ∃ wd, wd = wo.alloc (.cells m'.cs 38) := ⟨_, rfl⟩
      obtain ⟨D, hD⟩ : ∃ D, D = wo.heap.size := ⟨_, rfl⟩
      have KW : Kept (fun _ => False) wo wd := by rw [hW]; exact (Kept.refl _ _).alloc _
      have T : Hid (wd.heap[D]? = some (.cells m'.cs 38 (0, 0)) ∧ Kept (fun _ => False) w wd ∧ Reads wd m'.va m'.vn m'.vc m'.val ∧ VQ ms wd Rn x is va vn vc ∧ ExD (ms.map Cm.cl) Rn x) := ⟨by rw [hW, hD]; exact alloc_new _ _, S.out.2.2.trans KW (fun _ _ z => z), Reads.kept KW rd (fun _ _ z => z), S.out.1.k0 KW, S.out.2.1⟩
      have EWH : Hid (wd = wo.alloc (.cells #[.int .i64 m'.client, .int .i64 m'.op, .bool m'.put, .string m'.key, .slice m'.va m'.vn m'.vc, .int .i64 m'.st, .int .i64 m'.frm, .int .i64 m'.to, .bool m'.opn, .int .i64 m'.tx, .int .i64 m'.ty] 38) ∧ D = wo.heap.size) := ⟨hW, hD⟩
      clear hW hD KW hz hz2 hm' oq rd S
      go_upto_region 6 with fail
      rw [← EWH.out.1, ← EWH.out.2]
      clear EWH y0 y1 y2 y3 y4 y5 y6 y7 y8 y9 y10
      have d2 := cell_blk T.out.1 2 (v := .bool m'.put) rfl
      have d4 := cell_blk T.out.1 4 (v := .slice m'.va m'.vn m'.vc) rfl
      have d5 := cell_blk T.out.1 5 (v := .int .i64 m'.st) rfl
      obtain ⟨pu, hpu⟩ : ∃ pu, m'.put = pu := ⟨_, rfl⟩
      rw [hpu] at d2
      have HP : Hid (m'.put = pu) := hpu
      clear hpu
      cases pu
      · have LE : Hid (lastF (ms.map Cm.cl) (Rn.take (x + 1)) (-1) = lastF (ms.map Cm.cl) (Rn.take x) (-1)) := by
          have h := lastF_snoc OH.out
          rw [if_neg (by rw [HP.out]; simp)] at h
          exact h
        have KEEP : Hid (∀ V, Kept (fun _ => False) wd V → VQ ms V Rn (x + 1) is va vn vc) := fun V kv => by
          have h := T.out.2.2.2.1.k0 kv
          exact ⟨fun z => by rw [LE.out]; exact h.no z, fun z => by rw [LE.out]; exact h.yes z⟩
        have NP : Hid (¬ m'.cl.put = true) := by
          show ¬ m'.put = true
          rw [HP.out]
          simp
        by_cases h76 : m'.st = 76
        · rw [h76] at d5
          cases is
          · have E1 : Hid (ExD (ms.map Cm.cl) Rn (x + 1)) := T.out.2.2.2.2.add OH.out (.inr ⟨fun _ => T.out.2.2.2.1.no (by first | rfl | trivial), fun z => by have z : m'.st = 0 := z; omega⟩)
            go_wp2_with fail
            go_roundw
            case rel => exact ⟨x + 1, false, va, vn, vc, by go_num, rfl, rfl, by omega, KEEP.out _ (Kept.refl _ _), E1.out, T.out.2.1⟩
            case measure => simp [intOf] <;> omega
          · have NO : Hid (¬ ExD (ms.map Cm.cl) Rn k) := by
              rw [← H.out.2.2]
              refine ExD.not OH.out (fun z => ?_)
              rcases z with z | z
              · exact NP.out z
              · obtain ⟨l, v, h1, _⟩ := T.out.2.2.2.1.yes (by first | rfl | trivial)
                have := z.1 h76
                omega
            go_wp2_with fail
            go_ret
            exact RetB.mk false rfl ⟨⟨fun z => (by cases z), fun z => absurd z NO.out⟩, T.out.2.1⟩
        · have e76 : (m'.st == 76) = false := by simp [h76]
          have h0 : m'.st = 0 := by
            have hp := OH.out.part
            unfold Cl.part at hp
            rw [show m'.cl.put = false from HP.out] at hp
            simp at hp
            rcases hp.2 with z | z
            · exact z
            · exact absurd z h76
          cases is
          · have NO : Hid (¬ ExD (ms.map Cm.cl) Rn k) := by
              rw [← H.out.2.2]
              refine ExD.not OH.out (fun z => ?_)
              rcases z with z | z
              · exact NP.out z
              · have h1 := z.2 h0
                have h2 := T.out.2.2.2.1.no (by first | rfl | trivial)
                unfold valOf' at h1
                rw [if_pos h2] at h1
                cases h1
            go_wp2_with fail
            go_ret
            exact RetB.mk false rfl ⟨⟨fun z => (by cases z), fun z => absurd z NO.out⟩, T.out.2.1⟩
          · obtain ⟨l, v, h1, h2, h3⟩ := T.out.2.2.2.1.yes (by first | rfl | trivial)
            obtain ⟨qq, hqq⟩ : ∃ qq, qq = decide (v = m'.val) := ⟨_, rfl⟩
            have RB : Hid (Calls Try.prog 70 #[.slice va vn vc, .slice m'.va m'.vn m'.vc] wd fun o w' => o = .returned (.bool qq) ∧ Kept (fun _ => False) wd w') := by
              rw [hqq]
              exact (bytesEqual h3 T.out.2.2.1).mono (fun o w' ⟨e, e2⟩ => ⟨e, by rw [e2]; exact Kept.refl _ _⟩)
            have HQ : Hid (qq = decide (v = m'.val) ∧ valOf' (ms.map Cm.cl) (lastF (ms.map Cm.cl) (Rn.take x) (-1)) = some v) := ⟨hqq, by rw [h1]; exact h2⟩
            clear h1 h2 h3 hqq
            go_wp2_with fail
            refine RB.out.mono ?_
            rintro o w5 ⟨rfl, K5⟩
            have K6 : Hid (Kept (fun _ => False) wd w5) := K5
            clear K5 RB
            cases qq
            · have NO : Hid (¬ ExD (ms.map Cm.cl) Rn k) := by
                rw [← H.out.2.2]
                refine ExD.not OH.out (fun z => ?_)
                rcases z with z | z
                · exact NP.out z
                · have h4 := z.2 h0
                  rw [HQ.out.2] at h4
                  injection h4 with h4
                  have h5 := HQ.out.1
                  rw [decide_eq_true (show v = m'.val from h4)] at h5
                  cases h5
              go_wp2_with fail
              go_ret
              exact RetB.mk false rfl ⟨⟨fun z => (by cases z), fun z => absurd z NO.out⟩, T.out.2.1.trans K6.out (fun _ _ z => z)⟩
            · have E1 : Hid (ExD (ms.map Cm.cl) Rn (x + 1)) := T.out.2.2.2.2.add OH.out (.inr ⟨fun z => absurd (show m'.st = 76 from z) h76, fun _ => by
                rw [HQ.out.2, of_decide_eq_true HQ.out.1.symm]
                rfl⟩)
              go_wp2_with fail
              go_roundw
              case rel => exact ⟨x + 1, true, va, vn, vc, by go_num, rfl, rfl, by omega, KEEP.out _ K6.out, E1.out, T.out.2.1.trans K6.out (fun _ _ z => z)⟩
              case measure => simp [intOf] <;> omega
      · have V1 : Hid (VQ ms wd Rn (x + 1) true m'.va m'.vn m'.vc) := by
          refine ⟨fun z => (by cases z), fun _ => ⟨i, m'.val, ?_, ?_, T.out.2.2.1⟩⟩
          · rw [lastF_snoc OH.out, if_pos HP.out]
          · unfold valOf'
            rw [if_neg (by omega), Int.toNat_natCast, List.getElem?_map, OH.out.m_]
            rfl
        have E1 : Hid (ExD (ms.map Cm.cl) Rn (x + 1)) := T.out.2.2.2.2.add OH.out (.inl HP.out)
        go_upto_region 7 with fail
        go_quiet (fail)
        go_wp2_with fail
        go_roundw
        case rel => exact ⟨x + 1, true, m'.va, m'.vn, m'.vc, by go_num, rfl, rfl, by omega, V1.out.k0 ((Kept.refl _ _).drewN _), E1.out, T.out.2.1.drewN _⟩
        case measure => simp [intOf] <;> omega
    · have x1 : ¬ (x : Int) < (k : Int) := by omega
      have ex : k = x := by omega
      have YES : Hid (ExD (ms.map Cm.cl) Rn k) := by rw [ex]; exact S.out.2.1
      clear ex
      go_wp2_with fail
      go_ret
      exact RetB.mk true rfl ⟨⟨fun _ => YES.out, fun _ => rfl⟩, S.out.2.2⟩
end Go.Proofs.Ytodmakcklacbfaa
