import Derived.Test.YtodmakcklacbfaaPMadeE
namespace Go.Proofs.Ytodmakcklacbfaa
open Go.RowKit Go.Shelf Go.Lib Go.Sort

theorem expl_run {ms : List Cm} {R : List Nat} (h : Expl ms (R.map fun r : Nat => (r : Int))) : XRun (ms.map Cm.cl) R [] none := by
  obtain ⟨Rn, e, x⟩ := h
  have := map_inj e
  subst this
  exact x
/-- With one twice they don't explain. -/
theorem Md.twice_no (v : Md) {n i : Nat} (hi : i < n) : ¬ Expl (v.hist n) ((List.range n ++ [i]).map fun r : Nat => (r : Int)) := by
  intro h
  obtain ⟨a, _⟩ := (explain_iff (v.fit n).nb).1 (expl_run h)
  have := (a n (by simp) i (by rw [List.getElem?_append_right (by simp)]; simp)).1
  rw [List.take_left' (by simp)] at this
  exact this (List.mem_range.2 hi)
/-- With one left out that is due they don't. -/
theorem Md.less_no (v : Md) {n i : Nat} (hi : i < n) (ho : (v.one i).opn = false) : ¬ Expl (v.hist n) (((List.range n).take i ++ (List.range n).drop (i + 1)).map fun r : Nat => (r : Int)) := by
  intro h
  obtain ⟨_, b, _⟩ := (explain_iff (v.fit n).nb).1 (expl_run h)
  have mu : (v.one i).cl.must = true := by
    unfold Cl.must
    rw [v.part i]
    unfold Cl.open_
    have e : (v.one i).cl.opn = false := ho
    rw [e]
    simp
  have := b i (by rw [v.len]; exact hi) _ (v.cs_at hi) mu
  rcases List.mem_append.1 this with z | z
  · rw [List.take_range] at z
    have := List.mem_range.1 z
    omega
  · obtain ⟨j, hj, e⟩ := List.getElem_of_mem z
    rw [List.getElem_drop, List.getElem_range] at e
    omega
theorem lastF_is (cs : List Cl) : ∀ (R : List Nat) (l : Int), lastF cs R l = l ∨ ∃ q c, lastF cs R l = ((q : Nat) : Int) ∧ cs[q]? = some c ∧ c.put = true
  | [], l => .inl rfl
  | a :: R, l => by
    show lastF cs R (match cs[a]? with | some c => if c.put = true then (a : Int) else l | .none => l) = l ∨ ∃ q c, lastF cs R (match cs[a]? with | some c => if c.put = true then (a : Int) else l | .none => l) = ((q : Nat) : Int) ∧ cs[q]? = some c ∧ c.put = true
    cases h : cs[a]? with
    | none => exact lastF_is cs R l
    | some c =>
      by_cases hp : c.put = true
      · simp only [hp]
        rcases lastF_is cs R (a : Int) with z | z
        · exact .inr ⟨a, c, z, h, hp⟩
        · exact .inr z
      · have hp : c.put = false := by simpa using hp
        simp only [hp]
        exact lastF_is cs R l
theorem lastF_same {cs cs' : List Cl} (h : ∀ r : Nat, (cs'[r]?).map Cl.put = (cs[r]?).map Cl.put) : ∀ (R : List Nat) (l : Int), lastF cs' R l = lastF cs R l
  | [], _ => rfl
  | a :: R, l => by
    have e : (match cs'[a]? with | some c => if c.put = true then (a : Int) else l | .none => l) = (match cs[a]? with | some c => if c.put = true then (a : Int) else l | .none => l) := by
      have := h a
      cases q : cs'[a]? with
      | none =>
        rw [q] at this
        cases q2 : cs[a]? with
        | none => rfl
        | some c => rw [q2] at this; cases this
      | some c =>
        rw [q] at this
        cases q2 : cs[a]? with
        | none => rw [q2] at this; cases this
        | some c2 =>
          rw [q2] at this
          have this : c.put = c2.put := Option.some.inj this
          show (if c.put = true then _ else _) = (if c2.put = true then _ else _)
          rw [this]
    exact (congrArg (lastF cs' R) e).trans (lastF_same h R _)
/-- A Get's value is another one now. -/
theorem changed_no {ms : List Cm} {i : Nat} {m m' : Cm} (fit : FitL ms) (hm : ms[i]? = some m) (h1 : m.put = false) (h2 : m.st = 0) (h3 : m.cl.must = true) (e : m'.cl = { m.cl with val := m.val ++ [120] }) (fit' : FitL (ms.set i m')) {R : List Nat} (x : Expl ms (R.map fun r : Nat => (r : Int))) : ¬ Expl (ms.set i m') (R.map fun r : Nat => (r : Int)) := by
  intro y
  obtain ⟨_, b, _, d⟩ := (explain_iff fit.nb).1 (expl_run x)
  obtain ⟨_, _, _, d'⟩ := (explain_iff fit'.nb).1 (expl_run y)
  have hi := (List.getElem?_eq_some_iff.1 hm).1
  have hc : (ms.map Cm.cl)[i]? = some m.cl := by rw [List.getElem?_map, hm]; rfl
  have hc' : ((ms.set i m').map Cm.cl)[i]? = some m'.cl := by rw [List.getElem?_map, List.getElem?_set_self hi]; rfl
  have inR := b i (by rw [List.length_map]; exact hi) _ hc h3
  obtain ⟨k, hk, ek⟩ := List.getElem_of_mem inR
  have hk2 : R[k]? = some i := by rw [List.getElem?_eq_getElem hk, ek]
  have other : ∀ r, r ≠ i → ((ms.set i m').map Cm.cl)[r]? = (ms.map Cm.cl)[r]? := fun r hr => by rw [List.getElem?_map, List.getElem?_map, List.getElem?_set_ne (fun z => hr z.symm)]
  have sp : ∀ r : Nat, (((ms.set i m').map Cm.cl)[r]?).map Cl.put = ((ms.map Cm.cl)[r]?).map Cl.put := fun r => by
    by_cases er : r = i
    · subst er
      rw [hc, hc', e]
      rfl
    · rw [other r er]
  have d1 := d k hk i _ hk2 hc
  have d2 := d' k hk i _ hk2 hc'
  unfold ExD1 at d1 d2
  rw [lastF_same sp, e] at d2
  rcases d1 with z | ⟨_, d1⟩
  · have z : m.put = true := z
    rw [h1] at z; cases z
  · rcases d2 with z | ⟨_, d2⟩
    · have z : m.put = true := z
      rw [h1] at z; cases z
    · have d1 := d1 h2
      have d2 := d2 h2
      have same : valOf' ((ms.set i m').map Cm.cl) (lastF (ms.map Cm.cl) (R.take k) (-1)) = valOf' (ms.map Cm.cl) (lastF (ms.map Cm.cl) (R.take k) (-1)) := by
        rcases lastF_is (ms.map Cm.cl) (R.take k) (-1) with z | ⟨q, c, z, zc, zp⟩
        · rw [z]
          unfold valOf'
          rw [if_pos (by omega), if_pos (by omega)]
        · rw [z]
          unfold valOf'
          rw [if_neg (by omega), if_neg (by omega), Int.toNat_natCast]
          by_cases eq : q = i
          · subst eq
            rw [hc] at zc
            have zc := Option.some.inj zc
            rw [← zc] at zp
            have zp : m.put = true := zp
            rw [h1] at zp; cases zp
          · rw [other q eq]
      rw [same, d1] at d2
      have d2 : m.val = m.val ++ [120] := Option.some.inj d2
      have := congrArg List.length d2
      simp at this
theorem fit_set {ms : List Cm} {i : Nat} {m m' : Cm} (fit : FitL ms) (hm : ms[i]? = some m) (hk : m'.key = m.key) (hf : m'.fit = m.fit) : FitL (ms.set i m') := by
  have key : ∀ x ∈ ms.set i m', ∃ y ∈ ms, x.key = y.key ∧ x.fit = y.fit := by
    intro x hx
    rcases List.mem_or_eq_of_mem_set hx with z | z
    · exact ⟨x, z, rfl, rfl⟩
    · exact ⟨m, List.mem_of_getElem? hm, by rw [z]; exact ⟨hk, hf⟩⟩
  have all : ∀ y ∈ ms, ∀ y2 ∈ ms, y.key = y2.key := by
    intro y hy y2 hy2
    have hl : 0 < ms.length := by have := List.length_pos_of_mem hy; exact this
    have h0 : ms[0]? = some ms[0] := List.getElem?_eq_getElem hl
    rw [(fit y hy).1 _ h0, (fit y2 hy2).1 _ h0]
  intro x hx
  obtain ⟨y, hy, e1, e2⟩ := key x hx
  refine ⟨fun m0 h0 => ?_, by rw [e2]; exact (fit y hy).2⟩
  obtain ⟨y0, hy0, e3, _⟩ := key m0 (List.mem_of_getElem? h0)
  rw [e1, e3]
  exact all y hy y0 hy0
/-- The tag of a group. -/
def tgx (g : Nat) : Int := if g = 0 then 0 else (g : Int)
def tgy (g : Nat) : Int := if g = 0 then 0 else 99 + (g : Int)
theorem Md.tag_of (v : Md) (x : Nat) (h : ((v.one x).opn && kIsZero (v.one x).tx (v.one x).ty) = false) : (v.one x).tx = tgx (v.gr x) ∧ (v.one x).ty = tgy (v.gr x) := by
  unfold tgx tgy
  cases ht : (v.one x).tells
  · have ht2 := ht
    rw [v.tells] at ht2
    cases q : v.isP x
    · cases r : v.lp x with
      | none =>
        rw [v.abs_gr q r, v.one_none q r]
        exact ⟨rfl, rfl⟩
      | some p => rw [q, r] at ht2; cases ht2
    · rw [q] at ht2
      have hs : v.si x = true := by simpa using ht2
      unfold Md.si at hs
      rw [Bool.and_eq_true] at hs
      rw [v.one_put q] at h
      unfold Md.put kIsZero at h
      rw [hs.2, v.sil_op _ _ hs.2] at h
      cases h
  · obtain ⟨h1, h2, h3⟩ := v.tag x ht
    rw [if_neg (by omega), if_neg (by omega)]
    exact ⟨h1, h2⟩
theorem tg_le {a b : Nat} (h : a ≤ b) : ¬ kTcmp (tgx b) (tgy b) (tgx a) (tgy a) < 0 := by
  unfold kTcmp
  rw [kor_lt, kicmp_lt]
  unfold tgx tgy
  split <;> split <;> omega
theorem Md.Rel.le {v : Md} {j i : Nat} (h : v.Rel j i) : v.gr j ≤ v.gr i := by
  rcases h with h | ⟨h, _⟩ <;> omega
theorem Md.ki (v : Md) {n : Nat} (hn : n ≤ 12) : (∀ m ∈ v.hist n, KI m.client) ∧ (∀ m ∈ v.hist n, KI m.ty) := by
  have key : ∀ m ∈ v.hist n, KI m.client ∧ KI m.ty := by
    intro m hm
    unfold Md.hist at hm
    obtain ⟨i, hi, rfl⟩ := List.mem_map.1 hm
    have hi := List.mem_range.1 hi
    cases q : v.isP i
    · cases r : v.lp i with
      | none =>
        rw [v.one_none q r]
        refine ⟨?_, ?_⟩
        · show KI (100 + (i : Int)); unfold KI; omega
        · show KI 0; unfold KI; omega
      | some p =>
        have := (v.lp_lt r).1
        rw [v.one_get q r]
        refine ⟨?_, ?_⟩
        · show KI (100 + (i : Int)); unfold KI; omega
        · show KI (100 + (p : Int)); unfold KI; omega
    · rw [v.one_put q]
      refine ⟨?_, ?_⟩
      · show KI (100 + (i : Int)); unfold KI; omega
      · show KI (if v.sil v.opn.length i = true then 0 else 100 + (i : Int))
        split <;> unfold KI <;> omega
  exact ⟨fun m hm => (key m hm).1, fun m hm => (key m hm).2⟩
end Go.Proofs.Ytodmakcklacbfaa
