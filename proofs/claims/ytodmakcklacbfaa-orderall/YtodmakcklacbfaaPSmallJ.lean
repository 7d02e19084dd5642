import Derived.Test.YtodmakcklacbfaaLFirstJ
namespace Go.Proofs.Ytodmakcklacbfaa
open Go.RowKit 

def Cm.agg (m : Cm) : Value := .agg #[.int .i64 m.client, .int .i64 m.op, .bool m.put, .string m.key, .slice m.va m.vn m.vc, .int .i64 m.st, .int .i64 m.frm, .int .i64 m.to, .bool m.opn, .int .i64 m.tx, .int .i64 m.ty]
theorem isOpen (m : Cm) (w : World) : Calls Try.prog 74 #[m.agg] w fun o w' => o = .returned (.bool (m.put && m.opn)) ∧ Kept (fun _ => False) w w' := by
  obtain ⟨cl, op, pu, ke, va, vn, vc, st, fr, too, on, tx, ty, vl⟩ := m
  unfold Cm.agg
  dsimp only
  go_enter Try.func74, Try.ntmps74
  cases pu
  · go_wp2_with fail
    go_ret
    exact ⟨rfl, (Kept.refl _ _).alloc _⟩
  · go_wp2_with fail
    go_ret
    exact ⟨by simp, (Kept.refl _ _).alloc _⟩
theorem hasPart (m : Cm) (w : World) : Calls Try.prog 45 #[m.agg] w fun o w' => o = .returned (.bool m.cl.part) ∧ Kept (fun _ => False) w w' := by
  obtain ⟨cl, op, pu, ke, va, vn, vc, st, fr, too, on, tx, ty, vl⟩ := m
  have E : Cl.part (Cm.cl ⟨cl, op, pu, ke, va, vn, vc, st, fr, too, on, tx, ty, vl⟩) = (pu || (decide (0 ≤ too) && (decide (st = 0) || decide (st = 76)))) := rfl
  rw [E]
  unfold Cm.agg
  dsimp only
  obtain ⟨b2, h2⟩ : ∃ b, (st == 0) = b := ⟨_, rfl⟩
  obtain ⟨b3, h3⟩ : ∃ b, (st == 76) = b := ⟨_, rfl⟩
  have e2 : decide (st = 0) = b2 := h2
  have e3 : decide (st = 76) = b3 := h3
  rw [e2, e3]
  clear E e2 e3
  go_enter Try.func45, Try.ntmps45
  cases pu
  · by_cases h1 : 0 ≤ too
    · cases b2
      · go_wp2_with fail
        go_ret
        exact ⟨by simp [h1], (Kept.refl _ _).alloc _⟩
      · go_wp2_with fail
        go_ret
        exact ⟨by simp [h1], (Kept.refl _ _).alloc _⟩
    · have h1' : decide (0 ≤ too) = false := decide_eq_false h1
      rw [h1']
      go_wp2_with fail
      go_ret
      exact ⟨by simp, (Kept.refl _ _).alloc _⟩
  · go_wp2_with fail
    go_ret
    exact ⟨by simp, (Kept.refl _ _).alloc _⟩
theorem badTimes (m : Cm) (w : World) : Calls Try.prog 44 #[m.agg] w fun o w' => o = .returned (.bool m.cl.bad) ∧ Kept (fun _ => False) w w' := by
  obtain ⟨cl, op, pu, ke, va, vn, vc, st, fr, too, on, tx, ty, vl⟩ := m
  have E : Cl.bad (Cm.cl ⟨cl, op, pu, ke, va, vn, vc, st, fr, too, on, tx, ty, vl⟩) = (decide (fr < 0) || (!decide (too = -1) && decide (too ≤ fr))) := rfl
  rw [E]
  unfold Cm.agg
  dsimp only
  clear E
  go_enter Try.func44, Try.ntmps44
  by_cases h1 : fr < 0
  · go_wp2_with fail
    go_ret
    exact ⟨by simp [h1], (Kept.refl _ _).alloc _⟩
  · by_cases h2 : too = -1
    · subst h2
      go_wp2_with fail
      go_ret
      exact ⟨by simp; omega, (Kept.refl _ _).alloc _⟩
    · by_cases h3 : too ≤ fr
      · have e1 : decide (fr < 0) = false := decide_eq_false h1
        have e2 : decide (too = -1) = false := decide_eq_false h2
        have e3 : decide (too ≤ fr) = true := decide_eq_true h3
        rw [e1, e2, e3]
        go_wp2_with fail
        go_ret
        exact ⟨by simp <;> omega, (Kept.refl _ _).alloc _⟩
      · have e1 : decide (fr < 0) = false := decide_eq_false h1
        have e2 : decide (too = -1) = false := decide_eq_false h2
        have e3 : decide (too ≤ fr) = false := decide_eq_false h3
        rw [e1, e2, e3]
        go_wp2_with fail
        go_ret
        exact ⟨by simp <;> omega, (Kept.refl _ _).alloc _⟩
theorem str_inj {l m : List Nat} (hl : ∀ c ∈ l, c < 256) (hm : ∀ c ∈ m, c < 256) (h : str l = str m) : l = m := by
  unfold str at h
  have h : (l.map UInt8.ofNat).toArray = (m.map UInt8.ofNat).toArray := congrArg ByteArray.data h
  have h : l.map UInt8.ofNat = m.map UInt8.ofNat := by simpa using h
  have inj : ∀ (l m : List Nat), (∀ c ∈ l, c < 256) → (∀ c ∈ m, c < 256) → l.map UInt8.ofNat = m.map UInt8.ofNat → l = m := by
    intro l
    induction l with
    | nil => intro m _ _ h; cases m with
      | nil => rfl
      | cons b m => simp at h
    | cons a l ih =>
      intro m hl hm h
      cases m with
      | nil => simp at h
      | cons b m =>
        rw [List.map_cons, List.map_cons] at h
        injection h with h1 h2
        have ha := hl a (by simp)
        have hb := hm b (by simp)
        have e : a = b := by
          have := congrArg UInt8.toNat h1
          simp at this
          omega
        rw [e, ih m (fun c hc => hl c (by simp [hc])) (fun c hc => hm c (by simp [hc])) h2]
  exact inj l m hl hm h
theorem ba_loop (b : ByteArray) : ∀ k i r, b.size - i = k → ByteArray.toList.loop b i r = r.reverse ++ b.data.toList.drop i := by
  have hl : b.data.toList.length = b.size := by rw [Array.length_toList]; rfl
  intro k
  induction k with
  | zero =>
    intro i r h
    unfold ByteArray.toList.loop
    rw [if_neg (by omega), List.drop_eq_nil_of_le (by omega)]
    simp
  | succ k ih =>
    intro i r h
    unfold ByteArray.toList.loop
    rw [if_pos (by omega), ih (i+1) _ (by omega), List.drop_eq_getElem_cons (i := i) (by omega)]
    have e : b.get! i = b.data.toList[i]'(by omega) := by
      have hs : i < b.data.size := by
        have : b.size = b.data.size := rfl
        omega
      show b.data[i]! = _
      rw [getElem!_pos b.data i hs]
      simp
    rw [e]
    simp
theorem ba_toList (b : ByteArray) : b.toList = b.data.toList := by
  unfold ByteArray.toList
  rw [ba_loop b _ 0 [] rfl]
  simp
theorem str_eq {l m : List Nat} (hl : ∀ c ∈ l, c < 256) (hm : ∀ c ∈ m, c < 256) : ((str l).toList == (str m).toList) = decide (l = m) := by
  by_cases h : l = m
  · rw [h, decide_eq_true rfl]
    exact beq_self_eq_true _
  · rw [decide_eq_false h]
    refine beq_false_of_ne fun z => h (str_inj hl hm ?_)
    rw [ba_toList, ba_toList] at z
    have : (str l).data = (str m).data := Array.toList_inj.1 z
    cases hs : str l
    cases ht : str m
    rw [hs, ht] at this
    exact congrArg ByteArray.mk this
set_option maxRecDepth 100000 in
theorem bytesEqual {w : World} {a b : Option Addr} {n c m e : Nat} {l k : List Nat} (h1 : Reads w a n c l) (h2 : Reads w b m e k) : Calls Try.prog 70 #[.slice a n c, .slice b m e] w fun o w' => o = .returned (.bool (decide (l = k))) ∧ w' = w := by
  have c1 := h1.string
  have c2 := h2.string
  obtain ⟨q, hq⟩ : ∃ q, q = decide (l = k) := ⟨_, rfl⟩
  have e1 : ((str l).toList == (str k).toList) = q := by rw [hq]; exact str_eq h1.bytes h2.bytes
  rw [← hq]
  clear h1 h2 hq
  go_enter Try.func70, Try.ntmps70
  go_wp2_with fail
  go_ret
  exact ⟨by first | rfl | simp, rfl⟩
end Go.Proofs.Ytodmakcklacbfaa

namespace Go.Proofs.Ytodmakcklacbfaa
open Go.RowKit 

/-- A Put that isn't known to have ended well. -/
def Cm.opb (m : Cm) : Bool := m.put && (decide (m.to = -1) || !decide (m.st = 0))
/-- A call as a history has it. -/
def Cm.fit (m : Cm) : Bool := decide (0 ≤ m.frm) && (decide (m.to = -1) || decide (m.frm < m.to)) && (m.opn == m.opb) && (!m.opb || decide (m.to = -1))
set_option maxRecDepth 100000 in
theorem oRead (m : Cm) (w : World) : Calls Try.prog 63 #[m.agg] w fun o w' => o = .returned (.bool (!m.put && decide (0 ≤ m.to) && decide (m.st = 0))) ∧ Kept (fun _ => False) w w' := by
  obtain ⟨cl, op, pu, ke, va, vn, vc, st, fr, too, on, tx, ty, vl⟩ := m
  unfold Cm.agg
  dsimp only
  obtain ⟨b2, h2⟩ : ∃ b, (st == 0) = b := ⟨_, rfl⟩
  have e2 : decide (st = 0) = b2 := h2
  rw [e2]
  clear e2
  go_enter Try.func63, Try.ntmps63
  cases pu
  · by_cases h1 : 0 ≤ too
    · have h1' : decide (0 ≤ too) = true := decide_eq_true h1
      go_wp2_with fail
      go_ret
      exact ⟨by simp [h1], (Kept.refl _ _).alloc _⟩
    · have h1' : decide (0 ≤ too) = false := decide_eq_false h1
      go_wp2_with fail
      go_ret
      exact ⟨by simp, (Kept.refl _ _).alloc _⟩
  · go_wp2_with fail
    go_ret
    exact ⟨by simp, (Kept.refl _ _).alloc _⟩
set_option maxRecDepth 100000 in
theorem oAbsent (m : Cm) (w : World) : Calls Try.prog 34 #[m.agg] w fun o w' => o = .returned (.bool (!m.put && decide (0 ≤ m.to) && decide (m.st = 76))) ∧ Kept (fun _ => False) w w' := by
  obtain ⟨cl, op, pu, ke, va, vn, vc, st, fr, too, on, tx, ty, vl⟩ := m
  unfold Cm.agg
  dsimp only
  obtain ⟨b2, h2⟩ : ∃ b, (st == 76) = b := ⟨_, rfl⟩
  have e2 : decide (st = 76) = b2 := h2
  rw [e2]
  clear e2
  go_enter Try.func34, Try.ntmps34
  cases pu
  · by_cases h1 : 0 ≤ too
    · have h1' : decide (0 ≤ too) = true := decide_eq_true h1
      go_wp2_with fail
      go_ret
      exact ⟨by simp [h1], (Kept.refl _ _).alloc _⟩
    · have h1' : decide (0 ≤ too) = false := decide_eq_false h1
      go_wp2_with fail
      go_ret
      exact ⟨by simp, (Kept.refl _ _).alloc _⟩
  · go_wp2_with fail
    go_ret
    exact ⟨by simp, (Kept.refl _ _).alloc _⟩
set_option maxRecDepth 100000 in
theorem oDue (m : Cm) (w : World) : Calls Try.prog 69 #[m.agg] w fun o w' => o = .returned (.bool m.cl.must) ∧ Kept (fun _ => False) w w' := by
  obtain ⟨v, hv⟩ : ∃ v, v = m.cl.must := ⟨_, rfl⟩
  rw [← hv]
  obtain ⟨pu, hpu⟩ : ∃ pu, m.put = pu := ⟨_, rfl⟩
  obtain ⟨rb, hrb⟩ : ∃ rb, rb = (!m.put && decide (0 ≤ m.to) && decide (m.st = 0)) := ⟨_, rfl⟩
  obtain ⟨ab, hab⟩ : ∃ ab, ab = (!m.put && decide (0 ≤ m.to) && decide (m.st = 76)) := ⟨_, rfl⟩
  have RR : Hid (∀ V, Calls Try.prog 63 #[m.agg] V fun o w' => o = .returned (.bool rb) ∧ Kept (fun _ => False) V w') := fun V => by rw [hrb]; exact oRead m V
  have RA : Hid (∀ V, Calls Try.prog 34 #[m.agg] V fun o w' => o = .returned (.bool ab) ∧ Kept (fun _ => False) V w') := fun V => by rw [hab]; exact oAbsent m V
  have HV : Hid ((pu = true → v = !m.opn) ∧ (pu = false → v = (rb || ab))) := by
    refine ⟨fun z => ?_, fun z => ?_⟩
    · rw [hv]
      unfold Cl.must Cl.part Cl.open_ Cm.cl
      rw [hpu, z]
      simp
    · rw [hv, hrb, hab]
      unfold Cl.must Cl.part Cl.open_ Cm.cl
      rw [hpu, z]
      cases decide (0 ≤ m.to) <;> cases decide (m.st = 0) <;> cases decide (m.st = 76) <;> rfl
  have HP : Hid (m.put = pu) := hpu
  clear hv hpu hrb hab
  unfold Cm.agg at RR RA ⊢
  rw [HP.out] at RR RA ⊢
  go_enter Try.func69, Try.ntmps69
  cases pu
  · go_wp2_with fail
    refine (RR.out _).mono ?_
    rintro o w1 ⟨rfl, K1⟩
    have b1 : w1.heap[w.heap.size]? = some (.cells #[.int .i64 m.client, .int .i64 m.op, .bool false, .string m.key, .slice m.va m.vn m.vc, .int .i64 m.st, .int .i64 m.frm, .int .i64 m.to, .bool m.opn, .int .i64 m.tx, .int .i64 m.ty] 38 (0, 0)) := K1.get (alloc_new _ _) (fun z => z)
    have K2 : Hid (Kept (fun _ => False) w w1) := ((Kept.refl _ _).alloc _).trans K1 (fun _ _ z => z)
    cases rb
    · have d0 := cell_blk b1 0 (v := .int .i64 m.client) rfl
      have d1 := cell_blk b1 1 (v := .int .i64 m.op) rfl
      have d2 := cell_blk b1 2 (v := .bool false) rfl
      have d3 := cell_blk b1 3 (v := .string m.key) rfl
      have d4 := cell_blk b1 4 (v := .slice m.va m.vn m.vc) rfl
      have d5 := cell_blk b1 5 (v := .int .i64 m.st) rfl
      have d6 := cell_blk b1 6 (v := .int .i64 m.frm) rfl
      have d7 := cell_blk b1 7 (v := .int .i64 m.to) rfl
      have d8 := cell_blk b1 8 (v := .bool m.opn) rfl
      have d9 := cell_blk b1 9 (v := .int .i64 m.tx) rfl
      have d10 := cell_blk b1 10 (v := .int .i64 m.ty) rfl
      clear b1 K1 RR
      go_wp2_with fail
      refine (RA.out _).mono ?_
      rintro o w2 ⟨rfl, K3⟩
      have K4 : Hid (Kept (fun _ => False) w w2) := K2.out.trans K3 (fun _ _ z => z)
      clear K3
      go_wp2_with fail
      go_ret
      exact ⟨by rw [HV.out.2 (by first | rfl | trivial)]; first | rfl | simp, K4.out⟩
    · clear b1 K1 RR
      go_wp2_with fail
      go_ret
      exact ⟨by rw [HV.out.2 (by first | rfl | trivial)]; first | rfl | simp, K2.out⟩
  · go_wp2_with fail
    go_ret
    exact ⟨by rw [HV.out.1 (by first | rfl | trivial)]; first | rfl | simp, (Kept.refl _ _).alloc _⟩
set_option maxRecDepth 100000 in
set_option maxHeartbeats 4000000 in
theorem oFit (m : Cm) (w : World) : Calls Try.prog 60 #[m.agg] w fun o w' => o = .returned (.bool m.fit) ∧ Kept (fun _ => False) w w' := by
  obtain ⟨cl, op, pu, ke, va, vn, vc, st, fr, too, on, tx, ty, vl⟩ := m
  obtain ⟨v, hv⟩ : ∃ v, v = Cm.fit ⟨cl, op, pu, ke, va, vn, vc, st, fr, too, on, tx, ty, vl⟩ := ⟨_, rfl⟩
  rw [← hv]
  have HV : Hid (v = (decide (0 ≤ fr) && (decide (too = -1) || decide (fr < too)) && (on == (pu && (decide (too = -1) || !decide (st = 0)))) && (!(pu && (decide (too = -1) || !decide (st = 0))) || decide (too = -1)))) := hv
  clear hv
  unfold Cm.agg
  dsimp only
  go_enter Try.func60, Try.ntmps60
  by_cases h0 : 0 ≤ fr
  · have h0' : decide (0 ≤ fr) = true := decide_eq_true h0
    by_cases ht : too = -1
    · subst ht
      cases pu
      · cases on
        · go_wp2_with fail
          go_ret
          exact ⟨by rw [HV.out]; simp [h0], (Kept.refl _ _).alloc _⟩
        · go_wp2_with fail
          go_ret
          exact ⟨by rw [HV.out]; simp, (Kept.refl _ _).alloc _⟩
      · cases on
        · go_wp2_with fail
          go_ret
          exact ⟨by rw [HV.out]; simp, (Kept.refl _ _).alloc _⟩
        · go_wp2_with fail
          go_ret
          exact ⟨by rw [HV.out]; simp [h0], (Kept.refl _ _).alloc _⟩
    · have e7 : (too == -1) = false := by simp [ht]
      have e7' : decide (too = -1) = false := decide_eq_false ht
      by_cases hg : fr < too
      · have hg' : decide (fr < too) = true := decide_eq_true hg
        cases pu
        · cases on
          · go_wp2_with fail
            go_ret
            exact ⟨by rw [HV.out]; simp [h0, ht, hg], (Kept.refl _ _).alloc _⟩
          · go_wp2_with fail
            go_ret
            exact ⟨by rw [HV.out]; simp, (Kept.refl _ _).alloc _⟩
        · by_cases hs : st = 0
          · subst hs
            cases on
            · go_wp2_with fail
              go_ret
              exact ⟨by rw [HV.out]; simp [h0, ht, hg], (Kept.refl _ _).alloc _⟩
            · go_wp2_with fail
              go_ret
              exact ⟨by rw [HV.out]; simp [ht], (Kept.refl _ _).alloc _⟩
          · have hs' : (st == 0) = false := by simp [hs]
            cases on
            · go_wp2_with fail
              go_ret
              exact ⟨by rw [HV.out]; simp [hs], (Kept.refl _ _).alloc _⟩
            · go_wp2_with fail
              go_ret
              exact ⟨by rw [HV.out]; simp [hs, ht], (Kept.refl _ _).alloc _⟩
      · have hg' : decide (fr < too) = false := decide_eq_false hg
        have vF : v = false := by rw [HV.out, e7', hg']; simp
        subst vF
        cases pu
        · go_wp2_with fail
          go_ret
          exact ⟨by first | rfl | simp, (Kept.refl _ _).alloc _⟩
        · by_cases hs : st = 0
          · subst hs
            go_wp2_with fail
            go_ret
            exact ⟨by first | rfl | simp, (Kept.refl _ _).alloc _⟩
          · have hs' : (st == 0) = false := by simp [hs]
            go_wp2_with fail
            go_ret
            exact ⟨by first | rfl | simp, (Kept.refl _ _).alloc _⟩
  · have h0' : decide (0 ≤ fr) = false := decide_eq_false h0
    have vF : v = false := by rw [HV.out, h0']; simp
    subst vF
    cases pu
    · go_wp2_with fail
      go_ret
      exact ⟨by first | rfl | simp, (Kept.refl _ _).alloc _⟩
    · by_cases ht : too = -1
      · subst ht
        go_wp2_with fail
        go_ret
        exact ⟨by first | rfl | simp, (Kept.refl _ _).alloc _⟩
      · have e7 : (too == -1) = false := by simp [ht]
        by_cases hs : st = 0
        · subst hs
          go_wp2_with fail
          go_ret
          exact ⟨by first | rfl | simp, (Kept.refl _ _).alloc _⟩
        · have hs' : (st == 0) = false := by simp [hs]
          go_wp2_with fail
          go_ret
          exact ⟨by first | rfl | simp, (Kept.refl _ _).alloc _⟩
end Go.Proofs.Ytodmakcklacbfaa
