import Derived.Test.YtodmakcklacbfaaPHistW
import Derived.Test.YtodmakcklacbfaaPTagJ
namespace Go.Proofs.Ytodmakcklacbfaa
open Go.RowKit Go.Shelf Go.Lib Go.Sort

theorem Md.fr_b (v : Md) (i : Nat) : 100 * (i : Int) + 700 ≤ v.fr i ∧ v.fr i ≤ 100 * (i : Int) + 999 := by
  unfold Md.fr
  have h1 := Int.emod_nonneg (v.rch i) (by decide : (300 : Int) ≠ 0)
  have h2 := Int.emod_lt_of_pos (v.rch i) (by decide : (0 : Int) < 300)
  omega
theorem Md.to_b (v : Md) (i : Nat) : 100 * (i : Int) + 1001 ≤ v.to0 i ∧ v.to0 i ≤ 100 * (i : Int) + 1300 := by
  unfold Md.to0
  have h1 := Int.emod_nonneg (wrap64 ((v.rch i).tdiv 300)) (by decide : (300 : Int) ≠ 0)
  have h2 := Int.emod_lt_of_pos (wrap64 ((v.rch i).tdiv 300)) (by decide : (0 : Int) < 300)
  omega
theorem Md.at (v : Md) {n i : Nat} (h : i < n) : (v.hist n)[i]? = some (v.one i) := by
  unfold Md.hist
  rw [List.getElem?_map, List.getElem?_range h]
  rfl
theorem Md.at' (v : Md) {n i : Nat} {c : Cl} (h : ((v.hist n).map Cm.cl)[i]? = some c) : i < n ∧ c = (v.one i).cl := by
  rw [List.getElem?_map] at h
  have hi : i < n := by
    by_cases hi : i < n
    · exact hi
    · rw [List.getElem?_eq_none (by unfold Md.hist; simp; omega)] at h
      cases h
  rw [v.at hi] at h
  exact ⟨hi, (Option.some.inj h).symm⟩
/-- What a call of a history is like. -/
structure OneF (v : Md) (i : Nat) (c : Cm) : Prop where
  key : c.key = keyK
  frm : c.frm = v.fr i
  kind : (c.opn = true ∧ c.put = true ∧ c.to = -1 ∧ c.st = 0) ∨ (c.opn = false ∧ c.to = v.to0 i ∧ (c.st = 0 ∨ (c.st = 76 ∧ c.put = false)))
theorem Md.one_f (v : Md) (i : Nat) : OneF v i (v.one i) := by
  unfold Md.one
  split
  · refine ⟨rfl, rfl, ?_⟩
    cases q : v.op v.opn.length i
    · refine .inr ⟨?_, ?_, .inl rfl⟩
      · unfold Md.put; exact q
      · unfold Md.put; rw [q]; rfl
    · refine .inl ⟨?_, rfl, ?_, rfl⟩
      · unfold Md.put; exact q
      · unfold Md.put; rw [q]; rfl
  · split
    · exact ⟨rfl, rfl, .inr ⟨rfl, rfl, .inl rfl⟩⟩
    · exact ⟨rfl, rfl, .inr ⟨rfl, rfl, .inr ⟨rfl, rfl⟩⟩⟩
theorem Md.fit (v : Md) (n : Nat) : FitL (v.hist n) := by
  have key : ∀ m ∈ v.hist n, m.key = keyK ∧ m.fit = true := by
    intro m hm
    unfold Md.hist at hm
    obtain ⟨i, _, rfl⟩ := List.mem_map.1 hm
    have f := v.one_f i
    have b1 := v.fr_b i
    have b2 := v.to_b i
    refine ⟨f.key, ?_⟩
    unfold Cm.fit Cm.opb
    rw [f.frm]
    rcases f.kind with ⟨h1, h2, h3, h4⟩ | ⟨h1, h2, h3⟩
    · rw [h1, h2, h3, h4]
      simp
      omega
    · rw [h1, h2]
      rcases h3 with h3 | ⟨h3, h4⟩
      · rw [h3]
        have e : decide (v.to0 i = -1) = false := by rw [decide_eq_false]; omega
        have e2 : decide (v.fr i < v.to0 i) = true := by rw [decide_eq_true]; omega
        have e3 : decide (0 ≤ v.fr i) = true := by rw [decide_eq_true]; omega
        rw [e, e2, e3]
        simp
      · rw [h3, h4]
        have e2 : decide (v.fr i < v.to0 i) = true := by rw [decide_eq_true]; omega
        have e3 : decide (0 ≤ v.fr i) = true := by rw [decide_eq_true]; omega
        rw [e2, e3]
        simp
  intro m hm
  refine ⟨fun m0 h0 => ?_, (key m hm).2⟩
  rw [(key m hm).1, (key m0 (List.mem_of_getElem? h0)).1]
theorem Md.part (v : Md) (i : Nat) : (v.one i).cl.part = true := by
  have f := v.one_f i
  have b2 := v.to_b i
  unfold Cl.part Cm.cl
  dsimp only
  rcases f.kind with ⟨h1, h2, h3, h4⟩ | ⟨h1, h2, h3⟩
  · rw [h2]; rfl
  · rw [h2]
    have e : decide (0 ≤ v.to0 i) = true := by rw [decide_eq_true]; omega
    rw [e]
    rcases h3 with h3 | ⟨h3, _⟩ <;> rw [h3] <;> simp
/-- One is ahead of another by their times. -/
theorem Md.ahd (v : Md) (i j : Nat) : (v.one i).cl.ahead (v.one j).cl = true ↔ (v.one i).opn = false ∧ (v.one i).to < (v.one j).frm := by
  have f := v.one_f i
  have b2 := v.to_b i
  unfold Cl.ahead Cl.must
  rw [v.part i]
  unfold Cl.open_
  show (true && !((v.one i).put && (v.one i).opn) && decide (0 ≤ (v.one i).to) && decide ((v.one i).to < (v.one j).frm)) = true ↔ _
  rcases f.kind with ⟨h1, h2, h3, h4⟩ | ⟨h1, h2, h3⟩
  · rw [h1, h2]; simp
  · rw [h1, h2]
    have e : decide (0 ≤ v.to0 i) = true := by rw [decide_eq_true]; omega
    rw [e]
    simp
theorem Md.ahd_lt (v : Md) {i j : Nat} (h : (v.one i).cl.ahead (v.one j).cl = true) : i < j := by
  obtain ⟨h1, h2⟩ := (v.ahd i j).1 h
  have f := v.one_f i
  have b1 := v.fr_b j
  have b2 := v.to_b i
  rw [(v.one_f j).frm] at h2
  rcases f.kind with ⟨z, _⟩ | ⟨_, h3, _⟩
  · rw [h1] at z; cases z
  · rw [h3] at h2
    omega
/-- The last Put of the first ones, by the calls themselves. -/
theorem Md.last_f (v : Md) (n : Nat) : ∀ k, k ≤ n → (v.last k = .none ∧ lastF ((v.hist n).map Cm.cl) (List.range k) (-1) = -1) ∨ (∃ l p, v.last k = some l ∧ p < k ∧ l = v.put 0 p ∧ 0 < v.who.getD p 0 ∧ lastF ((v.hist n).map Cm.cl) (List.range k) (-1) = (p : Int))
  | 0, _ => .inl ⟨rfl, rfl⟩
  | k + 1, hk => by
    have ih := v.last_f n k (by omega)
    have e : ((v.hist n).map Cm.cl)[k]? = some (v.one k).cl := by rw [List.getElem?_map, v.at (by omega)]; rfl
    rw [List.range_succ, lastF_add, e]
    show _ ∨ ∃ l p, (if 0 < v.who.getD k 0 then some (v.put 0 k) else v.last k) = some l ∧ _
    by_cases hw : 0 < v.who.getD k 0
    · refine .inr ⟨v.put 0 k, k, by rw [if_pos hw], by omega, rfl, hw, ?_⟩
      have : (v.one k).cl.put = true := by unfold Md.one; rw [if_pos hw]; rfl
      simp [this]
    · have hp : (v.one k).cl.put = false := by
        unfold Md.one
        rw [if_neg hw]
        split <;> rfl
      have el : v.last (k + 1) = v.last k := by
        show (if 0 < v.who.getD k 0 then some (v.put 0 k) else v.last k) = _
        rw [if_neg hw]
      rw [el, if_neg hw]
      simp only [hp]
      rcases ih with ⟨h1, h2⟩ | ⟨l, p, h1, h2, h3, h4, h5⟩
      · exact .inl ⟨h1, h2⟩
      · exact .inr ⟨l, p, h1, by omega, h3, h4, h5⟩
theorem Md.val_p (v : Md) {n p : Nat} (hp : p < n) (hw : 0 < v.who.getD p 0) : valOf' ((v.hist n).map Cm.cl) (p : Int) = some (v.put 0 p).val := by
  unfold valOf'
  rw [if_neg (by omega), Int.toNat_natCast, List.getElem?_map, v.at hp]
  have : (v.one p).cl.val = (v.put 0 p).val := by unfold Md.one; rw [if_pos hw]; rfl
  simp [this]
/-- What a Get of a history tells stands, wherever the last Put is the one ahead of it. -/
theorem Md.told (v : Md) {n k : Nat} (hk : k < n) {R : List Nat} {m : Nat} (e : lastF ((v.hist n).map Cm.cl) (R.take m) (-1) = lastF ((v.hist n).map Cm.cl) (List.range k) (-1)) : ExD1 ((v.hist n).map Cm.cl) R m (v.one k).cl := by
  unfold ExD1
  rw [e]
  by_cases hw : 0 < v.who.getD k 0
  · left
    unfold Md.one
    rw [if_pos hw]
    rfl
  · right
    rcases v.last_f n k (by omega) with ⟨h1, h2⟩ | ⟨l, p, h1, h2, h3, h4, h5⟩
    · have e1 : v.one k = v.none k := by unfold Md.one; rw [if_neg hw, h1]
      rw [e1, h2]
      exact ⟨fun _ => by omega, fun z => by cases z⟩
    · have e1 : v.one k = v.get k l := by unfold Md.one; rw [if_neg hw, h1]
      rw [e1, h5]
      refine ⟨fun z => (by cases z), fun _ => ?_⟩
      rw [v.val_p (by omega) h4, h3]
      rfl
theorem Md.len (v : Md) (n : Nat) : ((v.hist n).map Cm.cl).length = n := by unfold Md.hist; simp
/-- A list of all the numbers, each once. -/
theorem Md.ab (v : Md) {n : Nat} {R : List Nat} (hp : R.Perm (List.range n)) : ExA ((v.hist n).map Cm.cl) R R.length ∧ ExB ((v.hist n).map Cm.cl) R ((v.hist n).map Cm.cl).length := by
  have nd : R.Nodup := hp.nodup_iff.2 List.nodup_range
  refine ⟨fun m hm r hr => ⟨fun z => ?_, ?_⟩, fun i hi c hc _ => ?_⟩
  · obtain ⟨j, hj, e⟩ := List.getElem_of_mem z
    rw [List.length_take] at hj
    rw [List.getElem_take] at e
    obtain ⟨h1, h2⟩ := List.getElem?_eq_some_iff.1 hr
    exact (List.pairwise_iff_getElem.1 nd) j m (by omega) h1 (by omega) (by rw [e, h2])
  · have hr2 : r < n := List.mem_range.1 ((hp.mem_iff).1 (List.mem_of_getElem? hr))
    exact ⟨_, by rw [List.getElem?_map, v.at hr2]; rfl, v.part r⟩
  · rw [v.len] at hi
    exact (hp.mem_iff).2 (List.mem_range.2 hi)
/-- The order in which they took effect explains them. -/
theorem Md.explained (v : Md) (n : Nat) : Expl (v.hist n) ((List.range n).map fun r : Nat => (r : Int)) := by
  refine ⟨List.range n, rfl, (explain_iff (v.fit n).nb).2 ?_⟩
  obtain ⟨a, b⟩ := v.ab (List.Perm.refl (List.range n))
  refine ⟨a, b, fun i hi j hj x y ha hb hh p q hp hq => ?_, fun m hm r c hr hc => ?_⟩
  · obtain ⟨_, rfl⟩ := v.at' ha
    obtain ⟨_, rfl⟩ := v.at' hb
    have := v.ahd_lt hh
    have e1 : p = j := by
      have := (List.getElem?_eq_some_iff.1 hp).2
      simpa using this
    have e2 : q = i := by
      have := (List.getElem?_eq_some_iff.1 hq).2
      simpa using this
    omega
  · obtain ⟨h1, rfl⟩ := v.at' hc
    have e1 : m = r := by
      have := (List.getElem?_eq_some_iff.1 hr).2
      simpa using this
    subst e1
    refine v.told h1 ?_
    rw [List.take_range, Nat.min_eq_left (by omega)]
/-- Two neighbours have changed places. -/
def swapR (n k : Nat) : List Nat := ((List.range n).set k (k + 1)).set (k + 1) k
theorem swapR_at {n k i : Nat} (hk : k + 1 < n) (hi : i < n) : (swapR n k)[i]? = some (if i = k then k + 1 else if i = k + 1 then k else i) := by
  unfold swapR
  rw [List.getElem?_set, List.getElem?_set, List.getElem?_range hi]
  simp only [List.length_set, List.length_range]
  by_cases e1 : i = k + 1
  · subst e1
    rw [if_pos rfl, if_pos hi, if_neg (by omega), if_pos rfl]
  · rw [if_neg (by omega)]
    by_cases e2 : i = k
    · subst e2
      rw [if_pos rfl, if_pos hi, if_pos rfl]
    · rw [if_neg (by omega), if_neg e2, if_neg e1]
theorem swapR_len (n k : Nat) : (swapR n k).length = n := by unfold swapR; simp
theorem swapR_perm {n k : Nat} (hk : k + 1 < n) : (swapR n k).Perm (List.range n) := by
  have nd : (swapR n k).Nodup := by
    refine List.pairwise_iff_getElem.2 (fun i j hi hj hij hab => ?_)
    have h1 := swapR_at hk (i := i) (by rw [← swapR_len n k]; exact hi)
    have h2 := swapR_at hk (i := j) (by rw [← swapR_len n k]; exact hj)
    rw [List.getElem?_eq_getElem hi] at h1
    rw [List.getElem?_eq_getElem hj] at h2
    have h1 := Option.some.inj h1
    have h2 := Option.some.inj h2
    rw [h1, h2] at hab
    split at hab <;> split at hab <;> (try split at hab) <;> (try split at hab) <;> omega
  refine (List.perm_ext_iff_of_nodup nd List.nodup_range).2 (fun x => ?_)
  rw [List.mem_range]
  constructor
  · intro hx
    obtain ⟨i, hi, e⟩ := List.getElem_of_mem hx
    have h1 := swapR_at hk (i := i) (by rw [← swapR_len n k]; exact hi)
    rw [List.getElem?_eq_getElem hi, e] at h1
    have h1 := Option.some.inj h1
    rw [swapR_len] at hi
    rw [h1]
    split
    · omega
    · split <;> omega
  · intro hx
    by_cases e1 : x = k
    · exact List.mem_of_getElem? (i := k + 1) (by rw [swapR_at hk hk, if_neg (by omega), if_pos rfl, e1])
    · by_cases e2 : x = k + 1
      · exact List.mem_of_getElem? (i := k) (by rw [swapR_at hk (by omega), if_pos rfl, e2])
      · exact List.mem_of_getElem? (i := x) (by rw [swapR_at hk hx, if_neg e1, if_neg e2])
/-- If the first had returned ahead of the second's beginning, they don't explain. -/
theorem Md.swap_no (v : Md) {n k : Nat} (hk : k + 1 < n) (h : (v.one k).opn = false ∧ (v.one k).to < (v.one (k + 1)).frm) : ¬ Expl (v.hist n) ((swapR n k).map fun r : Nat => (r : Int)) := by
  intro x
  obtain ⟨a, b⟩ := v.ab (swapR_perm hk)
  obtain ⟨c, _⟩ := (expl_iff (v.fit n) rfl a b).1 x
  rw [v.len] at c
  have := c k (by omega) (k + 1) (by rw [v.len]; exact hk) _ _ (by rw [List.getElem?_map, v.at (by omega)]; rfl) (by rw [List.getElem?_map, v.at hk]; rfl) ((v.ahd k (k + 1)).2 h) k (k + 1) (by rw [swapR_at hk (by omega), if_pos rfl]) (by rw [swapR_at hk hk, if_neg (by omega), if_pos rfl])
  omega
/-- Two Gets that reach into one another may change places. -/
theorem Md.swap_yes (v : Md) {n k : Nat} (hk : k + 1 < n) (h : ¬ ((v.one k).opn = false ∧ (v.one k).to < (v.one (k + 1)).frm)) (g1 : (v.one k).put = false) (g2 : (v.one (k + 1)).put = false) : Expl (v.hist n) ((swapR n k).map fun r : Nat => (r : Int)) := by
  obtain ⟨a, b⟩ := v.ab (swapR_perm hk)
  refine (expl_iff (v.fit n) rfl a b).2 ⟨fun i hi j hj x y ha hb hh p q hp hq => ?_, ?_⟩
  · obtain ⟨_, rfl⟩ := v.at' ha
    obtain ⟨_, rfl⟩ := v.at' hb
    have lt := v.ahd_lt hh
    have pn : p < n := by have := (List.getElem?_eq_some_iff.1 hp).1; rw [swapR_len] at this; exact this
    have qn : q < n := by have := (List.getElem?_eq_some_iff.1 hq).1; rw [swapR_len] at this; exact this
    rw [swapR_at hk pn] at hp
    rw [swapR_at hk qn] at hq
    have hp := Option.some.inj hp
    have hq := Option.some.inj hq
    by_cases e : i = k ∧ j = k + 1
    · obtain ⟨rfl, rfl⟩ := e
      exact absurd ((v.ahd _ _).1 hh) h
    · split at hp <;> split at hq <;> (try split at hp) <;> (try split at hq) <;> omega
  · have step : ∀ m, m ≤ n → lastF ((v.hist n).map Cm.cl) ((swapR n k).take m) (-1) = lastF ((v.hist n).map Cm.cl) (List.range m) (-1) := by
      intro m
      induction m with
      | zero => intro _; rfl
      | succ m ih =>
        intro hm
        have e1 := swapR_at hk (i := m) (by omega)
        rw [List.take_add_one, e1, List.range_succ]
        show lastF _ (_ ++ [_]) _ = _
        rw [lastF_add, lastF_add, ih (by omega)]
        by_cases e2 : m = k
        · rw [if_pos e2, List.getElem?_map, v.at hk, List.getElem?_map, v.at (by omega)]
          subst e2
          show (if (v.one (m + 1)).put = true then _ else _) = (if (v.one m).put = true then _ else _)
          rw [g1, g2]
          rfl
        · by_cases e3 : m = k + 1
          · rw [if_neg e2, if_pos e3, List.getElem?_map, v.at (by omega), List.getElem?_map, v.at (by omega)]
            subst e3
            show (if (v.one k).put = true then _ else _) = (if (v.one (k + 1)).put = true then _ else _)
            rw [g1, g2]
            rfl
          · rw [if_neg e2, if_neg e3]
    have skip : ∀ m, m < n → (v.one m).put = false → lastF ((v.hist n).map Cm.cl) (List.range (m + 1)) (-1) = lastF ((v.hist n).map Cm.cl) (List.range m) (-1) := by
      intro m hm hp
      rw [List.range_succ, lastF_add, List.getElem?_map, v.at hm]
      show (if (v.one m).put = true then _ else _) = _
      rw [hp]
      rfl
    intro m hm r c hr hc
    rw [swapR_len] at hm
    obtain ⟨h1, rfl⟩ := v.at' hc
    rw [swapR_at hk hm] at hr
    have hr := Option.some.inj hr
    refine v.told h1 ?_
    rw [step m (by omega)]
    by_cases e2 : m = k
    · rw [if_pos e2] at hr
      rw [← hr, e2]
      exact (skip k (by omega) g1).symm
    · by_cases e3 : m = k + 1
      · rw [if_neg e2, if_pos e3] at hr
        rw [← hr, e3]
        exact skip k (by omega) g1
      · rw [if_neg e2, if_neg e3] at hr
        rw [hr]
end Go.Proofs.Ytodmakcklacbfaa
