import Derived.Test.YtojepeefphbekabGreatSBytesJ
import Derived.Test.YtojepeefphbekabGreatSFitsJ
namespace Go.Proofs.YtojepeefphbekabGreat
open Go.RowKit 

/-- None of a key's rows is below its floor. -/
theorem Sim.low {t : TK} {D : ByteArray → Int × Int → List Nat} {vs : List Uv} (h : Sim t D vs) {v : Uv} (hv : v ∈ vs) : ¬ tc v.2.1 (nth (finF v.1 vs) t.delta) < 0 := by
  obtain ⟨k, g, s⟩ := v
  have e := (stV_some h.one k g s).2 hv
  rw [h.st k g] at e
  cases q : TMp t k g with
  | none => rw [q] at e; cases e
  | some hd =>
    show ¬ tc g (nth (finF k vs) t.delta) < 0
    rw [h.floor k h.d0]
    exact (h.inv k).low g hd q
/-- What the first half keeps. -/
theorem pre_kept {t : TK} {D : ByteArray → Int × Int → List Nat} {vs : List Uv} (h : Sim t D vs) (k : ByteArray) (g : Int × Int) (l : List Nat) (br : Bool) : OneV (preW t.delta vs k g l br).2 ∧ nth (finF k (preW t.delta vs k g l br).2) t.delta = nth (finF k vs) t.delta ∧ (∀ v ∈ (preW t.delta vs k g l br).2, v.1 = k → ¬ tc v.2.1 (nth (finF k vs) t.delta) < 0) ∧ ∀ g', g' ∈ TS t k ↔ ∃ s, stV (preW t.delta vs k g l br).2 k g' = some s ∧ s.1 = true := by
  have old : ∀ v ∈ vs, v.1 = k → ¬ tc v.2.1 (nth (finF k vs) t.delta) < 0 := fun v hv e => by
    have := h.low hv
    rw [e] at this
    exact this
  unfold preW
  cases br
  · exact ⟨h.one, rfl, old, h.memS k⟩
  · rw [if_pos rfl]
    obtain ⟨a1, a2, a3⟩ := preV_st h.one (nth (finF k vs) t.delta) k g l
    cases q : (preV (nth (finF k vs) t.delta) vs k g l).1
    · rw [a2 q]
      exact ⟨h.one, rfl, old, h.memS k⟩
    · have p := a3 q
      have mS : ∀ g', g' ∈ TS t k ↔ ∃ s, stV (preV (nth (finF k vs) t.delta) vs k g l).2 k g' = some s ∧ s.1 = true := by
        intro g'
        rw [h.memS k g', p.st h.one k g']
        by_cases e : k = k ∧ g' = g
        · rw [if_pos e, e.2]
          constructor
          · rintro ⟨s, z1, z2⟩
            refine ⟨_, rfl, ?_⟩
            rw [z1]
            exact z2
          · rintro ⟨s, z1, z2⟩
            have z1 := Option.some.inj z1
            rw [← z1] at z2
            have z2 : ((stV vs k g).map fun s => s.1).getD false = true := z2
            cases q2 : stV vs k g with
            | none => rw [q2] at z2; cases z2
            | some s => rw [q2] at z2; exact ⟨s, rfl, z2⟩
        · rw [if_neg e]
      refine ⟨p.one, (floor_same p.one (h.inv k).up mS h.d0).trans (h.floor k h.d0).symm, fun v hv e => ?_, mS⟩
      rcases (p.mem v).1 hv with z | z
      · rw [z]
        rw [a1] at q
        intro lt
        have lt : tc g (nth (finF k vs) t.delta) < 0 := lt
        rw [decide_eq_true lt] at q
        simp at q
      · exact old v z.1 e
theorem leftV_all {vs : List Uv} {k : ByteArray} {fl : Int × Int} (h : ∀ v ∈ vs, v.1 = k → ¬ tc v.2.1 fl < 0) : leftV vs k fl = vs := by
  unfold leftV
  rw [List.filter_eq_self]
  intro v hv
  by_cases e : v.1 = k
  · rw [decide_eq_false (h v hv e)]
    simp
  · rw [decide_eq_false e]
    rfl
theorem addF_same {vs : List Uv} {k : ByteArray} {g : Int × Int} (h : ¬ plc vs k g 0 < 0) (hf : ((vs[(plc vs k g 0).toNat]?).map fun v => v.2.2.1).getD false = true) : addF vs k g = vs := by
  unfold addF
  rw [if_neg h]
  cases q : vs[(plc vs k g 0).toNat]? with
  | none => rfl
  | some v =>
    show vs.set _ (finAt v) = vs
    rw [q] at hf
    have hf : v.2.2.1 = true := hf
    obtain ⟨h1, h2⟩ := List.getElem?_eq_some_iff.1 q
    have e : finAt v = v := by
      unfold finAt
      rw [← hf]
    rw [e, ← h2]
    exact List.set_getElem_self _
/-- The shelf makes of an update what the table's rows do. -/
theorem shelfV_eq {t : TK} {D : ByteArray → Int × Int → List Nat} {vs : List Uv} (h : Sim t D vs) (k : ByteArray) (g : Int × Int) (l : List Nat) (br fi : Bool) : shelfV t.delta vs k g l br fi = (applyV t.delta vs k g l br fi).2 := by
  obtain ⟨o1, f1, n1, _⟩ := pre_kept h k g l br
  unfold shelfV applyV finW
  cases fi
  · rfl
  · rw [if_pos rfl, if_pos rfl]
    obtain ⟨vs1, hv1⟩ : ∃ vs1, vs1 = (preW t.delta vs k g l br).2 := ⟨_, rfl⟩
    rw [← hv1] at o1 f1 n1 ⊢
    unfold finV
    by_cases lt : tc g (nth (finF k vs1) t.delta) < 0
    · rw [finS_no lt, if_pos (by unfold finNo; rw [decide_eq_true lt]; rfl)]
    · rw [finS_yes lt]
      by_cases q : finNo (nth (finF k vs1) t.delta) vs1 k g = true
      · rw [if_pos q]
        unfold finNo at q
        rw [decide_eq_false lt, Bool.false_or, Bool.and_eq_true] at q
        have q1 : ¬ plc vs1 k g 0 < 0 := by
          have := q.1
          simpa using this
        rw [addF_same q1 q.2, f1]
        exact leftV_all n1
      · rw [if_neg q]
end Go.Proofs.YtojepeefphbekabGreat

namespace Go.Proofs.YtojepeefphbekabGreat
open Go.RowKit 

/-- A tag that is not below the floor is not below it when it is among them. -/
theorem floor_add {S S1 : List (Int × Int)} {d : Int} {g : Int × Int} (h0 : 0 ≤ d) (up : Rising S) (up1 : Rising S1) (mem : ∀ t, t ∈ S1 ↔ t = g ∨ t ∈ S) (pos : tc (0, 0) g < 0) (hg : ¬ tc g (floorT S d) < 0) : ¬ tc g (floorT S1 d) < 0 := by
  intro lt
  rcases floor_mem S1 d h0 with ⟨_, e⟩ | ⟨hd1, _, _⟩
  · rw [e] at lt
    exact tc_asym _ _ pos lt
  · obtain ⟨l1, _⟩ := cut_floor S1 up1 d h0 hd1
    have sub : ∀ t, t ∈ S1.drop (ahead S1 (floorT S1 d)) → t ∈ S.drop (ahead S (floorT S1 d)) := by
      intro t ht
      rw [drop_mem S1 up1] at ht
      rw [drop_mem S up]
      refine ⟨?_, ht.2⟩
      rcases (mem t).1 ht.1 with z | z
      · rw [z] at ht
        exact absurd lt ht.2
      · exact z
    have nd : (S1.drop (ahead S1 (floorT S1 d))).Nodup := by
      have : S1.Nodup := up1.imp (fun {a b} q e => by rw [e, tc_self] at q; exact absurd q (by decide))
      exact this.sublist (List.drop_sublist _ _)
    have c1 := nodup_le _ _ nd sub
    rw [show (S1.drop (ahead S1 (floorT S1 d))).length = (d + 1).toNat by omega] at c1
    rcases floor_mem S d h0 with ⟨hd, _⟩ | ⟨hd, hh, ef⟩
    · have : (S.drop (ahead S (floorT S1 d))).length ≤ S.length := by rw [List.length_drop]; omega
      omega
    · obtain ⟨l2, _⟩ := cut_floor S up d h0 hd
      by_cases q : tc (floorT S d) (floorT S1 d) < 0
      · have sub2 : ∀ t, t ∈ (floorT S d) :: S.drop (ahead S (floorT S1 d)) → t ∈ S.drop (ahead S (floorT S d)) := by
          intro t ht
          rw [drop_mem S up]
          rcases List.mem_cons.1 ht with z | z
          · rw [z]
            exact ⟨by rw [ef]; exact List.getElem_mem _, by rw [tc_self]; decide⟩
          · rw [drop_mem S up] at z
            refine ⟨z.1, fun w => z.2 ?_⟩
            have := tc_lt_le t (floorT S d) (floorT S1 d) w (tc_asym _ _ q)
            exact this
        have nd2 : ((floorT S d) :: S.drop (ahead S (floorT S1 d))).Nodup := by
          rw [List.nodup_cons]
          refine ⟨fun z => ?_, ?_⟩
          · rw [drop_mem S up] at z
            exact z.2 q
          · have : S.Nodup := up.imp (fun {a b} q e => by rw [e, tc_self] at q; exact absurd q (by decide))
            exact this.sublist (List.drop_sublist _ _)
        have c2 := nodup_le _ _ nd2 sub2
        rw [List.length_cons] at c2
        omega
      · exact hg (tc_lt_le g (floorT S1 d) (floorT S d) lt q)
end Go.Proofs.YtojepeefphbekabGreat

namespace Go.Proofs.YtojepeefphbekabGreat
open Go.RowKit 

/-- Whether an update changes anything is whether the rows differ. -/
theorem did_iff {t : TK} {D : ByteArray → Int × Int → List Nat} {vs : List Uv} (h : Sim t D vs) (k : ByteArray) (g : Int × Int) (pos : tc (0, 0) g < 0) (l : List Nat) (br fi : Bool) : (applyV t.delta vs k g l br fi).1 = !decide (vs = (applyV t.delta vs k g l br fi).2) := by
  obtain ⟨o1, f1, n1, mS⟩ := pre_kept h k g l br
  obtain ⟨fin0, hf0⟩ : ∃ b, ((stV vs k g).map fun s => s.1).getD false = b := ⟨_, rfl⟩
  obtain ⟨has0, hh0⟩ : ∃ b, ((stV vs k g).map fun s => s.2.1).getD false = b := ⟨_, rfl⟩
  obtain ⟨F1, hF1⟩ : ∃ b, b = (!decide (tc g (nth (finF k vs) t.delta) < 0) && (br && !has0)) := ⟨_, rfl⟩
  obtain ⟨a1, a2, a3⟩ := preW_spec h.one rfl g l br hf0 hh0 hF1
  obtain ⟨vs1, hv1⟩ : ∃ vs1, vs1 = (preW t.delta vs k g l br).2 := ⟨_, rfl⟩
  rw [← hv1] at o1 f1 n1 mS a2 a3
  have e11 : ((stV vs1 k g).map fun s => s.1).getD false = fin0 := by
    cases q : F1
    · rw [a2 q]; exact hf0
    · rw [(a3 q).st h.one k g, if_pos ⟨rfl, rfl⟩]
      rfl
  obtain ⟨F2, hF2⟩ : ∃ b, b = (!decide (tc g (nth (finF k vs) t.delta) < 0) && (fi && !fin0)) := ⟨_, rfl⟩
  obtain ⟨b1, b2, b3⟩ := finW_spec o1 f1 g fi e11 hF2
  have E1 : (applyV t.delta vs k g l br fi).1 = (F1 || F2) := by
    unfold applyV
    rw [← hv1]
    show ((preW t.delta vs k g l br).1 || (finW t.delta vs1 k g fi).1) = _
    rw [a1, b1]
  have E2 : (applyV t.delta vs k g l br fi).2 = (finW t.delta vs1 k g fi).2 := by
    unfold applyV
    rw [← hv1]
  rw [E1, E2]
  cases q2 : F2
  · rw [b2 q2]
    cases q1 : F1
    · rw [a2 q1]
      simp
    · have m : (k, g, fin0, true, l) ∈ vs1 := ((a3 q1).mem _).2 (.inl rfl)
      have ne : ¬ vs = vs1 := fun e => by
        rw [← e] at m
        have := (stV_some h.one k g (fin0, true, l)).2 m
        rw [this] at hh0
        have hh0 : true = has0 := hh0
        rw [← hh0, q1] at hF1
        simp at hF1
      rw [decide_eq_false ne]
      rfl
  · have nb : ¬ tc g (nth (finF k vs) t.delta) < 0 := fun z => by
      rw [decide_eq_true z, q2] at hF2
      simp at hF2
    have nf : fin0 = false := by
      cases q3 : fin0
      · rfl
      · rw [q3, q2] at hF2
        simp at hF2
    have gS : g ∉ TS t k := fun z => by
      obtain ⟨s, z1, z2⟩ := (h.memS k g).1 z
      rw [z1, nf] at hf0
      have hf0 : s.1 = false := hf0
      rw [z2] at hf0
      cases hf0
    have pa := addF_st o1 k g
    have m : (k, g, true, ((stV vs1 k g).map fun s => s.2).getD (false, [])) ∈ addF vs1 k g := (pa.mem _).2 (.inl rfl)
    have fl2 : nth (finF k (addF vs1 k g)) t.delta = floorT (put (TS t k) g) t.delta := by
      refine floor_same pa.one (put_rising _ _ (h.inv k).up gS) (fun t' => ?_) h.d0
      rw [(put_perm (TS t k) g).mem_iff, List.mem_cons, pa.st o1 k t']
      by_cases e : t' = g
      · rw [if_pos ⟨rfl, e⟩]
        exact ⟨fun _ => ⟨_, rfl, rfl⟩, fun _ => .inl e⟩
      · rw [if_neg (fun z => e z.2), ← mS t']
        exact ⟨fun z => z.elim (fun q => absurd q e) id, .inr⟩
    have st : ¬ tc g (nth (finF k (addF vs1 k g)) t.delta) < 0 := by
      rw [fl2]
      refine floor_add h.d0 (h.inv k).up (put_rising _ _ (h.inv k).up gS) (fun t' => ?_) pos ?_
      · rw [(put_perm (TS t k) g).mem_iff, List.mem_cons]
      · rw [← h.floor k h.d0]
        exact nb
    have m2 : (k, g, true, ((stV vs1 k g).map fun s => s.2).getD (false, [])) ∈ leftV (addF vs1 k g) k (nth (finF k (addF vs1 k g)) t.delta) := by
      unfold leftV
      rw [List.mem_filter]
      refine ⟨m, ?_⟩
      show (!decide (k = k) || !decide (tc g (nth (finF k (addF vs1 k g)) t.delta) < 0)) = true
      rw [decide_eq_false st]
      simp
    have ne : ¬ vs = (finW t.delta vs1 k g fi).2 := fun e => by
      rw [b3 q2] at e
      rw [← e] at m2
      have := (stV_some h.one k g _).2 m2
      rw [this, nf] at hf0
      have hf0 : true = false := hf0
      cases hf0
    rw [decide_eq_false ne]
    simp
end Go.Proofs.YtojepeefphbekabGreat
