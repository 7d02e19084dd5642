import Derived.Test.YtojepeefphbekabGreatPSimJ
namespace Go.Proofs.YtojepeefphbekabGreat
open Go.RowKit 

def preW (d : Int) (vs : List Uv) (k : ByteArray) (g : Int × Int) (l : List Nat) (br : Bool) : Bool × List Uv := if br = true then preV (nth (finF k vs) d) vs k g l else (false, vs)
def finV (d : Int) (vs : List Uv) (k : ByteArray) (g : Int × Int) : Bool × List Uv := if finNo (nth (finF k vs) d) vs k g = true then (false, vs) else (true, leftV (addF vs k g) k (nth (finF k (addF vs k g)) d))
def finW (d : Int) (vs : List Uv) (k : ByteArray) (g : Int × Int) (fi : Bool) : Bool × List Uv := if fi = true then finV d vs k g else (false, vs)
/-- What an update makes of the rows. -/
def applyV (d : Int) (vs : List Uv) (k : ByteArray) (g : Int × Int) (l : List Nat) (br fi : Bool) : Bool × List Uv := ((preW d vs k g l br).1 || (finW d (preW d vs k g l br).2 k g fi).1, (finW d (preW d vs k g l br).2 k g fi).2)
/-- A table and rows that hold the same. -/
structure Sim (t : TK) (D : ByteArray → Int × Int → List Nat) (vs : List Uv) : Prop where
  d0 : 0 ≤ t.delta
  inv : ∀ k, Inv t.delta (TS t k) (TMp t k)
  one : OneV vs
  rows : ∀ k r, t.R k = some r → ∃ g hd, r.M g = some hd
  st : ∀ k g, stV vs k g = (TMp t k g).map fun h => (h.fin, h.has, if h.has = true then D k g else [])
  prop : ∀ v ∈ vs, isProper v.2.1.1 v.2.1.2 = true
theorem Sim.memS {t : TK} {D : ByteArray → Int × Int → List Nat} {vs : List Uv} (h : Sim t D vs) (k : ByteArray) (g : Int × Int) : g ∈ TS t k ↔ ∃ s, stV vs k g = some s ∧ s.1 = true := by
  rw [(h.inv k).fin g, h.st k g]
  cases TMp t k g with
  | none =>
    constructor
    · rintro ⟨_, z, _⟩
      cases z
    · rintro ⟨_, z, _⟩
      cases z
  | some hd =>
    constructor
    · rintro ⟨x, z, q⟩
      cases z
      exact ⟨_, rfl, q⟩
    · rintro ⟨s, z, q⟩
      refine ⟨hd, rfl, ?_⟩
      have z := Option.some.inj z
      rw [← z] at q
      exact q
theorem Sim.floor {t : TK} {D : ByteArray → Int × Int → List Nat} {vs : List Uv} (h : Sim t D vs) (k : ByteArray) {d : Int} (h0 : 0 ≤ d) : nth (finF k vs) d = floorT (TS t k) d := floor_same h.one (h.inv k).up (h.memS k) h0
theorem Sim.nil {tb rb : Nat} {d : Int} (h0 : 0 ≤ d) (D : ByteArray → Int × Int → List Nat) : Sim ⟨tb, rb, d, fun _ => none⟩ D [] := ⟨h0, fun _ => Inv.nil d h0, List.Pairwise.nil, fun _ _ h => (by cases h), fun _ _ => rfl, fun _ h => by cases h⟩
theorem may_proper {u : Upd} (h : u.may = true) : isProper u.x u.y = true := by
  unfold Upd.may at h
  cases hz : isZero u.x u.y
  · cases hp : isProper u.x u.y
    · simp [hz, hp] at h
    · rfl
  · simp [hz] at h
def newD (D : ByteArray → Int × Int → List Nat) (k0 : ByteArray) (g0 : Int × Int) (b : Bool) (l : List Nat) : ByteArray → Int × Int → List Nat := fun k g => if (k = k0 ∧ g = g0) ∧ b = true then l else D k g
theorem newD_no (D : ByteArray → Int × Int → List Nat) (k0 : ByteArray) (g0 : Int × Int) (l : List Nat) : newD D k0 g0 false l = D := by
  funext k g
  unfold newD
  rw [if_neg (fun z => absurd z.2 (by decide))]
/-- The first half. -/
theorem preW_spec {vs : List Uv} (h : OneV vs) {d : Int} {fl : Int × Int} {k : ByteArray} (hf : nth (finF k vs) d = fl) (g : Int × Int) (l : List Nat) (br : Bool) {fin0 has0 : Bool} (e1 : ((stV vs k g).map fun s => s.1).getD false = fin0) (e2 : ((stV vs k g).map fun s => s.2.1).getD false = has0) {F1 : Bool} (eF : F1 = (!decide (tc g fl < 0) && (br && !has0))) :
    (preW d vs k g l br).1 = F1 ∧ (F1 = false → (preW d vs k g l br).2 = vs) ∧ (F1 = true → PutV vs k g (fin0, true, l) (preW d vs k g l br).2) := by
  unfold preW
  cases br
  · subst eF
    exact ⟨by simp, fun _ => rfl, fun z => by simp at z⟩
  · rw [if_pos rfl, hf]
    obtain ⟨a1, a2, a3⟩ := preV_st h fl k g l
    have e : (preV fl vs k g l).1 = F1 := by rw [a1, e2, eF]; simp
    rw [e] at a2 a3
    rw [e1] at a3
    exact ⟨e, a2, a3⟩
/-- The second half. -/
theorem finW_spec {vs : List Uv} (h : OneV vs) {d : Int} {fl : Int × Int} {k : ByteArray} (hf : nth (finF k vs) d = fl) (g : Int × Int) (fi : Bool) {fin0 : Bool} (e1 : ((stV vs k g).map fun s => s.1).getD false = fin0) {F2 : Bool} (eF : F2 = (!decide (tc g fl < 0) && (fi && !fin0))) :
    (finW d vs k g fi).1 = F2 ∧ (F2 = false → (finW d vs k g fi).2 = vs) ∧ (F2 = true → (finW d vs k g fi).2 = leftV (addF vs k g) k (nth (finF k (addF vs k g)) d)) := by
  unfold finW
  cases fi
  · subst eF
    exact ⟨by simp, fun _ => rfl, fun z => by simp at z⟩
  · rw [if_pos rfl]
    unfold finV
    rw [hf, finNo_st h, e1]
    by_cases lt : tc g fl < 0
    · subst eF
      simp [lt]
    · subst eF
      cases fin0 <;> simp [lt]
/-- An update, done on both. -/
theorem Sim.step {t : TK} {u : Upd} {D : ByteArray → Int × Int → List Nat} {vs : List Uv} (h : Sim t D vs) (may : u.may = true) (l : List Nat) :
    (applyV t.delta vs u.key (u.x, u.y) l u.brings u.final).1 = (wouldV t u).1 ∧ ∀ (w w' : World) (m : Nat) (t' : TK), Ap w w' m t t' u → Sim t' (newD D u.key (u.x, u.y) (lackF (TS t u.key) (TMp t u.key) u t.delta).1 l) (applyV t.delta vs u.key (u.x, u.y) l u.brings u.final).2 := by
  obtain ⟨S, hS⟩ : ∃ S, S = TS t u.key := ⟨_, rfl⟩
  obtain ⟨M, hM⟩ : ∃ M, M = TMp t u.key := ⟨_, rfl⟩
  obtain ⟨d, hd⟩ : ∃ d, d = t.delta := ⟨_, rfl⟩
  obtain ⟨key, hkey⟩ : ∃ key, key = u.key := ⟨_, rfl⟩
  obtain ⟨g, hg⟩ : ∃ g, g = (u.x, u.y) := ⟨_, rfl⟩
  have iv := h.inv u.key
  have fl := h.floor u.key h.d0
  have pr := may_proper may
  have hst := h.st u.key (u.x, u.y)
  have mS := h.memS u.key
  have d0 := h.d0
  rw [← hS, ← hM, ← hd] at iv
  rw [← hS, ← hd] at fl
  rw [← hM, ← hkey, ← hg] at hst
  rw [← hS, ← hkey] at mS
  rw [← hd] at d0
  have ew : (wouldV t u).1 = ((lackF S M u d).1 || (lackF S M u d).2) := by
    unfold wouldV wouldF
    rw [if_pos may, ← hS, ← hM, ← hd]
  rw [← hS, ← hM, ← hd, ew]
  rw [← hkey] at fl ⊢
  rw [← hg]
  obtain ⟨fin0, hf0⟩ : ∃ b, b = ((M g).getD Hd.zero).fin := ⟨_, rfl⟩
  obtain ⟨has0, hh0⟩ : ∃ b, b = ((M g).getD Hd.zero).has := ⟨_, rfl⟩
  have e1 : ((stV vs key g).map fun s => s.1).getD false = fin0 := by rw [hst, hf0]; cases M g <;> rfl
  have e2 : ((stV vs key g).map fun s => s.2.1).getD false = has0 := by rw [hst, hh0]; cases M g <;> rfl
  obtain ⟨F, hFF⟩ : ∃ F, F = lackF S M u d := ⟨_, rfl⟩
  have eF : F = (!decide (tc g (floorT S d) < 0) && (u.brings && !has0), !decide (tc g (floorT S d) < 0) && (u.final && !fin0)) := by
    rw [hFF, hf0, hh0]
    unfold lackF
    rw [← hg]
    by_cases lt : tc g (floorT S d) < 0
    · rw [if_pos lt]
      simp [lt]
    · rw [if_neg lt]
      simp [lt]
  rw [← hFF]
  obtain ⟨a1, a2, a3⟩ := preW_spec h.one fl g l u.brings e1 e2 (F1 := F.1) (by rw [eF])
  obtain ⟨vs1, hv1⟩ : ∃ vs1, vs1 = (preW d vs key g l u.brings).2 := ⟨_, rfl⟩
  rw [← hv1] at a2 a3
  have st1 : ∀ k' g', stV vs1 k' g' = if F.1 = true ∧ k' = key ∧ g' = g then some (fin0, true, l) else stV vs k' g' := by
    intro k' g'
    cases q : F.1
    · rw [a2 q, if_neg (fun z => absurd z.1 (by decide))]
    · rw [(a3 q).st h.one k' g']
      by_cases e : k' = key ∧ g' = g
      · rw [if_pos e, if_pos ⟨rfl, e⟩]
      · rw [if_neg e, if_neg (fun z => e z.2)]
  have one1 : OneV vs1 := by
    cases q : F.1
    · rw [a2 q]; exact h.one
    · exact (a3 q).one
  have e11 : ((stV vs1 key g).map fun s => s.1).getD false = fin0 := by
    rw [st1]
    cases q : F.1
    · rw [if_neg (fun z => absurd z.1 (by decide))]; exact e1
    · rw [if_pos ⟨rfl, rfl, rfl⟩]; rfl
  have mS1 : ∀ g', g' ∈ S ↔ ∃ s, stV vs1 key g' = some s ∧ s.1 = true := by
    intro g'
    rw [mS g', st1]
    by_cases e : F.1 = true ∧ key = key ∧ g' = g
    · rw [if_pos e]
      obtain ⟨_, _, e⟩ := e
      rw [e]
      constructor
      · rintro ⟨s, z1, z2⟩
        refine ⟨_, rfl, ?_⟩
        rw [z1] at e1
        have e1 : s.1 = fin0 := e1
        rw [← e1]
        exact z2
      · rintro ⟨s, z1, z2⟩
        have z1 := Option.some.inj z1
        rw [← z1] at z2
        have z2 : fin0 = true := z2
        rw [z2] at e1
        cases q : stV vs key g with
        | none => rw [q] at e1; cases e1
        | some s => rw [q] at e1; exact ⟨s, rfl, e1⟩
    · rw [if_neg e]
  have fl1 : nth (finF key vs1) d = floorT S d := floor_same one1 iv.up mS1 d0
  obtain ⟨b1, b2, b3⟩ := finW_spec one1 fl1 g u.final e11 (F2 := F.2) (by rw [eF])
  have r1 : (applyV d vs key g l u.brings u.final).1 = (F.1 || F.2) := by
    unfold applyV
    rw [← hv1]
    show ((preW d vs key g l u.brings).1 || (finW d vs1 key g u.final).1) = _
    rw [a1, b1]
  have r2 : (applyV d vs key g l u.brings u.final).2 = (finW d vs1 key g u.final).2 := by
    unfold applyV
    rw [← hv1]
  refine ⟨r1, fun w w' m t' p => ?_⟩
  have yes := p.yes
  have no' := p.no
  rw [ew, ← hFF] at no'
  rw [ew, ← hS, ← hM, ← hd, ← hFF] at yes
  rw [r2]
  obtain ⟨vs2, hv2⟩ : ∃ vs2, vs2 = (finW d vs1 key g u.final).2 := ⟨_, rfl⟩
  rw [← hv2] at b2 b3 ⊢
  cases hw : (F.1 || F.2)
  · rw [hw] at no'
    have q1 : F.1 = false := by cases q : F.1 <;> simp [q] at hw ⊢
    have q2 : F.2 = false := by cases q : F.2 <;> simp [q] at hw ⊢
    rw [no' rfl, q1, newD_no, b2 q2, a2 q1]
    exact h
  · obtain ⟨h2, ap⟩ := yes hw
    have hx : (lackF S M u d).1 = true ∨ (lackF S M u d).2 = true := by
      rw [← hFF]
      cases q : F.1
      · rw [q] at hw
        exact .inr (by simpa using hw)
      · exact .inl rfl
    have hF := lack_floor hx
    rw [hFF] at ap
    obtain ⟨fm, sty'⟩ := ap.form iv d0 pr hF
    obtain ⟨inv', _, _⟩ := iv.app d0 pr hx ap
    rw [← hFF, ← hkey] at ap
    rw [← hFF] at sty'
    rw [← hkey] at inv'
    rw [← hg] at hF
    have pos := proper_pos _ _ pr
    rw [← hg] at pos
    obtain ⟨S', hS'⟩ : ∃ S', S' = TS t' key := ⟨_, rfl⟩
    obtain ⟨M', hM'⟩ : ∃ M', M' = TMp t' key := ⟨_, rfl⟩
    rw [← hS', ← hM'] at ap inv'
    rw [← hkey, ← hS', ← hM', ← hg] at fm
    rw [← hkey, ← hS', ← hg] at sty'
    have fin2 : h2.fin = (fin0 || F.2) := by rw [ap.fin, ← hg, ← hf0]
    have has2 : h2.has = (has0 || F.1) := by
      cases q : F.1
      · rw [(ap.old q).1, ← hg, ← hh0, Bool.or_false]
      · rw [(ap.new q).1, Bool.or_true]
    have sty : ¬ tc g (floorT S' d) < 0 := by
      apply sty'
      rw [← hf0, eF]
      cases u.final <;> cases fin0 <;> simp
    have at1 : M' g = some h2 := by
      rw [fm _ sty]
      unfold upd
      rw [if_pos rfl]
    -- the floor behind it
    obtain ⟨fl2, hfl2⟩ : ∃ f, f = nth (finF key (addF vs1 key g)) d := ⟨_, rfl⟩
    rw [← hfl2] at b3
    have Mall : ∀ g', M' g' = if F.2 = true ∧ tc g' fl2 < 0 then none else if g' = g then some h2 else M g' := by
      intro g'
      cases q : F.2
      · rw [if_neg (fun z => absurd z.1 (by decide)), (ap.same q).2, ← hg]
        rfl
      · obtain ⟨b, e, S1, fx, fy, ad, ff, res⟩ := ap.more q
        rw [← hg] at res
        have R1 : Rising S1 ∧ (∀ t, t ∈ S1 ↔ t = g ∨ t ∈ S) := by
          rcases ad with ⟨z, _⟩ | ⟨_, hm, _, _, rfl⟩ | ⟨_, hm, _, _, rfl⟩
          · rw [pr] at z; cases z
          · rw [← hg] at hm
            exact ⟨iv.up, fun t => ⟨.inr, fun z => z.elim (fun q => q ▸ hm) id⟩⟩
          · rw [← hg] at hm ⊢
            refine ⟨put_rising _ _ iv.up hm, fun t => ?_⟩
            rw [(put_perm S g).mem_iff, List.mem_cons]
        have pa := addF_st one1 key g
        have ef : fl2 = (fx, fy) := by
          rw [hfl2, ← ff]
          refine floor_same pa.one R1.1 (fun t => ?_) d0
          rw [R1.2 t, pa.st one1 key t]
          by_cases e : t = g
          · rw [if_pos ⟨rfl, e⟩]
            exact ⟨fun _ => ⟨_, rfl, rfl⟩, fun _ => .inl e⟩
          · rw [if_neg (fun z => e z.2), ← mS1 t]
            exact ⟨fun z => z.elim (fun q => absurd q e) id, .inr⟩
        have eu : ∀ t, upd M g h2 t = if t = g then some h2 else M t := fun _ => rfl
        rcases res with ⟨hz, _, eM⟩ | ⟨hz, _, eM⟩
        · have z := zero_of fx fy hz
          rw [ef, z, eM, eu]
          by_cases lt : tc g' (0, 0) < 0
          · have e9 : (if true = true ∧ tc g' (0, 0) < 0 then (none : Option Hd) else if g' = g then some h2 else M g') = none := if_pos ⟨rfl, lt⟩
            rw [e9]
            by_cases e : g' = g
            · rw [e] at lt
              exact absurd lt (tc_asym _ _ pos)
            · rw [if_neg e]
              cases hm : M g' with
              | none => rfl
              | some k => exact absurd lt (tc_asym _ _ (iv.pos g' k hm))
          · exact (if_neg (fun z => lt z.2)).symm
        · rw [eM, ef]
          unfold throwM
          rw [eu]
          by_cases lt : tc g' (fx, fy) < 0
          · rw [if_pos lt]
            exact (if_pos ⟨rfl, lt⟩).symm
          · rw [if_neg lt]
            exact (if_neg (fun z => lt z.2)).symm
    obtain ⟨dat0, hdat⟩ : ∃ x, x = ((stV vs key g).map fun s => s.2.2).getD [] := ⟨_, rfl⟩
    have pa := addF_st one1 key g
    have sd : ((stV vs1 key g).map fun s => s.2).getD (false, []) = (has0 || F.1, if F.1 = true then l else dat0) := by
      rw [st1]
      cases q : F.1
      · rw [if_neg (fun z => absurd z.1 (by decide)), if_neg (by decide), Bool.or_false, hdat, ← e2]
        cases stV vs key g <;> rfl
      · rw [if_pos ⟨rfl, rfl, rfl⟩, if_pos rfl, Bool.or_true]
        rfl
    rw [sd] at pa
    have st2 : ∀ k' g', stV vs2 k' g' = if F.2 = true ∧ k' = key ∧ tc g' fl2 < 0 then none else if k' = key ∧ g' = g then some (fin0 || F.2, has0 || F.1, if F.1 = true then l else dat0) else stV vs k' g' := by
      intro k' g'
      cases q : F.2
      · have q1 : F.1 = true := by rw [q] at hw; simpa using hw
        have e8 : ¬ (false = true ∧ k' = key ∧ tc g' fl2 < 0) := fun z => absurd z.1 (by decide)
        rw [b2 q, st1, if_neg e8]
        by_cases e : k' = key ∧ g' = g
        · rw [if_pos ⟨q1, e⟩, if_pos e, q1]
          simp
        · have e7 : ¬ (F.1 = true ∧ k' = key ∧ g' = g) := fun z => e z.2
          rw [if_neg e7, if_neg e]
      · rw [b3 q, left_st pa.one, pa.st one1 k' g', st1 k' g']
        by_cases lt : k' = key ∧ tc g' fl2 < 0
        · have e8 : true = true ∧ k' = key ∧ tc g' fl2 < 0 := ⟨rfl, lt⟩
          rw [if_pos lt, if_pos e8]
        · have e8 : ¬ (true = true ∧ k' = key ∧ tc g' fl2 < 0) := fun z => lt z.2
          rw [if_neg lt, if_neg e8]
          by_cases e : k' = key ∧ g' = g
          · rw [if_pos e, if_pos e, Bool.or_true]
          · have e7 : ¬ (F.1 = true ∧ k' = key ∧ g' = g) := fun z => e z.2
            rw [if_neg e, if_neg e, if_neg e7]
    have one2 : OneV vs2 := by
      cases q : F.2
      · rw [b2 q]; exact one1
      · rw [b3 q]; exact pa.one.left _ _
    have ed := p.delta
    have oth := p.others
    rw [← hkey] at oth
    rw [← hd] at ed
    have tsM : ∀ k', k' ≠ key → TMp t' k' = TMp t k' := fun k' hk' => by unfold TMp; rw [oth k' hk']
    have tsS : ∀ k', k' ≠ key → TS t' k' = TS t k' := fun k' hk' => by unfold TS; rw [oth k' hk']
    refine ⟨by rw [ed]; exact d0, fun k' => ?_, one2, fun k' r' hr' => ?_, fun k' g' => ?_, fun v hv => ?_⟩
    · rw [ed]
      by_cases e : k' = key
      · rw [e, ← hS', ← hM']
        exact inv'
      · rw [tsM k' e, tsS k' e, hd]
        exact h.inv k'
    · by_cases e : k' = key
      · rw [e] at hr'
        refine ⟨g, h2, ?_⟩
        rw [← TMp_at hr', ← hM']
        exact at1
      · rw [oth k' e] at hr'
        exact h.rows k' r' hr'
    · rw [st2]
      by_cases e : k' = key
      · rw [e, ← hM', Mall g']
        by_cases lt : F.2 = true ∧ tc g' fl2 < 0
        · have e8 : F.2 = true ∧ key = key ∧ tc g' fl2 < 0 := ⟨lt.1, rfl, lt.2⟩
          rw [if_pos e8, if_pos lt]
          rfl
        · have e8 : ¬ (F.2 = true ∧ key = key ∧ tc g' fl2 < 0) := fun z => lt ⟨z.1, z.2.2⟩
          rw [if_neg e8, if_neg lt]
          by_cases eg : g' = g
          · rw [if_pos ⟨rfl, eg⟩, if_pos eg, eg]
            show _ = some (h2.fin, h2.has, if h2.has = true then newD D key g F.1 l key g else [])
            rw [fin2, has2]
            cases q : F.1
            · rw [newD_no, if_neg (by decide), Bool.or_false]
              have : dat0 = if has0 = true then D key g else [] := by
                rw [hdat, hst, hh0]
                cases M g with
                | none => rfl
                | some k => rfl
              rw [this]
            · have e9 : newD D key g true l key g = l := if_pos ⟨⟨rfl, rfl⟩, rfl⟩
              rw [e9]
              simp
          · rw [if_neg (fun z => eg z.2), if_neg eg, h.st key g', hkey, ← hM]
            unfold newD
            rw [if_neg (fun z => eg z.1.2)]
      · rw [if_neg (fun z => e z.2.1), if_neg (fun z => e z.1), tsM k' e, h.st k' g']
        unfold newD
        rw [if_neg (fun z => e z.1.1)]
    · have hv' : (v.1, v.2.1, v.2.2) ∈ vs2 := hv
      rw [← stV_some one2, st2] at hv'
      split at hv'
      · cases hv'
      · split at hv'
        · rename_i q
          rw [q.2, hg]
          exact pr
        · rw [stV_some h.one] at hv'
          exact h.prop _ hv'
end Go.Proofs.YtojepeefphbekabGreat
