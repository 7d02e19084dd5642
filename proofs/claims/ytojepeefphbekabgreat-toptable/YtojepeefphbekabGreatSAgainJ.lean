import Derived.Test.YtojepeefphbekabGreatSHolds
import Derived.Test.YtojepeefphbekabGreatSDidJ
import Derived.Test.YtojepeefphbekabGreatSSmallJ
namespace Go.Proofs.YtojepeefphbekabGreat
open Go.RowKit 

theorem ents_back {t : TK} {D : ByteArray → Int × Int → List Nat} {vs : List Uv} (h : Sim t D vs) {key : ByteArray} {es : List Ev} (e : EntsOf (TMp t key) (datS t D key) es) : REnts vs key es := by
  refine ⟨e.up, fun v => ?_⟩
  obtain ⟨g, f, b, l⟩ := v
  rw [e.mem, ← stV_some h.one, h.ab]
  unfold Ab
  show (∃ hd, TMp t key g = some hd ∧ f = hd.fin ∧ b = hd.has ∧ l = datS t D key g) ↔ _
  cases TMp t key g with
  | none =>
    constructor
    · rintro ⟨_, z, _⟩; cases z
    · intro z; cases z
  | some hd =>
    constructor
    · rintro ⟨x, z, q1, q2, q3⟩
      cases z
      rw [q1, q2, q3]
      rfl
    · intro z
      have z := Option.some.inj z
      exact ⟨hd, rfl, (congrArg Prod.fst z).symm, (congrArg (fun x => x.2.1) z).symm, (congrArg (fun x => x.2.2) z).symm⟩
theorem keys_back {t : TK} {D : ByteArray → Int × Int → List Nat} {vs : List Uv} (h : Sim t D vs) {ks : List ByteArray} (e : KE t.rv (fun _ => False) ks) (s : SortedS ks) : RKeys vs ks := by
  refine ⟨e.one, s, fun k => ?_⟩
  constructor
  · intro z
    have z := (e.each k z).2
    cases hr : t.R k with
    | none => exact absurd (rv_none.2 hr) z
    | some r =>
      obtain ⟨g, hd, hm⟩ := h.rows k r hr
      have q := h.st k g
      rw [TMp_at hr, hm] at q
      have q := (stV_some h.one _ _ _).1 q
      exact ⟨_, q, rfl⟩
  · rintro ⟨v, hv, rfl⟩
    refine (e.all v.1 (fun z => ?_)).resolve_left (fun z => z)
    have hv' : (v.1, v.2.1, v.2.2) ∈ vs := hv
    rw [← stV_some h.one, h.st, TMp_no (rv_none.1 z)] at hv'
    cases hv'
theorem all_back {t : TK} {D : ByteArray → Int × Int → List Nat} {vs : List Uv} (h : Sim t D vs) {avs : List Av} (e : AllOf t (datS t D) avs) : RAlls vs avs := ⟨keys_back h e.keys e.srt, fun v hv => ents_back h (e.ents v hv)⟩
theorem bl_iff (a b : ByteArray) : Op.bytesLess a.toList b.toList = decide (a.data.toList < b.data.toList) := by
  rw [bytesLess_eq, ba_toList, ba_toList]
theorem lt_of_strict {a b : ByteArray} (h : a.data.toList ≤ b.data.toList ∧ a ≠ b) : a.data.toList < b.data.toList := by
  by_cases q : a.data.toList < b.data.toList
  · exact q
  · exact absurd ⟨List.not_lt.1 q, fun e => h.2 e.symm⟩ (strict_asym a b h)
/-- What is told of a table is what its rows hold. -/
theorem RAlls.holds {vs : List Uv} {avs : List Av} (one : OneV vs) (a : RAlls vs avs) : HoldsOk vs avs := by
  have mm : ∀ (i : Nat) (k : ByteArray) (es : List Ev) (j : Nat) (v : Ev), avs[i]? = some (k, es) → es[j]? = some v → (k, v) ∈ vs := fun i k es j v h1 h2 => ((a.ents (k, es) (List.mem_of_getElem? h1)).mem v).1 (List.mem_of_getElem? h2)
  refine ⟨fun v hv => ?_, fun i k es k' es' h1 h2 => ?_, fun i k es j v h1 h2 => ?_, fun i k es j v v' h1 h2 h3 => ?_, ?_⟩
  · obtain ⟨u, hu, e⟩ := (a.keys.mem v.1).1 (List.mem_map.2 ⟨v, hv, rfl⟩)
    have : u.2 ∈ v.2 := ((a.ents v hv).mem u.2).2 (by rw [← e]; exact hu)
    exact List.length_pos_of_mem this
  · rw [bl_iff, decide_eq_true_iff]
    have p := sorted_strict a.keys.srt a.keys.one
    rw [List.pairwise_map] at p
    obtain ⟨a1, a2⟩ := List.getElem?_eq_some_iff.1 h1
    obtain ⟨b1, b2⟩ := List.getElem?_eq_some_iff.1 h2
    have := List.pairwise_iff_getElem.1 p i (i + 1) a1 b1 (by omega)
    rw [a2, b2] at this
    exact lt_of_strict this
  · have hm := mm i k es j v h1 h2
    have hn : ¬ plc vs k v.1 0 < 0 := fun z => by
      have := plc_none vs k v.1 0 z _ hm
      rw [(isAt_iff k v.1 (k, v)).2 ⟨rfl, rfl⟩] at this
      cases this
    obtain ⟨x, hx, e1, e2⟩ := plc_spec vs k v.1 0 hn
    rw [Nat.zero_add] at e1
    refine ⟨x, e1, ?_⟩
    have q := plc_at1 one hx e2
    rw [(stV_some one k v.1 v.2).2 hm] at q
    have q := Option.some.inj q
    obtain ⟨q1, q2⟩ := (isAt_iff k v.1 vs[x]).1 e2
    rw [List.getElem?_eq_getElem hx]
    congr 1
    exact Prod.ext q1 (Prod.ext q2 q.symm)
  · obtain ⟨b1, b2⟩ := List.getElem?_eq_some_iff.1 h2
    obtain ⟨c1, c2⟩ := List.getElem?_eq_some_iff.1 h3
    have := List.pairwise_iff_getElem.1 (a.ents (k, es) (List.mem_of_getElem? h1)).up j (j + 1) b1 c1 (by omega)
    rw [b2, c2] at this
    exact this
  · have e0 : cntA avs = (flat avs).length := by
      unfold cntA flat
      rw [List.length_flatMap]
      simp
    rw [e0]
    refine Nat.le_antisymm (flat_len vs a) (nodup_leG _ _ (one.imp (fun {x y} h e => h ⟨by rw [e], by rw [e]⟩)) (fun v hv => ?_))
    obtain ⟨w, hw, e⟩ := List.mem_map.1 ((a.keys.mem v.1).2 ⟨v, hv, rfl⟩)
    unfold flat
    refine List.mem_flatMap.2 ⟨w, hw, List.mem_map.2 ⟨v.2, ((a.ents w hw).mem v.2).2 (by rw [e]; exact hv), by rw [e]⟩⟩
/-- How much of a key is told. -/
theorem Sim.few {t : TK} {D : ByteArray → Int × Int → List Nat} {vs : List Uv} (h : Sim t D vs) {key : ByteArray} {dat : Int × Int → List Nat} {es : List Ev} (e : EntsOf (TMp t key) dat es) : (∀ v ∈ es, ¬ tc v.1 (nth (finF key vs) t.delta) < 0) ∧ (cntV es : Int) ≤ t.delta + 1 := by
  refine ⟨fun v hv => ?_, ?_⟩
  · obtain ⟨hd, h1, _⟩ := (e.mem v).1 hv
    rw [h.floor key h.d0]
    exact (h.inv key).low _ _ h1
  · have nd : (es.map fun v => v.1).Nodup := by
      unfold List.Nodup
      rw [List.pairwise_map]
      exact e.up.imp (fun {a b} hab z => by rw [z, tc_self] at hab; exact absurd hab (by decide))
    have h1 : ((es.filter fun v => v.2.2.1 && v.2.1).map fun v => v.1).length ≤ (TS t key).length := by
      refine nodup_le _ _ (nd.sublist ((List.filter_sublist).map _)) (fun g hg => ?_)
      obtain ⟨v, hv, rfl⟩ := List.mem_map.1 hg
      obtain ⟨h1, h2⟩ := List.mem_filter.1 hv
      rw [Bool.and_eq_true] at h2
      obtain ⟨hd, k1, k2, _⟩ := (e.mem v).1 h1
      exact ((h.inv key).fin _).2 ⟨hd, k1, by rw [← k2]; exact h2.2⟩
    rw [List.length_map] at h1
    have := (h.inv key).card
    unfold cntV
    omega
end Go.Proofs.YtojepeefphbekabGreat

namespace Go.Proofs.YtojepeefphbekabGreat
open Go.RowKit 

theorem plc_away : ∀ (vs : List Uv) (k : ByteArray) (g : Int × Int) (s : Nat), (∀ v ∈ vs, isAt k g v = false) → plc vs k g s < 0
  | [], _, _, _, _ => by show (-1 : Int) < 0; omega
  | a :: vs, k, g, s, h => by
    have e : plc (a :: vs) k g s = if isAt k g a = true then (s : Int) else plc vs k g (s + 1) := rfl
    rw [e, if_neg (by rw [h a (by simp)]; decide)]
    exact plc_away vs k g (s + 1) (fun v hv => h v (by simp [hv]))
theorem plc_snoc : ∀ (vs : List Uv) (v : Uv) (k : ByteArray) (g : Int × Int) (s : Nat), (∀ u ∈ vs, isAt k g u = false) → isAt k g v = true → plc (vs ++ [v]) k g s = ((s + vs.length : Nat) : Int)
  | [], v, k, g, s, _, hv => by
    have e : plc ([] ++ [v]) k g s = if isAt k g v = true then (s : Int) else plc [] k g (s + 1) := rfl
    rw [e, if_pos hv]
    simp
  | a :: vs, v, k, g, s, h, hv => by
    have e : plc ((a :: vs) ++ [v]) k g s = if isAt k g a = true then (s : Int) else plc (vs ++ [v]) k g (s + 1) := rfl
    rw [e, if_neg (by rw [h a (by simp)]; decide), plc_snoc vs v k g (s + 1) (fun u hu => h u (by simp [hu])) hv, List.length_cons]
    congr 1
    omega
/-- The floor of some of a table's rows: none, or the table's. -/
theorem sub_floor {t : TK} {D : ByteArray → Int × Int → List Nat} {vs : List Uv} (h : Sim t D vs) {vn : List Uv} (o : OneV vn) (sub : ∀ v ∈ vn, v ∈ vs) (k : ByteArray) : nth (finF k vn) t.delta = (0, 0) ∨ nth (finF k vn) t.delta = floorT (TS t k) t.delta := by
  obtain ⟨S', hS'⟩ : ∃ S', S' = (TS t k).filter (fun g => ((stV vn k g).map fun s => s.1).getD false) := ⟨_, rfl⟩
  have up' : Rising S' := by rw [hS']; exact List.Pairwise.filter _ (h.inv k).up
  have mem' : ∀ g, g ∈ S' ↔ ∃ s, stV vn k g = some s ∧ s.1 = true := by
    intro g
    rw [hS', List.mem_filter]
    constructor
    · rintro ⟨_, z⟩
      cases q : stV vn k g with
      | none => rw [q] at z; cases z
      | some s => rw [q] at z; exact ⟨s, rfl, z⟩
    · rintro ⟨s, z1, z2⟩
      refine ⟨(h.memS k g).2 ⟨s, (stV_some h.one k g s).2 (sub _ ((stV_some o k g s).1 z1)), z2⟩, ?_⟩
      rw [z1]
      exact z2
  rw [floor_same o up' mem' h.d0]
  have d0 := h.d0
  have card := (h.inv k).card
  by_cases q : t.delta < S'.length
  · right
    have le : S'.length ≤ (TS t k).length := by rw [hS']; exact List.length_filter_le _ _
    have e : S' = TS t k := by
      have sl : S'.Sublist (TS t k) := by rw [hS']; exact List.filter_sublist
      exact sl.eq_of_length (by omega)
    rw [e]
  · left
    unfold floorT
    rw [if_neg (fun z => q z.2)]
theorem low_sub {t : TK} {D : ByteArray → Int × Int → List Nat} {vs : List Uv} (h : Sim t D vs) {vn : List Uv} (o : OneV vn) (sub : ∀ v ∈ vn, v ∈ vs) {v : Uv} (hv : v ∈ vs) : ¬ tc v.2.1 (nth (finF v.1 vn) t.delta) < 0 := by
  obtain ⟨k, g, s⟩ := v
  have e := (stV_some h.one k g s).2 hv
  rw [h.st k g] at e
  cases q : TMp t k g with
  | none => rw [q] at e; cases e
  | some hd =>
    show ¬ tc g (nth (finF k vn) t.delta) < 0
    rcases sub_floor h o sub k with z | z
    · rw [z]
      exact tc_asym _ _ ((h.inv k).pos g hd q)
    · rw [z]
      exact (h.inv k).low g hd q
/-- What stands of a row: it is finalized or has a fragment; without one its bytes are none. -/
theorem Sim.row {t : TK} {D : ByteArray → Int × Int → List Nat} {vs : List Uv} (h : Sim t D vs) {k : ByteArray} {g : Int × Int} {f b : Bool} {l : List Nat} (hv : (k, g, f, b, l) ∈ vs) : (f = true ∨ b = true) ∧ (b = false → l = []) := by
  have e := (stV_some h.one k g (f, b, l)).2 hv
  rw [h.st k g] at e
  cases q : TMp t k g with
  | none => rw [q] at e; cases e
  | some hd =>
    rw [q] at e
    have e := Option.some.inj e
    have e1 : hd.fin = f := congrArg Prod.fst e
    have e2 : hd.has = b := congrArg (fun x => x.2.1) e
    have e3 : (if hd.has = true then D k g else []) = l := congrArg (fun x => x.2.2) e
    have := (h.inv k).some g hd q
    rw [e1, e2] at this
    refine ⟨this, fun z => ?_⟩
    rw [e2, z] at e3
    exact e3.symm
/-- A row that a table holds, put into a table that has some of its rows, but not this one. -/
theorem apply_new {t : TK} {D : ByteArray → Int × Int → List Nat} {vs : List Uv} (h : Sim t D vs) {vn : List Uv} (o : OneV vn) (sub : ∀ v ∈ vn, v ∈ vs) {k : ByteArray} {g : Int × Int} {f b : Bool} {l : List Nat} (hv : (k, g, f, b, l) ∈ vs) (hn : ∀ v ∈ vn, isAt k g v = false) :
    applyV t.delta vn k g l b f = (true, vn ++ [(k, g, f, b, l)]) ∧ OneV (vn ++ [(k, g, f, b, l)]) ∧ ∀ v ∈ vn ++ [(k, g, f, b, l)], v ∈ vs := by
  have o' : OneV (vn ++ [(k, g, f, b, l)]) := (PutV.snoc o hn (f, b, l)).one
  have sub' : ∀ v ∈ vn ++ [(k, g, f, b, l)], v ∈ vs := by
    intro v z
    rcases List.mem_append.1 z with z | z
    · exact sub v z
    · rw [List.mem_singleton.1 z]; exact hv
  refine ⟨?_, o', sub'⟩
  have lo := low_sub h o sub hv
  have lo : ¬ tc g (nth (finF k vn) t.delta) < 0 := lo
  have pn := plc_away vn k g 0 hn
  obtain ⟨r1, r2⟩ := h.row hv
  have la : leftV (vn ++ [(k, g, f, b, l)]) k (nth (finF k (vn ++ [(k, g, f, b, l)])) t.delta) = vn ++ [(k, g, f, b, l)] := leftV_all (fun v z e => by
    have := low_sub h o' sub' (sub' v z)
    rw [e] at this
    exact this)
  cases b
  · have ef : f = true := r1.resolve_right (by decide)
    subst ef
    have el := r2 rfl
    subst el
    have e1 : preW t.delta vn k g [] false = (false, vn) := rfl
    unfold applyV
    rw [e1]
    have e2 : finW t.delta vn k g true = (true, vn ++ [(k, g, true, false, [])]) := by
      unfold finW finV
      rw [if_pos rfl, if_neg (by
        unfold finNo
        rw [decide_eq_false lo, decide_eq_true pn]
        simp), addF_new pn, la]
    show (false || (finW t.delta vn k g true).1, (finW t.delta vn k g true).2) = _
    rw [e2]
    rfl
  · have e1 : preW t.delta vn k g l true = (true, vn ++ [(k, g, false, true, l)]) := by
      unfold preW
      rw [if_pos rfl, preV_new lo pn]
    unfold applyV
    rw [e1]
    show (true || (finW t.delta (vn ++ [(k, g, false, true, l)]) k g f).1, (finW t.delta (vn ++ [(k, g, false, true, l)]) k g f).2) = _
    cases f
    · rfl
    · have eF : finF k (vn ++ [(k, g, false, true, l)]) = finF k vn := by
        unfold finF
        rw [fins0_snoc, if_neg (by simp), List.append_nil]
      have ia : isAt k g (k, g, false, true, l) = true := (isAt_iff k g (k, g, false, true, l)).2 ⟨rfl, rfl⟩
      have ep : plc (vn ++ [(k, g, false, true, l)]) k g 0 = ((vn.length : Nat) : Int) := by
        rw [plc_snoc vn (k, g, false, true, l) k g 0 hn ia, Nat.zero_add]
      have el : (vn ++ [(k, g, false, true, l)])[vn.length]? = some (k, g, false, true, l) := by simp
      have e2 : finW t.delta (vn ++ [(k, g, false, true, l)]) k g true = (true, vn ++ [(k, g, true, true, l)]) := by
        unfold finW finV
        have en : ¬ finNo (nth (finF k (vn ++ [(k, g, false, true, l)])) t.delta) (vn ++ [(k, g, false, true, l)]) k g = true := by
          unfold finNo
          rw [eF, decide_eq_false lo, ep, Int.toNat_natCast, el]
          simp
        have ea : addF (vn ++ [(k, g, false, true, l)]) k g = vn ++ [(k, g, true, true, l)] := by
          have hl : vn.length < (vn ++ [(k, g, false, true, l)]).length := by simp
          rw [addF_old ep hl]
          have : (vn ++ [(k, g, false, true, l)])[vn.length] = (k, g, false, true, l) := by simp
          rw [this]
          show (vn ++ [(k, g, false, true, l)]).set vn.length (k, g, true, true, l) = _
          simp
        rw [if_pos rfl, if_neg en, ea, la]
      rw [e2]
      rfl
/-- Keys and fragments are such as an update may bring. -/
def RowsOk (vs : List Uv) : Prop := ∀ v ∈ vs, keyB v.1 = true ∧ v.2.2.2.2.length ≤ 65540
theorem PutV.ok {vs vs' : List Uv} {k : ByteArray} {g : Int × Int} {s : Bool × Bool × List Nat} (p : PutV vs k g s vs') (h : RowsOk vs) (hk : keyB k = true) (hs : s.2.2.length ≤ 65540) : RowsOk vs' := by
  intro v hv
  rcases (p.mem v).1 hv with z | z
  · rw [z]; exact ⟨hk, hs⟩
  · exact h v z.1
theorem RowsOk.apply {vs : List Uv} (h : RowsOk vs) (o : OneV vs) (d : Int) {k : ByteArray} (g : Int × Int) {l : List Nat} (br fi : Bool) (hk : keyB k = true) (hl : l.length ≤ 65540) : RowsOk (applyV d vs k g l br fi).2 := by
  have h1 : RowsOk (preW d vs k g l br).2 ∧ OneV (preW d vs k g l br).2 := by
    unfold preW
    cases br
    · exact ⟨h, o⟩
    · rw [if_pos rfl]
      obtain ⟨a1, a2, a3⟩ := preV_st o (nth (finF k vs) d) k g l
      cases q : (preV (nth (finF k vs) d) vs k g l).1
      · rw [a2 q]; exact ⟨h, o⟩
      · exact ⟨(a3 q).ok h hk hl, (a3 q).one⟩
  unfold applyV
  show RowsOk (finW d (preW d vs k g l br).2 k g fi).2
  obtain ⟨vs1, hv1⟩ : ∃ vs1, vs1 = (preW d vs k g l br).2 := ⟨_, rfl⟩
  rw [← hv1] at h1 ⊢
  unfold finW finV
  cases fi
  · exact h1.1
  · rw [if_pos rfl]
    split
    · exact h1.1
    · have p := addF_st h1.2 k g
      have : RowsOk (addF vs1 k g) := by
        refine p.ok h1.1 hk ?_
        cases q : stV vs1 k g with
        | none => exact Nat.zero_le _
        | some s => exact (h1.1 (k, g, s) ((stV_some h1.2 k g s).1 q)).2
      intro v hv
      exact this v ((leftV_mem _ _ _ _).1 hv).1
end Go.Proofs.YtojepeefphbekabGreat
