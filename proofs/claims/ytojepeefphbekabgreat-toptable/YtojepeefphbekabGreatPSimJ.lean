import Derived.Test.YtojepeefphbekabGreatSOwnJ
import Derived.Test.YtojepeefphbekabGreatPCopiedJ
import Derived.Test.YtojepeefphbekabGreatMovesJ
namespace Go.Proofs.YtojepeefphbekabGreat
open Go.RowKit 

def finAt (v : Uv) : Uv := (v.1, v.2.1, true, v.2.2.2.1, v.2.2.2.2)
/-- The rows with a tag finalized. -/
def addF (vs : List Uv) (key : ByteArray) (g : Int × Int) : List Uv := if plc vs key g 0 < 0 then vs ++ [(key, g, true, false, [])] else match vs[(plc vs key g 0).toNat]? with
  | some v => vs.set (plc vs key g 0).toNat (finAt v)
  | none => vs
/-- What is left from the floor on. -/
def leftV (vs : List Uv) (key : ByteArray) (fl : Int × Int) : List Uv := vs.filter fun v => !decide (v.1 = key) || !decide (tc v.2.1 fl < 0)
/-- Whether 'fin' changes nothing. -/
def finNo (fl : Int × Int) (vs : List Uv) (key : ByteArray) (g : Int × Int) : Bool := decide (tc g fl < 0) || (!decide (plc vs key g 0 < 0) && ((vs[(plc vs key g 0).toNat]?).map fun v => v.2.2.1).getD false)
theorem leftV_snoc (vs : List Uv) (v : Uv) (key : ByteArray) (fl : Int × Int) : leftV (vs ++ [v]) key fl = leftV vs key fl ++ (if (!decide (v.1 = key) || !decide (tc v.2.1 fl < 0)) = true then [v] else []) := by
  unfold leftV
  rw [List.filter_append]
  congr 1
  cases h : (!decide (v.1 = key) || !decide (tc v.2.1 fl < 0)) <;> simp [h]
/-- The rows that are left, on the way. -/
structure LS (w wr : World) (p : Option Addr) (n c : Nat) (M : List Ut) (vs : List Uv) : Prop where
  len : M.length = n
  row : wr.ownsRow w.heap.size 70 6 (.slice p n c) n (rcells M)
  rd : Along (UvRd wr) M vs
  kept : Kept (fun _ => False) w wr
theorem LS.more {w wr wi w9 : World} {p p9 : Option Addr} {n c c9 : Nat} {M : List Ut} {vs : List Uv} {u : Ut} {v : Uv} {o : Obj} (h : LS w wr p n c M vs) (K : Kept (fun _ => False) wr wi) (uv : UvRd wi u v) (ho : w9.ownsRow w.heap.size 70 6 (.slice p9 (n + 1) c9) (n + 1) (rcells M ++ encR u)) (hg : (wi.alloc o).grownBy w9 (Value.slice p n c).ownBlock) : LS w w9 p9 (n + 1) c9 (M ++ [u]) (vs ++ [v]) := by
  have KG : Kept (fun k => blockOf p = some k) wi w9 := ((Kept.refl (fun k => blockOf p = some k) wi).alloc _).grown hg (fun k _ z => by rw [blockOf_own] at z; exact z)
  have row := K.owns h.row (fun _ _ z => z)
  have n5 : ∀ k cs fr, wi.heap[k]? = some (.cells cs 5 fr) → ¬ blockOf p = some k := fun k cs fr hc z => by
    obtain ⟨c2, h2⟩ := own_ty row z
    rw [h2] at hc
    simp at hc
  refine ⟨by rw [List.length_append, h.len]; rfl, ?_, (h.rd.imp (fun _ _ q => (q.off K (fun _ _ _ _ z => z)).off KG n5)).snoc (uv.off KG n5), (h.kept.and0 K).trans KG (fun j hj z => ?_)⟩
  · rw [rcells_append]
    have e0 : rcells [u] = encR u := by simp [rcells]
    rw [e0]
    exact ho
  · have := (own_lt row j z).1
    omega
theorem LS.k0 {w wr w' : World} {p : Option Addr} {n c : Nat} {M : List Ut} {vs : List Uv} (h : LS w wr p n c M vs) (K : Kept (fun _ => False) wr w') : LS w w' p n c M vs := ⟨h.len, K.owns h.row (fun _ _ z => z), h.rd.imp (fun _ _ q => q.off K (fun _ _ _ _ z => z)), h.kept.and0 K⟩
theorem LS.few {w wr : World} {p : Option Addr} {n c : Nat} {M : List Ut} {vs : List Uv} (h : LS w wr p n c M vs) : n = vs.length := by rw [← h.rd.1, h.len]
theorem addF_new {vs : List Uv} {key : ByteArray} {g : Int × Int} (h : plc vs key g 0 < 0) : addF vs key g = vs ++ [(key, g, true, false, [])] := by unfold addF; rw [if_pos h]
theorem addF_old {vs : List Uv} {key : ByteArray} {g : Int × Int} {i : Nat} (h : plc vs key g 0 = (i : Int)) (hi : i < vs.length) : addF vs key g = vs.set i (finAt vs[i]) := by
  unfold addF
  rw [if_neg (by rw [h]; omega), h, Int.toNat_natCast, List.getElem?_eq_getElem hi]
theorem addF_len (vs : List Uv) (key : ByteArray) (g : Int × Int) : (addF vs key g).length ≤ vs.length + 1 := by
  unfold addF
  split
  · simp
  · split
    · simp
    · omega
/-- A row's flag is set. -/
theorem RTab.flag {b0 : Nat} {wi : World} {tb : Nat} {delta : Int} {g n c : Nat} {L : List Ut} {vs : List Uv} {i : Nat} (h : RTab b0 wi tb delta (some ⟨g, 0, none⟩) n c L vs) (hi : i < vs.length) :
    (∃ L', RTab b0 (wi.setCell ⟨g, i * 6 + 3, none⟩ (.bool true)) tb delta (some ⟨g, 0, none⟩) n c L' (vs.set i (finAt vs[i])) ∧ ∀ u ∈ L', ∃ v ∈ L, v.2.2.2.2.1 = u.2.2.2.2.1) ∧ Kept (fun k => k = g) wi (wi.setCell ⟨g, i * 6 + 3, none⟩ (.bool true)) := by
  have K : Kept (fun k => k = g) wi (wi.setCell ⟨g, i * 6 + 3, none⟩ (.bool true)) := (Kept.refl (fun k => k = g) wi).setCell (p := ⟨g, i * 6 + 3, none⟩) (fun _ => rfl) _
  obtain ⟨cg, hg⟩ := own_ty h.row (k := g) rfl
  have n5 : ∀ k cs fr, wi.heap[k]? = some (.cells cs 5 fr) → ¬ k = g := fun k cs fr hc z => by
    rw [z, hg] at hc
    simp at hc
  have hL : i < L.length := by rw [h.rd.1]; exact hi
  obtain ⟨⟨k, ⟨x, y⟩, f, hh, ra, rm, rc⟩, he⟩ : ∃ u, u = L[i] := ⟨_, rfl⟩
  have q := h.rd.2 i hL hi
  rw [← he] at q
  have uv : UvRd wi (k, (x, y), true, hh, ra, rm, rc) (finAt vs[i]) := ⟨q.key, q.ent.tag, rfl, q.ent.has, q.ent.data, q.ent.blk⟩
  refine ⟨⟨L.set i (k, (x, y), true, hh, ra, rm, rc), ⟨K.get h.blk (fun z => ?_), by rw [List.length_set]; exact h.len, ?_, (h.rd.imp (fun _ _ q => q.off K n5)).set (uv.off K n5)⟩, fun u hu => (List.mem_or_eq_of_mem_set hu).elim (fun z => ⟨u, z, rfl⟩) (fun z => ⟨L[i], List.getElem_mem hL, by rw [← he, z]⟩)⟩, K⟩
  · have z : tb = g := z
    have hb := h.blk
    rw [z, hg] at hb
    simp at hb
  · have e : rcells (L.set i (k, (x, y), true, hh, ra, rm, rc)) = (rcells L).set (i * 6 + 3) (.bool true) := by
      refine List.ext_getElem? (fun j => ?_)
      have l0 : (rcells (L.set i (k, (x, y), true, hh, ra, rm, rc))).length = (rcells L).length := by
        have lem : ∀ M : List Ut, (rcells M).length = M.length * 6 := fun M => by
          induction M with
          | nil => rfl
          | cons a M ih => rw [rcells_cons, List.length_append, ih, List.length_cons]; show 6 + _ = _; omega
        rw [lem, lem, List.length_set]
      rw [rcells_set L i hL (k, (x, y), true, hh, ra, rm, rc) (fun _ => by rw [← he])]
      have c1 := rcells_get L i hL 1 (by omega)
      have c2 := rcells_get L i hL 2 (by omega)
      have c4 := rcells_get L i hL 4 (by omega)
      have c5 := rcells_get L i hL 5 (by omega)
      rw [← he] at c1 c2 c4 c5
      simp only [List.getElem?_set]
      have n1 : ∀ a b : Nat, a < 6 → b < 6 → a ≠ b → i * 6 + a ≠ i * 6 + b := fun a b _ _ z => by omega
      by_cases e5 : i * 6 + 5 = j
      · subst e5
        have l5 : i * 6 + 5 < (rcells L).length := by
          have := List.getElem?_eq_some_iff.1 c5
          exact this.1
        simp [l5, encR] at c5 ⊢
        simp [c5]
      · by_cases e4 : i * 6 + 4 = j
        · subst e4
          have l4 : i * 6 + 4 < (rcells L).length := (List.getElem?_eq_some_iff.1 c4).1
          simp [l4, encR] at c4 ⊢
          simp [c4]
        · by_cases e3 : i * 6 + 3 = j
          · subst e3
            simp
          · by_cases e2 : i * 6 + 2 = j
            · subst e2
              have l2 : i * 6 + 2 < (rcells L).length := (List.getElem?_eq_some_iff.1 c2).1
              simp [l2, encR] at c2 ⊢
              simp [c2]
            · by_cases e1 : i * 6 + 1 = j
              · subst e1
                have l1 : i * 6 + 1 < (rcells L).length := (List.getElem?_eq_some_iff.1 c1).1
                simp [l1, encR] at c1 ⊢
                simp [c1]
              · simp [e1, e2, e3, e4, e5]
    rw [e]
    exact (h.row.stored _ _).1
/-- Other rows. -/
theorem LS.tab {b0 : Nat} {w wr : World} {tb : Nat} {delta : Int} {p q : Option Addr} {n c n2 c2 : Nat} {M L : List Ut} {vs vs2 : List Uv} (h : LS w wr p n c M vs) (t : RTab b0 w tb delta q n2 c2 L vs2) (hb : b0 ≤ w.heap.size) : RTab b0 (wr.setCell ⟨tb, 1, none⟩ (.slice p n c)) tb delta p n c M vs ∧ Kept (fun k => k = tb) w (wr.setCell ⟨tb, 1, none⟩ (.slice p n c)) := by
  have b8 := h.kept.get t.blk (fun z => z)
  have K9 : Kept (fun k => k = tb) wr (wr.setCell ⟨tb, 1, none⟩ (.slice p n c)) := (Kept.refl (fun k => k = tb) wr).setCell (p := ⟨tb, 1, none⟩) (fun _ => rfl) _
  have n6 : ∀ k cs fr, wr.heap[k]? = some (.cells cs 5 fr) → ¬ k = tb := fun k cs fr hc z => by
    rw [z, b8] at hc
    simp at hc
  refine ⟨⟨heap_set b8 1 _, h.len, K9.owns (owns_mono h.row hb) (fun k hk z => ?_), h.rd.imp (fun _ _ q => q.off K9 n6)⟩, (h.kept.mono (fun _ _ z => z.elim)).trans K9 (fun _ _ z => z)⟩
  have z : k = tb := z
  obtain ⟨c2, h2⟩ := own_ty h.row (k := k) (by rw [← blockOf_own]; exact hk)
  rw [z, b8] at h2
  simp at h2
end Go.Proofs.YtojepeefphbekabGreat

namespace Go.Proofs.YtojepeefphbekabGreat
open Go.RowKit 

/-- What stands of a key's tag. -/
def stV (vs : List Uv) (k : ByteArray) (g : Int × Int) : Option (Bool × Bool × List Nat) := (vs.find? (isAt k g)).map fun v => v.2.2
/-- No tag of a key stands twice. -/
def OneV (vs : List Uv) : Prop := vs.Pairwise fun v v' => ¬ (v.1 = v'.1 ∧ v.2.1 = v'.2.1)
theorem isAt_iff (k : ByteArray) (g : Int × Int) (v : Uv) : isAt k g v = true ↔ v.1 = k ∧ v.2.1 = g := by
  unfold isAt
  rw [Bool.and_eq_true, decide_eq_true_iff, decide_eq_true_iff]
theorem stV_cons (v : Uv) (vs : List Uv) (k : ByteArray) (g : Int × Int) : stV (v :: vs) k g = if isAt k g v = true then some v.2.2 else stV vs k g := by
  unfold stV
  rw [List.find?_cons]
  cases h : isAt k g v <;> simp
theorem stV_some : ∀ {vs : List Uv}, OneV vs → ∀ (k : ByteArray) (g : Int × Int) (s : Bool × Bool × List Nat), stV vs k g = some s ↔ (k, g, s) ∈ vs
  | [], _, k, g, s => by simp [stV]
  | v :: vs, h, k, g, s => by
    obtain ⟨h1, h2⟩ := List.pairwise_cons.1 h
    rw [stV_cons, List.mem_cons]
    by_cases e : isAt k g v = true
    · rw [if_pos e]
      obtain ⟨e1, e2⟩ := (isAt_iff k g v).1 e
      constructor
      · intro z
        left
        have z := Option.some.inj z
        rw [← e1, ← e2, ← z]
      · rintro (z | z)
        · rw [← z]
        · exact absurd ⟨e1, e2⟩ (h1 _ z)
    · rw [if_neg e, stV_some h2 k g s]
      constructor
      · exact .inr
      · rintro (z | z)
        · exact absurd ((isAt_iff k g v).2 ⟨by rw [← z], by rw [← z]⟩) e
        · exact z
theorem plc_none : ∀ (vs : List Uv) (k : ByteArray) (g : Int × Int) (s : Nat), plc vs k g s < 0 → ∀ v ∈ vs, isAt k g v = false
  | [], _, _, _, _, v, hv => by cases hv
  | a :: vs, k, g, s, h, v, hv => by
    have e : plc (a :: vs) k g s = if isAt k g a = true then (s : Int) else plc vs k g (s + 1) := rfl
    rw [e] at h
    by_cases q : isAt k g a = true
    · rw [if_pos q] at h
      omega
    · rw [if_neg q] at h
      rcases List.mem_cons.1 hv with z | z
      · rw [z]
        exact Bool.eq_false_iff.2 q
      · exact plc_none vs k g (s + 1) h v z
/-- One row is put in, in the place of the old one, if there was one. -/
structure PutV (vs : List Uv) (k : ByteArray) (g : Int × Int) (s : Bool × Bool × List Nat) (vs' : List Uv) : Prop where
  one : OneV vs'
  mem : ∀ v, v ∈ vs' ↔ v = (k, g, s) ∨ (v ∈ vs ∧ isAt k g v = false)
theorem PutV.snoc {vs : List Uv} {k : ByteArray} {g : Int × Int} (h : OneV vs) (hn : ∀ v ∈ vs, isAt k g v = false) (s : Bool × Bool × List Nat) : PutV vs k g s (vs ++ [(k, g, s)]) := by
  refine ⟨?_, fun v => ?_⟩
  · unfold OneV
    rw [List.pairwise_append]
    refine ⟨h, List.pairwise_singleton _ _, fun a ha b hb z => ?_⟩
    rw [List.mem_singleton.1 hb] at z
    have := hn a ha
    rw [(isAt_iff k g a).2 z] at this
    cases this
  · rw [List.mem_append, List.mem_singleton]
    constructor
    · rintro (z | z)
      · exact .inr ⟨z, hn v z⟩
      · exact .inl z
    · rintro (z | z)
      · exact .inr z
      · exact .inl z.1
theorem PutV.set : ∀ {vs : List Uv} {k : ByteArray} {g : Int × Int} {i : Nat} (_ : OneV vs) (hi : i < vs.length) (_ : isAt k g vs[i] = true) (s : Bool × Bool × List Nat), PutV vs k g s (vs.set i (k, g, s))
  | [], _, _, _, _, hi, _, _ => by simp at hi
  | a :: vs, k, g, 0, h, _, ha, s => by
    obtain ⟨h1, h2⟩ := List.pairwise_cons.1 h
    have ha : isAt k g a = true := ha
    obtain ⟨e1, e2⟩ := (isAt_iff k g a).1 ha
    have no : ∀ v ∈ vs, isAt k g v = false := fun v hv => by
      rw [Bool.eq_false_iff]
      intro z
      obtain ⟨z1, z2⟩ := (isAt_iff k g v).1 z
      exact h1 v hv ⟨by rw [e1, z1], by rw [e2, z2]⟩
    rw [List.set_cons_zero]
    refine ⟨List.pairwise_cons.2 ⟨fun v hv z => ?_, h2⟩, fun v => ?_⟩
    · have := no v hv
      rw [(isAt_iff k g v).2 ⟨z.1.symm, z.2.symm⟩] at this
      cases this
    · rw [List.mem_cons, List.mem_cons]
      constructor
      · rintro (z | z)
        · exact .inl z
        · exact .inr ⟨.inr z, no v z⟩
      · rintro (z | ⟨z | z, q⟩)
        · exact .inl z
        · rw [z, ha] at q
          cases q
        · exact .inr z
  | a :: vs, k, g, i + 1, h, hi, ha, s => by
    obtain ⟨h1, h2⟩ := List.pairwise_cons.1 h
    have hi' : i < vs.length := by simpa using hi
    have ha : isAt k g vs[i] = true := ha
    have ih := PutV.set (s := s) h2 hi' ha
    obtain ⟨e1, e2⟩ := (isAt_iff k g vs[i]).1 ha
    have na : isAt k g a = false := by
      rw [Bool.eq_false_iff]
      intro z
      obtain ⟨z1, z2⟩ := (isAt_iff k g a).1 z
      exact h1 _ (List.getElem_mem hi') ⟨by rw [e1, z1], by rw [e2, z2]⟩
    rw [List.set_cons_succ]
    refine ⟨List.pairwise_cons.2 ⟨fun v hv z => ?_, ih.one⟩, fun v => ?_⟩
    · rcases (ih.mem v).1 hv with q | q
      · rw [q] at z
        rw [(isAt_iff k g a).2 z] at na
        cases na
      · exact h1 v q.1 z
    · rw [List.mem_cons, List.mem_cons, ih.mem v]
      constructor
      · rintro (z | z | z)
        · exact .inr ⟨.inl z, by rw [z]; exact na⟩
        · exact .inl z
        · exact .inr ⟨.inr z.1, z.2⟩
      · rintro (z | ⟨z | z, q⟩)
        · exact .inr (.inl z)
        · exact .inl z
        · exact .inr (.inr ⟨z, q⟩)
theorem opt_ext {α : Type} {a b : Option α} (h : ∀ s, a = some s ↔ b = some s) : a = b := by
  cases a with
  | none =>
    cases b with
    | none => rfl
    | some y => exact ((h y).2 rfl)
  | some x => exact ((h x).1 rfl).symm
theorem PutV.st {vs vs' : List Uv} {k : ByteArray} {g : Int × Int} {s : Bool × Bool × List Nat} (p : PutV vs k g s vs') (h : OneV vs) (k' : ByteArray) (g' : Int × Int) : stV vs' k' g' = if k' = k ∧ g' = g then some s else stV vs k' g' := by
  refine opt_ext fun x => ?_
  rw [stV_some p.one, p.mem]
  by_cases e : k' = k ∧ g' = g
  · obtain ⟨rfl, rfl⟩ := e
    rw [if_pos ⟨rfl, rfl⟩]
    constructor
    · rintro (z | z)
      · have z : x = s := congrArg (fun v : Uv => v.2.2) z
        rw [z]
      · have := z.2
        rw [(isAt_iff k' g' (k', g', x)).2 ⟨rfl, rfl⟩] at this
        cases this
    · intro z
      rw [Option.some.inj z]
      exact .inl rfl
  · rw [if_neg e, stV_some h]
    constructor
    · rintro (z | z)
      · exact absurd ⟨congrArg (fun v : Uv => v.1) z, congrArg (fun v : Uv => v.2.1) z⟩ e
      · exact z.1
    · intro z
      refine .inr ⟨z, ?_⟩
      rw [Bool.eq_false_iff]
      intro q
      exact e ((isAt_iff k g (k', g', x)).1 q)
theorem OneV.left {vs : List Uv} (h : OneV vs) (key : ByteArray) (fl : Int × Int) : OneV (leftV vs key fl) := List.Pairwise.filter _ h
theorem leftV_mem (vs : List Uv) (key : ByteArray) (fl : Int × Int) (v : Uv) : v ∈ leftV vs key fl ↔ v ∈ vs ∧ ¬ (v.1 = key ∧ tc v.2.1 fl < 0) := by
  unfold leftV
  rw [List.mem_filter]
  refine and_congr_right fun _ => ?_
  by_cases h1 : v.1 = key <;> by_cases h2 : tc v.2.1 fl < 0 <;> simp [h1, h2] <;> omega
theorem left_st {vs : List Uv} (h : OneV vs) (key : ByteArray) (fl : Int × Int) (k : ByteArray) (g : Int × Int) : stV (leftV vs key fl) k g = if k = key ∧ tc g fl < 0 then none else stV vs k g := by
  refine opt_ext fun x => ?_
  rw [stV_some (h.left key fl), leftV_mem]
  by_cases e : k = key ∧ tc g fl < 0
  · rw [if_pos e]
    constructor
    · intro z
      exact absurd e z.2
    · intro z
      cases z
  · rw [if_neg e, stV_some h]
    exact ⟨fun z => z.1, fun z => ⟨z, e⟩⟩
theorem plc_at1 {vs : List Uv} (h : OneV vs) {k : ByteArray} {g : Int × Int} {i : Nat} (hi : i < vs.length) (ha : isAt k g vs[i] = true) : stV vs k g = some vs[i].2.2 := by
  rw [stV_some h]
  obtain ⟨e1, e2⟩ := (isAt_iff k g vs[i]).1 ha
  have : (k, g, vs[i].2.2) = vs[i] := by rw [← e1, ← e2]
  rw [this]
  exact List.getElem_mem hi
theorem st_none {vs : List Uv} {k : ByteArray} {g : Int × Int} (h : ∀ v ∈ vs, isAt k g v = false) : stV vs k g = none := by
  unfold stV
  rw [List.find?_eq_none.2 (fun v hv => by rw [h v hv]; decide)]
  rfl
/-- What 'pre' does. -/
theorem preV_st {vs : List Uv} (h : OneV vs) (fl : Int × Int) (k : ByteArray) (g : Int × Int) (l : List Nat) :
    (preV fl vs k g l).1 = (!decide (tc g fl < 0) && !((stV vs k g).map fun s => s.2.1).getD false) ∧ ((preV fl vs k g l).1 = false → (preV fl vs k g l).2 = vs) ∧ ((preV fl vs k g l).1 = true → PutV vs k g (((stV vs k g).map fun s => s.1).getD false, true, l) (preV fl vs k g l).2) := by
  by_cases h1 : tc g fl < 0
  · have : preV fl vs k g l = (false, vs) := by unfold preV; rw [if_pos h1]
    rw [this]
    exact ⟨by simp [h1], fun _ => rfl, fun z => by cases z⟩
  · by_cases h2 : plc vs k g 0 < 0
    · rw [preV_new h1 h2]
      have hn := plc_none vs k g 0 h2
      rw [st_none hn]
      exact ⟨by simp [h1], fun z => (by cases z), fun _ => PutV.snoc h hn _⟩
    · obtain ⟨i, hi, e1, e2⟩ := plc_spec vs k g 0 h2
      rw [Nat.zero_add] at e1
      rw [preV_has hi h1 e1, plc_at1 h hi e2]
      cases e3 : vs[i].2.2.2.1
      · refine ⟨by simp [h1, e3], fun z => (by cases z), fun _ => ?_⟩
        have := PutV.set h hi e2 (vs[i].2.2.1, true, l)
        simpa using this
      · exact ⟨by simp [h1, e3], fun _ => rfl, fun z => by simp at z⟩
/-- What 'fin' does ahead of the throwing away. -/
theorem addF_st {vs : List Uv} (h : OneV vs) (k : ByteArray) (g : Int × Int) : PutV vs k g (true, ((stV vs k g).map fun s => s.2).getD (false, [])) (addF vs k g) := by
  by_cases h2 : plc vs k g 0 < 0
  · rw [addF_new h2]
    have hn := plc_none vs k g 0 h2
    rw [st_none hn]
    exact PutV.snoc h hn _
  · obtain ⟨i, hi, e1, e2⟩ := plc_spec vs k g 0 h2
    rw [Nat.zero_add] at e1
    rw [addF_old e1 hi, plc_at1 h hi e2]
    have := PutV.set h hi e2 (true, vs[i].2.2.2)
    obtain ⟨q1, q2⟩ := (isAt_iff k g vs[i]).1 e2
    have e3 : finAt vs[i] = (k, g, true, vs[i].2.2.2) := by unfold finAt; rw [q1, q2]
    rw [e3]
    exact this
theorem finNo_st {vs : List Uv} (h : OneV vs) (fl : Int × Int) (k : ByteArray) (g : Int × Int) : finNo fl vs k g = (decide (tc g fl < 0) || ((stV vs k g).map fun s => s.1).getD false) := by
  unfold finNo
  by_cases h2 : plc vs k g 0 < 0
  · rw [st_none (plc_none vs k g 0 h2)]
    simp [h2]
  · obtain ⟨i, hi, e1, e2⟩ := plc_spec vs k g 0 h2
    rw [Nat.zero_add] at e1
    rw [plc_at1 h hi e2, e1, Int.toNat_natCast, List.getElem?_eq_getElem hi]
    have : ¬ ((i : Int) < 0) := by omega
    simp [this]
theorem nth_rev (S : List (Int × Int)) (d : Int) (h0 : 0 ≤ d) : nth S.reverse d = floorT S d := by
  unfold nth floorT
  rw [List.length_reverse]
  by_cases h : d < S.length
  · rw [if_pos h, if_pos ⟨h0, h⟩]
    have hd : d.toNat < S.length := by omega
    rw [List.getD_eq_getElem?_getD, List.getD_eq_getElem?_getD, List.getElem?_reverse hd]
  · rw [if_neg h, if_neg (fun z => h z.2)]
/-- The floor of the rows is that of the set. -/
theorem floor_same {vs : List Uv} (h : OneV vs) {k : ByteArray} {S : List (Int × Int)} (up : Rising S) (mem : ∀ g, g ∈ S ↔ ∃ s, stV vs k g = some s ∧ s.1 = true) {d : Int} (h0 : 0 ≤ d) : nth (finF k vs) d = floorT S d := by
  have e : finF k vs = S.reverse := by
    refine finF_eq ?_ ?_
    · unfold Falls
      rw [List.pairwise_reverse]
      exact up.imp (fun h => tc_asym _ _ h)
    · refine (List.reverse_perm S).trans ?_
      have nd : S.Nodup := up.imp (fun {a b} hab e => by rw [e, tc_self] at hab; exact absurd hab (by decide))
      refine (List.perm_ext_iff_of_nodup nd ?_).2 fun g => ?_
      · unfold fins0 List.Nodup
        rw [List.pairwise_map]
        have p1 : (vs.filter fun v => decide (v.1 = k) && v.2.2.1).Pairwise fun v v' => ¬ (v.1 = v'.1 ∧ v.2.1 = v'.2.1) := List.Pairwise.filter _ h
        refine List.Pairwise.imp_of_mem (fun {a b} ha hb hab z => ?_) p1
        have ha := (List.mem_filter.1 ha).2
        have hb := (List.mem_filter.1 hb).2
        simp at ha hb
        exact hab ⟨by rw [ha.1, hb.1], z⟩
      · rw [mem g]
        unfold fins0
        rw [List.mem_map]
        constructor
        · rintro ⟨s, h1, h2⟩
          rw [stV_some h] at h1
          exact ⟨_, List.mem_filter.2 ⟨h1, by simp [h2]⟩, rfl⟩
        · rintro ⟨v, hv, rfl⟩
          obtain ⟨h1, h2⟩ := List.mem_filter.1 hv
          simp at h2
          refine ⟨v.2.2, ?_, h2.2⟩
          rw [stV_some h, ← h2.1]
          exact h1
  rw [e]
  exact nth_rev S d h0
end Go.Proofs.YtojepeefphbekabGreat
