import Derived.Test.YtodmakcklacbfaaPAwakeJ
import Derived.Test.YtodmakcklacbfaaVSmallJ
import Derived.Test.YtodmakcklacbfaaVOwnJ
import Derived.Test.YtodmakcklacbfaaVFitL
import Derived.Test.YtodmakcklacbfaaVExpMJ
import Derived.Test.YtodmakcklacbfaaVExpF
namespace Go.Proofs.Ytodmakcklacbfaa
open Go.RowKit Go.Shelf Go.Lib Go.Sort

/-- The two calls of the first look. -/
def tpA (g : Nat) : Cm := ⟨0, 0, true, ⟨#[]⟩, some ⟨g, 0, none⟩, 1, 1, 0, 0, 1, false, 1, 1, [1]⟩
def tpB (g : Nat) : Cm := ⟨0, 0, false, ⟨#[]⟩, some ⟨g, 0, none⟩, 1, 1, 0, 2, 3, false, 1, 1, [1]⟩
def tpL (g h : Nat) : List Cm := [tpA g, tpB h]
theorem tpL_at {g h i : Nat} {c : Cl} (hc : ((tpL g h).map Cm.cl)[i]? = some c) : (i = 0 ∧ c = (tpA g).cl) ∨ (i = 1 ∧ c = (tpB h).cl) := by
  match i, hc with
  | 0, hc => exact .inl ⟨rfl, (Option.some.inj hc).symm⟩
  | 1, hc => exact .inr ⟨rfl, (Option.some.inj hc).symm⟩
  | i + 2, hc => simp [tpL] at hc
theorem tpL_fit (g h : Nat) : FitL (tpL g h) := by
  intro m hm
  rcases List.mem_cons.1 hm with rfl | hm
  · exact ⟨fun m0 e => by rw [← Option.some.inj e], rfl⟩
  · rcases List.mem_cons.1 hm with rfl | hm
    · exact ⟨fun m0 e => by rw [← Option.some.inj e]; rfl, rfl⟩
    · cases hm
theorem tpL_yes (g h : Nat) : Expl (tpL g h) [0, 1] := by
  refine ⟨[0, 1], rfl, (tpA g).cl, ⟨rfl, rfl, by simp, .inl rfl, fun j a ha _ hh => ?_⟩, (tpB h).cl, ⟨rfl, rfl, by simp, .inr rfl, fun j a ha _ hh => ?_⟩, fun i c hc _ => ?_⟩
  · rcases tpL_at ha with ⟨_, rfl⟩ | ⟨_, rfl⟩ <;> cases hh
  · rcases tpL_at ha with ⟨rfl, rfl⟩ | ⟨_, rfl⟩
    · simp
    · cases hh
  · rcases tpL_at hc with ⟨rfl, _⟩ | ⟨rfl, _⟩ <;> simp
theorem tpL_no (g h : Nat) : ¬ Expl (tpL g h) [1, 0] := by
  rintro ⟨Rn, e, x⟩
  have e2 : Rn = [1, 0] := by
    have : Rn.map (fun r : Nat => (r : Int)) = [1, 0].map (fun r : Nat => (r : Int)) := e.symm
    exact map_inj this
  subst e2
  obtain ⟨c, ⟨hc, _, _, ht, _⟩, _⟩ := x
  rcases tpL_at hc with ⟨z, _⟩ | ⟨_, rfl⟩
  · cases z
  · rcases ht with z | z <;> cases z
theorem tp_rd {W : World} {g : Nat} (h : W.cell? ⟨g, 0, none⟩ = some (.int .u8 1)) : Reads W (some ⟨g, 0, none⟩) 1 1 [1] := by
  refine ⟨rfl, Nat.le_refl _, by unfold maxLen; omega, fun c hc => ?_, fun _ => ⟨g, 0, rfl, fun i hi => ?_⟩⟩
  · have : c = 1 := by simpa using hc
    omega
  · have : i = 0 := by omega
    subst this
    exact h
theorem tp_crd {W : World} {b g h : Nat} {C : Array Value} (hb : W.heap[b]? = some (.cells C 38 (0, 0))) (hC : ∀ k, k < 11 → C[k]? = (tpA g).cs[k]? ∧ C[11 + k]? = (tpB h).cs[k]?) (hg : W.cell? ⟨g, 0, none⟩ = some (.int .u8 1)) (hh : W.cell? ⟨h, 0, none⟩ = some (.int .u8 1)) : CRd W (some ⟨b, 0, none⟩) 2 2 (tpL g h) := by
  refine ⟨rfl, Nat.le_refl _, by unfold maxLen; omega, fun _ => ⟨b, 0, rfl, fun i hi k v hv => ?_⟩, fun m hm => ?_⟩
  · have hi2 : i < 2 := hi
    refine cell_blk hb _ ?_
    rw [Nat.zero_add]
    obtain rfl | rfl : i = 0 ∨ i = 1 := by omega
    · have hv : (tpA g).cs[k]? = some v := hv
      have hk : k < 11 := (Array.getElem?_eq_some_iff.1 hv).1
      rw [Nat.zero_mul, Nat.zero_add, (hC k hk).1]
      exact hv
    · have hv : (tpB h).cs[k]? = some v := hv
      have hk : k < 11 := (Array.getElem?_eq_some_iff.1 hv).1
      rw [Nat.one_mul, (hC k hk).2]
      exact hv
  · rcases List.mem_cons.1 hm with rfl | hm
    · exact tp_rd hg
    · rcases List.mem_cons.1 hm with rfl | hm
      · exact tp_rd hh
      · cases hm
/-- Copies answer as what they are copies of. -/
theorem er_at {l1 l2 : List Cm} (h : l1.map er = l2.map er) {i : Nat} {m : Cm} (hm : l2[i]? = some m) : ∃ m', l1[i]? = some m' ∧ er m' = er m := by
  have h1 : (l1.map er)[i]? = some (er m) := by rw [h, List.getElem?_map, hm]; rfl
  rw [List.getElem?_map] at h1
  obtain ⟨m', h2, h3⟩ := Option.map_eq_some_iff.1 h1
  exact ⟨m', h2, h3⟩
structure SameM (a b : Cm) : Prop where
  client : a.client = b.client
  put : a.put = b.put
  key : a.key = b.key
  vn : a.vn = b.vn
  st : a.st = b.st
  opn : a.opn = b.opn
  tx : a.tx = b.tx
  ty : a.ty = b.ty
  cl : a.cl = b.cl
  fit : a.fit = b.fit
theorem er_same {a b : Cm} (h : er a = er b) : SameM a b := by
  have h_client := congrArg Cm.client h
  have h_put := congrArg Cm.put h
  have h_key := congrArg Cm.key h
  have h_vn := congrArg Cm.vn h
  have h_st := congrArg Cm.st h
  have h_opn := congrArg Cm.opn h
  have h_tx := congrArg Cm.tx h
  have h_ty := congrArg Cm.ty h
  have h_cl := congrArg Cm.cl h
  have h_fit := congrArg Cm.fit h
  exact ⟨h_client, h_put, h_key, h_vn, h_st, h_opn, h_tx, h_ty, h_cl, h_fit⟩
theorem er_cl {l1 l2 : List Cm} (h : l1.map er = l2.map er) : l1.map Cm.cl = l2.map Cm.cl := by
  have e : ∀ l : List Cm, l.map Cm.cl = (l.map er).map Cm.cl := fun l => by rw [List.map_map]; rfl
  rw [e l1, e l2, h]
theorem er_fit {l1 l2 : List Cm} (h : l1.map er = l2.map er) (f : FitL l1) : FitL l2 := by
  intro m hm
  obtain ⟨i, hi⟩ := List.mem_iff_getElem?.1 hm
  obtain ⟨m', h1, h2⟩ := er_at h hi
  have f1 := f m' (List.mem_of_getElem? h1)
  have s1 := er_same h2
  refine ⟨fun m0 h0 => ?_, by rw [← s1.fit]; exact f1.2⟩
  obtain ⟨q, h3, h4⟩ := er_at h h0
  rw [← s1.key, ← (er_same h4).key]
  exact f1.1 q h3
theorem er_expl {l1 l2 : List Cm} (h : l1.map er = l2.map er) {R : List Int} : Expl l1 R ↔ Expl l2 R := by
  unfold Expl
  rw [er_cl h]
theorem er_cka {l1 l2 : List Cm} (h : l1.map er = l2.map er) {R : List Int} {v : Int} (c : CkA l1 R v) : CkA l2 R v := by
  rcases c with ⟨z, f⟩ | ⟨z, f, x⟩ | ⟨z, f, x⟩
  · exact .inl ⟨z, fun g => f (er_fit h.symm g)⟩
  · exact .inr (.inl ⟨z, er_fit h f, (er_expl h).1 x⟩)
  · exact .inr (.inr ⟨z, er_fit h f, fun y => x ((er_expl h).2 y)⟩)
theorem er_scond {l1 l2 : List Cm} (h : l1.map er = l2.map er) {i : Nat} {l : Int} (c : SCond l1 i l) : SCond l2 i l := by
  intro m hm
  obtain ⟨m', h1, h2⟩ := er_at h hm
  have s := er_same h2
  obtain ⟨c1, c2, c3⟩ := c m' h1
  rw [s.put, s.opn] at c1
  rw [s.put, s.st] at c2
  rw [s.put, s.st] at c3
  refine ⟨fun p l0 q hq o1 o2 => ?_, c2, fun p z => ⟨(c3 p z).1, fun q hq => ?_⟩⟩
  · obtain ⟨q', g1, g2⟩ := er_at h hq
    have t := er_same g2
    have := c1 p l0 q' g1 (by rw [t.opn]; exact o1) o2
    unfold tlt at this ⊢
    rw [t.tx, t.ty, s.tx, s.ty] at this
    exact this
  · obtain ⟨q', g1, g2⟩ := er_at h hq
    have t := er_same g2
    have := (c3 p z).2 q' g1
    rw [t.opn, t.tx, t.ty, s.tx, s.ty] at this
    exact this
theorem er_next {l1 l2 : List Cm} (h : l1.map er = l2.map er) (i : Nat) (l : Int) : nextL l1 i l = nextL l2 i l := by
  unfold nextL
  cases q : l2[i]? with
  | some m =>
    obtain ⟨m', h1, h2⟩ := er_at h q
    rw [h1]
    show (if m'.put = true then (i : Int) else l) = if m.put = true then (i : Int) else l
    rw [(er_same h2).put]
  | none =>
    cases q1 : l1[i]? with
    | none => rfl
    | some m =>
      obtain ⟨m', h1, _⟩ := er_at h.symm q1
      rw [q] at h1
      cases h1
theorem er_sok {l1 l2 : List Cm} (h : l1.map er = l2.map er) : ∀ (L : List Nat) (l : Int), SOk l1 L l → SOk l2 L l
  | [], _, _ => trivial
  | i :: L, l, s => ⟨er_scond h s.1, by rw [← er_next h]; exact er_sok h L _ s.2⟩
theorem er_tok {l1 l2 : List Cm} (h : l1.map er = l2.map er) {L : List Nat} (t : TOk l1 L) : TOk l2 L := by
  refine ⟨t.nd, fun i hi => ?_, er_sok h L _ t.seq, fun i m hi hm => ?_⟩
  · obtain ⟨m, hm, hp⟩ := t.pt i hi
    obtain ⟨m', h1, h2⟩ := er_at h.symm hm
    exact ⟨m', h1, by rw [(er_same h2).cl]; exact hp⟩
  · obtain ⟨m', h1, h2⟩ := er_at h hi
    exact t.must i m' h1 (by rw [(er_same h2).cl]; exact hm)
theorem er_ki {l1 l2 : List Cm} (h : l1.map er = l2.map er) (k1 : ∀ m ∈ l2, KI m.client) (k2 : ∀ m ∈ l2, KI m.ty) : (∀ m ∈ l1, KI m.client) ∧ (∀ m ∈ l1, KI m.ty) := by
  refine ⟨fun m hm => ?_, fun m hm => ?_⟩
  · obtain ⟨i, hi⟩ := List.mem_iff_getElem?.1 hm
    obtain ⟨m', h1, h2⟩ := er_at h.symm hi
    rw [← (er_same h2).client]
    exact k1 m' (List.mem_of_getElem? h1)
  · obtain ⟨i, hi⟩ := List.mem_iff_getElem?.1 hm
    obtain ⟨m', h1, h2⟩ := er_at h.symm hi
    rw [← (er_same h2).ty]
    exact k2 m' (List.mem_of_getElem? h1)
theorem by_er {l1 l2 : List Cm} (h : l1.map er = l2.map er) {L : List Nat} {e : Int} (b : ByT l1 L e) : (e = 1 ∧ ¬ FitL l2 ∧ L = []) ∨ (FitL l2 ∧ e = 81 ∧ L = []) ∨ (FitL l2 ∧ e = 0 ∧ TOk l2 L) := by
  rcases by_ok b with ⟨a, f, z⟩ | ⟨f, a, z⟩ | ⟨f, a, z⟩
  · exact .inl ⟨a, fun g => f (er_fit h.symm g), z⟩
  · exact .inr (.inl ⟨er_fit h f, a, z⟩)
  · exact .inr (.inr ⟨er_fit h f, a, er_tok h z⟩)
/-- Any numbers as what is appended. -/
def intsI (R : List Int) : List Value := R.map fun r => Value.int .i64 r
theorem IRd.srcI {w : World} {q : Option Addr} {k kc : Nat} {R : List Int} (h : IRd w q k kc R) : Src Try.prog 1 22 (.slice q k kc) k (intsI R) w := by
  have hl : (intsI R).length = k * 1 := by
    unfold intsI
    rw [List.length_map, h.len]
    omega
  have h1 : ∀ v ∈ intsI R, v.oneCell' = true := fun v hv => by
    obtain ⟨x, _, rfl⟩ := List.mem_map.1 hv
    rfl
  by_cases hk : 0 < k
  · obtain ⟨b, off, rfl, hc⟩ := h.cells hk
    refine Src.ofSlice w Try.underlying22 _ k kc (intsI R) hl (fun j u hj => ?_) h1
    rw [Addr.add_none]
    unfold intsI at hj
    rw [List.getElem?_map] at hj
    obtain ⟨r, hr, rfl⟩ := Option.map_eq_some_iff.1 hj
    exact hc j _ hr
  · have h0 : k = 0 := by omega
    subst h0
    have hR : intsI R = [] := List.length_eq_zero_iff.1 (by rw [hl])
    rw [hR]
    cases q with
    | some ad => exact Src.ofSlice w Try.underlying22 ad 0 kc [] rfl (fun j u hj => by simp at hj) (fun v hv => by simp at hv)
    | none => exact Src.ofNil w Try.underlying22 kc
theorem own_none3 (b0 : Nat) (w : World) : w.ownsRow b0 3 1 (.slice none 0 0) 0 (intsI []) := ⟨rfl, .inl ⟨rfl, rfl⟩⟩
theorem own_irdI {b0 : Nat} {w : World} {p : Option Addr} {k c : Nat} {R : List Int} (hl : R.length = k) (h : w.ownsRow b0 3 1 (.slice p k c) k (intsI R)) : IRd w p k c R := by
  have rm := own_room h
  refine ⟨hl, rm.1, rm.2, fun h0 => ?_⟩
  have h9 := h
  rcases h.2 with ⟨_, e1⟩ | ⟨g, cap, cur, e0, hb, hg, _⟩
  · omega
  · simp at e0
    obtain ⟨rfl, rfl⟩ := e0
    refine ⟨g, 0, rfl, fun i x hx => ?_⟩
    have := h9.cells (g := g) rfl i (.int .i64 x) (by unfold intsI; rw [List.getElem?_map, hx]; rfl)
    rw [Addr.add_none] at this
    exact this
end Go.Proofs.Ytodmakcklacbfaa
