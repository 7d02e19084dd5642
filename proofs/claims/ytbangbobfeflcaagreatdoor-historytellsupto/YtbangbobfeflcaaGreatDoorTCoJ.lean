import Derived.Test.YtbangbobfeflcaaGreatDoorRCd
import Derived.Test.YtbangbobfeflcaaGreatDoorHGrqJ
import Derived.Test.YtbangbobfeflcaaGreatDoorRFo
import Derived.Test.YtbangbobfeflcaaGreatDoorRKrJ
import Derived.Test.YtbangbobfeflcaaGreatDoorLTxJ
namespace Go.Proofs.YtbangbobfeflcaaGreatDoor
open Go.RowKit 

/-- Where the events of an operation stand in a history that may be. -/
def PlI (es : List Ev) (cl : Int) : Prop :=
  (∀ (p : Nat) (x : Ev), es[p]? = some x → x.client = cl → ∃ z, lastM es noM cl = some z ∧ x.op ≤ z.op) ∧
  (∀ z, lastM es noM cl = some z → ∃ p : Nat, es[p]? = some z ∧ z.client = cl ∧ (∀ (m : Nat) (x : Ev), p < m → es[m]? = some x → ¬ x.client = cl) ∧ (z.kind = 1 → placesE es (cl, z.op) = [p])) ∧
  ∀ (i : Nat) (e : Ev), es[i]? = some e → e.client = cl → e.kind = 1 → (placesE es (cl, e.op) = [i] ∧ ∀ (m : Nat) (x : Ev), i < m → es[m]? = some x → ¬ x.client = cl) ∨ ∃ (j : Nat) (y : Ev), placesE es (cl, e.op) = [i, j] ∧ i < j ∧ es[j]? = some y ∧ y.client = cl ∧ ∀ (m : Nat) (x : Ev), i < m → m < j → es[m]? = some x → ¬ x.client = cl
theorem at_snoc {l : List Ev} {a : Ev} {p : Nat} {x : Ev} (h : (l ++ [a])[p]? = some x) : (p < l.length ∧ l[p]? = some x) ∨ (p = l.length ∧ x = a) := by
  have hp := (List.getElem?_eq_some_iff.1 h).1
  rw [List.length_append, List.length_singleton] at hp
  by_cases q : p < l.length
  · rw [get_old q] at h
    exact .inl ⟨q, h⟩
  · have e : p = l.length := by omega
    subst e
    rw [get_new] at h
    exact .inr ⟨rfl, (Option.some.inj h).symm⟩
theorem may_some {z a : Ev} (h : mayF (some z) a = true) : (a.kind = 1 ∧ ¬ z.kind = 1 ∧ a.op = z.op + 1) ∨ (¬ a.kind = 1 ∧ z.kind = 1 ∧ a.op = z.op) := by
  unfold mayF at h
  by_cases k : a.kind = 1
  · simp only [k, if_true, Bool.and_eq_true, Bool.not_eq_true', decide_eq_false_iff_not, decide_eq_true_eq] at h
    exact .inl ⟨k, h.1, h.2⟩
  · simp only [k, if_false, Bool.and_eq_true, decide_eq_true_eq] at h
    exact .inr ⟨k, h.1.1.1, h.1.1.2⟩
theorem pl_step {l : List Ev} {a : Ev} (ih : ∀ cl, PlI l cl) (hm : mayF (lastM l noM a.client) a = true) (cl : Int) : PlI (l ++ [a]) cl := by
  obtain ⟨i1, i2, i3⟩ := ih cl
  by_cases q : a.client = cl
  · subst q
    have lm : lastM (l ++ [a]) noM a.client = some a := by rw [lastM_snocC, if_pos rfl]
    have ge : ∀ (p : Nat) (x : Ev), l[p]? = some x → x.client = a.client → x.op ≤ a.op ∧ (a.kind = 1 → x.op < a.op) := fun p x hx hc => by
      obtain ⟨z, hz, hle⟩ := i1 p x hx hc
      rw [hz] at hm
      rcases may_some hm with ⟨k, _, e⟩ | ⟨k, _, e⟩
      · exact ⟨by omega, fun _ => by omega⟩
      · exact ⟨by omega, fun z => absurd z k⟩
    have em : a.kind = 1 → placesE l (a.client, a.op) = [] := fun k => by
      rw [List.eq_nil_iff_forall_not_mem]
      intro p hp
      have h2 := (List.mem_filter.1 hp).2
      unfold isAt at h2
      cases hx : l[p]? with
      | none => rw [hx] at h2; cases h2
      | some x =>
        rw [hx] at h2
        have h3 : keyE x = (a.client, a.op) := by simpa using h2
        injection h3 with h4 h5
        have := (ge p x hx h4).2 k
        omega
    have pa : a.kind = 1 → placesE (l ++ [a]) (a.client, a.op) = [l.length] := fun k => by
      rw [places_snoc, if_pos (show keyE a = (a.client, a.op) from rfl), em k]
      rfl
    have nl : ∀ (m : Nat) (x : Ev), l.length < m → (l ++ [a])[m]? = some x → ¬ x.client = a.client := fun m x h hx => by
      rcases at_snoc hx with ⟨h1, _⟩ | ⟨h1, _⟩ <;> omega
    refine ⟨fun p x hx hc => ⟨a, lm, ?_⟩, fun z hz => ?_, fun i e hi hc hk => ?_⟩
    · rcases at_snoc hx with ⟨_, h⟩ | ⟨_, h⟩
      · exact (ge p x h hc).1
      · rw [h]; exact Int.le_refl _
    · rw [lm] at hz
      obtain rfl := Option.some.inj hz
      exact ⟨l.length, get_new _ _, rfl, nl, pa⟩
    · rcases at_snoc hi with ⟨hil, h⟩ | ⟨h1, h2⟩
      · obtain ⟨z, hz, hle⟩ := i1 i e h hc
        obtain ⟨p, pz, zc, pn, pk⟩ := i2 z hz
        rw [hz] at hm
        rcases i3 i e h hc hk with ⟨b1, b2⟩ | ⟨j, y, b1, b2, b3, b4, b5⟩
        · have ep : p = i := by
            rcases Nat.lt_trichotomy p i with z1 | z1 | z1
            · exact absurd hc (pn i e z1 h)
            · exact z1
            · exact absurd zc (b2 p z z1 pz)
          subst ep
          have ez : z = e := Option.some.inj (pz.symm.trans h)
          subst ez
          rcases may_some hm with ⟨_, k2, _⟩ | ⟨k1, _, k3⟩
          · exact absurd hk k2
          · refine .inr ⟨l.length, a, ?_, hil, get_new _ _, rfl, fun m x m1 m2 hx => ?_⟩
            · rw [places_snoc, if_pos (by show (a.client, a.op) = _; rw [k3]), b1]
              rfl
            · rw [get_old m2] at hx
              exact b2 m x m1 hx
        · have hne : ¬ a.op = e.op := fun z1 => by
            rcases may_some hm with ⟨_, _, k3⟩ | ⟨_, k2, k3⟩
            · omega
            · have q1 := pk k2
              rw [← k3, z1, b1] at q1
              simp at q1
          have jl := (List.getElem?_eq_some_iff.1 b3).1
          refine .inr ⟨j, y, ?_, b2, by rw [get_old jl]; exact b3, b4, fun m x m1 m2 hx => ?_⟩
          · rw [places_snoc, if_neg (by intro z1; injection z1 with _ z2; exact hne z2)]
            exact b1
          · rw [get_old (by omega)] at hx
            exact b5 m x m1 m2 hx
      · subst h2
        subst h1
        exact .inl ⟨pa hk, nl⟩
  · have lm : lastM (l ++ [a]) noM cl = lastM l noM cl := by rw [lastM_snocC, if_neg q]
    have pp : ∀ o, placesE (l ++ [a]) (cl, o) = placesE l (cl, o) := fun o => by
      rw [places_snoc, if_neg (by intro z1; injection z1 with z2 _; exact q z2)]
    have nl : ∀ (i : Nat), (∀ (m : Nat) (x : Ev), i < m → l[m]? = some x → ¬ x.client = cl) → ∀ (m : Nat) (x : Ev), i < m → (l ++ [a])[m]? = some x → ¬ x.client = cl := fun i h m x hm hx => by
      rcases at_snoc hx with ⟨_, h1⟩ | ⟨_, h1⟩
      · exact h m x hm h1
      · rw [h1]; exact q
    refine ⟨fun p x hx hc => ?_, fun z hz => ?_, fun i e hi hc hk => ?_⟩
    · rw [lm]
      rcases at_snoc hx with ⟨_, h1⟩ | ⟨_, h1⟩
      · exact i1 p x h1 hc
      · rw [h1] at hc; exact absurd hc q
    · rw [lm] at hz
      obtain ⟨p, h1, h2, h3, h4⟩ := i2 z hz
      exact ⟨p, by rw [get_old (List.getElem?_eq_some_iff.1 h1).1]; exact h1, h2, nl p h3, fun k => by rw [pp]; exact h4 k⟩
    · rcases at_snoc hi with ⟨_, h1⟩ | ⟨_, h1⟩
      · rcases i3 i e h1 hc hk with ⟨b1, b2⟩ | ⟨j, y, b1, b2, b3, b4, b5⟩
        · exact .inl ⟨by rw [pp]; exact b1, nl i b2⟩
        · refine .inr ⟨j, y, by rw [pp]; exact b1, b2, by rw [get_old (List.getElem?_eq_some_iff.1 b3).1]; exact b3, b4, fun m x m1 m2 hx => ?_⟩
          have jl := (List.getElem?_eq_some_iff.1 b3).1
          rw [get_old (by omega)] at hx
          exact b5 m x m1 m2 hx
      · rw [h1] at hc; exact absurd hc q
theorem pl_inv (es : List Ev) : chkE es noM 0 = (-1, 0) → ∀ cl, PlI es cl := by
  refine snoc_ind (P := fun es => chkE es noM 0 = (-1, 0) → ∀ cl, PlI es cl) (fun _ cl => ⟨fun p x hx => (by simp at hx), fun z hz => (by cases hz), fun i e hi => (by simp at hi)⟩) (fun l a ih h => ?_) es
  have hp := chk_pre l [a] noM 0 h
  have ha := chk_app l [a] noM 0 hp
  rw [h] at ha
  exact pl_step (ih hp) (chk_one ha.symm).2
/-- The call that end finds is the one that the places tell. -/
theorem call_end {es : List Ev} (h : chkE es noM 0 = (-1, 0)) {i : Nat} {e : Ev} (he : es[i]? = some e) (hk : e.kind = 1) {r : Int} (hr : EndQ es e.client i r) : (r = -1 ∧ callP es (placesE es (keyE e)) = some (beginC e i)) ∨ ∃ (j : Nat) (y : Ev), r = (j : Int) ∧ es[j]? = some y ∧ i < j ∧ callP es (placesE es (keyE e)) = some (endC (beginC e i) y j) := by
  have q := (pl_inv es h e.client).2.2 i e he rfl hk
  rcases hr with ⟨r1, r2⟩ | ⟨j, y, r1, r2, r3, r4, r5⟩
  · rcases q with ⟨b1, _⟩ | ⟨j, y, _, b2, b3, b4, _⟩
    · refine .inl ⟨r1, ?_⟩
      rw [show keyE e = (e.client, e.op) from rfl, b1]
      show (es[i]?).map _ = _
      rw [he]
      rfl
    · exact absurd b4 (r2 j y b2 b3)
  · rcases q with ⟨_, b2⟩ | ⟨j', y', b1, b2, b3, b4, b5⟩
    · exact absurd r4 (b2 j y r2 r3)
    · have ej : j' = j := by
        rcases Nat.lt_trichotomy j' j with z | z | z
        · exact absurd b4 (r5 j' y' b2 z b3)
        · exact z
        · exact absurd r4 (b5 j y r2 z r3)
      subst ej
      have ey : y' = y := Option.some.inj (b3.symm.trans r3)
      subst ey
      refine .inr ⟨j', y', r1, b3, b2, ?_⟩
      rw [show keyE e = (e.client, e.op) from rfl, b1]
      show (match es[i]?, es[j']? with | some b, some x => some (endC (beginC b i) x j') | _, _ => none) = _
      rw [he, b3]
end Go.Proofs.YtbangbobfeflcaaGreatDoor

namespace Go.Proofs.YtbangbobfeflcaaGreatDoor
open Go.RowKit 

/-- What ends an operation is no beginning. -/
theorem end_k {es : List Ev} (h : chkE es noM 0 = (-1, 0)) {i : Nat} {e : Ev} (he : es[i]? = some e) (hk : e.kind = 1) {j : Nat} {y : Ev} (hy : es[j]? = some y) (hij : i < j) (hc : y.client = e.client) (hn : ∀ (m : Nat) (x : Ev), i < m → m < j → es[m]? = some x → ¬ x.client = e.client) : ¬ y.kind = 1 := fun ky => by
  rcases (pl_inv es h e.client).2.2 i e he rfl hk with ⟨_, b2⟩ | ⟨j', y', b1, b2, b3, b4, b5⟩
  · exact b2 j y hij hy hc
  · have ej : j' = j := by
      rcases Nat.lt_trichotomy j' j with z | z | z
      · exact absurd b4 (hn j' y' b2 z b3)
      · exact z
      · exact absurd hc (b5 j y hij z hy)
    subst ej
    have hm : j' ∈ placesE es (e.client, e.op) := by rw [b1]; simp
    have h2 := (List.mem_filter.1 hm).2
    unfold isAt at h2
    rw [hy] at h2
    have h3 : keyE y = (e.client, e.op) := by simpa using h2
    injection h3 with _ h5
    rcases (pl_inv es h e.client).2.2 j' y hy hc ky with ⟨d1, _⟩ | ⟨j2, y2, d1, d2, _⟩
    · rw [h5, b1] at d1
      simp at d1
    · rw [h5, b1] at d1
      simp at d1
      omega
/-- A call that is being made, other blocks beside it. -/
structure RC (wo W : World) (B : Nat) (O : List (Nat × Array Value)) (c : Ca) : Prop where
  blk : W.heap[B]? = some (.cells c.cs 58 (0, 0))
  fr : wo.heap.size ≤ B
  oth : ∀ x ∈ O, W.heap[x.1]? = some (.cells x.2 39 (0, 0))
  row : W.ownsRow wo.heap.size 5 1 (.slice c.va c.vn c.vc) c.vn (cellsOf c.val)
  kept : Kept (fun _ => False) wo W
theorem RC.k0 {wo W W' : World} {B : Nat} {O : List (Nat × Array Value)} {c : Ca} (h : RC wo W B O c) (k : Kept (fun _ => False) W W') : RC wo W' B O c := ⟨k.get h.blk (fun z => z), h.fr, fun x hx => k.get (h.oth x hx) (fun z => z), k.owns h.row (fun _ _ z => z), h.kept.trans k (fun _ _ z => z)⟩
theorem RC.ne {wo W : World} {B : Nat} {O : List (Nat × Array Value)} {c : Ca} (h : RC wo W B O c) : ∀ x ∈ O, ¬ x.1 = B := fun x hx z => by
  have e := h.oth x hx
  rw [z, h.blk] at e
  simp at e
theorem RC.keep {wo W : World} {B : Nat} {O : List (Nat × Array Value)} {c : Ca} (h : RC wo W B O c) (k : Nat) (u : Value) : (∀ x ∈ O, (W.setCell ⟨B, k, none⟩ u).heap[x.1]? = some (.cells x.2 39 (0, 0))) ∧ Kept (fun _ => False) wo (W.setCell ⟨B, k, none⟩ u) ∧ ∀ {base s n cc : Nat} {p : Option Addr} {xs : List Value}, W.ownsRow base 5 s (.slice p n cc) n xs → (W.setCell ⟨B, k, none⟩ u).ownsRow base 5 s (.slice p n cc) n xs := by
  have K := (Kept.refl (fun j => j = B) W).setCell (p := ⟨B, k, none⟩) (fun _ => rfl) u
  refine ⟨fun x hx => K.get (h.oth x hx) (h.ne x hx), Kept.own h.kept K (fun j z => by have z : j = B := z; rw [z]; exact h.fr), fun o => K.owns o (fun j z y => ?_)⟩
  have y : j = B := y
  subst y
  rw [blockOf_own] at z
  obtain ⟨c1, e1⟩ := own_type o j z
  rw [h.blk] at e1
  simp at e1
theorem RC.set {wo W : World} {B : Nat} {O : List (Nat × Array Value)} {c c' : Ca} (h : RC wo W B O c) (k : Nat) (u : Value) (e1 : c'.cs = c.cs.setIfInBounds k u) (e2 : c'.va = c.va ∧ c'.vn = c.vn ∧ c'.vc = c.vc ∧ c'.val = c.val) : RC wo (W.setCell ⟨B, k, none⟩ u) B O c' := by
  obtain ⟨q1, q2, q3⟩ := h.keep k u
  refine ⟨by rw [e1]; exact set_heap h.blk k u, h.fr, q1, ?_, q2⟩
  rw [e2.1, e2.2.1, e2.2.2.1, e2.2.2.2]
  exact q3 h.row
theorem RC.val {wo W : World} {B : Nat} {O : List (Nat × Array Value)} {c : Ca} (h : RC wo W B O c) {l : List Nat} {p : Option Addr} {n cc : Nat} (o2 : W.ownsRow wo.heap.size 5 1 (.slice p n cc) n (cellsOf l)) : RC wo (W.setCell ⟨B, 4, none⟩ (.slice p n cc)) B O { c with va := p, vn := n, vc := cc, val := l } := by
  obtain ⟨q1, q2, q3⟩ := h.keep 4 (.slice p n cc)
  exact ⟨set_heap h.blk 4 _, h.fr, q1, q3 o2, q2⟩
theorem RC.mid {wo W w9 : World} {B : Nat} {O : List (Nat × Array Value)} {c : Ca} (h : RC wo W B O c) {p9 : Option Addr} {vn c9 : Nat} {val : List Nat} (ho : w9.ownsRow W.heap.size 5 1 (.slice p9 (0 + vn) c9) (0 + vn) (cellsOf ([] ++ val))) (hg : (W.alloc (.cells #[] 5)).grownBy w9 (Value.slice (some ⟨W.heap.size, 0, none⟩) 0 0).ownBlock) : RC wo w9 B O c ∧ w9.ownsRow wo.heap.size 5 1 (.slice p9 vn c9) vn (cellsOf val) := by
  have KG := kgr hg
  have K : Kept (fun _ => False) W w9 := Kept.own ((Kept.refl _ _).alloc _) KG (fun j z => by
    have z : some W.heap.size = some j := z
    have z := Option.some.inj z
    omega)
  refine ⟨h.k0 K, ?_⟩
  rw [Nat.zero_add, List.nil_append] at ho
  exact owns_mono ho h.kept.size
theorem RC.more {wo W : World} {B : Nat} {O : List (Nat × Array Value)} {c : Ca} (h : RC wo W B O c) (cs : Array Value) : RC wo (W.alloc (.cells cs 39)) B ((W.heap.size, cs) :: O) c := by
  have q := h.k0 ((Kept.refl (fun _ => False) W).alloc (.cells cs 39))
  refine ⟨q.blk, q.fr, fun x hx => ?_, q.row, q.kept⟩
  rcases List.mem_cons.1 hx with z | z
  · rw [z]
    exact alloc_new _ _
  · exact q.oth x z
theorem RC.begin (wo : World) (cs : Array Value) (c : Ca) (hc : c.va = none ∧ c.vn = 0 ∧ c.vc = 0 ∧ c.val = []) {W : World} (K : Kept (fun _ => False) (wo.alloc (.cells cs 39)) W) : RC wo (W.alloc (.cells c.cs 58)) W.heap.size [(wo.heap.size, cs)] c := by
  have K2 : Kept (fun _ => False) (wo.alloc (.cells cs 39)) (W.alloc (.cells c.cs 58)) := K.alloc _
  refine ⟨alloc_new _ _, ?_, fun x hx => ?_, ?_, ((Kept.refl (fun _ => False) wo).alloc _).trans K2 (fun _ _ z => z)⟩
  · have := (Kept.refl (fun _ => False) wo).alloc (.cells cs 39) |>.size
    have := K.size
    omega
  · rw [List.mem_singleton.1 hx]
    exact K2.get (alloc_new _ _) (fun z => z)
  · rw [hc.1, hc.2.1, hc.2.2.1, hc.2.2.2]
    exact ⟨rfl, .inl ⟨rfl, rfl⟩⟩
theorem val_none {e : Ev} (hf : faultE e = 0) (hk : e.kind = 1) (hp : e.put = false) : e.vn = 0 := by
  have q := (fault_all hf).2.2.2.1
  have ef : formE e = 0 := by unfold formE; rw [if_pos hk, hp]; rfl
  unfold valueE at q
  rw [ef] at q
  simpa using q
end Go.Proofs.YtbangbobfeflcaaGreatDoor

namespace Go.Proofs.YtbangbobfeflcaaGreatDoor
open Go.RowKit 

theorem may_core (m : Option Ev) (e : Ev) : mayF (m.map Ev.core) e.core = mayF m e := by cases m <;> rfl
theorem upd_core (M : Int → Option Ev) (e : Ev) : (fun c => (upd M e.client e c).map Ev.core) = upd (fun c => (M c).map Ev.core) e.core.client e.core := by
  funext c
  unfold upd
  show Option.map Ev.core (if c = e.client then _ else _) = if c = e.client then _ else _
  by_cases q : c = e.client
  · rw [if_pos q, if_pos q]
    rfl
  · rw [if_neg q, if_neg q]
theorem chk_core : ∀ (es : List Ev) (M : Int → Option Ev) (i : Nat), chkE (es.map Ev.core) (fun c => (M c).map Ev.core) i = chkE es M i
  | [], _, _ => rfl
  | e :: es, M, i => by
    have ih := chk_core es (upd M e.client e) (i + 1)
    rw [List.map_cons, chk_cons, chk_cons, core_fault]
    show (if faultE e ≠ 0 then _ else if mayF ((M e.client).map Ev.core) e.core = false then _ else _) = _
    rw [may_core, ← ih, upd_core]
theorem chk_same {L es : List Ev} (h : L.map Ev.core = es.map Ev.core) : chkE L noM 0 = chkE es noM 0 := by
  have q1 := chk_core L noM 0
  have q2 := chk_core es noM 0
  rw [← q1, h, q2]
theorem isAt_core (es : List Ev) (k : Int × Int) (i : Nat) : isAt (es.map Ev.core) k i = isAt es k i := by
  unfold isAt
  rw [List.getElem?_map]
  cases es[i]? <;> rfl
theorem isInv_core (es : List Ev) (i : Nat) : isInv (es.map Ev.core) i = isInv es i := by
  unfold isInv
  rw [List.getElem?_map]
  cases es[i]? <;> rfl
theorem keyAt_core (es : List Ev) (i : Nat) : keyAt (es.map Ev.core) i = keyAt es i := by
  unfold keyAt
  rw [List.getElem?_map]
  cases es[i]? <;> rfl
theorem places_core (es : List Ev) (k : Int × Int) : placesE (es.map Ev.core) k = placesE es k := by
  unfold placesE
  rw [List.length_map, show isAt (es.map Ev.core) k = isAt es k from funext (isAt_core es k)]
theorem callP_core (es : List Ev) : ∀ pl : List Nat, callP (es.map Ev.core) pl = callP es pl
  | [] => rfl
  | [p] => by
    show ((es.map Ev.core)[p]?).map _ = (es[p]?).map _
    rw [List.getElem?_map]
    cases es[p]? <;> rfl
  | p :: q :: l => by
    show (match (es.map Ev.core)[p]?, (es.map Ev.core)[q]? with | some b, some x => some (endC (beginC b p) x q) | _, _ => none) = match es[p]?, es[q]? with | some b, some x => some (endC (beginC b p) x q) | _, _ => none
    rw [List.getElem?_map, List.getElem?_map]
    cases es[p]? <;> cases es[q]? <;> rfl
theorem calls_core (es : List Ev) : callsE (es.map Ev.core) = callsE es := by
  unfold callsE invE
  rw [List.length_map, show isInv (es.map Ev.core) = isInv es from funext (isInv_core es)]
  refine List.map_congr_left (fun i _ => ?_)
  rw [keyAt_core, places_core, callP_core]
theorem calls_same {L es : List Ev} (h : L.map Ev.core = es.map Ev.core) : callsE L = callsE es := by rw [← calls_core L, h, calls_core]
theorem ofK_core (es : List Ev) (k : ByteArray) : (ofK es k).map Ev.core = ofK (es.map Ev.core) k := by
  unfold ofK
  rw [List.filter_map]
  rfl
theorem ofK_same {L es : List Ev} (h : L.map Ev.core = es.map Ev.core) (k : ByteArray) : (ofK L k).map Ev.core = (ofK es k).map Ev.core := by rw [ofK_core, h, ← ofK_core]
theorem keysR_core (es : List Ev) : keysR (es.map Ev.core) = keysR es := by
  unfold keysR
  rw [List.foldl_map]
  rfl
theorem keysR_same {L es : List Ev} (h : L.map Ev.core = es.map Ev.core) : keysR L = keysR es := by rw [← keysR_core L, h, keysR_core]
theorem txtE_same {L es : List Ev} (h : L.map Ev.core = es.map Ev.core) : txtE L = txtE es := by
  unfold txtE
  rw [txt_same h, fst_same h]
theorem core_len {L es : List Ev} (h : L.map Ev.core = es.map Ev.core) : L.length = es.length := by
  have := congrArg List.length h
  rw [List.length_map, List.length_map] at this
  exact this
/-- What holds of each event but for where its value lies. -/
theorem core_all {L es : List Ev} (h : L.map Ev.core = es.map Ev.core) {P : Ev → Prop} (hP : ∀ e : Ev, P e.core ↔ P e) (he : ∀ e ∈ es, P e) : ∀ x ∈ L, P x := fun x hx => by
  have q : x.core ∈ es.map Ev.core := by rw [← h]; exact List.mem_map_of_mem hx
  obtain ⟨e, m, z⟩ := List.mem_map.1 q
  exact (hP x).1 (z ▸ (hP e).2 (he e m))
end Go.Proofs.YtbangbobfeflcaaGreatDoor
