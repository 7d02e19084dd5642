import Derived.Test.YtbangbobfeflcaaGreatDoorTWk
import Derived.Test.YtbangbobfeflcaaGreatDoorRUb
import Derived.Test.YtbangbobfeflcaaGreatDoorRKrJ
import Derived.Deep.MidRow
namespace Go.Proofs.YtbangbobfeflcaaGreatDoor
open Go.RowKit 

/-- A list of slices as what is put behind. -/
theorem src_slv {W : World} {b : Nat} {ty tx : TypeId} {n c : Nat} {p : Option Addr} {R : List Rw} (hu : Tryz.prog.underlying tx = some (.slice ty)) (h : W.ownsRow b ty 1 (.slice p n c) n (slv R)) : Src Tryz.prog 1 tx (.slice p n c) n (slv R) W := by
  rcases h.2 with ⟨z, y⟩ | ⟨g, cap, cur, z, _⟩
  · injection z with z1 z2 z3
    subst z1
    subst y
    have e : slv R = [] := List.length_eq_zero_iff.1 (by have := h.1; omega)
    rw [e]
    exact Src.ofNil W hu c
  · have z : Value.slice p n c = .slice (some ⟨g, 0, none⟩) n cap := z
    injection z with z1 _ _
    subst z1
    refine Src.ofSlice W hu ⟨g, 0, none⟩ n c (slv R) (by have := h.1; omega) (fun j u hj => h.cells (g := g) rfl j u hj) (fun u hu => ?_)
    unfold slv at hu
    obtain ⟨r, _, rfl⟩ := List.mem_map.1 hu
    rfl
/-- Events that came in as what is put behind. -/
theorem src_evs {W : World} {p : Option Addr} {n c : Nat} {es : List Ev} (h : ERd W p n c es) : Src Tryz.prog 9 22 (.slice p n c) n (ecs es) W := by
  by_cases h0 : 0 < n
  · obtain ⟨b, off, rfl, hc⟩ := h.cells h0
    refine Src.ofSlice W Tryz.underlying22 ⟨b, off, none⟩ n c (ecs es) (by rw [ecs_lenT, h.len]) (fun j u hj => ?_) (fun u hu => ?_)
    · have hl := (List.getElem?_eq_some_iff.1 hj).1
      rw [ecs_lenT] at hl
      have hi : j / 9 < es.length := by omega
      have hk : j % 9 < 9 := Nat.mod_lt _ (by omega)
      have e : j = j / 9 * 9 + j % 9 := by omega
      rw [e, ecs_get es (j / 9) hi (j % 9) hk] at hj
      have q := hc (j / 9) hi (j % 9) u hj
      rw [Addr.add_none, show off + j = off + j / 9 * 9 + j % 9 by omega]
      exact q
    · unfold ecs at hu
      obtain ⟨e, _, hu⟩ := List.mem_flatMap.1 hu
      exact ev_one e u hu
  · have e0 : es = [] := List.length_eq_zero_iff.1 (by have := h.len; omega)
    have n0 : n = 0 := by omega
    subst e0
    subst n0
    cases p with
    | none => exact Src.ofNil W Tryz.underlying22 c
    | some ad => exact Src.ofSlice W Tryz.underlying22 ad 0 c [] rfl (fun j u hj => by simp at hj) (fun u hu => by cases hu)
/-- All that two calls of tells told, but for the values. -/
structure TT (w1 W : World) (q1 : Option Addr) (k c1 : Nat) (L1 : List Ca) (q2 : Option Addr) (c2 : Nat) (L2 : List Ca) (O1 O2 : List Ol) : Prop where
  r1 : W.ownsRow w1.heap.size 58 11 (.slice q1 k c1) k (kcs L1)
  r2 : W.ownsRow w1.heap.size 58 11 (.slice q2 k c2) k (kcs L2)
  ev : ∀ x ∈ O1 ++ O2, W.ownsRow w1.heap.size 39 9 (.slice x.p x.n x.c) x.n (ecs x.l)
  kept : Kept (fun _ => False) w1 W
theorem TT.off {w1 W W' : World} {q1 : Option Addr} {k c1 : Nat} {L1 : List Ca} {q2 : Option Addr} {c2 : Nat} {L2 : List Ca} {O1 O2 : List Ol} (h : TT w1 W q1 k c1 L1 q2 c2 L2 O1 O2) {S : Nat → Prop} {t' : TypeId} (K : Kept S W W') (hS : ∀ b, S b → ∃ cs, W.heap[b]? = some (.cells cs t' (0, 0))) (hb : ∀ b, S b → w1.heap.size ≤ b) (h1 : (58 : TypeId) ≠ t') (h2 : (39 : TypeId) ≠ t') : TT w1 W' q1 k c1 L1 q2 c2 L2 O1 O2 :=
  ⟨own_off h.r1 K hS h1, own_off h.r2 K hS h1, fun x hx => own_off (h.ev x hx) K hS h2, Kept.own h.kept K hb⟩
theorem TT.k0 {w1 W W' : World} {q1 : Option Addr} {k c1 : Nat} {L1 : List Ca} {q2 : Option Addr} {c2 : Nat} {L2 : List Ca} {O1 O2 : List Ol} (h : TT w1 W q1 k c1 L1 q2 c2 L2 O1 O2) (K : Kept (fun _ => False) W W') : TT w1 W' q1 k c1 L1 q2 c2 L2 O1 O2 :=
  ⟨K.owns h.r1 (fun _ _ z => z), K.owns h.r2 (fun _ _ z => z), fun x hx => K.owns (h.ev x hx) (fun _ _ z => z), h.kept.trans K (fun _ _ z => z)⟩
/-- What is known of both from the beginning on. -/
structure TN (q1 q2 : Option Addr) (L1 L2 : List Ca) (O1 O2 : List Ol) : Prop where
  qq : ∀ b, blockOf q1 = some b → ¬ blockOf q2 = some b
  oo : ((O1 ++ O2).map rwO).Pairwise Prt
  vv : ((L1.map rwC ++ vls O1) ++ (L2.map rwC ++ vls O2)).Pairwise Prt
theorem two_tells {w1 w2 w3 : World} {es : List Ev} {key : ByteArray} {Pa1 : Option Addr} {na1 Ka1 : Nat} {q1 : Option Addr} {k1 c1 : Nat} {L1 : List Ca} {Po1 : Option Addr} {no1 Co1 : Nat} {O1 : List Ol} {Pa2 : Option Addr} {na2 Ka2 : Nat} {q2 : Option Addr} {k2 c2 : Nat} {L2 : List Ca} {Po2 : Option Addr} {no2 Co2 : Nat} {O2 : List Ol} (h1 : TlR w1 w2 es key Pa1 na1 Ka1 q1 k1 c1 L1 Po1 no1 Co1 O1) (h2 : TlR w2 w3 es key Pa2 na2 Ka2 q2 k2 c2 L2 Po2 no2 Co2 O2) : k2 = k1 ∧ no2 = no1 ∧ L1.map Ca.cc = L2.map Ca.cc ∧ TN q1 q2 L1 L2 O1 O2 := by
  obtain ⟨e1, t1⟩ := h1.tol
  obtain ⟨e2, t2⟩ := h2.tol
  obtain ⟨_, ec⟩ := t1.same t2
  obtain ⟨a1, a2⟩ := h1.ta.lts
  obtain ⟨b1, b2⟩ := h2.ta.lts
  refine ⟨?_, ?_, ec, ⟨fun b z y => ?_, ?_, ?_⟩⟩
  · have z := congrArg List.length ec
    rw [List.length_map, List.length_map, h1.ta.cal.len, h2.ta.cal.len] at z
    exact z.symm
  · have z1 := h1.ta.ofs.1
    have z2 := h2.ta.ofs.1
    unfold slv at z1 z2
    rw [List.length_map, List.length_map] at z1 z2
    have z3 := congrArg List.length h1.oft
    have z4 := congrArg List.length h2.oft
    rw [List.length_map, List.length_map] at z3 z4
    omega
  · have z1 := (own_lt h1.ta.cal.row b z).2
    have z2 := (own_lt h2.ta.cal.row b y).1
    omega
  · rw [List.map_append]
    refine List.pairwise_append.2 ⟨h1.ta.ne, h2.ta.ne, fun a ha b hb z e1 e2 => ?_⟩
    have z1 := a1 a ha z e1
    obtain ⟨x, hx, rfl⟩ := List.mem_map.1 hb
    have z2 := (own_lt (h2.ta.ev x hx).1.row z e2).1
    omega
  · refine List.pairwise_append.2 ⟨h1.ta.vs, h2.ta.vs, fun a ha b hb z e1 e2 => ?_⟩
    have z1 := (own_lt (a2 a ha) z e1).2
    have z2 := (own_lt (b2 b hb) z e2).1
    omega
/-- Both lists of values are one: what apart asks. -/
theorem apart_of {w1 W : World} {R : List Rw} {P : Option Addr} {n C : Nat} (ha : W.ownsRow w1.heap.size 34 1 (.slice P n C) n (slv R)) (ho : ∀ r ∈ R, W.ownsRow w1.heap.size 5 1 (.slice r.p r.n r.c) r.n r.xs) (hp : R.Pairwise Prt) (hs : ∀ r ∈ R, r.n ≤ 1000000000) : A1 w1.heap.size W W P n C R 0 0 ∧ RS W R := by
  refine ⟨⟨ha, fun a r hr => ?_, Kept.refl _ _⟩, ⟨prt_at hp, fun a r hr b hb => ?_, fun a r hr => ?_, fun a r hr => hs r (List.mem_of_getElem? hr), fun a r hr h0 => ?_⟩⟩
  · have e : st1 0 0 a r = r.xs := by
      unfold st1
      rw [if_neg (Nat.not_lt_zero _)]
      split
      · simp
      · rfl
    rw [e]
    exact ho r (List.mem_of_getElem? hr)
  · exact (own_lt (ho r (List.mem_of_getElem? hr)) b hb).2
  · have := (ho r (List.mem_of_getElem? hr)).1
    omega
  · rcases (ho r (List.mem_of_getElem? hr)).2 with ⟨_, z⟩ | ⟨g, cap, cur, z, _⟩
    · omega
    · have z : Value.slice r.p r.n r.c = .slice (some ⟨g, 0, none⟩) r.n cap := z
      injection z with z1 _ _
      exact ⟨g, z1⟩
/-- What outer asks. -/
theorem outer_of {w1 W : World} {q1 : Option Addr} {k c1 : Nat} {L1 : List Ca} {q2 : Option Addr} {c2 : Nat} {L2 : List Ca} {O1 O2 : List Ol} (h : TT w1 W q1 k c1 L1 q2 c2 L2 O1 O2) (N : TN q1 q2 L1 L2 O1 O2) {B : Nat} (hB : W.heap[B]? = some (.cells #[.slice q1 k c1, .slice q2 k c2] 25 (0, 0))) (hb : w1.heap.size ≤ B) {P : Option Addr} {n C : Nat} (ho : W.ownsRow w1.heap.size 22 1 (.slice P n C) n (slv ((O1 ++ O2).map rwO))) (kb : k ≤ 1500000000000) (ob : ∀ x ∈ O1 ++ O2, x.n ≤ 1500000000000) : OW w1.heap.size W W (some ⟨B, 0, none⟩) 2 2 [⟨q1, k, c1, kcs L1⟩, ⟨q2, k, c2, kcs L2⟩] P n C ((O1 ++ O2).map rwO) 0 0 0 0 0 0 ∧ OSt [⟨q1, k, c1, kcs L1⟩, ⟨q2, k, c2, kcs L2⟩] ((O1 ++ O2).map rwO) := by
  have rc : ∀ (a : Nat) (r : Rw), ([⟨q1, k, c1, kcs L1⟩, ⟨q2, k, c2, kcs L2⟩] : List Rw)[a]? = some r → (a = 0 ∧ r = ⟨q1, k, c1, kcs L1⟩) ∨ (a = 1 ∧ r = ⟨q2, k, c2, kcs L2⟩) := fun a r hr => by
    match a, hr with
    | 0, hr => exact .inl ⟨rfl, (Option.some.inj hr).symm⟩
    | 1, hr => exact .inr ⟨rfl, (Option.some.inj hr).symm⟩
    | a + 2, hr => cases hr
  have oc : ∀ (a : Nat) (r : Rw), ([⟨q1, k, c1, kcs L1⟩, ⟨q2, k, c2, kcs L2⟩] : List Rw)[a]? = some r → W.ownsRow w1.heap.size 58 11 (.slice r.p r.n r.c) r.n r.xs ∧ r.n = k := fun a r hr => by
    rcases rc a r hr with ⟨_, rfl⟩ | ⟨_, rfl⟩
    · exact ⟨h.r1, rfl⟩
    · exact ⟨h.r2, rfl⟩
  have oe : ∀ (a : Nat) (r : Rw), ((O1 ++ O2).map rwO)[a]? = some r → W.ownsRow w1.heap.size 39 9 (.slice r.p r.n r.c) r.n r.xs ∧ r.n ≤ 1500000000000 := fun a r hr => by
    obtain ⟨x, hx, rfl⟩ := List.mem_map.1 (List.mem_of_getElem? hr)
    exact ⟨h.ev x hx, ob x hx⟩
  refine ⟨⟨⟨rfl, .inr ⟨B, 2, _, rfl, hb, hB, Nat.le_refl _, by unfold maxLen; omega, rfl, rfl⟩⟩, ho, ⟨fun a r ha => absurd ha (Nat.not_lt_zero _), fun a r _ hr => ⟨r.xs, (oc a r hr).1, fun z => absurd z (Nat.not_lt_zero _), fun _ i hi => absurd hi (Nat.not_lt_zero _)⟩⟩, ⟨fun a r ha => absurd ha (Nat.not_lt_zero _), fun a r _ hr => ⟨r.xs, (oe a r hr).1, fun z => absurd z (Nat.not_lt_zero _), fun _ i hi => absurd hi (Nat.not_lt_zero _)⟩⟩, Kept.refl _ _⟩, ⟨fun m n r s hmn hr hs b e1 e2 => ?_, prt_at N.oo, fun a a' r r' hr hr' b e1 e2 => ?_, fun a r hr => by rw [(oc a r hr).2]; exact kb, fun a r hr => (oe a r hr).2⟩⟩
  · rcases rc m r hr with ⟨rfl, rfl⟩ | ⟨rfl, rfl⟩ <;> rcases rc n s hs with ⟨rfl, rfl⟩ | ⟨rfl, rfl⟩
    · exact hmn rfl
    · exact N.qq b e1 e2
    · exact N.qq b e2 e1
    · exact hmn rfl
  · obtain ⟨x1, y1⟩ := own_type (oc a r hr).1 b e1
    obtain ⟨x2, y2⟩ := own_type (oe a' r' hr').1 b e2
    rw [y1] at y2
    simp at y2
theorem RBk.ge {w1 W : World} {q1 : Option Addr} {k c1 : Nat} {L1 : List Ca} {q2 : Option Addr} {c2 : Nat} {L2 : List Ca} {O1 O2 : List Ol} (h : TT w1 W q1 k c1 L1 q2 c2 L2 O1 O2) : ∀ b, RBk [⟨q1, k, c1, kcs L1⟩, ⟨q2, k, c2, kcs L2⟩] ((O1 ++ O2).map rwO) b → w1.heap.size ≤ b := fun b hb => by
  rcases hb with ⟨a, r, hr, e⟩ | ⟨a, r, hr, e⟩
  · match a, hr with
    | 0, hr =>
      obtain rfl := Option.some.inj hr
      exact (own_lt h.r1 b e).1
    | 1, hr =>
      obtain rfl := Option.some.inj hr
      exact (own_lt h.r2 b e).1
    | a + 2, hr => cases hr
  · obtain ⟨x, hx, rfl⟩ := List.mem_map.1 (List.mem_of_getElem? hr)
    exact (own_lt (h.ev x hx) b e).1
end Go.Proofs.YtbangbobfeflcaaGreatDoor

namespace Go.Proofs.YtbangbobfeflcaaGreatDoor
open Go.RowKit 

/-- An event with another key and no value. -/
def tur (e : Ev) : Ev := ⟨e.kind, e.client, e.op, e.put, e.key ++ ⟨#[43]⟩, none, 0, 0, e.st, e.tx, e.ty, []⟩
theorem ecs_cons (a : Ev) (l : List Ev) : ecs (a :: l) = a.cs.toList ++ ecs l := rfl
theorem ecs_tur : ∀ (X : List Ev) (i : Nat) (e : Ev), X[i]? = some e → ((ecs X).set (i * 9 + 4) (.string (e.key ++ ⟨#[43]⟩))).set (i * 9 + 5) (.slice none 0 0) = ecs (X.set i (tur e))
  | [], _, _, h => by cases h
  | a :: l, 0, e, h => by
    have h : a = e := by simpa using h
    subst h
    rfl
  | a :: l, i + 1, e, h => by
    have ih := ecs_tur l i e (by simpa using h)
    have el : a.cs.toList.length = 9 := rfl
    rw [List.set_cons_succ, ecs_cons, ecs_cons, ← ih, List.set_append_right _ _ (by rw [el]; omega), List.set_append_right _ _ (by rw [el]; omega), el, show (i + 1) * 9 + 4 - 9 = i * 9 + 4 by omega, show (i + 1) * 9 + 5 - 9 = i * 9 + 5 by omega]
/-- All nine cells of an event written over. -/
def set9 (X : List Value) (j : Nat) (e : Ev) : List Value := ((((((((X.set j (.int .i64 e.kind)).set (j + 1) (.int .i64 e.client)).set (j + 2) (.int .i64 e.op)).set (j + 3) (.bool e.put)).set (j + 4) (.string e.key)).set (j + 5) (.slice e.va e.vn e.vc)).set (j + 6) (.int .i64 e.st)).set (j + 7) (.int .i64 e.tx)).set (j + 8) (.int .i64 e.ty)
theorem set9_app {A X : List Value} {j : Nat} (e : Ev) (h : A.length ≤ j) : set9 (A ++ X) j e = A ++ set9 X (j - A.length) e := by
  unfold set9
  rw [List.set_append_right _ _ h, List.set_append_right _ _ (by omega), List.set_append_right _ _ (by omega), List.set_append_right _ _ (by omega), List.set_append_right _ _ (by omega), List.set_append_right _ _ (by omega), List.set_append_right _ _ (by omega), List.set_append_right _ _ (by omega), List.set_append_right _ _ (by omega), show j + 1 - A.length = j - A.length + 1 by omega, show j + 2 - A.length = j - A.length + 2 by omega, show j + 3 - A.length = j - A.length + 3 by omega, show j + 4 - A.length = j - A.length + 4 by omega, show j + 5 - A.length = j - A.length + 5 by omega, show j + 6 - A.length = j - A.length + 6 by omega, show j + 7 - A.length = j - A.length + 7 by omega, show j + 8 - A.length = j - A.length + 8 by omega]
theorem ecs_set9 : ∀ (X : List Ev) (Z : List Value) (i : Nat) (e : Ev), i < X.length → set9 (ecs X ++ Z) (i * 9) e = ecs (X.set i e) ++ Z
  | [], _, _, _, h => absurd h (Nat.not_lt_zero _)
  | a :: l, Z, 0, e, _ => by rfl
  | a :: l, Z, i + 1, e, h => by
    have ih := ecs_set9 l Z i e (by simpa using h)
    have el : a.cs.toList.length = 9 := rfl
    rw [List.set_cons_succ, ecs_cons, ecs_cons, List.append_assoc, List.append_assoc, ← ih, set9_app e (by rw [el]; omega), el, show (i + 1) * 9 - 9 = i * 9 by omega]
theorem turn_set {es L : List Ev} {i : Nat} {e : Ev} (h : es[i]? = some e) (hl : L.length = es.length) : ((es.take i).map tur ++ L.drop i).set i (tur e) = (es.take (i + 1)).map tur ++ L.drop (i + 1) := by
  have hi := (List.getElem?_eq_some_iff.1 h).1
  rw [List.set_append_right _ _ (by rw [List.length_map, List.length_take]; omega), List.length_map, List.length_take, Nat.min_eq_left (Nat.le_of_lt hi), Nat.sub_self, List.take_add_one, h, List.map_append, List.drop_eq_getElem_cons (show i < L.length by omega), List.set_cons_zero, List.append_assoc]
  rfl
theorem turn_at {es : List Ev} {i : Nat} {e : Ev} (h : es[i]? = some e) : ((es.take i).map tur ++ es.drop i)[i]? = some e := by
  have hi := (List.getElem?_eq_some_iff.1 h).1
  rw [List.getElem?_append_right (by rw [List.length_map, List.length_take]; omega), List.length_map, List.length_take, Nat.min_eq_left (Nat.le_of_lt hi), Nat.sub_self, List.getElem?_drop, Nat.add_zero]
  exact h
theorem turn_len {es L : List Ev} (hl : L.length = es.length) (i : Nat) : ((es.take i).map tur ++ L.drop i).length = es.length := by
  rw [List.length_append, List.length_map, List.length_take, List.length_drop]
  omega
theorem tur_at {es : List Ev} {i : Nat} {e : Ev} (h : es[i]? = some e) : (((es.take (i + 1)).map tur) ++ es.drop (i + 1))[i]? = some (tur e) := by
  have hi := (List.getElem?_eq_some_iff.1 h).1
  rw [List.getElem?_append_left (by rw [List.length_map, List.length_take]; omega), List.getElem?_map, List.getElem?_take_of_lt (by omega), h]
  rfl
/-- The two lists that are written over. -/
structure TU (w W : World) (es L : List Ev) (pt : Option Addr) (ct : Nat) (po : Option Addr) (co n i : Nat) : Prop where
  tr : W.ownsRow w.heap.size 39 9 (.slice pt n ct) n (ecs ((es.take i).map tur ++ es.drop i))
  ow : W.ownsRow w.heap.size 39 9 (.slice po (n + 1) co) (n + 1) (ecs ((es.take i).map tur ++ L.drop i) ++ ecs [⟨-77, 0, 0, false, ⟨#[]⟩, none, 0, 0, 0, 0, 0, []⟩])
  ne : ∀ b, blockOf pt = some b → ¬ blockOf po = some b
  kept : Kept (fun _ => False) w W
theorem TU.form {w W : World} {es L : List Ev} {pt : Option Addr} {ct : Nat} {po : Option Addr} {co n i : Nat} (h : TU w W es L pt ct po co n i) (hn : 0 < n) : ∃ gt go, pt = some ⟨gt, 0, none⟩ ∧ po = some ⟨go, 0, none⟩ := by
  rcases h.tr.2 with ⟨_, z⟩ | ⟨g, cap, cur, z, _⟩
  · omega
  · rcases h.ow.2 with ⟨_, y⟩ | ⟨g', cap', cur', y, _⟩
    · omega
    · injection z with z1 _ _
      injection y with y1 _ _
      exact ⟨g, g', z1, y1⟩
theorem TU.done {w W : World} {es L : List Ev} {pt : Option Addr} {ct : Nat} {po : Option Addr} {co n : Nat} (h : TU w W es L pt ct po co n n) (hl : es.length = n) (hl2 : L.length = n) : ERd W po n co (es.map tur) ∧ ERd W pt n ct (es.map tur) := by
  have e1 : (es.take n).map tur ++ es.drop n = es.map tur := by rw [List.take_of_length_le (by omega), List.drop_eq_nil_of_le (by omega), List.append_nil]
  have e2 : (es.take n).map tur ++ L.drop n = es.map tur := by rw [List.take_of_length_le (by omega), List.drop_eq_nil_of_le (by omega), List.append_nil]
  have h1 := h.tr
  have h2 := h.ow
  rw [e1] at h1
  rw [e2] at h2
  have rd : ∀ e ∈ es.map tur, Reads W e.va e.vn e.vc e.val := fun e he => by
    obtain ⟨x, _, rfl⟩ := List.mem_map.1 he
    exact Reads.nil W
  refine ⟨?_, EaR.erd ⟨by rw [List.length_map]; exact hl, h1⟩ rd⟩
  have q : EaR w.heap.size W po (n + 1) co (es.map tur ++ [⟨-77, 0, 0, false, ⟨#[]⟩, none, 0, 0, 0, 0, 0, []⟩]) := ⟨by rw [List.length_append, List.length_singleton, List.length_map, hl], by rw [ecs_append]; exact h2⟩
  have q2 := (q.erd (fun e he => by
    rcases List.mem_append.1 he with z | z
    · exact rd e z
    · rw [List.mem_singleton.1 z]
      exact Reads.nil W)).pre (i := n) (Nat.le_succ _)
  rw [List.take_append_of_le_length (by rw [List.length_map, hl]; exact Nat.le_refl _), List.take_of_length_le (by rw [List.length_map, hl]; exact Nat.le_refl _)] at q2
  exact q2
end Go.Proofs.YtbangbobfeflcaaGreatDoor

namespace Go.Proofs.YtbangbobfeflcaaGreatDoor
open Go.RowKit 

theorem OfT.mem {es : List Ev} {l : List ByteArray} {O : List Ol} (h : OfT es l O) : ∀ x ∈ O, ∃ k, x.l.map Ev.core = (ofK es k).map Ev.core := fun x hx => by
  have q : x.l.map Ev.core ∈ O.map fun x => x.l.map Ev.core := List.mem_map_of_mem (f := fun x : Ol => x.l.map Ev.core) hx
  have h : (O.map fun x => x.l.map Ev.core) = l.map fun k => (ofK es k).map Ev.core := h
  rw [h] at q
  obtain ⟨k, _, e⟩ := List.mem_map.1 q
  exact ⟨k, e.symm⟩
theorem Tol.vals {es : List Ev} {e : Int} {L : List Ca} (h : Tol es e L) : ∀ x ∈ L, ∃ y ∈ es, x.val = y.val := fun x hx => by
  rcases h with ⟨_, a2, _⟩ | ⟨_, _, a3⟩
  · rw [a2] at hx
    cases hx
  · have q : some x.cc ∈ L.map (fun x => some x.cc) := List.mem_map_of_mem (f := fun x : Ca => some x.cc) hx
    rw [a3] at q
    unfold callsE at q
    obtain ⟨i, _, z⟩ := List.mem_map.1 q
    exact callP_val z
theorem TlR.small {w w' : World} {es : List Ev} {key : ByteArray} {Pa : Option Addr} {na Ka : Nat} {q : Option Addr} {k c : Nat} {L : List Ca} {Po : Option Addr} {no Co : Nat} {O : List Ol} (h : TlR w w' es key Pa na Ka q k c L Po no Co O) (hv : ∀ e ∈ es, e.vn ≤ 1000000000 ∧ e.val.length = e.vn) : ∀ r ∈ L.map rwC ++ vls O, r.n ≤ 1000000000 := fun r hr => by
  obtain ⟨e, t⟩ := h.tol
  rcases List.mem_append.1 hr with hr | hr
  · obtain ⟨x, hx, rfl⟩ := List.mem_map.1 hr
    obtain ⟨y, hy, z⟩ := t.vals x hx
    have q1 := (h.ta.cal.val x hx).1
    rw [cellsOf_length, z, (hv y hy).2] at q1
    have q2 := (hv y hy).1
    show x.vn ≤ _
    omega
  · unfold vls at hr
    obtain ⟨x, hx, hr⟩ := List.mem_flatMap.1 hr
    obtain ⟨e, he, rfl⟩ := List.mem_map.1 hr
    obtain ⟨k, hk⟩ := h.oft.mem x hx
    exact core_all (P := fun e => e.vn ≤ 1000000000) hk (fun _ => Iff.rfl) (fun e he => (hv e (List.mem_filter.1 he).1).1) e he
theorem TlR.nums {w w' : World} {es : List Ev} {key : ByteArray} {Pa : Option Addr} {na Ka : Nat} {q : Option Addr} {k c : Nat} {L : List Ca} {Po : Option Addr} {no Co : Nat} {O : List Ol} (h : TlR w w' es key Pa na Ka q k c L Po no Co O) : na ≤ 3 * es.length ∧ k ≤ es.length ∧ no ≤ es.length + 1 ∧ (∀ x ∈ O, x.n ≤ es.length) ∧ O.length = no := by
  obtain ⟨e, t⟩ := h.tol
  have z1 := h.ta.all.1
  unfold slv at z1
  rw [List.length_map, List.length_append, List.length_map] at z1
  have z2 := h.oft.len
  have z3 := ofs_le es key (keysR es ++ [key]).length
  rw [List.take_length] at z3
  have z4 := h.ta.cal.len
  have z5 := t.len
  have z6 := h.ta.ofs.1
  unfold slv at z6
  rw [List.length_map, List.length_map] at z6
  have z7 := congrArg List.length h.oft
  rw [List.length_map, List.length_map, List.length_append, List.length_singleton] at z7
  have z8 := keys_le es
  refine ⟨by omega, by omega, by omega, fun x hx => ?_, by omega⟩
  obtain ⟨k, hk⟩ := h.oft.mem x hx
  have q1 := core_len hk
  have q2 := (h.ta.ev x hx).1.len
  have q3 := ofK_len es k
  have q4 := placesS_len es k
  omega
theorem TlR.bytes {w w' : World} {es : List Ev} {key : ByteArray} {Pa : Option Addr} {na Ka : Nat} {q : Option Addr} {k c : Nat} {L : List Ca} {Po : Option Addr} {no Co : Nat} {O : List Ol} (h : TlR w w' es key Pa na Ka q k c L Po no Co O) (hb : ∀ e ∈ es, ∀ x ∈ e.val, x < 256) : ∀ x ∈ O, ERd w' x.p x.n x.c x.l := fun x hx => by
  obtain ⟨k, hk⟩ := h.oft.mem x hx
  refine (h.ta.ev x hx).1.erd fun e he => reads_own ((h.ta.ev x hx).2 e he) ?_
  exact core_all (P := fun e => ∀ x ∈ e.val, x < 256) hk (fun _ => Iff.rfl) (fun e he => hb e (List.mem_filter.1 he).1) e he
/-- The same Ofs, twice. -/
theorem ofT_same {es : List Ev} {l : List ByteArray} {O1 O2 : List Ol} (h1 : OfT es l O1) (h2 : OfT es l O2) {i : Nat} {x y : Ol} (hx : O1[i]? = some x) (hy : O2[i]? = some y) : x.l.map Ev.core = y.l.map Ev.core := by
  have q := congrArg (fun z => z[i]?) (Eq.trans h1 h2.symm)
  simp only [List.getElem?_map, hx, hy] at q
  exact Option.some.inj q
theorem rows_ol {b0 : Nat} {W : World} {P : Option Addr} {n C : Nat} {O : List Ol} (h : W.ownsRow b0 22 1 (.slice P n C) n (slv (O.map rwO))) {a : Nat} (ha : a < n) : ∃ g x, P = some ⟨g, 0, none⟩ ∧ O[a]? = some x ∧ W.cell? ⟨g, a, none⟩ = some (.slice x.p x.n x.c) := by
  obtain ⟨g, r, e, hr, hc⟩ := rows_at h ha
  rw [List.getElem?_map] at hr
  obtain ⟨x, hx, rfl⟩ := Option.map_eq_some_iff.1 hr
  exact ⟨g, x, e, hx, hc⟩
end Go.Proofs.YtbangbobfeflcaaGreatDoor

namespace Go.Proofs.YtbangbobfeflcaaGreatDoor
open Go.RowKit 

def setL (X : List Value) (o : Nat) : List Value → List Value
  | [] => X
  | v :: r => setL (X.set o v) (o + 1) r
theorem owns_setL {base : Nat} {e : TypeId} {g n c s : Nat} : ∀ (vs : List Value) (o : Nat) (xs : List Value) (w : World), w.ownsRow base e s (.slice (some ⟨g, 0, none⟩) n c) n xs → (w.setCells g o vs).ownsRow base e s (.slice (some ⟨g, 0, none⟩) n c) n (setL xs o vs)
  | [], _, _, _, h => h
  | v :: r, o, xs, w, h => owns_setL r (o + 1) (xs.set o v) (w.setCell ⟨g, o, none⟩ v) (owns_setN h o v)
theorem kept_setL {g : Nat} : ∀ (vs : List Value) (o : Nat) (w : World), Kept (fun b => b = g) w (w.setCells g o vs)
  | [], _, _ => Kept.refl _ _
  | v :: r, o, w => ((Kept.refl (fun b => b = g) w).setCell (p := ⟨g, o, none⟩) (fun _ => rfl) v).trans (kept_setL r (o + 1) (w.setCell ⟨g, o, none⟩ v)) (fun _ _ z => z)
theorem set9_L (X : List Value) (j : Nat) (e : Ev) : set9 X j e = setL X j e.cs.toList := rfl
theorem TU.next {w W : World} {es L : List Ev} {gt ct go co n i : Nat} {e : Ev} (h1 : W.ownsRow w.heap.size 39 9 (.slice (some ⟨gt, 0, none⟩) n ct) n (ecs ((es.take (i + 1)).map tur ++ es.drop (i + 1)))) (h2 : W.ownsRow w.heap.size 39 9 (.slice (some ⟨go, 0, none⟩) (n + 1) co) (n + 1) (ecs ((es.take i).map tur ++ L.drop i) ++ ecs [⟨-77, 0, 0, false, ⟨#[]⟩, none, 0, 0, 0, 0, 0, []⟩])) (ne : ¬ gt = go) (K : Kept (fun _ => False) w W) (he : es[i]? = some e) (hl : L.length = es.length) : TU w (W.setCells go (i * 9) (tur e).cs.toList) es L (some ⟨gt, 0, none⟩) ct (some ⟨go, 0, none⟩) co n (i + 1) := by
  have KS := kept_setL (g := go) (tur e).cs.toList (i * 9) W
  refine ⟨KS.owns h1 (fun b z y => ?_), ?_, fun b z y => ?_, Kept.own K KS (fun b z => by have z : b = go := z; rw [z]; exact (own_lt h2 go rfl).1)⟩
  · have y : b = go := y
    have z : some gt = some b := z
    exact ne ((Option.some.inj z).trans y)
  · rw [← turn_set he hl, ← ecs_set9 _ _ i (tur e) (by rw [turn_len hl]; exact (List.getElem?_eq_some_iff.1 he).1), set9_L]
    exact owns_setL _ _ _ _ h2
  · have z : some gt = some b := z
    have y : some go = some b := y
    exact ne (Option.some.inj (z.trans y.symm))
theorem info39n : (Tryz.prog.info? 39).map (·.size) = some 9 := by kernel_rfl
theorem ev_all (e : Ev) : e.cs.all (·.oneCell') = true := by simp [Ev.cs, Value.oneCell']
/-- An event stored where it has room. -/
theorem wpList_store_ev {ops : Array Oper} {rest : List Oper} {op : Oper} {a : Act} {Q : Exit → Act → World → Prop} (w : World) (hgd : op.guard = none) (x y : Operand) (ho : op.op = .store 39 x y) (b o : Nat) (e : Ev) (hx : a.eval x = .pointer (some ⟨b, o, none⟩)) (hy : a.eval y = .agg e.cs) (ht : w.there b o 9) (h : wpList Tryz.prog ops Q rest (a.put op.dst undef) (w.setCells b o e.cs.toList)) : wpList Tryz.prog ops Q (op :: rest) a w :=
  wpList_store_mid hgd 39 x y ho b o e.cs hx hy ht info39n (ev_all e) h
end Go.Proofs.YtbangbobfeflcaaGreatDoor
