import Derived.Test.YtodmakcklacbfaaLMath
namespace Go.Proofs.Ytodmakcklacbfaa

/-- A call, as far as it counts here. -/
structure Cl where
  put : Bool
  opn : Bool
  frm : Int
  to : Int
  st : Int
  val : List Nat
def Cl.open_ (c : Cl) : Bool := c.put && c.opn
def Cl.part (c : Cl) : Bool := c.put || (decide (0 ≤ c.to) && (decide (c.st = 0) || decide (c.st = 76)))
def Cl.must (c : Cl) : Bool := c.part && !c.open_
def Cl.bad (c : Cl) : Bool := decide (c.frm < 0) || (!decide (c.to = -1) && decide (c.to ≤ c.frm))
def Cl.ahead (a b : Cl) : Bool := a.must && decide (0 ≤ a.to) && decide (a.to < b.frm)
/-- What a Get tells. -/
def Cl.told (c : Cl) : Option (List Nat) := if c.st = 76 then none else some c.val
/-- What stands behind a call. -/
def Cl.next (c : Cl) (V : Option (List Nat)) : Option (List Nat) := if c.put = true then some c.val else V
/-- May a call stand behind these? -/
def XMay (cs : List Cl) (p : List Nat) (V : Option (List Nat)) (i : Nat) (c : Cl) : Prop := cs[i]? = some c ∧ c.part = true ∧ i ∉ p ∧ (c.put = true ∨ c.told = V) ∧ ∀ j a, cs[j]? = some a → a.part = true → a.ahead c = true → j ∈ p
def XWhole (cs : List Cl) (p : List Nat) : Prop := ∀ i c, cs[i]? = some c → c.must = true → i ∈ p
/-- An order that explains the calls, from where these are done. -/
def XRun (cs : List Cl) : List Nat → List Nat → Option (List Nat) → Prop
  | [], p, _ => XWhole cs p
  | i :: o, p, V => ∃ c, XMay cs p V i c ∧ XRun cs o (p ++ [i]) (c.next V)
/-- The first order that explains the calls. -/
def First (cs : List Cl) (o : List Nat) : Prop := XRun cs o [] none ∧ ∀ o', XRun cs o' [] none → ¬ o' < o
/-- What One answers. -/
structure OneS (cs : List Cl) (o : List Nat) (ok : Bool) (e : Int) : Prop where
  bad : (∃ c ∈ cs, c.bad = true) → o = [] ∧ ok = false ∧ e = 1
  heavy : (∀ c ∈ cs, c.bad = false) → 24 < (cs.filter Cl.part).length → o = [] ∧ ok = false ∧ e = 4
  good : (∀ c ∈ cs, c.bad = false) → (cs.filter Cl.part).length ≤ 24 → e = 0 ∧ (ok = true → First cs o) ∧ (ok = false → o = [] ∧ ∀ o', ¬ XRun cs o' [] none)
/-- The calls that have a part, as the search sees them: their numbers, and a number for each value. -/
structure Pts (cs : List Cl) (ns : List Nat) (f : Fd) : Prop where
  up : ns.Pairwise (· < ·)
  mem : ∀ i, i ∈ ns ↔ ∃ c, cs[i]? = some c ∧ c.part = true
  len : ns.length = f.n
  put : ∀ k i c, ns[k]? = some i → cs[i]? = some c → f.put k = c.put
  opn : ∀ k i c, ns[k]? = some i → cs[i]? = some c → f.opn k = c.open_
  frm : ∀ k i c, ns[k]? = some i → cs[i]? = some c → f.frm k = c.frm
  to : ∀ k i c, ns[k]? = some i → cs[i]? = some c → f.to k = c.to
  val : ∀ k i c k' i' c', ns[k]? = some i → cs[i]? = some c → ns[k']? = some i' → cs[i']? = some c' → (f.val k = f.val k' ↔ (if c.put = true then some c.val else c.told) = (if c'.put = true then some c'.val else c'.told))
  nil : ∀ k i c, ns[k]? = some i → cs[i]? = some c → (f.val k = -1 ↔ (if c.put = true then some c.val else c.told) = Option.none)
/-- The done ones on both sides. -/
structure SameD (ns : List Nat) (d : Nat) (p : List Nat) : Prop where
  one : ∀ k i, ns[k]? = some i → (d.testBit k = true ↔ i ∈ p)
structure SameV (cs : List Cl) (ns : List Nat) (f : Fd) (v : Int) (V : Option (List Nat)) : Prop where
  one : ∀ k i c, ns[k]? = some i → cs[i]? = some c → (f.val k = v ↔ (if c.put = true then some c.val else c.told) = V)
theorem Pts.lt {cs : List Cl} {ns : List Nat} {f : Fd} (h : Pts cs ns f) {k : Nat} (hk : k < f.n) : ∃ i c, ns[k]? = some i ∧ cs[i]? = some c ∧ c.part = true := by
  have hk2 : k < ns.length := by rw [h.len]; exact hk
  obtain ⟨c, h1, h2⟩ := (h.mem ns[k]).1 (List.getElem_mem hk2)
  exact ⟨ns[k], c, List.getElem?_eq_getElem hk2, h1, h2⟩
theorem Pts.inj {cs : List Cl} {ns : List Nat} {f : Fd} (h : Pts cs ns f) {k k' i : Nat} (h1 : ns[k]? = some i) (h2 : ns[k']? = some i) : k = k' := by
  obtain ⟨a1, a2⟩ := List.getElem?_eq_some_iff.1 h1
  obtain ⟨b1, b2⟩ := List.getElem?_eq_some_iff.1 h2
  rcases Nat.lt_trichotomy k k' with z | z | z
  · have := List.pairwise_iff_getElem.1 h.up k k' a1 b1 z
    omega
  · exact z
  · have := List.pairwise_iff_getElem.1 h.up k' k b1 a1 z
    omega
theorem Pts.ahd {cs : List Cl} {ns : List Nat} {f : Fd} (h : Pts cs ns f) {k i k' i' : Nat} {c c' : Cl} (h1 : ns[k]? = some i) (h2 : cs[i]? = some c) (hp : c.part = true) (h3 : ns[k']? = some i') (h4 : cs[i']? = some c') : f.ahd k k' = c.ahead c' := by
  unfold Fd.ahd Cl.ahead Cl.must
  rw [h.opn k i c h1 h2, h.to k i c h1 h2, h.frm k' i' c' h3 h4, hp, Bool.true_and]
theorem Pts.may {cs : List Cl} {ns : List Nat} {f : Fd} (h : Pts cs ns f) {d : Nat} {p : List Nat} (sd : SameD ns d p) {v : Int} {V : Option (List Nat)} (sv : SameV cs ns f v V) {k i : Nat} (hk : ns[k]? = some i) : f.May d v k ↔ ∃ c, XMay cs p V i c := by
  obtain ⟨hk1, hk2⟩ := List.getElem?_eq_some_iff.1 hk
  have hkn : k < f.n := by rw [← h.len]; exact hk1
  obtain ⟨c, hc, hp⟩ := (h.mem i).1 (by rw [← hk2]; exact List.getElem_mem hk1)
  have vv := sv.one k i c hk hc
  have pp := h.put k i c hk hc
  have vl : (f.put k = true ∨ f.val k = v) ↔ (c.put = true ∨ c.told = V) := by
    rw [pp, vv]
    cases q : c.put <;> simp
  constructor
  · rintro ⟨_, m1, m2, m3⟩
    refine ⟨c, hc, hp, fun z => ?_, vl.1 m2, fun j a ha hap haa => ?_⟩
    · rw [(sd.one k i hk).2 z] at m1; cases m1
    · obtain ⟨k', hk', e⟩ := List.getElem_of_mem ((h.mem j).2 ⟨a, ha, hap⟩)
      have hj : ns[k']? = some j := by rw [List.getElem?_eq_getElem hk', e]
      rw [← h.ahd hj ha hap hk hc] at haa
      exact (sd.one k' j hj).1 (m3 k' (by rw [← h.len]; exact hk') haa)
  · rintro ⟨c', hc', _, m1, m2, m3⟩
    rw [hc] at hc'
    have hc' := Option.some.inj hc'
    subst hc'
    refine ⟨hkn, ?_, vl.2 m2, fun k' hk' ha => ?_⟩
    · cases z : d.testBit k
      · rfl
      · exact absurd ((sd.one k i hk).1 z) m1
    · obtain ⟨i', a, h1, h2, h3⟩ := h.lt hk'
      rw [h.ahd h1 h2 h3 hk hc] at ha
      exact (sd.one k' i' h1).2 (m3 i' a h2 h3 ha)
theorem SameD.add {cs : List Cl} {ns : List Nat} {f : Fd} (h : Pts cs ns f) {d : Nat} {p : List Nat} (sd : SameD ns d p) {k i : Nat} (hk : ns[k]? = some i) : SameD ns (add d k) (p ++ [i]) := by
  refine ⟨fun k' i' h' => ?_⟩
  rw [add_mem, Bool.or_eq_true, decide_eq_true_iff, sd.one k' i' h', List.mem_append, List.mem_singleton]
  constructor
  · rintro (z | z)
    · exact .inl z
    · rw [← z, hk] at h'
      exact .inr (Option.some.inj h').symm
  · rintro (z | z)
    · exact .inl z
    · rw [z] at h'
      exact .inr (h.inj hk h')
theorem SameV.next {cs : List Cl} {ns : List Nat} {f : Fd} (h : Pts cs ns f) {V : Option (List Nat)} {k i : Nat} {c : Cl} (hk : ns[k]? = some i) (hc : cs[i]? = some c) (hv : c.put = true ∨ c.told = V) : SameV cs ns f (f.val k) (c.next V) := by
  refine ⟨fun k' i' c' h1 h2 => ?_⟩
  rw [h.val k' i' c' k i c h1 h2 hk hc]
  have : (if c.put = true then some c.val else c.told) = c.next V := by
    unfold Cl.next
    cases q : c.put
    · rw [q] at hv
      simp at hv ⊢
      exact hv
    · rfl
  rw [this]
theorem Pts.whole {cs : List Cl} {ns : List Nat} {f : Fd} (h : Pts cs ns f) {d : Nat} {p : List Nat} (sd : SameD ns d p) : f.Whole d ↔ XWhole cs p := by
  constructor
  · intro w i c hc hm
    unfold Cl.must at hm
    rw [Bool.and_eq_true] at hm
    obtain ⟨k, hk, e⟩ := List.getElem_of_mem ((h.mem i).2 ⟨c, hc, hm.1⟩)
    have hi : ns[k]? = some i := by rw [List.getElem?_eq_getElem hk, e]
    refine (sd.one k i hi).1 (w k (by rw [← h.len]; exact hk) ?_)
    rw [h.opn k i c hi hc]
    simpa using hm.2
  · intro w k hk ho
    obtain ⟨i, c, h1, h2, h3⟩ := h.lt hk
    rw [h.opn k i c h1 h2] at ho
    exact (sd.one k i h1).2 (w i c h2 (by unfold Cl.must; rw [h3, ho]; rfl))
/-- The two searches go along. -/
theorem Pts.run {cs : List Cl} {ns : List Nat} {f : Fd} (h : Pts cs ns f) : ∀ (o : List Nat) (d : Nat) (p : List Nat) (v : Int) (V : Option (List Nat)), SameD ns d p → SameV cs ns f v V → (∀ k ∈ o, k < f.n) → (f.Run o d v ↔ XRun cs (o.map fun k => ns.getD k 0) p V)
  | [], d, p, v, V, sd, _, _ => h.whole sd
  | k :: o, d, p, v, V, sd, sv, hb => by
    have hkn : k < ns.length := by rw [h.len]; exact hb k (by simp)
    have hk : ns[k]? = some (ns.getD k 0) := by rw [List.getD_eq_getElem?_getD, List.getElem?_eq_getElem hkn]; rfl
    have go : ∀ c, XMay cs p V (ns.getD k 0) c → (f.Run o (add d k) (f.val k) ↔ XRun cs (o.map fun k => ns.getD k 0) (p ++ [ns.getD k 0]) (c.next V)) := fun c m => Pts.run h o _ _ _ _ (sd.add h hk) (SameV.next h hk m.1 m.2.2.2.1) (fun j hj => hb j (by simp [hj]))
    show (f.May d v k ∧ f.Run o (add d k) (f.val k)) ↔ ∃ c, XMay cs p V (ns.getD k 0) c ∧ XRun cs (o.map fun k => ns.getD k 0) (p ++ [ns.getD k 0]) (c.next V)
    rw [h.may sd sv hk]
    constructor
    · rintro ⟨⟨c, m⟩, r⟩
      exact ⟨c, m, (go c m).1 r⟩
    · rintro ⟨c, m, r⟩
      exact ⟨⟨c, m⟩, (go c m).2 r⟩
/-- Every order that explains is one of parts. -/
theorem Pts.back {cs : List Cl} {ns : List Nat} {f : Fd} (h : Pts cs ns f) : ∀ (o : List Nat) (p : List Nat) (V : Option (List Nat)), XRun cs o p V → ∃ q : List Nat, o = q.map (fun k => ns.getD k 0) ∧ ∀ k ∈ q, k < f.n
  | [], _, _, _ => ⟨[], rfl, fun _ h => by cases h⟩
  | i :: o, p, V, r => by
    obtain ⟨c, m, r⟩ := r
    obtain ⟨q, e, hq⟩ := Pts.back h o _ _ r
    obtain ⟨k, hk, e2⟩ := List.getElem_of_mem ((h.mem i).2 ⟨c, m.1, m.2.1⟩)
    refine ⟨k :: q, ?_, fun j hj => ?_⟩
    · rw [List.map_cons, ← e]
      congr 1
      rw [List.getD_eq_getElem?_getD, List.getElem?_eq_getElem hk, e2]
      rfl
    · rcases List.mem_cons.1 hj with z | z
      · rw [z, ← h.len]; exact hk
      · exact hq j z
theorem map_lt {g : Nat → Nat} {n : Nat} (hg : ∀ a b, a < n → b < n → (g a < g b ↔ a < b)) : ∀ (x y : List Nat), (∀ k ∈ x, k < n) → (∀ k ∈ y, k < n) → (x.map g < y.map g ↔ x < y)
  | [], [], _, _ => by simp
  | [], b :: y, _, _ => by simp
  | a :: x, [], _, _ => by simp
  | a :: x, b :: y, hx, hy => by
    have ha := hx a (by simp)
    have hb := hy b (by simp)
    have e : g a = g b ↔ a = b := by
      constructor
      · intro z
        have h1 := hg a b ha hb
        have h2 := hg b a hb ha
        omega
      · intro z; rw [z]
    rw [List.map_cons, List.map_cons, List.cons_lt_cons_iff, List.cons_lt_cons_iff, hg a b ha hb, e, map_lt hg x y (fun k hk => hx k (by simp [hk])) (fun k hk => hy k (by simp [hk]))]
theorem Pts.mono {cs : List Cl} {ns : List Nat} {f : Fd} (h : Pts cs ns f) (a b : Nat) (ha : a < f.n) (hb : b < f.n) : ns.getD a 0 < ns.getD b 0 ↔ a < b := by
  have ha : a < ns.length := by rw [h.len]; exact ha
  have hb : b < ns.length := by rw [h.len]; exact hb
  rw [List.getD_eq_getElem?_getD, List.getD_eq_getElem?_getD, List.getElem?_eq_getElem ha, List.getElem?_eq_getElem hb]
  show ns[a] < ns[b] ↔ a < b
  rcases Nat.lt_trichotomy a b with z | z | z
  · have := List.pairwise_iff_getElem.1 h.up a b ha hb z
    omega
  · subst z
    omega
  · have := List.pairwise_iff_getElem.1 h.up b a hb ha z
    omega
theorem SameD.nil (ns : List Nat) : SameD ns 0 [] := ⟨fun k i _ => by simp⟩
theorem Pts.start {cs : List Cl} {ns : List Nat} {f : Fd} (h : Pts cs ns f) : SameV cs ns f (-1) none := ⟨fun k i c h1 h2 => h.nil k i c h1 h2⟩
/-- What the finder tells is the first order of the calls. -/
theorem Pts.first {cs : List Cl} {ns : List Nat} {f : Fd} (h : Pts cs ns f) {r : List Nat} (hr : f.Run r 0 (-1)) (le : ∀ o, f.Run o 0 (-1) → ¬ o < r) : First cs (r.map fun k => ns.getD k 0) := by
  have br : ∀ k ∈ r, k < f.n := fun k hk => (Run.out hr k hk).2
  refine ⟨(h.run r 0 [] (-1) none (SameD.nil ns) h.start br).1 hr, fun o' r' => ?_⟩
  obtain ⟨q, rfl, hq⟩ := h.back o' _ _ r'
  rw [map_lt h.mono q r hq br]
  exact le q ((h.run q 0 [] (-1) none (SameD.nil ns) h.start hq).2 r')
theorem Pts.never {cs : List Cl} {ns : List Nat} {f : Fd} (h : Pts cs ns f) (hr : ¬ f.Can 0 (-1)) (o : List Nat) : ¬ XRun cs o [] none := by
  intro r
  obtain ⟨q, rfl, hq⟩ := h.back o _ _ r
  exact hr ⟨q, (h.run q 0 [] (-1) none (SameD.nil ns) h.start hq).2 r⟩
/-- A beginning that is grown by the least call that leaves a way. -/
structure Grow (f : Fd) (r : List Nat) (d : Nat) (v : Int) : Prop where
  pre : ∀ t, f.Run t d v → f.Run (r ++ t) 0 (-1)
  all : ∀ o, f.Run o 0 (-1) → (∃ t, o = r ++ t ∧ f.Run t d v) ∨ ∀ t, r ++ t < o
theorem Grow.nil (f : Fd) : Grow f [] 0 (-1) := ⟨fun _ h => h, fun o h => .inl ⟨o, rfl, h⟩⟩
theorem append_lt {r x y : List Nat} (h : x < y) : r ++ x < r ++ y := by
  induction r with
  | nil => exact h
  | cons a r ih =>
    rw [List.cons_append, List.cons_append, List.cons_lt_cons_iff]
    exact .inr ⟨rfl, ih⟩
theorem Grow.step {f : Fd} {r : List Nat} {d : Nat} {v : Int} (h : Grow f r d v) (nw : ¬ f.Whole d) {i : Nat} (m : f.May d v i) (le : ∀ j, j < i → ¬ (f.May d v j ∧ f.Can (add d j) (f.val j))) : Grow f (r ++ [i]) (add d i) (f.val i) := by
  refine ⟨fun t ht => ?_, fun o ho => ?_⟩
  · rw [List.append_assoc]
    exact h.pre (i :: t) ⟨m, ht⟩
  · rcases h.all o ho with ⟨t, rfl, ht⟩ | z
    · cases t with
      | nil => exact absurd ht nw
      | cons j t =>
        rcases Nat.lt_trichotomy i j with z | z | z
        · right
          intro s
          rw [List.append_assoc]
          refine append_lt ?_
          show i :: s < j :: t
          rw [List.cons_lt_cons_iff]
          exact .inl z
        · subst z
          exact .inl ⟨t, by rw [List.append_assoc]; rfl, ht.2⟩
        · exact absurd ⟨ht.1, t, ht.2⟩ (le j z)
    · right
      intro s
      rw [List.append_assoc]
      exact z _
theorem Grow.done {f : Fd} {r : List Nat} {d : Nat} {v : Int} (h : Grow f r d v) (w : f.Whole d) : f.Run r 0 (-1) ∧ ∀ o, f.Run o 0 (-1) → ¬ o < r := by
  refine ⟨?_, fun o ho lt => ?_⟩
  · have := h.pre [] w
    rw [List.append_nil] at this
    exact this
  · rcases h.all o ho with ⟨t, rfl, _⟩ | z
    · have : ∀ (r t : List Nat), ¬ r ++ t < r := by
        intro r t
        induction r with
        | nil => simp
        | cons a r ih =>
          rw [List.cons_append, List.cons_lt_cons_iff]
          rintro (z | ⟨_, z⟩)
          · omega
          · exact ih z
      exact this r t lt
    · have := z []
      rw [List.append_nil] at this
      exact List.lt_asymm lt this
end Go.Proofs.Ytodmakcklacbfaa
