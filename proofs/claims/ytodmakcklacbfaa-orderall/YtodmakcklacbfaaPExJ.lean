import Derived.Test.YtodmakcklacbfaaPFit
import Derived.Test.YtodmakcklacbfaaNOneW
import Derived.Test.YtodmakcklacbfaaLSpec
namespace Go.Proofs.Ytodmakcklacbfaa
open Go.RowKit 

/-- A list of numbers reads so. -/
structure IRd (w : World) (q : Option Addr) (k kc : Nat) (R : List Int) : Prop where
  len : R.length = k
  room : k ≤ kc
  small : kc ≤ maxLen
  cells : 0 < k → ∃ b off, q = some ⟨b, off, none⟩ ∧ ∀ i x, R[i]? = some x → w.cell? ⟨b, off + i, none⟩ = some (.int .i64 x)
theorem IRd.k0 {w w' : World} {q : Option Addr} {k kc : Nat} {R : List Int} (h : IRd w q k kc R) (K : Kept (fun _ => False) w w') : IRd w' q k kc R := by
  refine ⟨h.len, h.room, h.small, fun h0 => ?_⟩
  obtain ⟨b, off, e, hc⟩ := h.cells h0
  exact ⟨b, off, e, fun i x hx => K.cell (hc i x hx) (fun z => z)⟩
theorem IRd.at {w : World} {q : Option Addr} {k kc : Nat} {R : List Int} (h : IRd w q k kc R) {i : Nat} (hi : i < k) : ∃ b off x, q = some ⟨b, off, none⟩ ∧ R[i]? = some x ∧ w.cell? ⟨b, off + i, none⟩ = some (.int .i64 x) := by
  obtain ⟨b, off, e, hc⟩ := h.cells (by omega)
  have hl : i < R.length := by rw [h.len]; exact hi
  exact ⟨b, off, R[i], e, List.getElem?_eq_getElem hl, hc i _ (List.getElem?_eq_getElem hl)⟩
theorem NRow.ird {b0 : Nat} {w : World} {q : Option Addr} {k kc : Nat} {R : List Nat} (h : NRow b0 w q k kc R) : IRd w q k kc (R.map fun x : Nat => (x : Int)) := by
  obtain ⟨r1, r2⟩ := own_room h.row
  refine ⟨by rw [List.length_map]; exact h.len, r1, r2, fun h0 => ?_⟩
  obtain ⟨g, _, e, _, _⟩ := h.at h0
  refine ⟨g, 0, e, fun i x hx => ?_⟩
  rw [List.getElem?_map] at hx
  cases q' : R[i]? with
  | none => rw [q'] at hx; cases hx
  | some r =>
    rw [q'] at hx
    have hi : i < k := by
      have := (List.getElem?_eq_some_iff.1 q').1
      rw [h.len] at this
      exact this
    obtain ⟨g', r', e', hr', c'⟩ := h.at hi
    rw [e] at e'
    have e' : g = g' := by simpa using e'
    subst e'
    rw [q'] at hr'
    injection hr' with hr'
    rw [Nat.zero_add, c', ← hr']
    have : (r : Int) = x := by simpa using hx
    rw [this]
/-- The flags of a set of calls. -/
def boolsB (n : Nat) (b : List Nat) : List Value := (List.range n).map fun i => Value.bool (decide (i ∈ b))
theorem boolsB_get (n : Nat) (b : List Nat) (i : Nat) : (boolsB n b)[i]? = if i < n then some (.bool (decide (i ∈ b))) else none := by
  unfold boolsB
  rw [List.getElem?_map]
  by_cases h : i < n
  · rw [if_pos h, List.getElem?_range h]
    rfl
  · rw [if_neg h, List.getElem?_eq_none (by simp; omega)]
    rfl
theorem boolsB_on {n : Nat} {b : List Nat} {i : Nat} : (boolsB n b).set i (.bool true) = boolsB n (b ++ [i]) := by
  refine List.ext_getElem? fun j => ?_
  rw [List.getElem?_set, boolsB_get, boolsB_get]
  have hl : (boolsB n b).length = n := by simp [boolsB]
  by_cases e : i = j
  · subst e
    rw [if_pos rfl, hl]
    split
    · simp
    · rfl
  · rw [if_neg e]
    have : (j ∈ b ++ [i]) ↔ j ∈ b := by
      rw [List.mem_append, List.mem_singleton]
      exact ⟨fun z => z.elim id (fun z => absurd z.symm e), .inl⟩
    rw [decide_eq_decide.2 this]
theorem boolsB_off {n : Nat} {b : List Nat} {i : Nat} (hi : i ∉ b) : (boolsB n (b ++ [i])).set i (.bool false) = boolsB n b := by
  refine List.ext_getElem? fun j => ?_
  rw [List.getElem?_set, boolsB_get, boolsB_get]
  have hl : (boolsB n (b ++ [i])).length = n := by simp [boolsB]
  by_cases e : i = j
  · subst e
    rw [if_pos rfl, hl]
    split
    · rw [decide_eq_false hi]
    · rfl
  · rw [if_neg e]
    have : (j ∈ b ++ [i]) ↔ j ∈ b := by
      rw [List.mem_append, List.mem_singleton]
      exact ⟨fun z => z.elim id (fun z => absurd z.symm e), .inl⟩
    rw [decide_eq_decide.2 this]
/-- The set, as it lies in memory. -/
structure IS (b0 : Nat) (w : World) (g n : Nat) (b : List Nat) : Prop where
  row : w.ownsRow b0 4 1 (.slice (some ⟨g, 0, none⟩) n n) n (boolsB n b)
theorem IS.k0 {b0 : Nat} {w w' : World} {g n : Nat} {b : List Nat} (h : IS b0 w g n b) (K : Kept (fun _ => False) w w') : IS b0 w' g n b := ⟨K.owns h.row (fun _ _ z => z)⟩
theorem IS.at {b0 : Nat} {w : World} {g n : Nat} {b : List Nat} (h : IS b0 w g n b) {i : Nat} (hi : i < n) : w.cell? ⟨g, i, none⟩ = some (.bool (decide (i ∈ b))) ∧ w.frozen? ⟨g, i, none⟩ = false := by
  obtain ⟨cs, hg⟩ := own_type h.row g rfl
  have hc := h.row.cells (g := g) rfl i (.bool (decide (i ∈ b))) (by rw [boolsB_get, if_pos hi])
  rw [Addr.add_none, Nat.zero_add] at hc
  exact ⟨hc, soft_blk hg i⟩
theorem kept_set {w w' : World} (K : Kept (fun _ => False) w w') {B : Nat} (hb : w.heap.size ≤ B) (i : Nat) (v : Value) : Kept (fun _ => False) w (w'.setCell ⟨B, i, none⟩ v) := K.setCell (p := ⟨B, i, none⟩) (fun z => by have z : B < w.heap.size := z; omega) v
theorem IS.on {b0 : Nat} {w : World} {g n : Nat} {b : List Nat} (h : IS b0 w g n b) (i : Nat) : IS b0 (w.setCell ⟨g, i, none⟩ (.bool true)) g n (b ++ [i]) := by
  refine ⟨?_⟩
  rw [← boolsB_on]
  exact owns_set h.row i _
theorem IS.start (w : World) (n : Nat) (hn : n ≤ maxLen) {C : Array Value} (hC : C.toList = boolsB n []) : IS w.heap.size (w.alloc (.cells C 4)) w.heap.size n [] := by
  have hs : C.size = n := by rw [← Array.length_toList, hC]; simp [boolsB]
  refine ⟨⟨by simp [boolsB], .inr ⟨w.heap.size, n, C, rfl, Nat.le_refl _, alloc_new _ _, Nat.le_refl _, hn, by rw [hs, Nat.mul_one], ?_⟩⟩⟩
  rw [hC, List.take_of_length_le (by simp [boolsB])]
theorem Try.info4c : (Try.prog.info? 4).map (fun i => (i.zero, i.size, i.bytes)) = some (some (.bool false), 1, 1) := by kernel_rfl
theorem fit_part {m : Cm} (h : m.fit = true) : (m.opn || m.cl.must) = m.cl.part := by
  unfold Cm.fit at h
  rw [Bool.and_eq_true, Bool.and_eq_true] at h
  have h1 := h.1.2
  have h2 : m.opn = m.opb := by simpa using h1
  unfold Cl.must Cl.part Cl.open_ Cm.cl
  dsimp only
  cases q : m.opn
  · simp
  · rw [q] at h2
    unfold Cm.opb at h2
    have : m.put = true := by
      cases p : m.put
      · rw [p] at h2; cases h2
      · rfl
    rw [this]
    simp
end Go.Proofs.Ytodmakcklacbfaa

namespace Go.Proofs.Ytodmakcklacbfaa

/-- The value behind these. -/
def valV (cs : List Cl) : List Nat → Option (List Nat) → Option (List Nat)
  | [], V => V
  | i :: o, V => valV cs o (match cs[i]? with | some c => c.next V | none => V)
theorem xrun_iff {cs : List Cl} : ∀ {o p : List Nat} {V : Option (List Nat)}, XRun cs o p V ↔ (∀ n i, o[n]? = some i → ∃ c, XMay cs (p ++ o.take n) (valV cs (o.take n) V) i c) ∧ XWhole cs (p ++ o)
  | [], p, V => by
    unfold XRun
    rw [List.append_nil]
    exact ⟨fun h => ⟨fun n i z => by simp at z, h⟩, fun h => h.2⟩
  | i :: o, p, V => by
    unfold XRun
    constructor
    · rintro ⟨c, m, r⟩
      obtain ⟨h1, h2⟩ := xrun_iff.1 r
      refine ⟨fun n j hj => ?_, by rw [List.append_assoc] at h2; exact h2⟩
      cases n with
      | zero =>
        have : i = j := by simpa using hj
        subst this
        exact ⟨c, by rw [List.take_zero, List.append_nil]; exact m⟩
      | succ n =>
        obtain ⟨c', m'⟩ := h1 n j (by simpa using hj)
        refine ⟨c', ?_⟩
        rw [List.append_assoc] at m'
        rw [List.take_succ_cons]
        unfold valV
        rw [m.1]
        exact m'
    · rintro ⟨h1, h2⟩
      obtain ⟨c, m⟩ := h1 0 i rfl
      rw [List.take_zero, List.append_nil] at m
      refine ⟨c, m, xrun_iff.2 ⟨fun n j hj => ?_, by rw [List.append_assoc]; exact h2⟩⟩
      obtain ⟨c', m'⟩ := h1 (n + 1) j (by simpa using hj)
      refine ⟨c', ?_⟩
      rw [List.take_succ_cons] at m'
      unfold valV at m'
      rw [m.1] at m'
      rw [List.append_assoc]
      exact m'
/-- The last Put of these. -/
def lastF (cs : List Cl) : List Nat → Int → Int
  | [], l => l
  | i :: o, l => lastF cs o (match cs[i]? with | some c => if c.put = true then (i : Int) else l | none => l)
theorem lastF_add {cs : List Cl} {i : Nat} : ∀ (o : List Nat) (l : Int), lastF cs (o ++ [i]) l = (match cs[i]? with | some c => if c.put = true then (i : Int) else lastF cs o l | none => lastF cs o l)
  | [], l => rfl
  | j :: o, l => by
    rw [List.cons_append]
    unfold lastF
    exact lastF_add o _
def valOf' (cs : List Cl) (l : Int) : Option (List Nat) := if l < 0 then none else (cs[l.toNat]?).map Cl.val
theorem valV_last {cs : List Cl} : ∀ (o : List Nat) (V : Option (List Nat)) (l : Int), V = valOf' cs l → valV cs o V = valOf' cs (lastF cs o l)
  | [], V, l, h => h
  | i :: o, V, l, h => by
    unfold valV lastF
    refine valV_last o _ _ ?_
    cases q : cs[i]? with
    | none => exact h
    | some c =>
      show c.next V = valOf' cs (if c.put = true then (i : Int) else l)
      unfold Cl.next
      by_cases hp : c.put = true
      · rw [if_pos hp, if_pos hp]
        unfold valOf'
        rw [if_neg (by omega), Int.toNat_natCast, q]
        rfl
      · rw [if_neg hp, if_neg hp]
        exact h
theorem lastF_lt {cs : List Cl} : ∀ (o : List Nat) (l : Int), l < (cs.length : Int) → -1 ≤ l → lastF cs o l < (cs.length : Int) ∧ -1 ≤ lastF cs o l
  | [], l, h, h2 => ⟨h, h2⟩
  | i :: o, l, h, h2 => by
    unfold lastF
    cases q : cs[i]? with
    | none => exact lastF_lt o l h h2
    | some c =>
      have hl := (List.getElem?_eq_some_iff.1 q).1
      show lastF cs o (if c.put = true then (i : Int) else l) < (cs.length : Int) ∧ -1 ≤ lastF cs o (if c.put = true then (i : Int) else l)
      by_cases hp : c.put = true
      · rw [if_pos hp]
        exact lastF_lt o _ (by omega) (by omega)
      · rw [if_neg hp]
        exact lastF_lt o _ h h2
/-- The chapter's sentences. -/
def ExA (cs : List Cl) (R : List Nat) (m : Nat) : Prop := ∀ n, n < m → ∀ r, R[n]? = some r → r ∉ R.take n ∧ ∃ c, cs[r]? = some c ∧ c.part = true
def ExB (cs : List Cl) (R : List Nat) (m : Nat) : Prop := ∀ i, i < m → ∀ c, cs[i]? = some c → c.must = true → i ∈ R
def ExC1 (cs : List Cl) (R : List Nat) (i m : Nat) : Prop := ∀ j, j < m → ∀ a b, cs[i]? = some a → cs[j]? = some b → a.ahead b = true → ∀ x y : Nat, R[x]? = some j → R[y]? = some i → y ≤ x
def ExC (cs : List Cl) (R : List Nat) (m : Nat) : Prop := ∀ i, i < m → ExC1 cs R i cs.length
def ExD1 (cs : List Cl) (R : List Nat) (n : Nat) (c : Cl) : Prop := c.put = true ∨ ((c.st = 76 → lastF cs (R.take n) (-1) < 0) ∧ (c.st = 0 → valOf' cs (lastF cs (R.take n) (-1)) = some c.val))
def ExD (cs : List Cl) (R : List Nat) (m : Nat) : Prop := ∀ n, n < m → ∀ r c, R[n]? = some r → cs[r]? = some c → ExD1 cs R n c
theorem ahead_self {c : Cl} (nb : c.bad = false) : c.ahead c = false := by
  cases q : c.ahead c
  · rfl
  · unfold Cl.ahead at q
    simp [Cl.bad] at q nb
    omega
theorem valOf'_none {cs : List Cl} {l : Int} (h : l < (cs.length : Int)) : valOf' cs l = none ↔ l < 0 := by
  unfold valOf'
  by_cases z : l < 0
  · rw [if_pos z]
    simp [z]
  · rw [if_neg z]
    have : l.toNat < cs.length := by omega
    rw [List.getElem?_eq_getElem this]
    simp
    omega
theorem explain_iff {cs : List Cl} {R : List Nat} (nb : ∀ c ∈ cs, c.bad = false) : XRun cs R [] none ↔ ExA cs R R.length ∧ ExB cs R cs.length ∧ ExC cs R cs.length ∧ ExD cs R R.length := by
  rw [xrun_iff]
  have vl : ∀ n, valV cs (R.take n) none = valOf' cs (lastF cs (R.take n) (-1)) := fun n => valV_last _ _ _ rfl
  have ll : ∀ n, lastF cs (R.take n) (-1) < (cs.length : Int) := fun n => (lastF_lt (R.take n) (-1) (by omega) (by omega)).1
  constructor
  · rintro ⟨h1, h2⟩
    refine ⟨fun n _ r hr => ?_, fun i _ c hc hm => ?_, fun i hi j hj a b ha hb hab x y hx hy => ?_, fun n _ r c hr hc => ?_⟩
    · obtain ⟨c, m⟩ := h1 n r hr
      exact ⟨by simpa using m.2.2.1, c, m.1, m.2.1⟩
    · simpa using h2 i c hc hm
    · obtain ⟨c, m⟩ := h1 x j hx
      have e : b = c := by have := m.1; rw [hb] at this; exact Option.some.inj this
      subst e
      have hp : a.part = true := by
        have := hab
        unfold Cl.ahead Cl.must at this
        simp at this
        exact this.1.1.1
      have mem := m.2.2.2.2 i a ha hp hab
      rw [List.nil_append] at mem
      obtain ⟨z, hz, ez⟩ := List.getElem_of_mem mem
      rw [List.getElem_take] at ez
      have hz2 : z < x := by rw [List.length_take] at hz; omega
      -- the places of i are one
      rcases Nat.lt_or_ge x y with lt | ge
      · exfalso
        obtain ⟨c', m'⟩ := h1 y i hy
        refine m'.2.2.1 ?_
        rw [List.nil_append]
        have hzl : z < R.length := by rw [List.length_take] at hz; omega
        have : (R.take y)[z]? = some i := by
          rw [List.getElem?_take, if_pos (by omega), List.getElem?_eq_getElem hzl, ez]
        exact List.mem_of_getElem? this
      · exact ge
    · obtain ⟨c', m⟩ := h1 n r hr
      have e : c = c' := by have := m.1; rw [hc] at this; exact Option.some.inj this
      subst e
      rcases m.2.2.2.1 with z | z
      · exact .inl z
      · right
        rw [vl n] at z
        unfold Cl.told at z
        constructor
        · intro h76
          rw [if_pos h76] at z
          exact (valOf'_none (ll n)).1 z.symm
        · intro h0
          rw [if_neg (by omega)] at z
          exact z.symm
  · rintro ⟨hA, hB, hC, hD⟩
    refine ⟨fun n r hr => ?_, fun i c hc hm => ?_⟩
    · have hn := (List.getElem?_eq_some_iff.1 hr).1
      obtain ⟨h1, c, hc, hp⟩ := hA n hn r hr
      refine ⟨c, hc, hp, by simpa using h1, ?_, fun j a ha hap haa => ?_⟩
      · rcases hD n hn r c hr hc with z | ⟨z1, z2⟩
        · exact .inl z
        · by_cases hput : c.put = true
          · exact .inl hput
          · right
            rw [vl n]
            unfold Cl.told
            by_cases h76 : c.st = 76
            · rw [if_pos h76]
              exact ((valOf'_none (ll n)).2 (z1 h76)).symm
            · rw [if_neg h76]
              have h0 : c.st = 0 := by
                unfold Cl.part at hp
                simp [hput] at hp
                omega
              exact (z2 h0).symm
      · rw [List.nil_append]
        have hrl := (List.getElem?_eq_some_iff.1 hc).1
        have hjl := (List.getElem?_eq_some_iff.1 ha).1
        have hm : a.must = true := by
          have := haa
          unfold Cl.ahead at this
          simp at this
          exact this.1.1
        obtain ⟨y, hy, ey⟩ := List.getElem_of_mem (hB j hjl a ha hm)
        have hy2 : R[y]? = some j := by rw [List.getElem?_eq_getElem hy, ey]
        have le := hC j hjl r hrl a c ha hc haa n y hr hy2
        have ne : y ≠ n := by
          intro z
          subst z
          rw [hr] at hy2
          have := Option.some.inj hy2
          subst this
          rw [hc] at ha
          have := Option.some.inj ha
          subst this
          rw [ahead_self (nb _ (List.mem_of_getElem? hc))] at haa
          cases haa
        have : (R.take n)[y]? = some j := by rw [List.getElem?_take, if_pos (by omega)]; exact hy2
        exact List.mem_of_getElem? this
    · have hl := (List.getElem?_eq_some_iff.1 hc).1
      simpa using hB i hl c hc hm
/-- The places, as they are written down. -/
structure AtOk (R : List Nat) (A : Nat → Int) : Prop where
  yes : ∀ m r : Nat, R[m]? = some r → A r = (m : Int)
  no : ∀ i, i ∉ R → A i = -1
end Go.Proofs.Ytodmakcklacbfaa
