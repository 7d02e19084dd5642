import Derived.Test.YtodmakcklacbfaaRBy
namespace Go.Proofs.Ytodmakcklacbfaa
open Go.RowKit Go.Shelf Go.Lib Go.Sort

/-- A list of tags of one's own. -/
def tcells (l : List (Int × Int)) : List Value := l.flatMap fun t => [.int .i64 t.1, .int .i64 t.2]
/-- A list of Puts that are in, with their tags. -/
def kcells (l : List (Nat × Int × Int)) : List Value := l.flatMap fun x => [.int .i64 (x.1 : Int), .int .i64 x.2.1, .int .i64 x.2.2]
theorem tcells_append (a b : List (Int × Int)) : tcells (a ++ b) = tcells a ++ tcells b := by unfold tcells; rw [List.flatMap_append]
theorem kcells_append (a b : List (Nat × Int × Int)) : kcells (a ++ b) = kcells a ++ kcells b := by unfold kcells; rw [List.flatMap_append]
theorem tcells_get : ∀ (l : List (Int × Int)) (i : Nat) (t : Int × Int), l[i]? = some t → (tcells l)[i * 2]? = some (.int .i64 t.1) ∧ (tcells l)[i * 2 + 1]? = some (.int .i64 t.2)
  | [], i, t, h => by simp at h
  | a :: l, 0, t, h => by
    have e : a = t := by simpa using h
    subst e
    exact ⟨rfl, rfl⟩
  | a :: l, i + 1, t, h => by
    have ih := tcells_get l i t (by simpa using h)
    have e : tcells (a :: l) = .int .i64 a.1 :: .int .i64 a.2 :: tcells l := rfl
    rw [e, show (i + 1) * 2 = i * 2 + 1 + 1 by omega, show i * 2 + 1 + 1 + 1 = (i * 2 + 1) + 1 + 1 by omega]
    simpa using ih
theorem kcells_get : ∀ (l : List (Nat × Int × Int)) (i : Nat) (x : Nat × Int × Int), l[i]? = some x → (kcells l)[i * 3]? = some (.int .i64 (x.1 : Int)) ∧ (kcells l)[i * 3 + 1]? = some (.int .i64 x.2.1) ∧ (kcells l)[i * 3 + 2]? = some (.int .i64 x.2.2)
  | [], i, x, h => by simp at h
  | a :: l, 0, x, h => by
    have e : a = x := by simpa using h
    subst e
    exact ⟨rfl, rfl, rfl⟩
  | a :: l, i + 1, x, h => by
    have ih := kcells_get l i x (by simpa using h)
    have e : kcells (a :: l) = .int .i64 (a.1 : Int) :: .int .i64 a.2.1 :: .int .i64 a.2.2 :: kcells l := rfl
    rw [e, show (i + 1) * 3 = i * 3 + 1 + 1 + 1 by omega, show i * 3 + 1 + 1 + 1 + 1 = (i * 3 + 1) + 1 + 1 + 1 by omega, show i * 3 + 1 + 1 + 1 + 2 = (i * 3 + 2) + 1 + 1 + 1 by omega]
    simpa using ih
structure TRow (b0 : Nat) (w : World) (p : Option Addr) (k c : Nat) (l : List (Int × Int)) : Prop where
  len : l.length = k
  row : w.ownsRow b0 35 2 (.slice p k c) k (tcells l)
structure KRow (b0 : Nat) (w : World) (p : Option Addr) (k c : Nat) (l : List (Nat × Int × Int)) : Prop where
  len : l.length = k
  row : w.ownsRow b0 72 3 (.slice p k c) k (kcells l)
theorem TRow.nil (b0 : Nat) (w : World) : TRow b0 w none 0 0 [] := ⟨rfl, ⟨rfl, .inl ⟨rfl, rfl⟩⟩⟩
theorem KRow.nil (b0 : Nat) (w : World) : KRow b0 w none 0 0 [] := ⟨rfl, ⟨rfl, .inl ⟨rfl, rfl⟩⟩⟩
theorem TRow.off {S : Nat → Prop} {b0 : Nat} {w w' : World} {p : Option Addr} {k c : Nat} {l : List (Int × Int)} (h : TRow b0 w p k c l) (K : Kept S w w') (hn : ∀ j, blockOf p = some j → ¬ S j) : TRow b0 w' p k c l := ⟨h.len, K.owns h.row (fun j z => hn j (by rw [blockOf_own] at z; exact z))⟩
theorem KRow.off {S : Nat → Prop} {b0 : Nat} {w w' : World} {p : Option Addr} {k c : Nat} {l : List (Nat × Int × Int)} (h : KRow b0 w p k c l) (K : Kept S w w') (hn : ∀ j, blockOf p = some j → ¬ S j) : KRow b0 w' p k c l := ⟨h.len, K.owns h.row (fun j z => hn j (by rw [blockOf_own] at z; exact z))⟩
theorem TRow.k0 {b0 : Nat} {w w' : World} {p : Option Addr} {k c : Nat} {l : List (Int × Int)} (h : TRow b0 w p k c l) (K : Kept (fun _ => False) w w') : TRow b0 w' p k c l := h.off K (fun _ _ z => z)
theorem KRow.k0 {b0 : Nat} {w w' : World} {p : Option Addr} {k c : Nat} {l : List (Nat × Int × Int)} (h : KRow b0 w p k c l) (K : Kept (fun _ => False) w w') : KRow b0 w' p k c l := h.off K (fun _ _ z => z)
theorem TRow.at {b0 : Nat} {w : World} {p : Option Addr} {k c : Nat} {l : List (Int × Int)} (h : TRow b0 w p k c l) {j : Nat} (hj : j < k) : ∃ g t, p = some ⟨g, 0, none⟩ ∧ l[j]? = some t ∧ w.cell? ⟨g, j * 2, none⟩ = some (.int .i64 t.1) ∧ w.cell? ⟨g, j * 2 + 1, none⟩ = some (.int .i64 t.2) := by
  rcases h.row.2 with ⟨_, hn⟩ | ⟨g, cap, cur, z, _⟩
  · omega
  · have z : Value.slice p k c = .slice (some ⟨g, 0, none⟩) k cap := z
    injection z with z1 _ z3
    subst z1
    subst z3
    have hj2 : j < l.length := by rw [h.len]; exact hj
    have hc := h.row.cells (g := g) rfl
    obtain ⟨q0, q1⟩ := tcells_get l j _ (List.getElem?_eq_getElem hj2)
    refine ⟨g, l[j], rfl, List.getElem?_eq_getElem hj2, ?_, ?_⟩
    · have := hc _ _ q0
      rw [Addr.add_none, Nat.zero_add] at this
      exact this
    · have := hc _ _ q1
      rw [Addr.add_none, Nat.zero_add] at this
      exact this
theorem KRow.at {b0 : Nat} {w : World} {p : Option Addr} {k c : Nat} {l : List (Nat × Int × Int)} (h : KRow b0 w p k c l) {j : Nat} (hj : j < k) : ∃ g x, p = some ⟨g, 0, none⟩ ∧ l[j]? = some x ∧ w.cell? ⟨g, j * 3, none⟩ = some (.int .i64 (x.1 : Int)) ∧ w.cell? ⟨g, j * 3 + 1, none⟩ = some (.int .i64 x.2.1) ∧ w.cell? ⟨g, j * 3 + 2, none⟩ = some (.int .i64 x.2.2) := by
  rcases h.row.2 with ⟨_, hn⟩ | ⟨g, cap, cur, z, _⟩
  · omega
  · have z : Value.slice p k c = .slice (some ⟨g, 0, none⟩) k cap := z
    injection z with z1 _ z3
    subst z1
    subst z3
    have hj2 : j < l.length := by rw [h.len]; exact hj
    have hc := h.row.cells (g := g) rfl
    obtain ⟨q0, q1, q2⟩ := kcells_get l j _ (List.getElem?_eq_getElem hj2)
    refine ⟨g, l[j], rfl, List.getElem?_eq_getElem hj2, ?_, ?_, ?_⟩
    · have := hc _ _ q0
      rw [Addr.add_none, Nat.zero_add] at this
      exact this
    · have := hc _ _ q1
      rw [Addr.add_none, Nat.zero_add] at this
      exact this
    · have := hc _ _ q2
      rw [Addr.add_none, Nat.zero_add] at this
      exact this
theorem rows_apart {b0 b1 : Nat} {w : World} {p q : Option Addr} {k c k' c' : Nat} {l : List (Nat × Int × Int)} {g : List (Int × Int)} (h : KRow b0 w p k c l) (h2 : TRow b1 w q k' c' g) : ∀ j, blockOf p = some j → ¬ blockOf q = some j := by
  intro j z y
  obtain ⟨cs, e⟩ := own_type h.row j z
  obtain ⟨cs', e'⟩ := own_type h2.row j y
  rw [e] at e'
  simp at e'
theorem Try.info72c : (Try.prog.info? 72).map (fun i => (i.zero, i.size, i.bytes)) = some (some (.agg #[.int .i64 0, .int .i64 0, .int .i64 0]), 3, 24) := by kernel_rfl
theorem Try.info35c : (Try.prog.info? 35).map (fun i => (i.zero, i.size, i.bytes)) = some (some (.agg #[.int .i64 0, .int .i64 0]), 2, 16) := by kernel_rfl
theorem src_tag {w : World} {b : Nat} {t : Int × Int} (h : w.heap[b]? = some (.cells #[.int .i64 t.1, .int .i64 t.2] 35 (0, 0))) : Src Try.prog 2 94 (.slice (some ⟨b, 0, none⟩) 1 1) 1 (tcells [t]) w :=
  Src.ofSlice w Try.underlying94 ⟨b, 0, none⟩ 1 1 (tcells [t]) rfl (fun j u hj => by
    rw [Addr.add_none, Nat.zero_add]
    refine cell_blk h j ?_
    have e : tcells [t] = [.int .i64 t.1, .int .i64 t.2] := rfl
    rw [e] at hj
    simpa using hj) (fun v hv => by
    have e : tcells [t] = [.int .i64 t.1, .int .i64 t.2] := rfl
    rw [e] at hv
    simp at hv
    rcases hv with rfl | rfl <;> rfl)
theorem src_kept {w : World} {b : Nat} {x : Nat × Int × Int} (h : w.heap[b]? = some (.cells #[.int .i64 (x.1 : Int), .int .i64 x.2.1, .int .i64 x.2.2] 72 (0, 0))) : Src Try.prog 3 69 (.slice (some ⟨b, 0, none⟩) 1 1) 1 (kcells [x]) w :=
  Src.ofSlice w Try.underlying69 ⟨b, 0, none⟩ 1 1 (kcells [x]) rfl (fun j u hj => by
    rw [Addr.add_none, Nat.zero_add]
    refine cell_blk h j ?_
    have e : kcells [x] = [.int .i64 (x.1 : Int), .int .i64 x.2.1, .int .i64 x.2.2] := rfl
    rw [e] at hj
    simpa using hj) (fun v hv => by
    have e : kcells [x] = [.int .i64 (x.1 : Int), .int .i64 x.2.1, .int .i64 x.2.2] := rfl
    rw [e] at hv
    simp at hv
    rcases hv with rfl | rfl | rfl <;> rfl)
/-- One more is appended. -/
theorem KRow.more {b0 : Nat} {w w9 W0 : World} {p p9 : Option Addr} {k c c9 : Nat} {l : List (Nat × Int × Int)} {x : Nat × Int × Int} (h : KRow b0 w p k c l) (ho : w9.ownsRow b0 72 3 (.slice p9 (k + 1) c9) (k + 1) (kcells l ++ kcells [x])) (hg : w.grownBy w9 (Value.slice p k c).ownBlock) (K0 : Kept (fun _ => False) W0 w) (hb : W0.heap.size ≤ b0) : KRow b0 w9 p9 (k + 1) c9 (l ++ [x]) ∧ Kept (fun _ => False) W0 w9 ∧ Kept (fun j => blockOf p = some j) w w9 := by
  have KG : Kept (fun j => blockOf p = some j) w w9 := (Kept.refl (fun j => blockOf p = some j) w).grown hg (fun j _ z => by rw [blockOf_own] at z; exact z)
  refine ⟨⟨by rw [List.length_append, h.len]; rfl, by rw [kcells_append]; exact ho⟩, Kept.own K0 KG (fun j z => by have := (own_lt h.row j z).1; omega), KG⟩
theorem TRow.more {b0 : Nat} {w w9 W0 : World} {p p9 : Option Addr} {k c c9 : Nat} {l : List (Int × Int)} {x : Int × Int} (h : TRow b0 w p k c l) (ho : w9.ownsRow b0 35 2 (.slice p9 (k + 1) c9) (k + 1) (tcells l ++ tcells [x])) (hg : w.grownBy w9 (Value.slice p k c).ownBlock) (K0 : Kept (fun _ => False) W0 w) (hb : W0.heap.size ≤ b0) : TRow b0 w9 p9 (k + 1) c9 (l ++ [x]) ∧ Kept (fun _ => False) W0 w9 ∧ Kept (fun j => blockOf p = some j) w w9 := by
  have KG : Kept (fun j => blockOf p = some j) w w9 := (Kept.refl (fun j => blockOf p = some j) w).grown hg (fun j _ z => by rw [blockOf_own] at z; exact z)
  refine ⟨⟨by rw [List.length_append, h.len]; rfl, by rw [tcells_append]; exact ho⟩, Kept.own K0 KG (fun j z => by have := (own_lt h.row j z).1; omega), KG⟩
theorem sil_own {m : Cm} (fit : m.fit = true) : (m.opn && kIsZero m.tx m.ty) = (m.put && !ownB m) := by
  unfold ownB
  cases ho : m.opn
  · cases hp : m.put <;> simp
  · cases hp : m.put
    · have := fit_get fit hp
      rw [ho] at this
      cases this
    · simp
/-- The last silent Put of a client, as a number; none: -1. -/
def lastS (ms : List Cm) (j : Nat) (y : Int) : Int := match silM ms j y with | some l => l | none => -1
theorem lastS_add {ms : List Cm} (fit : FitL ms) {j : Nat} {m : Cm} (h : ms[j]? = some m) (y : Int) : lastS ms (j + 1) y = if (m.put && !ownB m && decide (m.client = y)) = true then (j : Int) else lastS ms j y := by
  unfold lastS
  rw [silM_add h, sil_own (fit m (List.mem_of_getElem? h)).2]
  by_cases q : (m.put && !ownB m) = true
  · rw [if_pos q, q]
    unfold upd
    by_cases e : y = m.client
    · rw [if_pos e, e]
      simp
    · rw [if_neg e, if_neg (by simp; exact fun z => e z.symm)]
  · rw [if_neg q, if_neg (by intro z; rw [Bool.and_eq_true] at z; exact q z.1)]
theorem takA_add {ms : List Cm} {i : Nat} {m : Cm} (h : ms[i]? = some m) : takA ms (i + 1) = if inA ms m = true then takA ms i ++ [(i, m.tx, m.ty)] else takA ms i := by
  unfold takA
  rw [numsK_add h]
  by_cases q : inA ms m = true
  · rw [if_pos q, if_pos q, List.map_append]
    have := tagAt_of h
    simp [this]
  · rw [if_neg q, if_neg q]
theorem takA_len (ms : List Cm) (i : Nat) : (takA ms i).length ≤ i := by
  unfold takA
  rw [List.length_map]
  exact numsK_len
theorem TakB.zero (ms : List Cm) : TakB ms 0 [] [] := ⟨fun t => ⟨fun h => (by cases h), fun ⟨j, m, h, _⟩ => absurd h (by omega)⟩, fun c t => ⟨fun h => (by cases h), fun h => (by cases h.1)⟩, List.Pairwise.nil, Nat.le_refl _, Nat.le_refl _⟩
/-- A call that isn't a read of an unknown tag, or whose tag was met. -/
theorem TakB.pass {ms : List Cm} {i : Nat} {G : List (Int × Int)} {B : List (Nat × Int × Int)} (h : TakB ms i G B) {m : Cm} (hm : ms[i]? = some m) (no : readB m = false ∨ knowB ms (tg m) = true ∨ tg m ∈ G) : TakB ms (i + 1) G B := by
  refine ⟨fun t => ?_, h.mem, h.one, by have := h.len.1; omega, by have := h.len.2; omega⟩
  constructor
  · intro ht
    obtain ⟨j, m', h1, h2⟩ := (h.given t).1 ht
    exact ⟨j, m', by omega, h2⟩
  · rintro ⟨j, m', h1, h2, h3, h4, h5⟩
    by_cases e : j = i
    · subst e
      rw [hm] at h2
      have e := Option.some.inj h2
      subst e
      rcases no with z | z | z
      · rw [z] at h3; cases h3
      · rw [h4, h5] at z; cases z
      · rw [← h4]; exact z
    · exact (h.given t).2 ⟨j, m', by omega, h2, h3, h4, h5⟩
theorem TakB.take {ms : List Cm} {i : Nat} {G : List (Int × Int)} {B : List (Nat × Int × Int)} (h : TakB ms i G B) {m : Cm} (hm : ms[i]? = some m) (h1 : readB m = true) (h2 : knowB ms (tg m) = false) (h3 : tg m ∉ G) : (∀ c : Nat, lastS ms ms.length (tg m).2 = (c : Int) → TakB ms (i + 1) (G ++ [tg m]) (B ++ [(c, tg m)])) ∧ (lastS ms ms.length (tg m).2 < 0 → TakB ms (i + 1) (G ++ [tg m]) B) := by
  have gv : ∀ t, t ∈ G ++ [tg m] ↔ ∃ (j : Nat) (m : Cm), j < i + 1 ∧ ms[j]? = some m ∧ readB m = true ∧ tg m = t ∧ knowB ms t = false := by
    intro t
    rw [List.mem_append, List.mem_singleton, h.given]
    constructor
    · rintro (⟨j, m', q1, q2⟩ | rfl)
      · exact ⟨j, m', by omega, q2⟩
      · exact ⟨i, m, by omega, hm, h1, rfl, h2⟩
    · rintro ⟨j, m', q1, q2, q3, q4, q5⟩
      by_cases e : j = i
      · subst e
        rw [hm] at q2
        rw [Option.some.inj q2]
        exact .inr q4.symm
      · exact .inl ⟨j, m', by omega, q2, q3, q4, q5⟩
  have sl : ∀ c : Nat, silM ms ms.length (tg m).2 = some (c : Int) ↔ lastS ms ms.length (tg m).2 = (c : Int) := by
    intro c
    unfold lastS
    cases q : silM ms ms.length (tg m).2 with
    | none =>
      constructor
      · intro z; cases z
      · intro z
        have z : (-1 : Int) = (c : Int) := z
        omega
    | some l => exact ⟨fun z => Option.some.inj z, fun z => by have z : l = (c : Int) := z; rw [z]⟩
  have bg : ∀ c t, (c, t) ∈ B → t ∈ G := fun c t hb => ((h.mem c t).1 hb).1
  refine ⟨fun c hc => ⟨gv, fun c' t => ?_, ?_, ?_, ?_⟩, fun hc => ⟨gv, fun c' t => ?_, h.one, ?_, ?_⟩⟩
  · rw [List.mem_append, List.mem_singleton, List.mem_append, List.mem_singleton]
    constructor
    · rintro (z | z)
      · obtain ⟨z1, z2⟩ := (h.mem c' t).1 z
        exact ⟨.inl z1, z2⟩
      · have e1 : c' = c := congrArg Prod.fst z
        have e2 : t = tg m := congrArg Prod.snd z
        rw [e1, e2]
        exact ⟨.inr rfl, (sl c).2 hc⟩
    · rintro ⟨z1, z2⟩
      rcases z1 with z1 | z1
      · exact .inl ((h.mem c' t).2 ⟨z1, z2⟩)
      · rw [z1, sl, hc] at z2
        have e : c = c' := by omega
        rw [z1, e]
        exact .inr rfl
  · refine List.pairwise_append.2 ⟨h.one, List.pairwise_singleton _ _, fun x hx y hy z => ?_⟩
    rw [List.mem_singleton] at hy
    rw [hy] at z
    have z : x.2 = tg m := z
    exact h3 (z ▸ bg x.1 x.2 hx)
  · rw [List.length_append]
    have := h.len.1
    simp
    omega
  · rw [List.length_append]
    have := h.len.2
    simp
    omega
  · rw [List.mem_append, List.mem_singleton]
    constructor
    · intro z
      obtain ⟨z1, z2⟩ := (h.mem c' t).1 z
      exact ⟨.inl z1, z2⟩
    · rintro ⟨z1 | z1, z2⟩
      · exact (h.mem c' t).2 ⟨z1, z2⟩
      · rw [z1, sl] at z2
        omega
  · rw [List.length_append]
    have := h.len.1
    simp
    omega
  · have := h.len.2
    omega
end Go.Proofs.Ytodmakcklacbfaa
