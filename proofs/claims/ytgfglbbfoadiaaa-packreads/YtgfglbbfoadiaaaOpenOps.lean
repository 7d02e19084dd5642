import Derived.Test.YtgfglbbfoadiaaaOpen
import Derived.Test.YtgfglbbfoadiaaaBackWalk
import Derived.Deep.Slices
import Derived.Deep.Fields
namespace Go.Proofs.Ytgfglbbfoadiaaa
open Go.ChangeShapes Go.WideShapes Go.ChangeAt Go.RowKit Go.Deep

theorem Try.cells45 : Try.prog.cellsOf 45 = 5 := by kernel_rfl
theorem bulk_pos {H : Type} (d : DataW H) : 1 ≤ Rows.uptoBulk d := by
  cases d with
  | lit l => cases l <;> simp [Rows.uptoBulk]
  | nil => simp [Rows.uptoBulk]
  | ptr d => simp [Rows.uptoBulk]
  | slice elems spare => simp [Rows.uptoBulk]
  | agg parts => simp [Rows.uptoBulk]
  | iface t d => simp [Rows.uptoBulk]
  | map entries => simp [Rows.uptoBulk]
  | held h => simp [Rows.uptoBulk]
theorem bulk_length {H : Type} : ∀ l : List (DataW H), l.length ≤ Rows.uptoBulkAll l
  | [] => by simp
  | d :: r => by have := bulk_length r; have := bulk_pos d; simp only [Rows.uptoBulkAll, List.length_cons]; omega
theorem Try.cells3o : Try.prog.cellsOf 3 = 1 := by kernel_rfl
theorem Try.cells2 : Try.prog.cellsOf 2 = 1 := by kernel_rfl
theorem Try.cells28 : Try.prog.cellsOf 28 = 1 := by kernel_rfl
theorem Try.cells9 : Try.prog.cellsOf 9 = 1 := by kernel_rfl
theorem slice_form {H : Type} {enc : TypeId × Value → H} {P : Program} {w : World} {base : Nat} {spare : Nat → Bool} {held : Bool} {t e : TypeId} {fuel : Nat} {v : Value} {x : DataW H × List MemPlace} (ht : P.underlying t = some (.slice e)) (h : DataW.trod enc P w base spare held fuel t [v] = some x) :
    ∃ a len cap, v = .slice a len cap := by
  rcases DataW.trod_slice ht h with ⟨q, _⟩ | ⟨a, len, cap, _, _, _, _, q, _⟩
  · simp at q; exact ⟨none, 0, 0, q⟩
  · simp at q; exact ⟨some a, len, cap, q⟩
/-- How much a thing weighs. -/
def Opv.weight (o : Opv) : Nat := 6 + o.len + o.s.size
theorem open_op {H : Type} {enc : TypeId × Value → H} {W : World} {ad : Addr} {cs : List Value} {n : Nat} {x : DataW H × List MemPlace} (h1 : W.cells? 0 ad 5 = some cs)
    (h2 : DataW.trod enc Try.prog W 0 (fun _ => true) true n 45 cs = some x) : ∃ o, HasOp W ad.block ad.off o ∧ ad.spot = none ∧ o.weight ≤ Rows.uptoBulk x.1 := by
  obtain ⟨_, hlen, hc⟩ := World.cells?_some h1
  obtain ⟨xs, m, _, hx, _, hxs, g⟩ := DataW.trod_struct Try.underlying45 h2
  match cs, hlen with
  | [c0, c1, c2, c3, c4], _ =>
    match xs, hxs with
    | [y0, y1, y2, y3, y4], _ =>
      have g0 : DataW.trod enc Try.prog W 0 (fun _ => true) true m 3 [c0] = some y0 := by have := g 0 _ rfl; simpa [Try.cells3o] using this
      have g1 : DataW.trod enc Try.prog W 0 (fun _ => true) true m 2 [c1] = some y1 := by have := g 1 _ rfl; simpa [Try.cells2] using this
      have g2 : DataW.trod enc Try.prog W 0 (fun _ => true) true m 5 [c2] = some y2 := by have := g 2 _ rfl; simpa [Try.cells5] using this
      have g3 : DataW.trod enc Try.prog W 0 (fun _ => true) true m 28 [c3] = some y3 := by have := g 3 _ rfl; simpa [Try.cells28] using this
      have g4 : DataW.trod enc Try.prog W 0 (fun _ => true) true m 9 [c4] = some y4 := by have := g 4 _ rfl; simpa [Try.cells9] using this
      obtain ⟨kd, e0, _, wk⟩ := DataW.trod_int Try.underlying3 g0
      obtain ⟨nm, e1, _, wn⟩ := DataW.trod_int Try.underlying2 g1
      obtain ⟨bt, e2, _, wb⟩ := DataW.trod_int Try.underlying5 g2
      obtain ⟨a, len, cap, e3⟩ := slice_form Try.underlying28 g3
      obtain ⟨s, e4, x4, _⟩ := DataW.trod_string Try.underlying9 g4
      simp at e0 e1 e2 e3 e4
      subst e0 e1 e2 e3 e4
      obtain ⟨l, rd, hcap⟩ := open_bytes g3
      obtain ⟨bt, hbt, rfl⟩ := byte_nat bt wb
      have hn := bounds_i64 wn
      obtain ⟨b, off, spot⟩ := ad
      have q0 := hc 0 (by omega)
      have hs : spot = none := by
        have : W.cell? ((⟨b, off, spot⟩ : Addr).add 0) = some _ := q0
        simpa [Addr.add] using World.cell?_spot this
      subst hs
      have q1 := hc 1 (by omega)
      have q2 := hc 2 (by omega)
      have q3 := hc 3 (by omega)
      have q4 := hc 4 (by omega)
      rw [Addr.add_none] at q0 q1 q2 q3 q4
      refine ⟨⟨kd, nm, bt, a, len, cap, l, s⟩, ⟨q0, q1, q2, q3, q4, ⟨hn.1, Int.lt_of_le_of_lt hn.2 (by omega), hbt, rd⟩⟩, rfl, ?_⟩
      rw [hx, x4]
      simp only [List.map_cons, List.map_nil, Rows.uptoBulk, Rows.uptoBulkAll, Opv.weight]
      have b0 := bulk_pos y0.1
      have b1 := bulk_pos y1.1
      have b2 := bulk_pos y2.1
      have b3 : len + 1 ≤ Rows.uptoBulk y3.1 := by
        rcases hcap with q | ⟨els, sp, e, hl⟩
        · have := bulk_pos y3.1; have := rd.room; omega
        · rw [e]
          have l1 := bulk_length els
          have l2 := bulk_length sp
          have := rd.room
          simp only [Rows.uptoBulk]
          omega
      have ss : s.data.toList.length = s.size := by rw [Array.length_toList]; rfl
      omega
def weight (ops : List Opv) : Nat := (ops.map Opv.weight).sum
theorem bulk_range {H : Type} (D : Nat → DataW H) (O : Nat → Opv) : ∀ n, (∀ i, i < n → (O i).weight ≤ Rows.uptoBulk (D i)) → weight ((List.range n).map O) ≤ Rows.uptoBulkAll ((List.range n).map D) := by
  have app : ∀ (l r : List (DataW H)), Rows.uptoBulkAll (l ++ r) = Rows.uptoBulkAll l + Rows.uptoBulkAll r := fun l r => by
    induction l with
    | nil => simp [Rows.uptoBulkAll]
    | cons d t ih => simp only [List.cons_append, Rows.uptoBulkAll, ih]; omega
  intro n
  induction n with
  | zero => intro _; simp [weight]
  | succ n ih =>
    intro h
    have := ih (fun i hi => h i (by omega))
    have hn := h n (by omega)
    rw [List.range_succ, List.map_append, List.map_append, app]
    unfold weight at this ⊢
    rw [List.map_append, List.sum_append]
    simp only [List.map_cons, List.map_nil, List.sum_cons, List.sum_nil, Rows.uptoBulkAll]
    omega
theorem open_script {H : Type} {enc : TypeId × Value → H} {W : World} {a : Option Addr} {len cap fuel : Nat} {x : DataW H × List MemPlace}
    (h : DataW.trod enc Try.prog W 0 (fun _ => true) true fuel 42 [.slice a len cap] = some x) : ∃ ops, ops.length = len ∧ Script W a ops ∧ len ≤ 9223372036854775807 ∧ weight ops ≤ Rows.uptoBulk x.1 := by
  rcases open_slice Try.underlying42 h with ⟨hcs, _⟩ | ⟨ad, l', c', m, n, D, Pl, hcs, _, hl, hm, hmm, hx, hel⟩
  · simp at hcs
    obtain ⟨rfl, rfl, rfl⟩ := hcs
    exact ⟨[], rfl, fun q => absurd q (by simp), by omega, by simp [weight]⟩
  · simp at hcs
    obtain ⟨rfl, rfl, rfl⟩ := hcs
    have hmm : m = cap := by simpa using hmm
    rw [Try.cells45] at hel
    have : Inhabited Opv := ⟨⟨0, 0, 0, none, 0, 0, [], ByteArray.empty⟩⟩
    obtain ⟨O, hO⟩ := choose_lt (n := len) (p := fun i o => HasOp W (ad.add (i * 5)).block (ad.add (i * 5)).off o ∧ (ad.add (i * 5)).spot = none ∧ o.weight ≤ Rows.uptoBulk (D i)) (fun i hi => by
      obtain ⟨cs', h1, h2⟩ := hel i (by omega)
      exact open_op h1 h2)
    unfold maxLen at hm
    refine ⟨(List.range len).map O, by simp, fun q => ?_, by omega, ?_⟩
    · obtain ⟨b, off, spot⟩ := ad
      simp at q
      have h0 := (hO 0 q).2.1
      have hs : spot = none := by simpa [Addr.add] using h0
      subst hs
      refine ⟨b, off, rfl, fun i hi => ?_⟩
      have := (hO i (by simpa using hi)).1
      rw [Addr.add_none] at this
      simpa using this
    · rw [hx]
      have := bulk_range D O len (fun i hi => (hO i hi).2.2)
      simp only [Rows.uptoBulk]
      omega
theorem form_weight (o : Opv) (hn : o.n < 9223372036854775808) (hn1 : -9223372036854775808 ≤ o.n) (hl : o.l.length = o.len) (hw : o.weight ≤ 1048576) : o.form.length ≤ 2 * o.weight := by
  unfold Opv.weight at hw ⊢
  have f9 : ∀ k, k < 9223372036854775808 → (Pk.form k).length ≤ 9 := Pk.form_le9
  have := nn_lt o.n hn1 hn
  unfold Opv.form
  split
  · have := f9 (nn o.n) this; omega
  · split
    · simp; omega
    · split
      · simp; omega
      · split
        · have := f9 o.len (by omega); rw [List.length_append]; omega
        · split
          · have := f9 o.s.size (by omega); rw [List.length_append, sb_length]; omega
          · simp
theorem weight_mem : ∀ (ops : List Opv) (i : Nat) (h : i < ops.length), ops[i].weight ≤ weight ops
  | o :: r, 0, _ => by unfold weight; simp
  | o :: r, i + 1, h => by
    have := weight_mem r i (by simpa using h)
    unfold weight at this ⊢
    simp only [List.getElem_cons_succ, List.map_cons, List.sum_cons]
    omega
theorem forms_weight : ∀ (ops : List Opv), (∀ i (h : i < ops.length), ops[i].form.length ≤ 2 * ops[i].weight) → (forms ops).length ≤ 2 * weight ops
  | [], _ => by simp [forms]
  | o :: r, h => by
    have h0 := h 0 (by simp)
    have hr := forms_weight r (fun i hi => by have := h (i + 1) (by simpa using hi); simpa using this)
    unfold forms weight at hr ⊢
    simp only [List.flatMap_cons, List.length_append, List.map_cons, List.sum_cons]
    simp only [List.getElem_cons_zero] at h0
    omega
end Go.Proofs.Ytgfglbbfoadiaaa
