import Derived.Test.YtbnnmelkbjkkjaaOpen
namespace Go.Proofs.Ytbnnmelkbjkkjaa
open Go.ChangeShapes Go.WideShapes Go.ChangeAt Go.RowKit Go.Deep

/-- The last three fields of a step, as they can be read. -/
def Opv.Rd (o : Opv) (W : World) : Prop := ∃ a0 n0 c0 l0 a1 n1 c1 l1 a2 n2 c2 ch, o.v0 = .slice a0 n0 c0 ∧ o.v1 = .slice a1 n1 c1 ∧ o.v2 = .slice a2 n2 c2 ∧ Reads W a0 n0 c0 l0 ∧ Reads W a1 n1 c1 l1 ∧ IRd W a2 n2 c2 ch
def vlen : Value → Nat
  | .slice _ n _ => n
  | _ => 0
def Opv.wt (o : Opv) : Nat := o.n + vlen o.v0 + vlen o.v1
def sumW (O : List Opv) : Nat := (O.map Opv.wt).sum
theorem sumN_le_sumW : ∀ O : List Opv, sumN O ≤ sumW O
  | [] => Nat.le_refl _
  | o :: O => by
    have := sumN_le_sumW O
    unfold sumN sumW at this ⊢
    simp only [List.map_cons, List.sum_cons]
    unfold Opv.wt at this ⊢
    omega
/-- A step that came in. -/
theorem open_op_all {H : Type} {enc : TypeId × Value → H} {W : World} {n : Nat} {cs : List Value} {x : DataW H × List MemPlace} (hlen : cs.length = 9) (h : DataW.trod enc Try.prog W 0 (fun _ => true) true n 46 cs = some x) :
    ∃ o : Opv, cs = o.cs.toList ∧ Reads W o.a o.n o.c o.l ∧ o.wt ≤ Rows.uptoBulk x.1 ∧ o.Rd W := by
  obtain ⟨xs, m, _, hx, _, hxs, g⟩ := DataW.trod_struct Try.underlying46 h
  match cs, hlen with
  | [c0, c1, c2, c3, c4, c5, c6, c7, c8], _ =>
    match xs, hxs with
    | [y0, y1, y2, y3, y4, y5, y6, y7], _ =>
      have g0 : DataW.trod enc Try.prog W 0 (fun _ => true) true m 3 [c0] = some y0 := by have := g 0 _ rfl; simpa [Try.cells3] using this
      have g1 : DataW.trod enc Try.prog W 0 (fun _ => true) true m 3 [c1] = some y1 := by have := g 1 _ rfl; simpa [Try.cells3] using this
      have g2 : DataW.trod enc Try.prog W 0 (fun _ => true) true m 3 [c2] = some y2 := by have := g 2 _ rfl; simpa [Try.cells3] using this
      have g3 : DataW.trod enc Try.prog W 0 (fun _ => true) true m 22 [c3] = some y3 := by have := g 3 _ rfl; simpa [Try.cells22] using this
      have g4 : DataW.trod enc Try.prog W 0 (fun _ => true) true m 3 [c4] = some y4 := by have := g 4 _ rfl; simpa [Try.cells3] using this
      have g5 : DataW.trod enc Try.prog W 0 (fun _ => true) true m 4 [c5] = some y5 := by have := g 5 _ rfl; simpa [Try.cells4] using this
      have g6 : DataW.trod enc Try.prog W 0 (fun _ => true) true m 32 [c6, c7] = some y6 := by have := g 6 _ rfl; simpa [Try.cells32] using this
      have g7 : DataW.trod enc Try.prog W 0 (fun _ => true) true m 24 [c8] = some y7 := by have := g 7 _ rfl; simpa [Try.cells24] using this
      obtain ⟨zs, m2, _, hz, _, hzl, gz⟩ := DataW.trod_array Try.underlying32 g6
      match zs, hzl with
      | [z0, z1], _ =>
      have h0 : DataW.trod enc Try.prog W 0 (fun _ => true) true m2 22 [c6] = some z0 := by have := gz 0 (by omega); simpa [Try.cells22] using this
      have h1 : DataW.trod enc Try.prog W 0 (fun _ => true) true m2 22 [c7] = some z1 := by have := gz 1 (by omega); simpa [Try.cells22] using this
      obtain ⟨a0, n0, k0, rfl⟩ := slice_form Try.underlying22 h0
      obtain ⟨a1, n1, k1, rfl⟩ := slice_form Try.underlying22 h1
      obtain ⟨a2, n2, k2, rfl⟩ := slice_form Try.underlying24 g7
      obtain ⟨l0, rd0⟩ := open_bytes h0
      obtain ⟨l1, rd1⟩ := open_bytes h1
      obtain ⟨ch, rdc⟩ := open_choices g7
      obtain ⟨kd, e0, _, _⟩ := DataW.trod_int Try.underlying3 g0
      obtain ⟨D, e1, _, _⟩ := DataW.trod_int Try.underlying3 g1
      obtain ⟨sl, e2, _, _⟩ := DataW.trod_int Try.underlying3 g2
      obtain ⟨a, len, cap, rfl⟩ := slice_form Try.underlying22 g3
      obtain ⟨N, e4, _, _⟩ := DataW.trod_int Try.underlying3 g4
      obtain ⟨b, e5, _⟩ := DataW.trod_bool Try.underlying4 g5
      simp at e0 e1 e2 e4 e5
      subst e0 e1 e2 e4 e5
      obtain ⟨l, rd⟩ := open_bytes g3
      refine ⟨⟨kd, D, sl, a, len, cap, l, N, b, .slice a0 n0 k0, .slice a1 n1 k1, .slice a2 n2 k2⟩, rfl, rd, ?_, ⟨a0, n0, k0, l0, a1, n1, k1, l1, a2, n2, k2, ch, rfl, rfl, rfl, rd0, rd1, rdc⟩⟩
      rw [hx]
      show len + n0 + n1 ≤ _
      simp only [List.map_cons, List.map_nil, Rows.uptoBulk, Rows.uptoBulkAll]
      have b6 : n0 + n1 ≤ Rows.uptoBulk y6.1 := by
        rw [hz]
        simp only [List.map_cons, List.map_nil, Rows.uptoBulk, Rows.uptoBulkAll]
        have q0 : n0 ≤ Rows.uptoBulk z0.1 := by
          have hr := rd0.room
          rcases open_wide h0 with z | ⟨els, sp, e, hl⟩
          · omega
          · rw [e]
            have l1 := bulk_length els
            have l2 := bulk_length sp
            simp only [Rows.uptoBulk]
            omega
        have q1 : n1 ≤ Rows.uptoBulk z1.1 := by
          have hr := rd1.room
          rcases open_wide h1 with z | ⟨els, sp, e, hl⟩
          · omega
          · rw [e]
            have l1 := bulk_length els
            have l2 := bulk_length sp
            simp only [Rows.uptoBulk]
            omega
        omega
      have b3 : len ≤ Rows.uptoBulk y3.1 := by
        have hr := rd.room
        rcases open_wide g3 with z | ⟨els, sp, e, hl⟩
        · omega
        · rw [e]
          have l1 := bulk_length els
          have l2 := bulk_length sp
          simp only [Rows.uptoBulk]
          omega
      omega
theorem bulk_range_all {H : Type} (D : Nat → DataW H) (O : Nat → Opv) : ∀ n, (∀ i, i < n → (O i).wt ≤ Rows.uptoBulk (D i)) → sumW ((List.range n).map O) ≤ Rows.uptoBulkAll ((List.range n).map D) := by
  have app : ∀ (l r : List (DataW H)), Rows.uptoBulkAll (l ++ r) = Rows.uptoBulkAll l + Rows.uptoBulkAll r := fun l r => by
    induction l with
    | nil => simp [Rows.uptoBulkAll]
    | cons d t ih => simp only [List.cons_append, Rows.uptoBulkAll, ih]; omega
  intro n
  induction n with
  | zero => intro _; simp [sumW]
  | succ n ih =>
    intro h
    have := ih (fun i hi => h i (by omega))
    have hn := h n (by omega)
    rw [List.range_succ, List.map_append, List.map_append, app]
    unfold sumW at this ⊢
    rw [List.map_append, List.sum_append]
    simp only [List.map_cons, List.map_nil, List.sum_cons, List.sum_nil, Rows.uptoBulkAll]
    omega
/-- A script that came in, with all that its steps hold. -/
theorem open_script_all {H : Type} {enc : TypeId × Value → H} {W : World} {a : Option Addr} {len cap fuel : Nat} {x : DataW H × List MemPlace}
    (h : DataW.trod enc Try.prog W 0 (fun _ => true) true fuel 41 [.slice a len cap] = some x) : ∃ O, Script W a len cap O ∧ len ≤ Rows.uptoBulk x.1 ∧ sumW O ≤ Rows.uptoBulk x.1 ∧ ∀ o ∈ O, o.Rd W := by
  rcases open_slice Try.underlying41 h with ⟨hcs, _⟩ | ⟨ad, l', c', m, n, D, Pl, hcs, _, hl, hm, hmm, hx, hel⟩
  · simp at hcs
    obtain ⟨rfl, rfl, rfl⟩ := hcs
    exact ⟨[], ⟨rfl, Nat.le_refl _, by unfold maxLen; omega, fun h => absurd h (by omega), fun _ h => absurd h (by simp)⟩, Nat.zero_le _, Nat.zero_le _, fun _ h => absurd h (by simp)⟩
  · simp at hcs
    obtain ⟨rfl, rfl, rfl⟩ := hcs
    have hmm : m = cap := by simpa using hmm
    rw [Try.cells46] at hel
    have : Inhabited Opv := ⟨⟨0, 0, 0, none, 0, 0, [], 0, false, .bool false, .bool false, .bool false⟩⟩
    obtain ⟨O, hO⟩ := choose_lt (n := len) (p := fun (i : Nat) (o : Opv) => (∀ j v, o.cs[j]? = some v → W.cell? ((ad.add (i * 9)).add j) = some v) ∧ Reads W o.a o.n o.c o.l ∧ o.wt ≤ Rows.uptoBulk (D i) ∧ o.Rd W) (fun i hi => by
      obtain ⟨cs', h1, h2⟩ := hel i (by omega)
      obtain ⟨_, hlen, hc⟩ := World.cells?_some h1
      obtain ⟨o, e, r, hb⟩ := open_op_all hlen h2
      refine ⟨o, fun j v hv => ?_, r, hb⟩
      have hj : j < 9 := by
        have := (Array.getElem?_eq_some_iff.1 hv).1
        simpa [Opv.cs] using this
      rw [hc j (by omega)]
      subst e
      rw [← hv]
      simp [hlen, hj])
    refine ⟨(List.range len).map O, ⟨by simp, hl, hm, fun h0 => ?_, fun o ho => ?_⟩, ?_, ?_, fun o ho => ?_⟩
    · obtain ⟨b, off, spot⟩ := ad
      have h1 := (hO 0 h0).1 0 _ rfl
      have hs : spot = none := by
        have := World.cell?_spot h1
        simpa [Addr.add] using this
      subst hs
      refine ⟨b, off, rfl, fun i o ho j v hv => ?_⟩
      obtain ⟨hi, e⟩ := List.getElem?_eq_some_iff.1 ho
      have hi' : i < len := by simpa using hi
      have := (hO i hi').1 j v (by rw [show O i = o by simpa using e]; exact hv)
      rw [Addr.add_none, Addr.add_none] at this
      exact this
    · obtain ⟨i, hi, rfl⟩ := List.mem_map.1 ho
      exact (hO i (by simpa using hi)).2.1
    · rw [hx]
      have := bulk_length ((List.range len).map D)
      simp only [Rows.uptoBulk]
      simp only [List.length_map, List.length_range] at this
      omega
    · rw [hx]
      have := bulk_range_all D O len (fun i hi => (hO i hi).2.2.1)
      simp only [Rows.uptoBulk]
      omega
    · obtain ⟨i, hi, rfl⟩ := List.mem_map.1 ho
      exact (hO i (by simpa using hi)).2.2.2
end Go.Proofs.Ytbnnmelkbjkkjaa
