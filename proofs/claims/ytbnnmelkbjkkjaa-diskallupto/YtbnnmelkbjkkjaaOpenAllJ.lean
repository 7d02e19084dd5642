import Derived.Test.YtbnnmelkbjkkjaaLastsJ
import Derived.ProofKit
import Derived.OpenShut
import Derived.ShutString
import Derived.ChangeOld
import Derived.Below
import Derived.SizedLaws
import Derived.JoinedCond
import Derived.Deep.Slices
import Derived.Deep.Fields
namespace Go.Proofs.Ytbnnmelkbjkkjaa
open Go.ChangeShapes Go.WideShapes Go.ChangeAt Go.RowKit Go.Deep

theorem Try.own : ownKnob Try.prog.godebug = none := by kernel_rfl
theorem Try.laidOut : laidOutB Try.prog = true := by kernel_rfl
theorem Try.cells5 : Try.prog.cellsOf 5 = 1 := by kernel_rfl
theorem Try.cells3 : Try.prog.cellsOf 3 = 1 := by kernel_rfl
theorem Try.cells22 : Try.prog.cellsOf 22 = 1 := by kernel_rfl
/-- A slice of bytes that came in: what it reads as. -/
theorem open_bytes {H : Type} {enc : TypeId × Value → H} {W : World} {a : Option Addr} {len cap fuel : Nat} {x : DataW H × List MemPlace}
    (h : DataW.trod enc Try.prog W 0 (fun _ => true) true fuel 22 [.slice a len cap] = some x) : ∃ l, Reads W a len cap l := by
  rcases open_ints Try.underlying22 Try.underlying5 Try.cells5 h with ⟨hcs, _⟩ | ⟨ad, l', c', zs, hcs, _, hl, hm, hz, hx, hcell, hwz⟩
  · simp at hcs
    obtain ⟨rfl, rfl, rfl⟩ := hcs
    exact ⟨[], ⟨rfl, Nat.le_refl _, by unfold maxLen; omega, fun _ h => absurd h (by simp), fun h => absurd h (by omega)⟩⟩
  · simp at hcs
    obtain ⟨rfl, rfl, rfl⟩ := hcs
    have hz' : zs.length = cap := by simpa using hz
    refine ⟨(zs.take len).map Int.toNat, ⟨by rw [List.length_map, List.length_take]; omega, hl, hm, fun c hc => ?_, fun h0 => ?_⟩⟩
    · obtain ⟨z, hz1, rfl⟩ := List.mem_map.1 hc
      have := bounds_u8 (hwz z (List.mem_of_mem_take hz1))
      omega
    · obtain ⟨b, off, spot⟩ := ad
      have c0 := hcell 0 (by omega)
      have hs : spot = none := by simpa [Addr.add] using World.cell?_spot c0
      subst hs
      refine ⟨b, off, rfl, fun i hi => ?_⟩
      have ci := hcell i (by omega)
      rw [Addr.add_none] at ci
      rw [ci]
      have e1 : zs.getD i 0 = zs[i]'(by omega) := by rw [List.getD_eq_getElem?_getD, List.getElem?_eq_getElem (by omega)]; rfl
      have e2 : ((zs.take len).map Int.toNat).getD i 0 = (zs[i]'(by omega)).toNat := by
        rw [List.getD_eq_getElem?_getD, List.getElem?_map, List.getElem?_take_of_lt hi, List.getElem?_eq_getElem (by omega)]; rfl
      have bd := bounds_u8 (hwz (zs[i]'(by omega)) (List.getElem_mem _))
      rw [e1, e2, Int.toNat_of_nonneg bd.1]
theorem fit_i64 {a : Int} (h : (Lit.int .i64 a).wf = true) : -9223372036854775808 ≤ a ∧ a < 9223372036854775808 := by
  have := bounds_i64 h
  omega
/-- A list of ints that came in. -/
theorem open_choices {H : Type} {enc : TypeId × Value → H} {W : World} {a : Option Addr} {len cap fuel : Nat} {x : DataW H × List MemPlace}
    (h : DataW.trod enc Try.prog W 0 (fun _ => true) true fuel 24 [.slice a len cap] = some x) : ∃ l, IRd W a len cap l := by
  rcases open_ints Try.underlying24 Try.underlying3 Try.cells3 h with ⟨hcs, _⟩ | ⟨ad, l', c', zs, hcs, _, hl, hm, hz, hx, hcell, hwz⟩
  · simp at hcs
    obtain ⟨rfl, rfl, rfl⟩ := hcs
    exact ⟨[], ⟨rfl, Nat.le_refl _, by unfold maxLen; omega, fun _ h => absurd h (by simp), fun h => absurd h (by omega)⟩⟩
  · simp at hcs
    obtain ⟨rfl, rfl, rfl⟩ := hcs
    have hz' : zs.length = cap := by simpa using hz
    refine ⟨zs.take len, ⟨by rw [List.length_take]; omega, hl, hm, fun c hc => fit_i64 (hwz c (List.mem_of_mem_take hc)), fun h0 => ?_⟩⟩
    obtain ⟨b, off, spot⟩ := ad
    have c0 := hcell 0 (by omega)
    have hs : spot = none := by simpa [Addr.add] using World.cell?_spot c0
    subst hs
    refine ⟨b, off, rfl, fun i x hx => ?_⟩
    obtain ⟨hi, ex⟩ := List.getElem?_eq_some_iff.1 hx
    have hi' : i < len := by rw [List.length_take] at hi; omega
    have ci := hcell i (by omega)
    rw [Addr.add_none] at ci
    rw [ci, ← ex, List.getElem_take, List.getD_eq_getElem?_getD, List.getElem?_eq_getElem (by omega)]
    rfl
theorem bulk_pos {H : Type} (d : DataW H) : 1 ≤ Rows.uptoBulk d := by
  cases d with
  | lit l => cases l <;> simp [Rows.uptoBulk]
  | nil => simp [Rows.uptoBulk]
  | ptr d => simp [Rows.uptoBulk]
  | slice elems spare => simp [Rows.uptoBulk]
  | agg parts => simp [Rows.uptoBulk]
  | iface t d => simp [Rows.uptoBulk]
  | map entries => simp [Rows.uptoBulk]
  | held h => simp [Rows.uptoBulk]
theorem bulk_length {H : Type} : ∀ l : List (DataW H), l.length ≤ Rows.uptoBulkAll l
  | [] => by simp
  | d :: r => by have := bulk_length r; have := bulk_pos d; simp only [Rows.uptoBulkAll, List.length_cons]; omega
theorem slice_form {H : Type} {enc : TypeId × Value → H} {P : Program} {w : World} {base : Nat} {spare : Nat → Bool} {held : Bool} {t e : TypeId} {fuel : Nat} {v : Value} {x : DataW H × List MemPlace} (ht : P.underlying t = some (.slice e)) (h : DataW.trod enc P w base spare held fuel t [v] = some x) :
    ∃ a len cap, v = .slice a len cap := by
  rcases DataW.trod_slice ht h with ⟨q, _⟩ | ⟨a, len, cap, _, _, _, _, q, _⟩
  · simp at q; exact ⟨none, 0, 0, q⟩
  · simp at q; exact ⟨some a, len, cap, q⟩
/-- A slice of bytes that came in, and how wide its datum is. -/
theorem open_wide {H : Type} {enc : TypeId × Value → H} {W : World} {a : Option Addr} {len cap fuel : Nat} {x : DataW H × List MemPlace}
    (h : DataW.trod enc Try.prog W 0 (fun _ => true) true fuel 22 [.slice a len cap] = some x) : (cap = 0) ∨ ∃ els sp, x.1 = .slice els sp ∧ els.length + sp.length = cap := by
  rcases open_ints Try.underlying22 Try.underlying5 Try.cells5 h with ⟨hcs, _⟩ | ⟨ad, l', c', zs, hcs, _, hl, hm, hz, hx, hcell, hwz⟩
  · simp at hcs
    exact .inl hcs.2.2
  · simp at hcs
    obtain ⟨rfl, rfl, rfl⟩ := hcs
    have hz' : zs.length = cap := by simpa using hz
    exact .inr ⟨_, _, by rw [hx], by simp [lits]; omega⟩
theorem Try.cells46 : Try.prog.cellsOf 46 = 9 := by kernel_rfl
theorem Try.cells4 : Try.prog.cellsOf 4 = 1 := by kernel_rfl
theorem Try.cells32 : Try.prog.cellsOf 32 = 2 := by kernel_rfl
theorem Try.cells24 : Try.prog.cellsOf 24 = 1 := by kernel_rfl
/-- A step that came in. -/
theorem open_op {H : Type} {enc : TypeId × Value → H} {W : World} {n : Nat} {cs : List Value} {x : DataW H × List MemPlace} (hlen : cs.length = 9) (h : DataW.trod enc Try.prog W 0 (fun _ => true) true n 46 cs = some x) :
    ∃ o : Opv, cs = o.cs.toList ∧ Reads W o.a o.n o.c o.l ∧ o.n ≤ Rows.uptoBulk x.1 := by
  obtain ⟨xs, m, _, hx, _, hxs, g⟩ := DataW.trod_struct Try.underlying46 h
  match cs, hlen with
  | [c0, c1, c2, c3, c4, c5, c6, c7, c8], _ =>
    match xs, hxs with
    | [y0, y1, y2, y3, y4, y5, y6, y7], _ =>
      have g0 : DataW.trod enc Try.prog W 0 (fun _ => true) true m 3 [c0] = some y0 := by have := g 0 _ rfl; simpa [Try.cells3] using this
      have g1 : DataW.trod enc Try.prog W 0 (fun _ => true) true m 3 [c1] = some y1 := by have := g 1 _ rfl; simpa [Try.cells3] using this
      have g2 : DataW.trod enc Try.prog W 0 (fun _ => true) true m 3 [c2] = some y2 := by have := g 2 _ rfl; simpa [Try.cells3] using this
      have g3 : DataW.trod enc Try.prog W 0 (fun _ => true) true m 22 [c3] = some y3 := by have := g 3 _ rfl; simpa [Try.cells22] using this
      have g4 : DataW.trod enc Try.prog W 0 (fun _ => true) true m 3 [c4] = some y4 := by have := g 4 _ rfl; simpa [Try.cells3] using this
      have g5 : DataW.trod enc Try.prog W 0 (fun _ => true) true m 4 [c5] = some y5 := by have := g 5 _ rfl; simpa [Try.cells4] using this
      obtain ⟨kd, e0, _, _⟩ := DataW.trod_int Try.underlying3 g0
      obtain ⟨D, e1, _, _⟩ := DataW.trod_int Try.underlying3 g1
      obtain ⟨sl, e2, _, _⟩ := DataW.trod_int Try.underlying3 g2
      obtain ⟨a, len, cap, rfl⟩ := slice_form Try.underlying22 g3
      obtain ⟨N, e4, _, _⟩ := DataW.trod_int Try.underlying3 g4
      obtain ⟨b, e5, _⟩ := DataW.trod_bool Try.underlying4 g5
      simp at e0 e1 e2 e4 e5
      subst e0 e1 e2 e4 e5
      obtain ⟨l, rd⟩ := open_bytes g3
      refine ⟨⟨kd, D, sl, a, len, cap, l, N, b, c6, c7, c8⟩, rfl, rd, ?_⟩
      rw [hx]
      simp only [List.map_cons, List.map_nil, Rows.uptoBulk, Rows.uptoBulkAll]
      have b3 : len ≤ Rows.uptoBulk y3.1 := by
        have hr := rd.room
        rcases open_wide g3 with z | ⟨els, sp, e, hl⟩
        · omega
        · rw [e]
          have l1 := bulk_length els
          have l2 := bulk_length sp
          simp only [Rows.uptoBulk]
          omega
      omega
theorem bulk_range {H : Type} (D : Nat → DataW H) (O : Nat → Opv) : ∀ n, (∀ i, i < n → (O i).n ≤ Rows.uptoBulk (D i)) → sumN ((List.range n).map O) ≤ Rows.uptoBulkAll ((List.range n).map D) := by
  have app : ∀ (l r : List (DataW H)), Rows.uptoBulkAll (l ++ r) = Rows.uptoBulkAll l + Rows.uptoBulkAll r := fun l r => by
    induction l with
    | nil => simp [Rows.uptoBulkAll]
    | cons d t ih => simp only [List.cons_append, Rows.uptoBulkAll, ih]; omega
  intro n
  induction n with
  | zero => intro _; simp [sumN]
  | succ n ih =>
    intro h
    have := ih (fun i hi => h i (by omega))
    have hn := h n (by omega)
    rw [List.range_succ, List.map_append, List.map_append, app]
    unfold sumN at this ⊢
    rw [List.map_append, List.sum_append]
    simp only [List.map_cons, List.map_nil, List.sum_cons, List.sum_nil, Rows.uptoBulkAll]
    omega
theorem open_script {H : Type} {enc : TypeId × Value → H} {W : World} {a : Option Addr} {len cap fuel : Nat} {x : DataW H × List MemPlace}
    (h : DataW.trod enc Try.prog W 0 (fun _ => true) true fuel 41 [.slice a len cap] = some x) : ∃ O, Script W a len cap O ∧ len ≤ Rows.uptoBulk x.1 ∧ sumN O ≤ Rows.uptoBulk x.1 := by
  rcases open_slice Try.underlying41 h with ⟨hcs, _⟩ | ⟨ad, l', c', m, n, D, Pl, hcs, _, hl, hm, hmm, hx, hel⟩
  · simp at hcs
    obtain ⟨rfl, rfl, rfl⟩ := hcs
    exact ⟨[], ⟨rfl, Nat.le_refl _, by unfold maxLen; omega, fun h => absurd h (by omega), fun _ h => absurd h (by simp)⟩, Nat.zero_le _, Nat.zero_le _⟩
  · simp at hcs
    obtain ⟨rfl, rfl, rfl⟩ := hcs
    have hmm : m = cap := by simpa using hmm
    rw [Try.cells46] at hel
    have : Inhabited Opv := ⟨⟨0, 0, 0, none, 0, 0, [], 0, false, .bool false, .bool false, .bool false⟩⟩
    obtain ⟨O, hO⟩ := choose_lt (n := len) (p := fun (i : Nat) (o : Opv) => (∀ j v, o.cs[j]? = some v → W.cell? ((ad.add (i * 9)).add j) = some v) ∧ Reads W o.a o.n o.c o.l ∧ o.n ≤ Rows.uptoBulk (D i)) (fun i hi => by
      obtain ⟨cs', h1, h2⟩ := hel i (by omega)
      obtain ⟨_, hlen, hc⟩ := World.cells?_some h1
      obtain ⟨o, e, r, hb⟩ := open_op hlen h2
      refine ⟨o, fun j v hv => ?_, r, hb⟩
      have hj : j < 9 := by
        have := (Array.getElem?_eq_some_iff.1 hv).1
        simpa [Opv.cs] using this
      rw [hc j (by omega)]
      subst e
      rw [← hv]
      simp [hlen, hj])
    refine ⟨(List.range len).map O, ⟨by simp, hl, hm, fun h0 => ?_, fun o ho => ?_⟩, ?_, ?_⟩
    · obtain ⟨b, off, spot⟩ := ad
      have h1 := (hO 0 h0).1 0 _ rfl
      have hs : spot = none := by
        have := World.cell?_spot h1
        simpa [Addr.add] using this
      subst hs
      refine ⟨b, off, rfl, fun i o ho j v hv => ?_⟩
      obtain ⟨hi, e⟩ := List.getElem?_eq_some_iff.1 ho
      have hi' : i < len := by simpa using hi
      have := (hO i hi').1 j v (by rw [show O i = o by simpa using e]; exact hv)
      rw [Addr.add_none, Addr.add_none] at this
      exact this
    · obtain ⟨i, hi, rfl⟩ := List.mem_map.1 ho
      exact (hO i (by simpa using hi)).2.1
    · rw [hx]
      have := bulk_length ((List.range len).map D)
      simp only [Rows.uptoBulk]
      simp only [List.length_map, List.length_range] at this
      omega
    · rw [hx]
      have := bulk_range D O len (fun i hi => (hO i hi).2.2)
      simp only [Rows.uptoBulk]
      omega
end Go.Proofs.Ytbnnmelkbjkkjaa

namespace Go.Proofs.Ytbnnmelkbjkkjaa
open Go.ChangeShapes Go.WideShapes Go.ChangeAt Go.RowKit Go.Deep

/-- The last three fields of a step, as they can be read. -/
def Opv.Rd (o : Opv) (W : World) : Prop := ∃ a0 n0 c0 l0 a1 n1 c1 l1 a2 n2 c2 ch, o.v0 = .slice a0 n0 c0 ∧ o.v1 = .slice a1 n1 c1 ∧ o.v2 = .slice a2 n2 c2 ∧ Reads W a0 n0 c0 l0 ∧ Reads W a1 n1 c1 l1 ∧ IRd W a2 n2 c2 ch
def vlen : Value → Nat
  | .slice _ n _ => n
  | _ => 0
def Opv.wt (o : Opv) : Nat := o.n + vlen o.v0 + vlen o.v1
def sumW (O : List Opv) : Nat := (O.map Opv.wt).sum
theorem sumN_le_sumW : ∀ O : List Opv, sumN O ≤ sumW O
  | [] => Nat.le_refl _
  | o :: O => by
    have := sumN_le_sumW O
    unfold sumN sumW at this ⊢
    simp only [List.map_cons, List.sum_cons]
    unfold Opv.wt at this ⊢
    omega
/-- A step that came in. -/
theorem open_op_all {H : Type} {enc : TypeId × Value → H} {W : World} {n : Nat} {cs : List Value} {x : DataW H × List MemPlace} (hlen : cs.length = 9) (h : DataW.trod enc Try.prog W 0 (fun _ => true) true n 46 cs = some x) :
    ∃ o : Opv, cs = o.cs.toList ∧ Reads W o.a o.n o.c o.l ∧ o.wt ≤ Rows.uptoBulk x.1 ∧ o.Rd W := by
  obtain ⟨xs, m, _, hx, _, hxs, g⟩ := DataW.trod_struct Try.underlying46 h
  match cs, hlen with
  | [c0, c1, c2, c3, c4, c5, c6, c7, c8], _ =>
    match xs, hxs with
    | [y0, y1, y2, y3, y4, y5, y6, y7], _ =>
      have g0 : DataW.trod enc Try.prog W 0 (fun _ => true) true m 3 [c0] = some y0 := by have := g 0 _ rfl; simpa [Try.cells3] using this
      have g1 : DataW.trod enc Try.prog W 0 (fun _ => true) true m 3 [c1] = some y1 := by have := g 1 _ rfl; simpa [Try.cells3] using this
      have g2 : DataW.trod enc Try.prog W 0 (fun _ => true) true m 3 [c2] = some y2 := by have := g 2 _ rfl; simpa [Try.cells3] using this
      have g3 : DataW.trod enc Try.prog W 0 (fun _ => true) true m 22 [c3] = some y3 := by have := g 3 _ rfl; simpa [Try.cells22] using this
      have g4 : DataW.trod enc Try.prog W 0 (fun _ => true) true m 3 [c4] = some y4 := by have := g 4 _ rfl; simpa [Try.cells3] using this
      have g5 : DataW.trod enc Try.prog W 0 (fun _ => true) true m 4 [c5] = some y5 := by have := g 5 _ rfl; simpa [Try.cells4] using this
      have g6 : DataW.trod enc Try.prog W 0 (fun _ => true) true m 32 [c6, c7] = some y6 := by have := g 6 _ rfl; simpa [Try.cells32] using this
      have g7 : DataW.trod enc Try.prog W 0 (fun _ => true) true m 24 [c8] = some y7 := by have := g 7 _ rfl; simpa [Try.cells24] using this
      obtain ⟨zs, m2, _, hz, _, hzl, gz⟩ := DataW.trod_array Try.underlying32 g6
      match zs, hzl with
      | [z0, z1], _ =>
      have h0 : DataW.trod enc Try.prog W 0 (fun _ => true) true m2 22 [c6] = some z0 := by have := gz 0 (by omega); simpa [Try.cells22] using this
      have h1 : DataW.trod enc Try.prog W 0 (fun _ => true) true m2 22 [c7] = some z1 := by have := gz 1 (by omega); simpa [Try.cells22] using this
      obtain ⟨a0, n0, k0, rfl⟩ := slice_form Try.underlying22 h0
      obtain ⟨a1, n1, k1, rfl⟩ := slice_form Try.underlying22 h1
      obtain ⟨a2, n2, k2, rfl⟩ := slice_form Try.underlying24 g7
      obtain ⟨l0, rd0⟩ := open_bytes h0
      obtain ⟨l1, rd1⟩ := open_bytes h1
      obtain ⟨ch, rdc⟩ := open_choices g7
      obtain ⟨kd, e0, _, _⟩ := DataW.trod_int Try.underlying3 g0
      obtain ⟨D, e1, _, _⟩ := DataW.trod_int Try.underlying3 g1
      obtain ⟨sl, e2, _, _⟩ := DataW.trod_int Try.underlying3 g2
      obtain ⟨a, len, cap, rfl⟩ := slice_form Try.underlying22 g3
      obtain ⟨N, e4, _, _⟩ := DataW.trod_int Try.underlying3 g4
      obtain ⟨b, e5, _⟩ := DataW.trod_bool Try.underlying4 g5
      simp at e0 e1 e2 e4 e5
      subst e0 e1 e2 e4 e5
      obtain ⟨l, rd⟩ := open_bytes g3
      refine ⟨⟨kd, D, sl, a, len, cap, l, N, b, .slice a0 n0 k0, .slice a1 n1 k1, .slice a2 n2 k2⟩, rfl, rd, ?_, ⟨a0, n0, k0, l0, a1, n1, k1, l1, a2, n2, k2, ch, rfl, rfl, rfl, rd0, rd1, rdc⟩⟩
      rw [hx]
      show len + n0 + n1 ≤ _
      simp only [List.map_cons, List.map_nil, Rows.uptoBulk, Rows.uptoBulkAll]
      have b6 : n0 + n1 ≤ Rows.uptoBulk y6.1 := by
        rw [hz]
        simp only [List.map_cons, List.map_nil, Rows.uptoBulk, Rows.uptoBulkAll]
        have q0 : n0 ≤ Rows.uptoBulk z0.1 := by
          have hr := rd0.room
          rcases open_wide h0 with z | ⟨els, sp, e, hl⟩
          · omega
          · rw [e]
            have l1 := bulk_length els
            have l2 := bulk_length sp
            simp only [Rows.uptoBulk]
            omega
        have q1 : n1 ≤ Rows.uptoBulk z1.1 := by
          have hr := rd1.room
          rcases open_wide h1 with z | ⟨els, sp, e, hl⟩
          · omega
          · rw [e]
            have l1 := bulk_length els
            have l2 := bulk_length sp
            simp only [Rows.uptoBulk]
            omega
        omega
      have b3 : len ≤ Rows.uptoBulk y3.1 := by
        have hr := rd.room
        rcases open_wide g3 with z | ⟨els, sp, e, hl⟩
        · omega
        · rw [e]
          have l1 := bulk_length els
          have l2 := bulk_length sp
          simp only [Rows.uptoBulk]
          omega
      omega
theorem bulk_range_all {H : Type} (D : Nat → DataW H) (O : Nat → Opv) : ∀ n, (∀ i, i < n → (O i).wt ≤ Rows.uptoBulk (D i)) → sumW ((List.range n).map O) ≤ Rows.uptoBulkAll ((List.range n).map D) := by
  have app : ∀ (l r : List (DataW H)), Rows.uptoBulkAll (l ++ r) = Rows.uptoBulkAll l + Rows.uptoBulkAll r := fun l r => by
    induction l with
    | nil => simp [Rows.uptoBulkAll]
    | cons d t ih => simp only [List.cons_append, Rows.uptoBulkAll, ih]; omega
  intro n
  induction n with
  | zero => intro _; simp [sumW]
  | succ n ih =>
    intro h
    have := ih (fun i hi => h i (by omega))
    have hn := h n (by omega)
    rw [List.range_succ, List.map_append, List.map_append, app]
    unfold sumW at this ⊢
    rw [List.map_append, List.sum_append]
    simp only [List.map_cons, List.map_nil, List.sum_cons, List.sum_nil, Rows.uptoBulkAll]
    omega
/-- A script that came in, with all that its steps hold. -/
theorem open_script_all {H : Type} {enc : TypeId × Value → H} {W : World} {a : Option Addr} {len cap fuel : Nat} {x : DataW H × List MemPlace}
    (h : DataW.trod enc Try.prog W 0 (fun _ => true) true fuel 41 [.slice a len cap] = some x) : ∃ O, Script W a len cap O ∧ len ≤ Rows.uptoBulk x.1 ∧ sumW O ≤ Rows.uptoBulk x.1 ∧ ∀ o ∈ O, o.Rd W := by
  rcases open_slice Try.underlying41 h with ⟨hcs, _⟩ | ⟨ad, l', c', m, n, D, Pl, hcs, _, hl, hm, hmm, hx, hel⟩
  · simp at hcs
    obtain ⟨rfl, rfl, rfl⟩ := hcs
    exact ⟨[], ⟨rfl, Nat.le_refl _, by unfold maxLen; omega, fun h => absurd h (by omega), fun _ h => absurd h (by simp)⟩, Nat.zero_le _, Nat.zero_le _, fun _ h => absurd h (by simp)⟩
  · simp at hcs
    obtain ⟨rfl, rfl, rfl⟩ := hcs
    have hmm : m = cap := by simpa using hmm
    rw [Try.cells46] at hel
    have : Inhabited Opv := ⟨⟨0, 0, 0, none, 0, 0, [], 0, false, .bool false, .bool false, .bool false⟩⟩
    obtain ⟨O, hO⟩ := choose_lt (n := len) (p := fun (i : Nat) (o : Opv) => (∀ j v, o.cs[j]? = some v → W.cell? ((ad.add (i * 9)).add j) = some v) ∧ Reads W o.a o.n o.c o.l ∧ o.wt ≤ Rows.uptoBulk (D i) ∧ o.Rd W) (fun i hi => by
      obtain ⟨cs', h1, h2⟩ := hel i (by omega)
      obtain ⟨_, hlen, hc⟩ := World.cells?_some h1
      obtain ⟨o, e, r, hb⟩ := open_op_all hlen h2
      refine ⟨o, fun j v hv => ?_, r, hb⟩
      have hj : j < 9 := by
        have := (Array.getElem?_eq_some_iff.1 hv).1
        simpa [Opv.cs] using this
      rw [hc j (by omega)]
      subst e
      rw [← hv]
      simp [hlen, hj])
    refine ⟨(List.range len).map O, ⟨by simp, hl, hm, fun h0 => ?_, fun o ho => ?_⟩, ?_, ?_, fun o ho => ?_⟩
    · obtain ⟨b, off, spot⟩ := ad
      have h1 := (hO 0 h0).1 0 _ rfl
      have hs : spot = none := by
        have := World.cell?_spot h1
        simpa [Addr.add] using this
      subst hs
      refine ⟨b, off, rfl, fun i o ho j v hv => ?_⟩
      obtain ⟨hi, e⟩ := List.getElem?_eq_some_iff.1 ho
      have hi' : i < len := by simpa using hi
      have := (hO i hi').1 j v (by rw [show O i = o by simpa using e]; exact hv)
      rw [Addr.add_none, Addr.add_none] at this
      exact this
    · obtain ⟨i, hi, rfl⟩ := List.mem_map.1 ho
      exact (hO i (by simpa using hi)).2.1
    · rw [hx]
      have := bulk_length ((List.range len).map D)
      simp only [Rows.uptoBulk]
      simp only [List.length_map, List.length_range] at this
      omega
    · rw [hx]
      have := bulk_range_all D O len (fun i hi => (hO i hi).2.2.1)
      simp only [Rows.uptoBulk]
      omega
    · obtain ⟨i, hi, rfl⟩ := List.mem_map.1 ho
      exact (hO i (by simpa using hi)).2.2.2
end Go.Proofs.Ytbnnmelkbjkkjaa
