import Derived.Test.YtbnnmelkbjkkjaaAllDJ
import Derived.Test.YtbnnmelkbjkkjaaRefO
import Derived.Test.YtbnnmelkbjkkjaaOpenAllJ
namespace Go.Proofs.Ytbnnmelkbjkkjaa
open Go.RowKit

theorem Try.info3z : (Try.prog.info? 3).map (fun i => (i.zero, i.size, i.bytes)) = some (some (.int .i64 0), 1, 8) := by kernel_rfl
def zcells (l : List Int) : List Value := l.map (fun x : Int => Value.int .i64 x)
theorem zcells_append (l m : List Int) : zcells (l ++ m) = zcells l ++ zcells m := by simp [zcells]
theorem zcells_length (l : List Int) : (zcells l).length = l.length := by simp [zcells]
theorem zcells_one (l : List Int) : ∀ u ∈ zcells l, u.oneCell' = true := fun u hu => by
  obtain ⟨_, _, rfl⟩ := List.mem_map.1 hu; rfl
theorem zcells_get (l : List Int) (i : Nat) : (zcells l)[i]? = (l[i]?).map (fun x : Int => Value.int .i64 x) := by simp [zcells]
theorem zcells_set (l : List Int) (i : Nat) (x : Int) : zcells (l.set i x) = (zcells l).set i (.int .i64 x) := by unfold zcells; rw [List.map_set]
theorem IRd.src {w : World} {q : Option Addr} {n c : Nat} {cs : List Int} (r : IRd w q n c cs) : Src Try.prog 1 24 (.slice q n c) n (zcells cs) w := by
  have hl := r.length
  have some_case : ∀ ad : Addr, (∀ j u, (zcells cs)[j]? = some u → w.cell? (ad.add j) = some u) → Src Try.prog 1 24 (.slice (some ad) n c) n (zcells cs) w := fun ad hn =>
    Src.ofSlice w Try.underlying24 ad n c (zcells cs) (by rw [zcells_length]; omega) hn (zcells_one cs)
  by_cases hm : 0 < n
  · obtain ⟨b, off, e, hc⟩ := r.cells hm
    subst e
    refine some_case _ fun j u hj => ?_
    rw [zcells_get] at hj
    cases hx : cs[j]? with
    | none => rw [hx] at hj; cases hj
    | some x =>
      rw [hx] at hj
      cases hj
      rw [Addr.add_none]
      exact hc j x hx
  · have h0 : n = 0 := by omega
    subst h0
    have hl : cs = [] := List.eq_nil_of_length_eq_zero r.length
    subst hl
    cases q with
    | some ad => exact some_case ad (fun j u hj => by simp [zcells] at hj)
    | none => exact Src.ofNil w Try.underlying24 c
theorem own_zlen {w : World} {base : Nat} {p : Option Addr} {m c : Nat} {l : List Int} (h : w.ownsRow base 3 1 (.slice p m c) m (zcells l)) : l.length = m := by have := h.1; rw [zcells_length] at this; omega
/-- The ints of an owned row. -/
theorem own_int {w : World} {base : Nat} {p : Option Addr} {m c : Nat} {l : List Int} (h : w.ownsRow base 3 1 (.slice p m c) m (zcells l)) (h0 : 0 < m) : ∃ g, p = some ⟨g, 0, none⟩ ∧ ∀ j x, l[j]? = some x → w.cell? ⟨g, j, none⟩ = some (.int .i64 x) ∧ w.frozen? ⟨g, j, none⟩ = false := by
  have hl := own_zlen h
  rcases h.2 with ⟨e0, e1⟩ | ⟨g, cap, cur, e0, _, hg, hn, hm, hs, ht⟩
  · omega
  · simp at e0
    obtain ⟨rfl, rfl⟩ := e0
    refine ⟨g, rfl, fun j x hx => ⟨?_, soft_blk hg j⟩⟩
    have hj := (List.getElem?_eq_some_iff.1 hx).1
    rw [cell_of_row w g j cur 3 (0, 0) hg]
    have e := zcells_get l j
    rw [hx, ← ht, List.getElem?_take_of_lt (by omega)] at e
    simpa using e
theorem own_ird {w : World} {base : Nat} {p : Option Addr} {m c : Nat} {l : List Int} (h : w.ownsRow base 3 1 (.slice p m c) m (zcells l)) (k : Nat) (hk : k ≤ m) (hf : ∀ x ∈ l.take k, -9223372036854775808 ≤ x ∧ x < 9223372036854775808) : IRd w p k c (l.take k) := by
  have hl := own_zlen h
  have hr := own_room h
  refine ⟨by rw [List.length_take]; omega, by omega, hr.2, hf, fun h0 => ?_⟩
  obtain ⟨g, e, hc⟩ := own_int h (by omega)
  refine ⟨g, 0, e, fun i x hx => ?_⟩
  rw [Nat.zero_add]
  have hi := (List.getElem?_eq_some_iff.1 hx).1
  rw [List.length_take] at hi
  rw [List.getElem?_take_of_lt (by omega)] at hx
  exact (hc i x hx).1
theorem own_zset {w : World} {base g m c : Nat} {l : List Int} (h : w.ownsRow base 3 1 (.slice (some ⟨g, 0, none⟩) m c) m (zcells l)) (i : Nat) (x : Int) : (w.setCell ⟨g, i, none⟩ (.int .i64 x)).ownsRow base 3 1 (.slice (some ⟨g, 0, none⟩) m c) m (zcells (l.set i x)) := by rw [zcells_set]; exact owns_set h i _
/-- Crash, of the first pair's disk: what is found is held beside. -/
theorem alCrashP (w wr : World) (x : Pr) (L : List Pr) (S : Nat → Prop) (q : Option Addr) (n c : Nat) (cs : List Int) (h : AL w wr (x :: L) S) (ok : x.d.ab.Ok) (r : IRd wr q n c cs) (hq : 0 < n → ∀ k, blockOf q = some k → k ≠ x.bp) :
    Calls Try.prog 14 #[.pointer (some ⟨x.bp, 0, none⟩), .slice q n c] wr fun y w' => ∃ F df, y = .returned (.pointer (some ⟨F, 0, none⟩)) ∧ df.ab = x.d.ab.crash cs ∧ IsD w.heap.size w' F df ∧ AL w w' ({ x with d := { x.d with dead := true } } :: L) (fun k => S k ∨ df.Uses F k) ∧ Kept (fun k => ¬ S k) wr w' ∧ (∀ k, df.Uses F k → wr.heap.size ≤ k) := by
  refine (dCrash w.heap.size x.bp x.d q n c cs wr (h.isd x (by simp)) ok r hq).mono ?_
  rintro y w' ⟨df, rfl, i1, i2, i3, K, hu⟩
  have m : DM wr w' x.bp x.d { x.d with dead := true } := ⟨K.mono (fun k _ z => .inl z), fun k hk => .inl hk, fun k hk => .inl hk⟩
  obtain ⟨q1, q2⟩ := h.stepP (d' := { x.d with dead := true }) i1 m
  have i2' := i2.mono h.kept.size
  refine ⟨_, df, rfl, i3, i2', ⟨q1.isd, q1.isr, q1.two, q1.apart, fun k hk => ?_, q1.kept⟩, q2, hu⟩
  rcases hk with z | z
  · exact q1.far k z
  · refine ⟨i2.lt z, by have := hu k z; have := h.kept.size; omega, fun y hy u => ?_⟩
    have hlt : k < wr.heap.size := by
      rcases List.mem_cons.1 hy with e | e
      · rw [e] at u
        exact h.lt (x := x) (by simp) u
      · exact h.lt (List.mem_cons_of_mem _ e) u
    have := hu k z
    omega
theorem alCrashR (w wr : World) (x : Pr) (L : List Pr) (S : Nat → Prop) (q : Option Addr) (n c : Nat) (cs : List Int) (h : AL w wr (x :: L) S) (ok : x.r.ab.Ok) (r : IRd wr q n c cs) (hq : 0 < n → ∀ k, blockOf q = some k → k ≠ x.br) :
    Calls Try.prog 49 #[.pointer (some ⟨x.br, 0, none⟩), .slice q n c] wr fun y w' => ∃ G rf, y = .returned (.pointer (some ⟨G, 0, none⟩)) ∧ rf.ab = x.r.ab.crash cs ∧ IsR w.heap.size w' G rf ∧ AL w w' ({ x with r := { x.r with dead := true } } :: L) S ∧ Kept (fun k => ¬ S k) wr w' ∧ (∀ k, rf.Uses G k → wr.heap.size ≤ k) := by
  refine (rCrash w.heap.size x.br x.r q n c cs wr (h.isr x (by simp)) ok r hq).mono ?_
  rintro y w' ⟨rf, rfl, i1, i2, i3, K, hu⟩
  have m : RM wr w' x.br x.r { x.r with dead := true } := ⟨K.mono (fun k _ z => .inl z), fun k hk => .inl hk, fun k hk => .inl hk⟩
  obtain ⟨q1, q2⟩ := h.stepR (r' := { x.r with dead := true }) i1 m
  exact ⟨_, rf, rfl, i3, i2.mono h.kept.size, q1, q2, hu⟩
/-- A pair that was held beside is one of them. -/
theorem AL.join {w wr : World} {L : List Pr} {S S' : Nat → Prop} {x : Pr} (h : AL w wr L S) (i1 : IsD w.heap.size wr x.bp x.d) (i2 : IsR w.heap.size wr x.br x.r) (h2 : ∀ k, x.d.Uses x.bp k → ¬ x.r.Uses x.br k) (new : ∀ k, x.Uses k → ∀ y ∈ L, ¬ y.Uses k) (hs : ∀ k, S' k → S k ∧ ¬ x.Uses k) : AL w wr (x :: L) S' := by
  refine ⟨fun y hy => ?_, fun y hy => ?_, fun y hy => ?_, List.pairwise_cons.2 ⟨fun y hy k a b => new k a y hy b, h.apart⟩, fun k hk => ⟨(h.far k (hs k hk).1).1, (h.far k (hs k hk).1).2.1, fun y hy u => ?_⟩, h.kept⟩
  · rcases List.mem_cons.1 hy with e | e
    · rw [e]; exact i1
    · exact h.isd y e
  · rcases List.mem_cons.1 hy with e | e
    · rw [e]; exact i2
    · exact h.isr y e
  · rcases List.mem_cons.1 hy with e | e
    · rw [e]; exact h2
    · exact h.two y e
  · rcases List.mem_cons.1 hy with e | e
    · rw [e] at u; exact (hs k hk).2 u
    · exact (h.far k (hs k hk).1).2.2 y e u
end Go.Proofs.Ytbnnmelkbjkkjaa

namespace Go.Proofs.Ytbnnmelkbjkkjaa
open Go.ChangeShapes Go.WideShapes Go.ChangeAt Go.RowKit Go.Deep

theorem open_wide24 {H : Type} {enc : TypeId × Value → H} {W : World} {a : Option Addr} {len cap fuel : Nat} {x : DataW H × List MemPlace}
    (h : DataW.trod enc Try.prog W 0 (fun _ => true) true fuel 24 [.slice a len cap] = some x) : (cap = 0) ∨ ∃ els sp, x.1 = .slice els sp ∧ els.length + sp.length = cap := by
  rcases open_ints Try.underlying24 Try.underlying3 Try.cells3 h with ⟨hcs, _⟩ | ⟨ad, l', c', zs, hcs, _, hl, hm, hz, hx, hcell, hwz⟩
  · simp at hcs
    exact .inl hcs.2.2
  · simp at hcs
    obtain ⟨rfl, rfl, rfl⟩ := hcs
    have hz' : zs.length = cap := by simpa using hz
    exact .inr ⟨_, _, by rw [hx], by simp [lits]; omega⟩
def Opv.wh (o : Opv) : Nat := o.n + vlen o.v0 + vlen o.v1 + vlen o.v2
def sumH (O : List Opv) : Nat := (O.map Opv.wh).sum
theorem sumH_take {O : List Opv} {i : Nat} {o : Opv} (h : O[i]? = some o) : sumH (O.take (i + 1)) = sumH (O.take i) + o.wh := by
  obtain ⟨hl, e⟩ := List.getElem?_eq_some_iff.1 h
  unfold sumH
  rw [List.take_succ_eq_append_getElem hl, e]
  simp
theorem sumH_le (O : List Opv) (i : Nat) : sumH (O.take i) ≤ sumH O := by
  have : sumH O = sumH (O.take i) + sumH (O.drop i) := by
    unfold sumH
    rw [← List.sum_append, ← List.map_append, List.take_append_drop]
  omega
/-- A step that came in. -/
theorem open_op_more {H : Type} {enc : TypeId × Value → H} {W : World} {n : Nat} {cs : List Value} {x : DataW H × List MemPlace} (hlen : cs.length = 9) (h : DataW.trod enc Try.prog W 0 (fun _ => true) true n 46 cs = some x) :
    ∃ o : Opv, cs = o.cs.toList ∧ Reads W o.a o.n o.c o.l ∧ o.wh ≤ Rows.uptoBulk x.1 ∧ o.Rd W ∧ -9223372036854775808 ≤ o.N ∧ o.N < 9223372036854775808 := by
  obtain ⟨xs, m, _, hx, _, hxs, g⟩ := DataW.trod_struct Try.underlying46 h
  match cs, hlen with
  | [c0, c1, c2, c3, c4, c5, c6, c7, c8], _ =>
    match xs, hxs with
    | [y0, y1, y2, y3, y4, y5, y6, y7], _ =>
      have g0 : DataW.trod enc Try.prog W 0 (fun _ => true) true m 3 [c0] = some y0 := by have := g 0 _ rfl; simpa [Try.cells3] using this
      have g1 : DataW.trod enc Try.prog W 0 (fun _ => true) true m 3 [c1] = some y1 := by have := g 1 _ rfl; simpa [Try.cells3] using this
      have g2 : DataW.trod enc Try.prog W 0 (fun _ => true) true m 3 [c2] = some y2 := by have := g 2 _ rfl; simpa [Try.cells3] using this
      have g3 : DataW.trod enc Try.prog W 0 (fun _ => true) true m 22 [c3] = some y3 := by have := g 3 _ rfl; simpa [Try.cells22] using this
      have g4 : DataW.trod enc Try.prog W 0 (fun _ => true) true m 3 [c4] = some y4 := by have := g 4 _ rfl; simpa [Try.cells3] using this
      have g5 : DataW.trod enc Try.prog W 0 (fun _ => true) true m 4 [c5] = some y5 := by have := g 5 _ rfl; simpa [Try.cells4] using this
      have g6 : DataW.trod enc Try.prog W 0 (fun _ => true) true m 32 [c6, c7] = some y6 := by have := g 6 _ rfl; simpa [Try.cells32] using this
      have g7 : DataW.trod enc Try.prog W 0 (fun _ => true) true m 24 [c8] = some y7 := by have := g 7 _ rfl; simpa [Try.cells24] using this
      obtain ⟨zs, m2, _, hz, _, hzl, gz⟩ := DataW.trod_array Try.underlying32 g6
      match zs, hzl with
      | [z0, z1], _ =>
      have h0 : DataW.trod enc Try.prog W 0 (fun _ => true) true m2 22 [c6] = some z0 := by have := gz 0 (by omega); simpa [Try.cells22] using this
      have h1 : DataW.trod enc Try.prog W 0 (fun _ => true) true m2 22 [c7] = some z1 := by have := gz 1 (by omega); simpa [Try.cells22] using this
      obtain ⟨a0, n0, k0, rfl⟩ := slice_form Try.underlying22 h0
      obtain ⟨a1, n1, k1, rfl⟩ := slice_form Try.underlying22 h1
      obtain ⟨a2, n2, k2, rfl⟩ := slice_form Try.underlying24 g7
      obtain ⟨l0, rd0⟩ := open_bytes h0
      obtain ⟨l1, rd1⟩ := open_bytes h1
      obtain ⟨ch, rdc⟩ := open_choices g7
      obtain ⟨kd, e0, _, _⟩ := DataW.trod_int Try.underlying3 g0
      obtain ⟨D, e1, _, _⟩ := DataW.trod_int Try.underlying3 g1
      obtain ⟨sl, e2, _, _⟩ := DataW.trod_int Try.underlying3 g2
      obtain ⟨a, len, cap, rfl⟩ := slice_form Try.underlying22 g3
      obtain ⟨N, e4, _, wfN⟩ := DataW.trod_int Try.underlying3 g4
      obtain ⟨b, e5, _⟩ := DataW.trod_bool Try.underlying4 g5
      simp at e0 e1 e2 e4 e5
      subst e0 e1 e2 e4 e5
      obtain ⟨l, rd⟩ := open_bytes g3
      refine ⟨⟨kd, D, sl, a, len, cap, l, N, b, .slice a0 n0 k0, .slice a1 n1 k1, .slice a2 n2 k2⟩, rfl, rd, ?_, ⟨a0, n0, k0, l0, a1, n1, k1, l1, a2, n2, k2, ch, rfl, rfl, rfl, rd0, rd1, rdc⟩, fit_i64 wfN⟩
      rw [hx]
      show len + n0 + n1 + n2 ≤ _
      simp only [List.map_cons, List.map_nil, Rows.uptoBulk, Rows.uptoBulkAll]
      have b6 : n0 + n1 ≤ Rows.uptoBulk y6.1 := by
        rw [hz]
        simp only [List.map_cons, List.map_nil, Rows.uptoBulk, Rows.uptoBulkAll]
        have q0 : n0 ≤ Rows.uptoBulk z0.1 := by
          have hr := rd0.room
          rcases open_wide h0 with z | ⟨els, sp, e, hl⟩
          · omega
          · rw [e]
            have l1 := bulk_length els
            have l2 := bulk_length sp
            simp only [Rows.uptoBulk]
            omega
        have q1 : n1 ≤ Rows.uptoBulk z1.1 := by
          have hr := rd1.room
          rcases open_wide h1 with z | ⟨els, sp, e, hl⟩
          · omega
          · rw [e]
            have l1 := bulk_length els
            have l2 := bulk_length sp
            simp only [Rows.uptoBulk]
            omega
        omega
      have b7 : n2 ≤ Rows.uptoBulk y7.1 := by
        have hr := rdc.room
        rcases open_wide24 g7 with z | ⟨els, sp, e, hl⟩
        · omega
        · rw [e]
          have l1 := bulk_length els
          have l2 := bulk_length sp
          simp only [Rows.uptoBulk]
          omega
      have b3 : len ≤ Rows.uptoBulk y3.1 := by
        have hr := rd.room
        rcases open_wide g3 with z | ⟨els, sp, e, hl⟩
        · omega
        · rw [e]
          have l1 := bulk_length els
          have l2 := bulk_length sp
          simp only [Rows.uptoBulk]
          omega
      omega
theorem bulk_range_more {H : Type} (D : Nat → DataW H) (O : Nat → Opv) : ∀ n, (∀ i, i < n → (O i).wh ≤ Rows.uptoBulk (D i)) → sumH ((List.range n).map O) ≤ Rows.uptoBulkAll ((List.range n).map D) := by
  have app : ∀ (l r : List (DataW H)), Rows.uptoBulkAll (l ++ r) = Rows.uptoBulkAll l + Rows.uptoBulkAll r := fun l r => by
    induction l with
    | nil => simp [Rows.uptoBulkAll]
    | cons d t ih => simp only [List.cons_append, Rows.uptoBulkAll, ih]; omega
  intro n
  induction n with
  | zero => intro _; simp [sumH]
  | succ n ih =>
    intro h
    have := ih (fun i hi => h i (by omega))
    have hn := h n (by omega)
    rw [List.range_succ, List.map_append, List.map_append, app]
    unfold sumH at this ⊢
    rw [List.map_append, List.sum_append]
    simp only [List.map_cons, List.map_nil, List.sum_cons, List.sum_nil, Rows.uptoBulkAll]
    omega
/-- A script that came in, with all that its steps hold. -/
theorem open_script_more {H : Type} {enc : TypeId × Value → H} {W : World} {a : Option Addr} {len cap fuel : Nat} {x : DataW H × List MemPlace}
    (h : DataW.trod enc Try.prog W 0 (fun _ => true) true fuel 41 [.slice a len cap] = some x) : ∃ O, Script W a len cap O ∧ len ≤ Rows.uptoBulk x.1 ∧ sumH O ≤ Rows.uptoBulk x.1 ∧ ∀ o ∈ O, o.Rd W ∧ -9223372036854775808 ≤ o.N ∧ o.N < 9223372036854775808 := by
  rcases open_slice Try.underlying41 h with ⟨hcs, _⟩ | ⟨ad, l', c', m, n, D, Pl, hcs, _, hl, hm, hmm, hx, hel⟩
  · simp at hcs
    obtain ⟨rfl, rfl, rfl⟩ := hcs
    exact ⟨[], ⟨rfl, Nat.le_refl _, by unfold maxLen; omega, fun h => absurd h (by omega), fun _ h => absurd h (by simp)⟩, Nat.zero_le _, Nat.zero_le _, fun _ h => absurd h (by simp)⟩
  · simp at hcs
    obtain ⟨rfl, rfl, rfl⟩ := hcs
    have hmm : m = cap := by simpa using hmm
    rw [Try.cells46] at hel
    have : Inhabited Opv := ⟨⟨0, 0, 0, none, 0, 0, [], 0, false, .bool false, .bool false, .bool false⟩⟩
    obtain ⟨O, hO⟩ := choose_lt (n := len) (p := fun (i : Nat) (o : Opv) => (∀ j v, o.cs[j]? = some v → W.cell? ((ad.add (i * 9)).add j) = some v) ∧ Reads W o.a o.n o.c o.l ∧ o.wh ≤ Rows.uptoBulk (D i) ∧ o.Rd W ∧ -9223372036854775808 ≤ o.N ∧ o.N < 9223372036854775808) (fun i hi => by
      obtain ⟨cs', h1, h2⟩ := hel i (by omega)
      obtain ⟨_, hlen, hc⟩ := World.cells?_some h1
      obtain ⟨o, e, r, hb⟩ := open_op_more hlen h2
      refine ⟨o, fun j v hv => ?_, r, hb⟩
      have hj : j < 9 := by
        have := (Array.getElem?_eq_some_iff.1 hv).1
        simpa [Opv.cs] using this
      rw [hc j (by omega)]
      subst e
      rw [← hv]
      simp [hlen, hj])
    refine ⟨(List.range len).map O, ⟨by simp, hl, hm, fun h0 => ?_, fun o ho => ?_⟩, ?_, ?_, fun o ho => ?_⟩
    · obtain ⟨b, off, spot⟩ := ad
      have h1 := (hO 0 h0).1 0 _ rfl
      have hs : spot = none := by
        have := World.cell?_spot h1
        simpa [Addr.add] using this
      subst hs
      refine ⟨b, off, rfl, fun i o ho j v hv => ?_⟩
      obtain ⟨hi, e⟩ := List.getElem?_eq_some_iff.1 ho
      have hi' : i < len := by simpa using hi
      have := (hO i hi').1 j v (by rw [show O i = o by simpa using e]; exact hv)
      rw [Addr.add_none, Addr.add_none] at this
      exact this
    · obtain ⟨i, hi, rfl⟩ := List.mem_map.1 ho
      exact (hO i (by simpa using hi)).2.1
    · rw [hx]
      have := bulk_length ((List.range len).map D)
      simp only [Rows.uptoBulk]
      simp only [List.length_map, List.length_range] at this
      omega
    · rw [hx]
      have := bulk_range_more D O len (fun i hi => (hO i hi).2.2.1)
      simp only [Rows.uptoBulk]
      omega
    · obtain ⟨i, hi, rfl⟩ := List.mem_map.1 ho
      exact (hO i (by simpa using hi)).2.2.2
end Go.Proofs.Ytbnnmelkbjkkjaa
