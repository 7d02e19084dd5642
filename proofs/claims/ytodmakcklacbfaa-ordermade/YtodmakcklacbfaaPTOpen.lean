import Derived.Test.YtodmakcklacbfaaPOpen
import Derived.Test.YtodmakcklacbfaaPTime
namespace Go.Proofs.Ytodmakcklacbfaa
open Go.RowKit Go.ChangeShapes Go.WideShapes Go.ChangeAt Go.Deep

theorem Try.cw22 : Try.prog.cellsOf 22 = 1 := by kernel_rfl
theorem Try.cw23 : Try.prog.cellsOf 23 = 1 := by kernel_rfl
theorem Try.cw25 : Try.prog.cellsOf 25 = 4 := by kernel_rfl
theorem array4 {α : Type} {cs : Array α} (h : cs.size = 4) : ∃ c0 c1 c2 c3, cs = #[c0, c1, c2, c3] := by
  obtain ⟨l⟩ := cs
  match l, h with
  | [c0, c1, c2, c3], _ => exact ⟨c0, c1, c2, c3, rfl⟩
set_option maxRecDepth 100000 in
/-- A list of lists of bytes that came in, with their sizes. -/
theorem open_valsw {H : Type} {enc : TypeId × Value → H} {W : World} {a : Option Addr} {len cap fuel : Nat} {x : DataW H × List MemPlace}
    (h : DataW.trod enc Try.prog W 0 (fun _ => true) true fuel 23 [.slice a len cap] = some x) (hw : ∀ t ∈ x.1.weights Try.prog 23, t ≤ reachBytes) : ∃ vs, VRd W a len cap vs ∧ ∀ y ∈ vs, y.2.1 + 1 ≤ 140737488355328 := by
  rcases open_slice Try.underlying23 h with ⟨hcs, _⟩ | ⟨ad, l', c', m, n, D, Pl, hcs, _, hl, hm, hmm, hx, hel⟩
  · simp at hcs
    obtain ⟨rfl, rfl, rfl⟩ := hcs
    exact ⟨[], ⟨rfl, Nat.le_refl _, by unfold maxLen; omega, fun q => absurd q (by omega), fun _ h => absurd h (by simp)⟩, fun _ h => absurd h (by simp)⟩
  · simp at hcs
    obtain ⟨rfl, rfl, rfl⟩ := hcs
    have hmm : m = cap := by simpa using hmm
    rw [Try.cw36] at hel
    have hw1 : ∀ i, i < len → ∀ t ∈ (D i).weights Try.prog 36, t ≤ reachBytes := fun i hi t ht => hw t (by
      rw [hx]
      simp only [DataW.weights, Try.underlying23]
      have : t ∈ DataW.weightsAll Try.prog 36 ((List.range len).map D) := weights_allw (List.mem_map.2 ⟨i, List.mem_range.2 hi, rfl⟩) t ht
      simp [this])
    haveI : Inhabited (Option Addr × Nat × Nat × List Nat) := ⟨(none, 0, 0, [])⟩
    obtain ⟨O, hO⟩ := choose_lt (n := len) (p := fun i (o : Option Addr × Nat × Nat × List Nat) => W.cell? (ad.add (i * 1)) = some (.slice o.1 o.2.1 o.2.2.1) ∧ Reads W o.1 o.2.1 o.2.2.1 o.2.2.2 ∧ o.2.1 + 1 ≤ 140737488355328) (fun i hi => by
      obtain ⟨cs', h1, h2⟩ := hel i (by omega)
      obtain ⟨_, hlen, hc⟩ := World.cells?_some h1
      match cs', hlen with
      | [v], _ =>
        obtain ⟨a', len', cap', rfl⟩ := slice_formw Try.underlying36 h2
        obtain ⟨l, rd⟩ := open_bytesw h2
        have c0 : W.cell? ((ad.add (i * 1)).add 0) = some (.slice a' len' cap') := hc 0 (by omega)
        refine ⟨(a', len', cap', l), by simpa [Addr.add] using c0, rd, ?_⟩
        have hr := rd.room
        show len' + 1 ≤ 140737488355328
        rcases open_widew h2 with z | ⟨els, sp, e, hl2⟩
        · omega
        · have hm2 : (els.length + sp.length) * Try.prog.bytesOf 5 ∈ (D i).weights Try.prog 36 := by
            have e : D i = .slice els sp := e
            rw [e]
            simp [DataW.weights, Try.underlying36]
          have := hw1 i hi _ hm2
          rw [Try.bw5] at this
          simp only [reachBytes] at this
          omega)
    refine ⟨(List.range len).map O, ⟨by simp, hl, hm, fun h0 => ?_, fun s hs => ?_⟩, fun s hs => ?_⟩
    · obtain ⟨b, off, spot⟩ := ad
      have h1 := (hO 0 h0).1
      have hs : spot = none := by
        have := World.cell?_spot h1
        simpa [Addr.add] using this
      subst hs
      refine ⟨b, off, rfl, fun i y hy => ?_⟩
      have hi : i < len := by
        have := (List.getElem?_eq_some_iff.1 hy).1
        simpa using this
      have := (hO i hi).1
      rw [Addr.add_none, Nat.mul_one] at this
      rw [List.getElem?_map, List.getElem?_range hi] at hy
      have hy : O i = y := Option.some.inj hy
      rw [← hy]
      exact this
    · obtain ⟨i, hi, rfl⟩ := List.mem_map.1 hs
      exact (hO i (by simpa using hi)).2.1
    · obtain ⟨i, hi, rfl⟩ := List.mem_map.1 hs
      exact (hO i (by simpa using hi)).2.2
set_option maxRecDepth 100000 in
/-- What a history is made of, that came in. -/
theorem open_made {H : Type} {enc : TypeId × Value → H} {W : World} {r : Reach} {b0 : Nat} {va : Value} {d : DataW H} {p : List MemPlace} (hv : Value.okWide Try.prog W r b0 25 va) (h : DataW.Trod enc Try.prog W 0 (fun _ => true) true 25 va d p) (hw : ∀ t ∈ d.weights Try.prog 25, t ≤ reachBytes) :
    ∃ (v : Md) (pw : Option Addr) (nw cw : Nat) (pv : Option Addr) (nv cv : Nat) (pr : Option Addr) (nr cr : Nat) (po : Option Addr) (no co : Nat), va = .agg #[.slice pw nw cw, .slice pv nv cv, .slice pr nr cr, .slice po no co] ∧ MdR W v pw nw cw pv nv cv pr nr cr po no co ∧ ∀ y ∈ v.vals, y.2.1 + 1 ≤ 140737488355328 := by
  obtain ⟨cs, rfl, hsz⟩ := okWide_struct Try.underlying25 hv
  obtain ⟨c0, c1, c2, c3, rfl⟩ := array4 (hsz.trans Try.cw25)
  obtain ⟨fuel, hf⟩ := h
  obtain ⟨xs, m, _, hx, _, hxs, g⟩ := DataW.trod_struct Try.underlying25 hf
  match xs, hxs with
  | [y0, y1, y2, y3], _ =>
    have g0 : DataW.trod enc Try.prog W 0 (fun _ => true) true m 22 [c0] = some y0 := by have := g 0 _ rfl; simpa [Value.cells, Try.cw22, Try.cw23] using this
    have g1 : DataW.trod enc Try.prog W 0 (fun _ => true) true m 23 [c1] = some y1 := by have := g 1 _ rfl; simpa [Value.cells, Try.cw22, Try.cw23] using this
    have g2 : DataW.trod enc Try.prog W 0 (fun _ => true) true m 22 [c2] = some y2 := by have := g 2 _ rfl; simpa [Value.cells, Try.cw22, Try.cw23] using this
    have g3 : DataW.trod enc Try.prog W 0 (fun _ => true) true m 22 [c3] = some y3 := by have := g 3 _ rfl; simpa [Value.cells, Try.cw22, Try.cw23] using this
    obtain ⟨pw, nw, cw, rfl⟩ := slice_formw Try.underlying22 g0
    obtain ⟨pv, nv, cv, rfl⟩ := slice_formw Try.underlying23 g1
    obtain ⟨pr, nr, cr, rfl⟩ := slice_formw Try.underlying22 g2
    obtain ⟨po, no, co, rfl⟩ := slice_formw Try.underlying22 g3
    obtain ⟨w1, r1⟩ := open_nums g0
    obtain ⟨w3, r3⟩ := open_nums g2
    obtain ⟨w4, r4⟩ := open_nums g3
    obtain ⟨w2, r2, z2⟩ := open_valsw g1 (fun t ht => hw t (by
      have hx : d = _ := congrArg Prod.fst hx
      rw [hx]
      simp only [DataW.weights, Try.underlying25]
      exact DataW.weights_mem_each (j := 1) (t := 23) (d := y1.1) rfl rfl t ht))
    exact ⟨⟨w1, w2, w3, w4⟩, pw, nw, cw, pv, nv, cv, pr, nr, cr, po, no, co, rfl, ⟨r1, r2, r3, r4⟩, z2⟩
set_option maxRecDepth 100000 in
theorem time_lifted (walk : ∀ (w : World) (v : Md) (pw : Option Addr) (nw cw : Nat) (pv : Option Addr) (nv cv : Nat) (pr : Option Addr) (nr cr : Nat) (po : Option Addr) (no co : Nat) (a : Int), MdR w v pw nw cw pv nv cv pr nr cr po no co → Calls Try.prog 4 #[.agg #[.slice pw nw cw, .slice pv nv cv, .slice pr nr cr, .slice po no co], .int .i64 a] w fun o w' => o = .returned (.bool true) ∧ Kept (fun _ => False) w w') (os : Os) (started : os.Started) (H : Type) (enc : TypeId × Value → H) :
    ReturnsInHanded {} Try.checked os 4 .any (Rows.orderTimeSpec.pre6 enc Try.prog Try.f4 Rows.orderTimeRow.domain false) (Rows.orderTimeSpec.post enc Try.prog Try.f4 false true false false) := by
  refine returnsInHanded_of_change_sized (C := Try.checked) Try.ownr started (by kernel_rfl) Try.func4
    (ChangeSpec.witness6 (enc := enc) (C := Try.checked) false ⟨#[], #[.agg #[.slice none 0 0, .slice none 0 0, .slice none 0 0, .slice none 0 0], .int .i64 0], []⟩ 8 (by kernel_rfl) (by kernel_rfl) (by kernel_rfl) (by kernel_rfl)) ?_
  intro W base args ds gs before hval0 hW _ hsz0 _
  have hval : ∀ (j : Nat) t v, Try.f4.params[j]? = some t → args[j]? = some v → Value.okWide Try.prog W .any base t v := hval0
  have hsz : (DataW.weightsEach Try.prog (Try.f4.params.toList ++ Rows.orderTimeSpec.plain.varTypes Try.prog) (ds ++ gs)).all (· ≤ reachBytes) = true := hsz0
  have hW' := hW
  obtain ⟨p, q, hA0, hV, rfl, _, _⟩ := hW
  have hA : DataW.TrodAll enc Try.prog W 0 (fun _ => true) true Try.f4.params.toList args.toList ds p := hA0
  rw [Try.params4] at hA hval hsz
  obtain ⟨v1, v2, d1, d2, p1, p2, rfl, rfl, rfl, h1, h2⟩ := trodAll_two hA
  obtain ⟨rfl, rfl⟩ := trodVars_none hV
  have k1 := h1
  have k2 := h2
  have lt1 : ∀ x ∈ p1, x.block < W.heap.size := by obtain ⟨m, hm⟩ := k1; exact DataW.trod_lt m _ _ _ hm
  have lt2 : ∀ x ∈ p2, x.block < W.heap.size := by obtain ⟨m, hm⟩ := k2; exact DataW.trod_lt m _ _ _ hm
  obtain ⟨v, pw, nw, cw, pv, nv, cv, pr, nr, cr, po, no, co, rfl, R, z1⟩ := open_made (hval 0 25 v1 rfl rfl) h1 (fun t ht => all_memw hsz (DataW.weights_mem_each (j := 0) (t := 25) (d := d1) rfl rfl t ht))
  obtain ⟨a, rfl⟩ := okWide_int Try.underlying3 (hval 1 3 v2 rfl rfl)
  clear hA0 hval0 hsz0 hsz
  refine (walk W v pw nw cw pv nv cv pr nr cr po no co a R).mono fun e W' ⟨he, K⟩ => ?_
  have bel := kept_belowr K
  subst he
  exact ⟨_, rfl, _, _, _, [], _, [], hW', trodAll_mk1 (shut_bool Try.underlying4 _), (trodAll_cons_mk (Below.trod Try.laidOutr (by kernel_rfl) (of_decide_eq_true (by kernel_rfl)) k1 bel lt1) (trodAll_cons_mk (Below.trod Try.laidOutr (by kernel_rfl) (of_decide_eq_true (by kernel_rfl)) k2 bel lt2) trodAll_mk0)), rfl, bel.frame _, fun h => by cases h⟩
theorem time_of (walk : ∀ (w : World) (v : Md) (pw : Option Addr) (nw cw : Nat) (pv : Option Addr) (nv cv : Nat) (pr : Option Addr) (nr cr : Nat) (po : Option Addr) (no co : Nat) (a : Int), MdR w v pw nw cw pv nv cv pr nr cr po no co → Calls Try.prog 4 #[.agg #[.slice pw nw cw, .slice pv nv cv, .slice pr nr cr, .slice po no co], .int .i64 a] w fun o w' => o = .returned (.bool true) ∧ Kept (fun _ => False) w w') : Rows.OrderTimeSaid :=
  OpenClaim.holds_of_wide 4 Try.f4 rfl rfl rfl rfl rfl rfl rfl ⟨rfl, rfl, rfl, rfl, rfl⟩ rfl rfl rfl rfl rfl (by kernel_rfl) Try.func4 (by kernel_rfl)
    (of_decide_eq_true (by kernel_rfl)) (by unfold Func.isWrapper; first | (rw [if_pos (by decide +kernel)]; kernel_rfl) | (rw [if_neg (by decide +kernel)]; exact ⟨rfl, rfl⟩))
    (fun os started H enc _ => time_lifted walk os started H enc)
theorem orderTime : Rows.OrderTimeSaid := time_of (fun _ _ _ _ _ _ _ _ _ _ _ _ _ _ a R => timeW R a)
end Go.Proofs.Ytodmakcklacbfaa
