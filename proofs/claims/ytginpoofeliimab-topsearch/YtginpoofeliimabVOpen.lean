import Derived.Test.YtginpoofeliimabVOwn
import Derived.Test.YtginpoofeliimabRows
import Derived.ProofKit
import Derived.OpenShut
import Derived.ShutString
import Derived.ChangeOld
import Derived.Below
import Derived.SizedLaws
import Derived.Deep.Slices
import Derived.Deep.Fields
namespace Go.Proofs.Ytginpoofeliimab
open Go.RowKit Go.ChangeShapes Go.WideShapes Go.ChangeAt Go.Deep

theorem Try.ownr : ownKnob Try.prog.godebug = none := by kernel_rfl
theorem Try.laidOutr : laidOutB Try.prog = true := by kernel_rfl
theorem kept_belowr {w w' : World} (K : Kept (fun _ => False) w w') : Below w.heap.size w w' := ⟨K.os, K.tape, K.output, K.size, fun k hk => K.block k hk (fun q => q)⟩

theorem Try.cw5 : Try.prog.cellsOf 5 = 1 := by kernel_rfl
theorem Try.cw2 : Try.prog.cellsOf 2 = 1 := by kernel_rfl
theorem Try.cw3 : Try.prog.cellsOf 3 = 1 := by kernel_rfl
theorem Try.cw4 : Try.prog.cellsOf 4 = 1 := by kernel_rfl
theorem Try.cw9 : Try.prog.cellsOf 9 = 1 := by kernel_rfl
theorem Try.cw26 : Try.prog.cellsOf 24 = 1 := by kernel_rfl
theorem Try.cw29 : Try.prog.cellsOf 23 = 1 := by kernel_rfl
theorem Try.cw31 : Try.prog.cellsOf 26 = 2 := by kernel_rfl
theorem Try.cw33 : Try.prog.cellsOf 28 = 11 := by kernel_rfl
theorem Try.bw33 : Try.prog.bytesOf 28 = 112 := by kernel_rfl
theorem Try.bw5 : Try.prog.bytesOf 5 = 1 := by kernel_rfl
/-- A slice of bytes that came in: what it reads as. -/
theorem open_bytesw {H : Type} {enc : TypeId × Value → H} {W : World} {a : Option Addr} {len cap fuel : Nat} {x : DataW H × List MemPlace}
    (h : DataW.trod enc Try.prog W 0 (fun _ => true) true fuel 23 [.slice a len cap] = some x) : ∃ l, Reads W a len cap l := by
  rcases open_ints Try.underlying23 Try.underlying5 Try.cw5 h with ⟨hcs, _⟩ | ⟨ad, l', c', zs, hcs, _, hl, hm, hz, hx, hcell, hwz⟩
  · simp at hcs
    obtain ⟨rfl, rfl, rfl⟩ := hcs
    exact ⟨[], ⟨rfl, Nat.le_refl _, by unfold maxLen; omega, fun _ h => absurd h (by simp), fun h => absurd h (by omega)⟩⟩
  · simp at hcs
    obtain ⟨rfl, rfl, rfl⟩ := hcs
    have hz' : zs.length = cap := by simpa using hz
    refine ⟨(zs.take len).map Int.toNat, ⟨by rw [List.length_map, List.length_take]; omega, hl, hm, fun c hc => ?_, fun h0 => ?_⟩⟩
    · obtain ⟨z, hz1, rfl⟩ := List.mem_map.1 hc
      have := bounds_u8 (hwz z (List.mem_of_mem_take hz1))
      omega
    · obtain ⟨b, off, spot⟩ := ad
      have c0 := hcell 0 (by omega)
      have hs : spot = none := by simpa [Addr.add] using World.cell?_spot c0
      subst hs
      refine ⟨b, off, rfl, fun i hi => ?_⟩
      have ci := hcell i (by omega)
      rw [Addr.add_none] at ci
      rw [ci]
      have e1 : zs.getD i 0 = zs[i]'(by omega) := by rw [List.getD_eq_getElem?_getD, List.getElem?_eq_getElem (by omega)]; rfl
      have e2 : ((zs.take len).map Int.toNat).getD i 0 = (zs[i]'(by omega)).toNat := by
        rw [List.getD_eq_getElem?_getD, List.getElem?_map, List.getElem?_take_of_lt hi, List.getElem?_eq_getElem (by omega)]; rfl
      have bd := bounds_u8 (hwz (zs[i]'(by omega)) (List.getElem_mem _))
      rw [e1, e2, Int.toNat_of_nonneg bd.1]
/-- A slice of bytes that came in, and how wide its datum is. -/
theorem open_widew {H : Type} {enc : TypeId × Value → H} {W : World} {a : Option Addr} {len cap fuel : Nat} {x : DataW H × List MemPlace}
    (h : DataW.trod enc Try.prog W 0 (fun _ => true) true fuel 23 [.slice a len cap] = some x) : (cap = 0) ∨ ∃ els sp, x.1 = .slice els sp ∧ els.length + sp.length = cap := by
  rcases open_ints Try.underlying23 Try.underlying5 Try.cw5 h with ⟨hcs, _⟩ | ⟨ad, l', c', zs, hcs, _, hl, hm, hz, hx, hcell, hwz⟩
  · simp at hcs
    exact .inl hcs.2.2
  · simp at hcs
    obtain ⟨rfl, rfl, rfl⟩ := hcs
    have hz' : zs.length = cap := by simpa using hz
    exact .inr ⟨_, _, by rw [hx], by simp [lits]; omega⟩
theorem slice_formw {H : Type} {enc : TypeId × Value → H} {P : Program} {w : World} {base : Nat} {spare : Nat → Bool} {held : Bool} {t e : TypeId} {fuel : Nat} {v : Value} {x : DataW H × List MemPlace} (ht : P.underlying t = some (.slice e)) (h : DataW.trod enc P w base spare held fuel t [v] = some x) :
    ∃ a len cap, v = .slice a len cap := by
  rcases DataW.trod_slice ht h with ⟨q, _⟩ | ⟨a, len, cap, _, _, _, _, q, _⟩
  · simp at q; exact ⟨none, 0, 0, q⟩
  · simp at q; exact ⟨some a, len, cap, q⟩
theorem open_tagw {H : Type} {enc : TypeId × Value → H} {W : World} {n : Nat} {c0 c1 : Value} {x : DataW H × List MemPlace} (h : DataW.trod enc Try.prog W 0 (fun _ => true) true n 26 [c0, c1] = some x) : ∃ a b : Int, c0 = .int .i64 a ∧ c1 = .int .i64 b := by
  obtain ⟨xs, m, _, hx, _, hxs, g⟩ := DataW.trod_struct Try.underlying26 h
  match xs, hxs with
  | [y0, y1], _ =>
    have g0 : DataW.trod enc Try.prog W 0 (fun _ => true) true m 2 [c0] = some y0 := by have := g 0 _ rfl; simpa [Try.cw2] using this
    have g1 : DataW.trod enc Try.prog W 0 (fun _ => true) true m 3 [c1] = some y1 := by have := g 1 _ rfl; simpa [Try.cw3] using this
    obtain ⟨a, e0, _, wa⟩ := DataW.trod_int Try.underlying2 g0
    obtain ⟨b, e1, _, wb⟩ := DataW.trod_int Try.underlying3 g1
    simp at e0 e1
    exact ⟨a, b, e0, e1⟩
theorem all_memw {l : List Nat} (h : l.all (· ≤ reachBytes) = true) {x : Nat} (hx : x ∈ l) : x ≤ reachBytes := by
  have := List.all_eq_true.1 h x hx
  simpa using this
set_option maxRecDepth 100000 in
/-- A call that came in. -/
theorem open_callw {H : Type} {enc : TypeId × Value → H} {W : World} {n : Nat} {c0 c1 c2 c3 c4 c5 c6 c7 c8 c9 c10 : Value} {x : DataW H × List MemPlace} (h : DataW.trod enc Try.prog W 0 (fun _ => true) true n 28 [c0, c1, c2, c3, c4, c5, c6, c7, c8, c9, c10] = some x) :
    ∃ m : Cm, #[c0, c1, c2, c3, c4, c5, c6, c7, c8, c9, c10] = m.cs ∧ Reads W m.va m.vn m.vc m.val ∧ ((∀ t ∈ x.1.weights Try.prog 28, t ≤ reachBytes) → m.vn ≤ reachBytes) := by
  obtain ⟨xs, m, _, hx, _, hxs, g⟩ := DataW.trod_struct Try.underlying28 h
  match xs, hxs with
  | [y0, y1, y2, y3, y4, y5, y6, y7, y8, y9], _ =>
    have g0 : DataW.trod enc Try.prog W 0 (fun _ => true) true m 3 [c0] = some y0 := by have := g 0 _ rfl; simpa [Try.cw3] using this
    have g1 : DataW.trod enc Try.prog W 0 (fun _ => true) true m 2 [c1] = some y1 := by have := g 1 _ rfl; simpa [Try.cw2] using this
    have g2 : DataW.trod enc Try.prog W 0 (fun _ => true) true m 4 [c2] = some y2 := by have := g 2 _ rfl; simpa [Try.cw4] using this
    have g3 : DataW.trod enc Try.prog W 0 (fun _ => true) true m 9 [c3] = some y3 := by have := g 3 _ rfl; simpa [Try.cw9] using this
    have g4 : DataW.trod enc Try.prog W 0 (fun _ => true) true m 23 [c4] = some y4 := by have := g 4 _ rfl; simpa [Try.cw29] using this
    have g5 : DataW.trod enc Try.prog W 0 (fun _ => true) true m 24 [c5] = some y5 := by have := g 5 _ rfl; simpa [Try.cw26] using this
    have g6 : DataW.trod enc Try.prog W 0 (fun _ => true) true m 3 [c6] = some y6 := by have := g 6 _ rfl; simpa [Try.cw3] using this
    have g7 : DataW.trod enc Try.prog W 0 (fun _ => true) true m 3 [c7] = some y7 := by have := g 7 _ rfl; simpa [Try.cw3] using this
    have g8 : DataW.trod enc Try.prog W 0 (fun _ => true) true m 4 [c8] = some y8 := by have := g 8 _ rfl; simpa [Try.cw4] using this
    have g9 : DataW.trod enc Try.prog W 0 (fun _ => true) true m 26 [c9, c10] = some y9 := by have := g 9 _ rfl; simpa [Try.cw31] using this
    obtain ⟨z0, e0, _, _⟩ := DataW.trod_int Try.underlying3 g0
    obtain ⟨z1, e1, _, _⟩ := DataW.trod_int Try.underlying2 g1
    obtain ⟨b2, e2, _⟩ := DataW.trod_bool Try.underlying4 g2
    obtain ⟨s, e3, _, hs⟩ := DataW.trod_string Try.underlying9 g3
    obtain ⟨a, dl, dc, rfl⟩ := slice_formw Try.underlying23 g4
    obtain ⟨z5, e5, _, _⟩ := DataW.trod_int Try.underlying24 g5
    obtain ⟨z6, e6, _, _⟩ := DataW.trod_int Try.underlying3 g6
    obtain ⟨z7, e7, _, _⟩ := DataW.trod_int Try.underlying3 g7
    obtain ⟨b8, e8, _⟩ := DataW.trod_bool Try.underlying4 g8
    obtain ⟨tx, ty, rfl, rfl⟩ := open_tagw g9
    simp at e0 e1 e2 e3 e5 e6 e7 e8
    subst e0 e1 e2 e3 e5 e6 e7 e8
    obtain ⟨l, rd⟩ := open_bytesw g4
    refine ⟨⟨z0, z1, b2, s, a, dl, dc, z5, z6, z7, b8, tx, ty, l⟩, rfl, rd, fun hw => ?_⟩
    have hr := rd.room
    show dl ≤ reachBytes
    rcases open_widew g4 with z | ⟨els, sp, e, hl⟩
    · have : dl = 0 := by omega
      rw [this]; exact Nat.zero_le _
    · have hm : (els.length + sp.length) * Try.prog.bytesOf 5 ∈ y4.1.weights Try.prog 23 := by rw [e]; simp [DataW.weights, Try.underlying23]
      have hm2 : (els.length + sp.length) * Try.prog.bytesOf 5 ∈ x.1.weights Try.prog 28 := by
        rw [hx]
        simp only [DataW.weights, Try.underlying28]
        exact DataW.weights_mem_each (j := 4) (t := 23) (d := y4.1) rfl rfl _ hm
      have := hw _ hm2
      rw [Try.bw5] at this
      omega
theorem weights_allw {H : Type} {P : Program} {e : TypeId} : ∀ {l : List (DataW H)} {d : DataW H}, d ∈ l → ∀ t ∈ d.weights P e, t ∈ DataW.weightsAll P e l
  | a :: r, d, h, t, ht => by
    simp only [DataW.weightsAll]
    rcases List.mem_cons.1 h with z | z
    · rw [← z]; exact List.mem_append_left _ ht
    · exact List.mem_append_right _ (weights_allw z t ht)
set_option maxRecDepth 100000 in
/-- A list of calls, opened. -/
theorem open_callsw {H : Type} {enc : TypeId × Value → H} {W : World} {a : Option Addr} {len cap fuel : Nat} {x : DataW H × List MemPlace}
    (h : DataW.trod enc Try.prog W 0 (fun _ => true) true fuel 22 [.slice a len cap] = some x) (hw : ∀ t ∈ x.1.weights Try.prog 22, t ≤ reachBytes) : ∃ ms, CRd W a len cap ms ∧ (∀ m ∈ ms, m.vn + 1 ≤ 140737488355328) ∧ len * 112 ≤ reachBytes := by
  rcases open_slice Try.underlying22 h with ⟨hcs, _⟩ | ⟨ad, l', c', m, n, D, Pl, hcs, _, hl, hm, hmm, hx, hel⟩
  · simp at hcs
    obtain ⟨rfl, rfl, rfl⟩ := hcs
    exact ⟨[], ⟨rfl, Nat.le_refl _, by unfold maxLen; omega, fun q => absurd q (by omega), fun _ h => absurd h (by simp)⟩, fun _ h => absurd h (by simp), Nat.zero_le _⟩
  · simp at hcs
    obtain ⟨rfl, rfl, rfl⟩ := hcs
    have hmm : m = cap := by simpa using hmm
    rw [Try.cw33] at hel
    haveI : Inhabited Cm := ⟨⟨0, 0, false, ⟨#[]⟩, none, 0, 0, 0, 0, 0, false, 0, 0, []⟩⟩
    have hw1 : ∀ i, i < len → ∀ t ∈ (D i).weights Try.prog 28, t ≤ reachBytes := fun i hi t ht => hw t (by
      rw [hx]
      simp only [DataW.weights, Try.underlying22]
      have : t ∈ DataW.weightsAll Try.prog 28 ((List.range len).map D) := weights_allw (List.mem_map.2 ⟨i, List.mem_range.2 hi, rfl⟩) t ht
      simp [this])
    obtain ⟨O, hO⟩ := choose_lt (n := len) (p := fun i (o : Cm) => (∀ c v, (o.cs)[c]? = some v → W.cell? ((ad.add (i * 11)).add c) = some v) ∧ Reads W o.va o.vn o.vc o.val ∧ o.vn + 1 ≤ 140737488355328) (fun i hi => by
      obtain ⟨cs', h1, h2⟩ := hel i (by omega)
      obtain ⟨_, hlen, hc⟩ := World.cells?_some h1
      match cs', hlen, hc, h2 with
      | [c0, c1, c2, c3, c4, c5, c6, c7, c8, c9, c10], hlen, hc, h2 =>
        obtain ⟨o, eo, rd, hdl⟩ := open_callw h2
        have hd := hdl (hw1 i hi)
        simp only [reachBytes] at hd
        refine ⟨o, fun c v hv => ?_, rd, by omega⟩
        rw [← eo] at hv
        have hv : ([c0, c1, c2, c3, c4, c5, c6, c7, c8, c9, c10] : List Value)[c]? = some v := by
          rw [← hv, ← Array.getElem?_toList]
        obtain ⟨hlt, _⟩ := List.getElem?_eq_some_iff.1 hv
        exact (hc c (by simpa using hlt)).trans hv)
    refine ⟨(List.range len).map O, ⟨by simp, hl, hm, fun h0 => ?_, fun s hs => ?_⟩, fun s hs => ?_, ?_⟩
    · obtain ⟨b, off, spot⟩ := ad
      have h1 := (hO 0 h0).1 0 _ rfl
      have hs : spot = none := by
        have := World.cell?_spot h1
        simpa [Addr.add] using this
      subst hs
      refine ⟨b, off, rfl, fun i hi c v hv => ?_⟩
      have := (hO i (by simpa using hi)).1 c v (by simpa using hv)
      rw [Addr.add_none, Addr.add_none] at this
      exact this
    · obtain ⟨i, hi, rfl⟩ := List.mem_map.1 hs
      exact (hO i (by simpa using hi)).2.1
    · obtain ⟨i, hi, rfl⟩ := List.mem_map.1 hs
      exact (hO i (by simpa using hi)).2.2
    · have : (len + (m - len)) * 112 ≤ reachBytes := hw _ (by
        rw [hx]
        simp [DataW.weights, Try.underlying22, Try.bw33])
      omega
set_option maxRecDepth 100000 in
theorem search_lifted (walk : ∀ (a : Option Addr) (len cap : Nat) (ms : List Cm) (w : World), CRd w a len cap ms → len ≤ 1300000000000 → (∀ m ∈ ms, m.vn + 1 ≤ 140737488355328) → Calls Try.prog 3 #[.slice a len cap] w fun o w' => o = .returned (.bool true) ∧ Kept (fun _ => False) w w') (os : Os) (started : os.Started) (H : Type) (enc : TypeId × Value → H) :
    ReturnsInHanded {} Try.checked os 3 .any (Rows.topSearchSpec.pre6 enc Try.prog Try.f3 Rows.topSearchRow.domain false) (Rows.topSearchSpec.post enc Try.prog Try.f3 false true false false) := by
  refine returnsInHanded_of_change_sized (C := Try.checked) Try.ownr started (by kernel_rfl) Try.func3
    (ChangeSpec.witness6 (enc := enc) (C := Try.checked) false ⟨#[], #[.slice none 0 0], []⟩ 8 (by kernel_rfl) (by kernel_rfl) (by kernel_rfl) (by kernel_rfl)) ?_
  intro W base args ds gs before hval0 hW _ hsz0 _
  have hval : ∀ (j : Nat) t v, Try.f3.params[j]? = some t → args[j]? = some v → Value.okWide Try.prog W .any base t v := hval0
  have hsz : (DataW.weightsEach Try.prog (Try.f3.params.toList ++ Rows.topSearchSpec.plain.varTypes Try.prog) (ds ++ gs)).all (· ≤ reachBytes) = true := hsz0
  have hW' := hW
  obtain ⟨p, q, hA0, hV, rfl, _, _⟩ := hW
  have hA : DataW.TrodAll enc Try.prog W 0 (fun _ => true) true Try.f3.params.toList args.toList ds p := hA0
  rw [Try.params3] at hA hval hsz
  obtain ⟨v1, d1, rfl, rfl, h1⟩ := trodAll_one hA
  obtain ⟨rfl, rfl⟩ := trodVars_none hV
  have k1 := h1
  have lt1 : ∀ x ∈ p, x.block < W.heap.size := by obtain ⟨m, hm⟩ := k1; exact DataW.trod_lt m _ _ _ hm
  obtain ⟨a2, len2, cap2, rfl⟩ := okWide_slice Try.underlying22 (hval 0 22 v1 rfl rfl)
  obtain ⟨fuel2, hf2⟩ := h1
  obtain ⟨O, hO, z1, z2⟩ := open_callsw hf2 (fun t ht => all_memw hsz (DataW.weights_mem_each (j := 0) (t := 22) (d := d1) rfl rfl t ht))
  clear hA0 hval0 hsz0 hsz
  simp only [reachBytes] at z2
  refine (walk a2 len2 cap2 O W hO (by omega) z1).mono fun e W' ⟨he, K⟩ => ?_
  have bel := kept_belowr K
  subst he
  exact ⟨_, rfl, _, _, _, [], _, [], hW', trodAll_mk1 (shut_bool Try.underlying4 _), trodAll_cons_mk (Below.trod Try.laidOutr (by kernel_rfl) (of_decide_eq_true (by kernel_rfl)) k1 bel lt1) trodAll_mk0, rfl, bel.frame _, fun h => by cases h⟩
theorem search_of (walk : ∀ (a : Option Addr) (len cap : Nat) (ms : List Cm) (w : World), CRd w a len cap ms → len ≤ 1300000000000 → (∀ m ∈ ms, m.vn + 1 ≤ 140737488355328) → Calls Try.prog 3 #[.slice a len cap] w fun o w' => o = .returned (.bool true) ∧ Kept (fun _ => False) w w') : Rows.TopSearchSaid :=
  OpenClaim.holds_of_wide 3 Try.f3 rfl rfl rfl rfl rfl rfl rfl ⟨rfl, rfl, rfl, rfl, rfl⟩ rfl rfl rfl rfl rfl (by kernel_rfl) Try.func3 (by kernel_rfl)
    (of_decide_eq_true (by kernel_rfl)) (by unfold Func.isWrapper; first | (rw [if_pos (by decide +kernel)]; kernel_rfl) | (rw [if_neg (by decide +kernel)]; exact ⟨rfl, rfl⟩))
    (fun os started H enc _ => search_lifted walk os started H enc)
end Go.Proofs.Ytginpoofeliimab
