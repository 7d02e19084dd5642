import Derived.Test.YtojfnehdanhgiaaPlayW
import Derived.Test.YtojfnehdanhgiaaOpen
import Derived.SizedLaws
namespace Go.Proofs.Ytojfnehdanhgiaa
open Go.ChangeShapes Go.WideShapes Go.ChangeAt Go.RowKit Go.Deep

theorem Try.cells58 : Try.prog.cellsOf 58 = 11 := by kernel_rfl
theorem Try.cells39 : Try.prog.cellsOf 39 = 6 := by kernel_rfl
theorem Try.cells37 : Try.prog.cellsOf 37 = 2 := by kernel_rfl
theorem Try.cells23 : Try.prog.cellsOf 23 = 1 := by kernel_rfl
theorem Try.cells4 : Try.prog.cellsOf 4 = 1 := by kernel_rfl
theorem Try.bytes58 : Try.prog.bytesOf 58 = 104 := by kernel_rfl
theorem Try.bytes5 : Try.prog.bytesOf 5 = 1 := by kernel_rfl
/-- A slice of bytes that came in, and how wide its datum is. -/
theorem open_wide {H : Type} {enc : TypeId × Value → H} {W : World} {a : Option Addr} {len cap fuel : Nat} {x : DataW H × List MemPlace}
    (h : DataW.trod enc Try.prog W 0 (fun _ => true) true fuel 30 [.slice a len cap] = some x) : (cap = 0) ∨ ∃ els sp, x.1 = .slice els sp ∧ els.length + sp.length = cap := by
  rcases open_ints Try.underlying30 Try.underlying5 Try.cells5 h with ⟨hcs, _⟩ | ⟨ad, l', c', zs, hcs, _, hl, hm, hz, hx, hcell, hwz⟩
  · simp at hcs
    exact .inl hcs.2.2
  · simp at hcs
    obtain ⟨rfl, rfl, rfl⟩ := hcs
    have hz' : zs.length = cap := by simpa using hz
    exact .inr ⟨_, _, by rw [hx], by simp [lits]; omega⟩
theorem open_two {H : Type} {enc : TypeId × Value → H} {W : World} {n : Nat} {c0 c1 : Value} {x : DataW H × List MemPlace} (h : DataW.trod enc Try.prog W 0 (fun _ => true) true n 37 [c0, c1] = some x) : ∃ a b : Int, c0 = .int .i64 a ∧ c1 = .int .i64 b := by
  obtain ⟨xs, m, _, hx, _, hxs, g⟩ := DataW.trod_struct Try.underlying37 h
  match xs, hxs with
  | [y0, y1], _ =>
    have g0 : DataW.trod enc Try.prog W 0 (fun _ => true) true m 3 [c0] = some y0 := by have := g 0 _ rfl; simpa [Try.cells3] using this
    have g1 : DataW.trod enc Try.prog W 0 (fun _ => true) true m 3 [c1] = some y1 := by have := g 1 _ rfl; simpa [Try.cells3] using this
    obtain ⟨a, e0, _, _⟩ := DataW.trod_int Try.underlying3 g0
    obtain ⟨b, e1, _, _⟩ := DataW.trod_int Try.underlying3 g1
    simp at e0 e1
    exact ⟨a, b, e0, e1⟩
theorem all_mem {l : List Nat} (h : l.all (· ≤ reachBytes) = true) {x : Nat} (hx : x ∈ l) : x ≤ reachBytes := by
  have := List.all_eq_true.1 h x hx
  simpa using this
/-- A datagram that came in. -/
theorem open_packet {H : Type} {enc : TypeId × Value → H} {W : World} {n : Nat} {c0 c1 c2 c3 c4 c5 : Value} {x : DataW H × List MemPlace} (h : DataW.trod enc Try.prog W 0 (fun _ => true) true n 39 [c0, c1, c2, c3, c4, c5] = some x) :
    ∃ (fk fi tk ti : Int) (a : Option Addr) (dl dc : Nat) (lost : Bool) (l : List Nat), c0 = .int .i64 fk ∧ c1 = .int .i64 fi ∧ c2 = .int .i64 tk ∧ c3 = .int .i64 ti ∧ c4 = .slice a dl dc ∧ c5 = .bool lost ∧ Reads W a dl dc l ∧ ((∀ t ∈ x.1.weights Try.prog 39, t ≤ reachBytes) → dl ≤ reachBytes) := by
  obtain ⟨xs, m, _, hx, _, hxs, g⟩ := DataW.trod_struct Try.underlying39 h
  match xs, hxs with
  | [y0, y1, y2, y3], _ =>
    have g0 : DataW.trod enc Try.prog W 0 (fun _ => true) true m 37 [c0, c1] = some y0 := by have := g 0 _ rfl; simpa [Try.cells37] using this
    have g1 : DataW.trod enc Try.prog W 0 (fun _ => true) true m 37 [c2, c3] = some y1 := by have := g 1 _ rfl; simpa [Try.cells37] using this
    have g2 : DataW.trod enc Try.prog W 0 (fun _ => true) true m 30 [c4] = some y2 := by have := g 2 _ rfl; simpa [Try.cells30] using this
    have g3 : DataW.trod enc Try.prog W 0 (fun _ => true) true m 4 [c5] = some y3 := by have := g 3 _ rfl; simpa [Try.cells4] using this
    obtain ⟨fk, fi, rfl, rfl⟩ := open_two g0
    obtain ⟨tk, ti, rfl, rfl⟩ := open_two g1
    obtain ⟨a, dl, dc, rfl⟩ := slice_form Try.underlying30 g2
    obtain ⟨b, e3, _⟩ := DataW.trod_bool Try.underlying4 g3
    simp at e3
    subst e3
    obtain ⟨l, rd⟩ := open_bytes g2
    refine ⟨fk, fi, tk, ti, a, dl, dc, b, l, rfl, rfl, rfl, rfl, rfl, rfl, rd, fun hw => ?_⟩
    have hr := rd.room
    rcases open_wide g2 with z | ⟨els, sp, e, hl⟩
    · have : dl = 0 := by omega
      rw [this]; exact Nat.zero_le _
    · have hm : (els.length + sp.length) * Try.prog.bytesOf 5 ∈ y2.1.weights Try.prog 30 := by rw [e]; simp [DataW.weights, Try.underlying30]
      have hm2 : (els.length + sp.length) * Try.prog.bytesOf 5 ∈ x.1.weights Try.prog 39 := by
        rw [hx]
        simp only [DataW.weights, Try.underlying39]
        exact DataW.weights_mem_each (j := 2) (t := 30) (d := y2.1) rfl rfl _ hm
      have := hw _ hm2
      rw [Try.bytes5] at this
      omega
/-- A step that came in. -/
theorem open_step {H : Type} {enc : TypeId × Value → H} {W : World} {n : Nat} {cs : List Value} {x : DataW H × List MemPlace} (hlen : cs.length = 11) (h : DataW.trod enc Try.prog W 0 (fun _ => true) true n 58 cs = some x) (hw : ∀ t ∈ x.1.weights Try.prog 58, t ≤ reachBytes) :
    ∃ o : Opv, cs = o.cs.toList ∧ OpOk W o ∧ (-9223372036854775808 ≤ o.nt ∧ o.nt < 9223372036854775808) := by
  obtain ⟨xs, m, _, hx, _, hxs, g⟩ := DataW.trod_struct Try.underlying58 h
  match cs, hlen with
  | [c0, c1, c2, c3, c4, c5, c6, c7, c8, c9, c10], _ =>
    match xs, hxs with
    | [y0, y1, y2, y3, y4, y5], _ =>
      have g0 : DataW.trod enc Try.prog W 0 (fun _ => true) true m 3 [c0] = some y0 := by have := g 0 _ rfl; simpa [Try.cells3] using this
      have g1 : DataW.trod enc Try.prog W 0 (fun _ => true) true m 3 [c1] = some y1 := by have := g 1 _ rfl; simpa [Try.cells3] using this
      have g2 : DataW.trod enc Try.prog W 0 (fun _ => true) true m 39 [c2, c3, c4, c5, c6, c7] = some y2 := by have := g 2 _ rfl; simpa [Try.cells39] using this
      have g3 : DataW.trod enc Try.prog W 0 (fun _ => true) true m 3 [c8] = some y3 := by have := g 3 _ rfl; simpa [Try.cells3] using this
      have g4 : DataW.trod enc Try.prog W 0 (fun _ => true) true m 3 [c9] = some y4 := by have := g 4 _ rfl; simpa [Try.cells3] using this
      have g5 : DataW.trod enc Try.prog W 0 (fun _ => true) true m 23 [c10] = some y5 := by have := g 5 _ rfl; simpa [Try.cells23] using this
      obtain ⟨kd, e0, _, _⟩ := DataW.trod_int Try.underlying3 g0
      obtain ⟨nt, e1, _, wn⟩ := DataW.trod_int Try.underlying3 g1
      obtain ⟨fk, fi, tk, ti, a, dl, dc, lost, l, rfl, rfl, rfl, rfl, rfl, rfl, rd, hdl⟩ := open_packet g2
      obtain ⟨i, e3, _, _⟩ := DataW.trod_int Try.underlying3 g3
      obtain ⟨nn, e4, _, wm⟩ := DataW.trod_int Try.underlying3 g4
      obtain ⟨pt, e5, _, wp⟩ := DataW.trod_int Try.underlying23 g5
      simp at e0 e1 e3 e4 e5
      subst e0 e1 e3 e4 e5
      have hp := bounds_u32 wp
      have h1 := fit_i64 wn
      have h2 := fit_i64 wm
      obtain ⟨pn, rfl⟩ : ∃ pn : Nat, pt = (pn : Int) := ⟨pt.toNat, by omega⟩
      have hd : dl ≤ reachBytes := hdl (fun t ht => hw t (by
        rw [hx]
        simp only [DataW.weights, Try.underlying58]
        exact DataW.weights_mem_each (j := 2) (t := 39) (d := y2.1) rfl rfl _ ht))
      refine ⟨⟨kd, nt, fk, fi, tk, ti, a, dl, dc, lost, i, nn, pn, l⟩, rfl, ⟨rd, ?_, h2.2, by show pn < 4294967296; omega⟩, h1⟩
      show dl + 1 ≤ 140737488355328
      simp only [reachBytes] at hd
      omega
theorem weights_all {H : Type} {P : Program} {e : TypeId} : ∀ {l : List (DataW H)} {d : DataW H}, d ∈ l → ∀ t ∈ d.weights P e, t ∈ DataW.weightsAll P e l
  | a :: r, d, h, t, ht => by
    simp only [DataW.weightsAll]
    rcases List.mem_cons.1 h with z | z
    · rw [← z]; exact List.mem_append_left _ ht
    · exact List.mem_append_right _ (weights_all z t ht)
/-- A script, opened. -/
theorem open_script {H : Type} {enc : TypeId × Value → H} {W : World} {a : Option Addr} {len cap fuel : Nat} {x : DataW H × List MemPlace}
    (h : DataW.trod enc Try.prog W 0 (fun _ => true) true fuel 52 [.slice a len cap] = some x) (hw : ∀ t ∈ x.1.weights Try.prog 52, t ≤ reachBytes) : ∃ O, Script W a len cap O ∧ len * 104 ≤ reachBytes := by
  rcases open_slice Try.underlying52 h with ⟨hcs, _⟩ | ⟨ad, l', c', m, n, D, Pl, hcs, _, hl, hm, hmm, hx, hel⟩
  · simp at hcs
    obtain ⟨rfl, rfl, rfl⟩ := hcs
    exact ⟨[], ⟨rfl, Nat.le_refl _, by unfold maxLen; omega, fun q => absurd q (by omega), fun _ h => absurd h (by simp)⟩, Nat.zero_le _⟩
  · simp at hcs
    obtain ⟨rfl, rfl, rfl⟩ := hcs
    have hmm : m = cap := by simpa using hmm
    rw [Try.cells58] at hel
    have : Inhabited Opv := ⟨⟨0, 0, 0, 0, 0, 0, none, 0, 0, false, 0, 0, 0, []⟩⟩
    have hw1 : ∀ i, i < len → ∀ t ∈ (D i).weights Try.prog 58, t ≤ reachBytes := fun i hi t ht => hw t (by
      rw [hx]
      simp only [DataW.weights, Try.underlying52]
      have : t ∈ DataW.weightsAll Try.prog 58 ((List.range len).map D) := weights_all (List.mem_map.2 ⟨i, List.mem_range.2 hi, rfl⟩) t ht
      simp [this])
    obtain ⟨O, hO⟩ := choose_lt (n := len) (p := fun i (o : Opv) => (∀ c v, (o.cs)[c]? = some v → W.cell? ((ad.add (i * 11)).add c) = some v) ∧ OpOk W o ∧ (-9223372036854775808 ≤ o.nt ∧ o.nt < 9223372036854775808)) (fun i hi => by
      obtain ⟨cs', h1, h2⟩ := hel i (by omega)
      obtain ⟨_, hlen, hc⟩ := World.cells?_some h1
      obtain ⟨o, e, ok, nt⟩ := open_step hlen h2 (hw1 i hi)
      refine ⟨o, fun c v hv => ?_, ok, nt⟩
      rw [← Array.getElem?_toList, ← e] at hv
      obtain ⟨hlt, _⟩ := List.getElem?_eq_some_iff.1 hv
      exact (hc c (by omega)).trans hv)
    refine ⟨(List.range len).map O, ⟨by simp, hl, hm, fun h0 => ?_, fun s hs => ?_⟩, ?_⟩
    · obtain ⟨b, off, spot⟩ := ad
      have h1 := (hO 0 h0).1 0 _ rfl
      have hs : spot = none := by
        have := World.cell?_spot h1
        simpa [Addr.add] using this
      subst hs
      refine ⟨b, off, rfl, fun i hi c v hv => ?_⟩
      have := (hO i (by simpa using hi)).1 c v (by simpa using hv)
      rw [Addr.add_none, Addr.add_none] at this
      exact this
    · obtain ⟨i, hi, rfl⟩ := List.mem_map.1 hs
      exact (hO i (by simpa using hi)).2
    · have : (len + (m - len)) * 104 ≤ reachBytes := hw _ (by
        rw [hx]
        simp [DataW.weights, Try.underlying52, Try.bytes58])
      omega

set_option maxRecDepth 100000 in
theorem netPlays_lifted (os : Os) (started : os.Started) (H : Type) (enc : TypeId × Value → H) :
    ReturnsInHanded {} Try.checked os 6 .any (Rows.netPlaysSpec.pre6 enc Try.prog Try.f6 Rows.netPlaysRow.domain false) (Rows.netPlaysSpec.post enc Try.prog Try.f6 false true false false) := by
  refine returnsInHanded_of_change_sized (C := Try.checked) Try.own started (by kernel_rfl) Try.func6
    (ChangeSpec.witness6 (enc := enc) (C := Try.checked) false ⟨#[], #[.slice none 0 0], []⟩ 8 (by kernel_rfl) (by kernel_rfl) (by kernel_rfl) (by kernel_rfl)) ?_
  intro W base args ds gs before hval0 hW _ hsz0 _
  have hval : ∀ (j : Nat) t v, Try.f6.params[j]? = some t → args[j]? = some v → Value.okWide Try.prog W .any base t v := hval0
  have hsz : (DataW.weightsEach Try.prog (Try.f6.params.toList ++ Rows.netPlaysSpec.plain.varTypes Try.prog) (ds ++ gs)).all (· ≤ reachBytes) = true := hsz0
  have hW' := hW
  obtain ⟨p, q, hA0, hV, rfl, _, _⟩ := hW
  have hA : DataW.TrodAll enc Try.prog W 0 (fun _ => true) true Try.f6.params.toList args.toList ds p := hA0
  rw [Try.params6] at hA hval hsz
  obtain ⟨v1, d1, rfl, rfl, h1⟩ := trodAll_one hA
  obtain ⟨rfl, rfl⟩ := trodVars_none hV
  have k1 := h1
  have lt1 : ∀ x ∈ p, x.block < W.heap.size := by obtain ⟨m, hm⟩ := k1; exact DataW.trod_lt m _ _ _ hm
  obtain ⟨a1, len1, cap1, rfl⟩ := okWide_slice Try.underlying52 (hval 0 52 v1 rfl rfl)
  obtain ⟨fuel1, hf1⟩ := h1
  obtain ⟨O, hO, z1⟩ := open_script hf1 (fun t ht => all_mem hsz (DataW.weights_mem_each (j := 0) (t := 52) (d := d1) rfl rfl t ht))
  clear hA0 hval0 hsz0 hsz
  simp only [reachBytes] at z1
  refine (netPlays a1 len1 cap1 O W hO (by unfold Big; omega)).mono fun e W' ⟨he, K⟩ => ?_
  have bel := below_kept K
  subst he
  exact ⟨_, rfl, _, _, _, [], _, [], hW', trodAll_mk1 (shut_bool Try.underlying4 _), trodAll_mk1 (Below.trod Try.laidOut (by kernel_rfl) (of_decide_eq_true (by kernel_rfl)) k1 bel lt1), rfl, bel.frame _, fun h => by cases h⟩

theorem netPlays_holds : Rows.NetPlaysSaid :=
  OpenClaim.holds_of_wide 6 Try.f6 rfl rfl rfl rfl rfl rfl rfl ⟨rfl, rfl, rfl, rfl, rfl⟩ rfl rfl rfl rfl rfl (by kernel_rfl) Try.func6 (by kernel_rfl)
    (of_decide_eq_true (by kernel_rfl)) (by unfold Func.isWrapper; first | (rw [if_pos (by decide +kernel)]; kernel_rfl) | (rw [if_neg (by decide +kernel)]; exact ⟨rfl, rfl⟩))
    (fun os started H enc _ => netPlays_lifted os started H enc)
#print axioms netPlays_holds
end Go.Proofs.Ytojfnehdanhgiaa
