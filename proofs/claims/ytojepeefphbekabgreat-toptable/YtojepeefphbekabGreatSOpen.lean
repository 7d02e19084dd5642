import Derived.Test.YtojepeefphbekabGreatSUpsJ
import Derived.Test.YtojepeefphbekabGreatRows
import Derived.ProofKit
import Derived.OpenShut
import Derived.ShutString
import Derived.ChangeOld
import Derived.Below
import Derived.SizedLaws
import Derived.Deep.Slices
import Derived.Deep.Fields
namespace Go.Proofs.YtojepeefphbekabGreat
open Go.RowKit Go.ChangeShapes Go.WideShapes Go.ChangeAt Go.Deep

theorem Tryz.ownp : ownKnob Tryz.prog.godebug = none := by kernel_rfl
theorem Tryz.laidOutp : laidOutB Tryz.prog = true := by kernel_rfl
theorem Tryz.cp5 : Tryz.prog.cellsOf 5 = 1 := by kernel_rfl
theorem Tryz.cp2 : Tryz.prog.cellsOf 2 = 1 := by kernel_rfl
theorem Tryz.cp3 : Tryz.prog.cellsOf 3 = 1 := by kernel_rfl
theorem Tryz.cp4 : Tryz.prog.cellsOf 4 = 1 := by kernel_rfl
theorem Tryz.cp9 : Tryz.prog.cellsOf 9 = 1 := by kernel_rfl
theorem Tryz.cp31 : Tryz.prog.cellsOf 31 = 2 := by kernel_rfl
theorem Tryz.cp32 : Tryz.prog.cellsOf 32 = 1 := by kernel_rfl
theorem Tryz.cp34 : Tryz.prog.cellsOf 34 = 5 := by kernel_rfl
theorem Tryz.cp36 : Tryz.prog.cellsOf 36 = 7 := by kernel_rfl
theorem Tryz.bp36 : Tryz.prog.bytesOf 36 = 72 := by kernel_rfl
theorem Tryz.bp5 : Tryz.prog.bytesOf 5 = 1 := by kernel_rfl
/-- A slice of bytes that came in: what it reads as. -/
theorem open_bytesp {H : Type} {enc : TypeId × Value → H} {W : World} {a : Option Addr} {len cap fuel : Nat} {x : DataW H × List MemPlace}
    (h : DataW.trod enc Tryz.prog W 0 (fun _ => true) true fuel 32 [.slice a len cap] = some x) : ∃ l, Reads W a len cap l := by
  rcases open_ints Tryz.underlying32 Tryz.underlying5 Tryz.cp5 h with ⟨hcs, _⟩ | ⟨ad, l', c', zs, hcs, _, hl, hm, hz, hx, hcell, hwz⟩
  · simp at hcs
    obtain ⟨rfl, rfl, rfl⟩ := hcs
    exact ⟨[], ⟨rfl, Nat.le_refl _, by unfold maxLen; omega, fun _ h => absurd h (by simp), fun h => absurd h (by omega)⟩⟩
  · simp at hcs
    obtain ⟨rfl, rfl, rfl⟩ := hcs
    have hz' : zs.length = cap := by simpa using hz
    refine ⟨(zs.take len).map Int.toNat, ⟨by rw [List.length_map, List.length_take]; omega, hl, hm, fun c hc => ?_, fun h0 => ?_⟩⟩
    · obtain ⟨z, hz1, rfl⟩ := List.mem_map.1 hc
      have := bounds_u8 (hwz z (List.mem_of_mem_take hz1))
      omega
    · obtain ⟨b, off, spot⟩ := ad
      have c0 := hcell 0 (by omega)
      have hs : spot = none := by simpa [Addr.add] using World.cell?_spot c0
      subst hs
      refine ⟨b, off, rfl, fun i hi => ?_⟩
      have ci := hcell i (by omega)
      rw [Addr.add_none] at ci
      rw [ci]
      have e1 : zs.getD i 0 = zs[i]'(by omega) := by rw [List.getD_eq_getElem?_getD, List.getElem?_eq_getElem (by omega)]; rfl
      have e2 : ((zs.take len).map Int.toNat).getD i 0 = (zs[i]'(by omega)).toNat := by
        rw [List.getD_eq_getElem?_getD, List.getElem?_map, List.getElem?_take_of_lt hi, List.getElem?_eq_getElem (by omega)]; rfl
      have bd := bounds_u8 (hwz (zs[i]'(by omega)) (List.getElem_mem _))
      rw [e1, e2, Int.toNat_of_nonneg bd.1]
/-- A slice of bytes that came in, and how wide its datum is. -/
theorem open_widep {H : Type} {enc : TypeId × Value → H} {W : World} {a : Option Addr} {len cap fuel : Nat} {x : DataW H × List MemPlace}
    (h : DataW.trod enc Tryz.prog W 0 (fun _ => true) true fuel 32 [.slice a len cap] = some x) : (cap = 0) ∨ ∃ els sp, x.1 = .slice els sp ∧ els.length + sp.length = cap := by
  rcases open_ints Tryz.underlying32 Tryz.underlying5 Tryz.cp5 h with ⟨hcs, _⟩ | ⟨ad, l', c', zs, hcs, _, hl, hm, hz, hx, hcell, hwz⟩
  · simp at hcs
    exact .inl hcs.2.2
  · simp at hcs
    obtain ⟨rfl, rfl, rfl⟩ := hcs
    have hz' : zs.length = cap := by simpa using hz
    exact .inr ⟨_, _, by rw [hx], by simp [lits]; omega⟩
theorem slice_formp {H : Type} {enc : TypeId × Value → H} {P : Program} {w : World} {base : Nat} {spare : Nat → Bool} {held : Bool} {t e : TypeId} {fuel : Nat} {v : Value} {x : DataW H × List MemPlace} (ht : P.underlying t = some (.slice e)) (h : DataW.trod enc P w base spare held fuel t [v] = some x) :
    ∃ a len cap, v = .slice a len cap := by
  rcases DataW.trod_slice ht h with ⟨q, _⟩ | ⟨a, len, cap, _, _, _, _, q, _⟩
  · simp at q; exact ⟨none, 0, 0, q⟩
  · simp at q; exact ⟨some a, len, cap, q⟩
theorem fit_i64p {a : Int} (h : (Lit.int .i64 a).wf = true) : -9223372036854775808 ≤ a ∧ a < 9223372036854775808 := (wf_i64 a).1 h
theorem open_tagp {H : Type} {enc : TypeId × Value → H} {W : World} {n : Nat} {c0 c1 : Value} {x : DataW H × List MemPlace} (h : DataW.trod enc Tryz.prog W 0 (fun _ => true) true n 31 [c0, c1] = some x) : ∃ a b : Int, c0 = .int .i64 a ∧ c1 = .int .i64 b ∧ TFit (a, b) := by
  obtain ⟨xs, m, _, hx, _, hxs, g⟩ := DataW.trod_struct Tryz.underlying31 h
  match xs, hxs with
  | [y0, y1], _ =>
    have g0 : DataW.trod enc Tryz.prog W 0 (fun _ => true) true m 2 [c0] = some y0 := by have := g 0 _ rfl; simpa [Tryz.cp2] using this
    have g1 : DataW.trod enc Tryz.prog W 0 (fun _ => true) true m 3 [c1] = some y1 := by have := g 1 _ rfl; simpa [Tryz.cp3] using this
    obtain ⟨a, e0, _, wa⟩ := DataW.trod_int Tryz.underlying2 g0
    obtain ⟨b, e1, _, wb⟩ := DataW.trod_int Tryz.underlying3 g1
    simp at e0 e1
    exact ⟨a, b, e0, e1, fit_i64p wa, fit_i64p wb⟩
theorem all_memp {l : List Nat} (h : l.all (· ≤ reachBytes) = true) {x : Nat} (hx : x ∈ l) : x ≤ reachBytes := by
  have := List.all_eq_true.1 h x hx
  simpa using this
set_option maxRecDepth 100000 in
/-- An entry that came in. -/
theorem open_entryp {H : Type} {enc : TypeId × Value → H} {W : World} {n : Nat} {c0 c1 c2 c3 c4 : Value} {x : DataW H × List MemPlace} (h : DataW.trod enc Tryz.prog W 0 (fun _ => true) true n 34 [c0, c1, c2, c3, c4] = some x) :
    ∃ (ux uy : Int) (uf uh : Bool) (a : Option Addr) (dl dc : Nat) (l : List Nat), c0 = .int .i64 ux ∧ c1 = .int .i64 uy ∧ c2 = .bool uf ∧ c3 = .bool uh ∧ c4 = .slice a dl dc ∧ TFit (ux, uy) ∧ Reads W a dl dc l ∧ ((∀ t ∈ x.1.weights Tryz.prog 34, t ≤ reachBytes) → dl ≤ reachBytes) := by
  obtain ⟨xs, m, _, hx, _, hxs, g⟩ := DataW.trod_struct Tryz.underlying34 h
  match xs, hxs with
  | [y0, y1, y2, y3], _ =>
    have g0 : DataW.trod enc Tryz.prog W 0 (fun _ => true) true m 31 [c0, c1] = some y0 := by have := g 0 _ rfl; simpa [Tryz.cp31] using this
    have g1 : DataW.trod enc Tryz.prog W 0 (fun _ => true) true m 4 [c2] = some y1 := by have := g 1 _ rfl; simpa [Tryz.cp4] using this
    have g2 : DataW.trod enc Tryz.prog W 0 (fun _ => true) true m 4 [c3] = some y2 := by have := g 2 _ rfl; simpa [Tryz.cp4] using this
    have g3 : DataW.trod enc Tryz.prog W 0 (fun _ => true) true m 32 [c4] = some y3 := by have := g 3 _ rfl; simpa [Tryz.cp32] using this
    obtain ⟨ux, uy, rfl, rfl, ft⟩ := open_tagp g0
    obtain ⟨uf, e1, _⟩ := DataW.trod_bool Tryz.underlying4 g1
    obtain ⟨uh, e2, _⟩ := DataW.trod_bool Tryz.underlying4 g2
    obtain ⟨a, dl, dc, rfl⟩ := slice_formp Tryz.underlying32 g3
    simp at e1 e2
    subst e1 e2
    obtain ⟨l, rd⟩ := open_bytesp g3
    refine ⟨ux, uy, uf, uh, a, dl, dc, l, rfl, rfl, rfl, rfl, rfl, ft, rd, fun hw => ?_⟩
    have hr := rd.room
    rcases open_widep g3 with z | ⟨els, sp, e, hl⟩
    · have : dl = 0 := by omega
      rw [this]; exact Nat.zero_le _
    · have hm : (els.length + sp.length) * Tryz.prog.bytesOf 5 ∈ y3.1.weights Tryz.prog 32 := by rw [e]; simp [DataW.weights, Tryz.underlying32]
      have hm2 : (els.length + sp.length) * Tryz.prog.bytesOf 5 ∈ x.1.weights Tryz.prog 34 := by
        rw [hx]
        simp only [DataW.weights, Tryz.underlying34]
        exact DataW.weights_mem_each (j := 3) (t := 32) (d := y3.1) rfl rfl _ hm
      have := hw _ hm2
      rw [Tryz.bp5] at this
      omega
set_option maxRecDepth 100000 in
/-- An update that came in. -/
theorem open_updp {H : Type} {enc : TypeId × Value → H} {W : World} {n : Nat} {c0 c1 c2 c3 c4 c5 c6 : Value} {x : DataW H × List MemPlace} (h : DataW.trod enc Tryz.prog W 0 (fun _ => true) true n 36 [c0, c1, c2, c3, c4, c5, c6] = some x) :
    ∃ (uk : Int) (ukey : ByteArray) (ux uy : Int) (uf uh : Bool) (a : Option Addr) (dl dc : Nat) (l : List Nat), c0 = .int .i64 uk ∧ c1 = .string ukey ∧ c2 = .int .i64 ux ∧ c3 = .int .i64 uy ∧ c4 = .bool uf ∧ c5 = .bool uh ∧ c6 = .slice a dl dc ∧ ukey.size ≤ maxLen ∧ TFit (ux, uy) ∧ Reads W a dl dc l ∧ ((∀ t ∈ x.1.weights Tryz.prog 36, t ≤ reachBytes) → dl ≤ reachBytes) := by
  obtain ⟨xs, m, _, hx, _, hxs, g⟩ := DataW.trod_struct Tryz.underlying36 h
  match xs, hxs with
  | [y0, y1, y2], _ =>
    have g0 : DataW.trod enc Tryz.prog W 0 (fun _ => true) true m 3 [c0] = some y0 := by have := g 0 _ rfl; simpa [Tryz.cp3] using this
    have g1 : DataW.trod enc Tryz.prog W 0 (fun _ => true) true m 9 [c1] = some y1 := by have := g 1 _ rfl; simpa [Tryz.cp9] using this
    have g2 : DataW.trod enc Tryz.prog W 0 (fun _ => true) true m 34 [c2, c3, c4, c5, c6] = some y2 := by have := g 2 _ rfl; simpa [Tryz.cp34] using this
    obtain ⟨uk, e0, _, _⟩ := DataW.trod_int Tryz.underlying3 g0
    obtain ⟨s, e1, _, hs⟩ := DataW.trod_string Tryz.underlying9 g1
    obtain ⟨ux, uy, uf, uh, a, dl, dc, l, rfl, rfl, rfl, rfl, rfl, ft, rd, hd⟩ := open_entryp g2
    simp at e0 e1
    subst e0 e1
    refine ⟨uk, s, ux, uy, uf, uh, a, dl, dc, l, rfl, rfl, rfl, rfl, rfl, rfl, rfl, hs, ft, rd, fun hw => hd (fun t ht => hw t ?_)⟩
    rw [hx]
    simp only [DataW.weights, Tryz.underlying36]
    exact DataW.weights_mem_each (j := 2) (t := 34) (d := y2.1) rfl rfl _ ht
theorem weights_allp {H : Type} {P : Program} {e : TypeId} : ∀ {l : List (DataW H)} {d : DataW H}, d ∈ l → ∀ t ∈ d.weights P e, t ∈ DataW.weightsAll P e l
  | a :: r, d, h, t, ht => by
    simp only [DataW.weightsAll]
    rcases List.mem_cons.1 h with z | z
    · rw [← z]; exact List.mem_append_left _ ht
    · exact List.mem_append_right _ (weights_allp z t ht)
set_option maxRecDepth 100000 in
/-- A list of updates, opened. -/
theorem open_upsp {H : Type} {enc : TypeId × Value → H} {W : World} {a : Option Addr} {len cap fuel : Nat} {x : DataW H × List MemPlace}
    (h : DataW.trod enc Tryz.prog W 0 (fun _ => true) true fuel 22 [.slice a len cap] = some x) (hw : ∀ t ∈ x.1.weights Tryz.prog 22, t ≤ reachBytes) : ∃ us, Ups W a len cap us ∧ len * 72 ≤ reachBytes := by
  rcases open_slice Tryz.underlying22 h with ⟨hcs, _⟩ | ⟨ad, l', c', m, n, D, Pl, hcs, _, hl, hm, hmm, hx, hel⟩
  · simp at hcs
    obtain ⟨rfl, rfl, rfl⟩ := hcs
    exact ⟨[], ⟨rfl, Nat.le_refl _, by unfold maxLen; omega, fun q => absurd q (by omega), fun _ h => absurd h (by simp)⟩, Nat.zero_le _⟩
  · simp at hcs
    obtain ⟨rfl, rfl, rfl⟩ := hcs
    have hmm : m = cap := by simpa using hmm
    rw [Tryz.cp36] at hel
    haveI : Inhabited (Upd × List Nat) := ⟨(⟨0, ByteArray.empty, 0, 0, false, false, none, 0, 0⟩, [])⟩
    have hw1 : ∀ i, i < len → ∀ t ∈ (D i).weights Tryz.prog 36, t ≤ reachBytes := fun i hi t ht => hw t (by
      rw [hx]
      simp only [DataW.weights, Tryz.underlying22]
      have : t ∈ DataW.weightsAll Tryz.prog 36 ((List.range len).map D) := weights_allp (List.mem_map.2 ⟨i, List.mem_range.2 hi, rfl⟩) t ht
      simp [this])
    obtain ⟨O, hO⟩ := choose_lt (n := len) (p := fun i (o : Upd × List Nat) => (∀ c v, (o.1.cs)[c]? = some v → W.cell? ((ad.add (i * 7)).add c) = some v) ∧ UpdOk W o.1 o.2) (fun i hi => by
      obtain ⟨cs', h1, h2⟩ := hel i (by omega)
      obtain ⟨_, hlen, hc⟩ := World.cells?_some h1
      match cs', hlen, hc, h2 with
      | [c0, c1, c2, c3, c4, c5, c6], hlen, hc, h2 =>
        obtain ⟨uk, ukey, ux, uy, uf, uh, a, dl, dc, l, e0, e1, e2, e3, e4, e5, e6, k1, f1, rd, hdl⟩ := open_updp h2
        have hd := hdl (hw1 i hi)
        simp only [reachBytes] at hd
        refine ⟨(⟨uk, ukey, ux, uy, uf, uh, a, dl, dc⟩, l), fun c v hv => ?_, ⟨rd, by show dl + 1 ≤ _; omega, k1, f1⟩⟩
        have hv : ([c0, c1, c2, c3, c4, c5, c6] : List Value)[c]? = some v := by
          rw [e0, e1, e2, e3, e4, e5, e6, ← Array.getElem?_toList] at *
          exact hv
        obtain ⟨hlt, _⟩ := List.getElem?_eq_some_iff.1 hv
        exact (hc c (by simpa using hlt)).trans hv)
    refine ⟨(List.range len).map O, ⟨by simp, hl, hm, fun h0 => ?_, fun s hs => ?_⟩, ?_⟩
    · obtain ⟨b, off, spot⟩ := ad
      have h1 := (hO 0 h0).1 0 _ rfl
      have hs : spot = none := by
        have := World.cell?_spot h1
        simpa [Addr.add] using this
      subst hs
      refine ⟨b, off, rfl, fun i hi c v hv => ?_⟩
      have := (hO i (by simpa using hi)).1 c v (by simpa using hv)
      rw [Addr.add_none, Addr.add_none] at this
      exact this
    · obtain ⟨i, hi, rfl⟩ := List.mem_map.1 hs
      exact (hO i (by simpa using hi)).2
    · have : (len + (m - len)) * 72 ≤ reachBytes := hw _ (by
        rw [hx]
        simp [DataW.weights, Tryz.underlying22, Tryz.bp36])
      omega
theorem kept_belowp {w w' : World} (K : Kept (fun _ => False) w w') : Below w.heap.size w w' := ⟨K.os, K.tape, K.output, K.size, fun k hk => K.block k hk (fun q => q)⟩
/-- What is left: the walk. -/
def TopWalk : Prop := ∀ (d : Int) (a : Option Addr) (len cap : Nat) (us : List (Upd × List Nat)) (w : World), Ups w a len cap us → len ≤ 1954687338300 → Calls Tryz.prog 3 #[.int .i64 d, .slice a len cap] w fun o w' => o = .returned (.bool true) ∧ Kept (fun _ => False) w w'
set_option maxRecDepth 100000 in
theorem topTable_lifted (walk : TopWalk) (os : Os) (started : os.Started) (H : Type) (enc : TypeId × Value → H) :
    ReturnsInHanded {} Tryz.checked os 3 .any (Rows.topTableSpec.pre6 enc Tryz.prog Tryz.f3 Rows.topTableRow.domain false) (Rows.topTableSpec.post enc Tryz.prog Tryz.f3 false true false false) := by
  refine returnsInHanded_of_change_sized (C := Tryz.checked) Tryz.ownp started (by kernel_rfl) Tryz.func3
    (ChangeSpec.witness6 (enc := enc) (C := Tryz.checked) false ⟨#[], #[.int .i64 0, .slice none 0 0], []⟩ 8 (by kernel_rfl) (by kernel_rfl) (by kernel_rfl) (by kernel_rfl)) ?_
  intro W base args ds gs before hval0 hW _ hsz0 _
  have hval : ∀ (j : Nat) t v, Tryz.f3.params[j]? = some t → args[j]? = some v → Value.okWide Tryz.prog W .any base t v := hval0
  have hsz : (DataW.weightsEach Tryz.prog (Tryz.f3.params.toList ++ Rows.topTableSpec.plain.varTypes Tryz.prog) (ds ++ gs)).all (· ≤ reachBytes) = true := hsz0
  have hW' := hW
  obtain ⟨p, q, hA0, hV, rfl, _, _⟩ := hW
  have hA : DataW.TrodAll enc Tryz.prog W 0 (fun _ => true) true Tryz.f3.params.toList args.toList ds p := hA0
  rw [Tryz.params3] at hA hval hsz
  obtain ⟨v1, v2, d1, d2, p1, p2, rfl, rfl, rfl, h1, h2⟩ := trodAll_two hA
  obtain ⟨rfl, rfl⟩ := trodVars_none hV
  have k1 := h1
  have k2 := h2
  have lt1 : ∀ x ∈ p1, x.block < W.heap.size := by obtain ⟨m, hm⟩ := k1; exact DataW.trod_lt m _ _ _ hm
  have lt2 : ∀ x ∈ p2, x.block < W.heap.size := by obtain ⟨m, hm⟩ := k2; exact DataW.trod_lt m _ _ _ hm
  obtain ⟨d, rfl⟩ := okWide_int Tryz.underlying3 (hval 0 3 v1 rfl rfl)
  obtain ⟨a2, len2, cap2, rfl⟩ := okWide_slice Tryz.underlying22 (hval 1 22 v2 rfl rfl)
  obtain ⟨fuel2, hf2⟩ := h2
  obtain ⟨O, hO, z2⟩ := open_upsp hf2 (fun t ht => all_memp hsz (DataW.weights_mem_each (j := 1) (t := 22) (d := d2) rfl rfl t ht))
  clear hA0 hval0 hsz0 hsz
  simp only [reachBytes] at z2
  refine (walk d a2 len2 cap2 O W hO (by omega)).mono fun e W' ⟨he, K⟩ => ?_
  have bel := kept_belowp K
  subst he
  exact ⟨_, rfl, _, _, _, [], _, [], hW', trodAll_mk1 (shut_bool Tryz.underlying4 _), trodAll_cons_mk (Below.trod Tryz.laidOutp (by kernel_rfl) (of_decide_eq_true (by kernel_rfl)) k1 bel lt1) (trodAll_cons_mk (Below.trod Tryz.laidOutp (by kernel_rfl) (of_decide_eq_true (by kernel_rfl)) k2 bel lt2) trodAll_mk0), rfl, bel.frame _, fun h => by cases h⟩
theorem topTable_of (walk : TopWalk) : Rows.TopTableSaid :=
  OpenClaim.holds_of_wide 3 Tryz.f3 rfl rfl rfl rfl rfl rfl rfl ⟨rfl, rfl, rfl, rfl, rfl⟩ rfl rfl rfl rfl rfl (by kernel_rfl) Tryz.func3 (by kernel_rfl)
    (of_decide_eq_true (by kernel_rfl)) (by unfold Func.isWrapper; first | (rw [if_pos (by decide +kernel)]; kernel_rfl) | (rw [if_neg (by decide +kernel)]; exact ⟨rfl, rfl⟩))
    (fun os started H enc _ => topTable_lifted walk os started H enc)
end Go.Proofs.YtojepeefphbekabGreat
