import Derived.Test.YtpgfmoddhjhlkaaSetsWalk
import Derived.Test.YtpgfmoddhjhlkaaOpen
import Derived.SizedLaws
namespace Go.Proofs.Ytpgfmoddhjhlkaa
open Go.ChangeShapes Go.WideShapes Go.ChangeAt Go.RowKit Go.Deep

theorem Try.cells52 : Try.prog.cellsOf 52 = 4 := by kernel_rfl
theorem Try.bytes52 : Try.prog.bytesOf 52 = 32 := by kernel_rfl
theorem Try.bytes24 : Try.prog.bytesOf 24 = 16 := by kernel_rfl
/-- A list of tags, opened. -/
theorem open_tags {H : Type} {enc : TypeId × Value → H} {W : World} {a : Option Addr} {len cap fuel : Nat} {x : DataW H × List MemPlace}
    (h : DataW.trod enc Try.prog W 0 (fun _ => true) true fuel 22 [.slice a len cap] = some x) : ∃ l, TReads W a len cap l ∧ (len = 0 ∨ ∃ els sp, x.1 = .slice els sp ∧ len ≤ els.length + sp.length) := by
  rcases open_slice Try.underlying22 h with ⟨hcs, _⟩ | ⟨ad, l', c', m, n, D, Pl, hcs, _, hl, hm, hmm, hx, hel⟩
  · simp at hcs
    obtain ⟨rfl, rfl, rfl⟩ := hcs
    exact ⟨[], ⟨rfl, Nat.le_refl _, by unfold maxLen; omega, fun _ q => absurd q (by simp), fun q => absurd q (by omega)⟩, .inl rfl⟩
  · simp at hcs
    obtain ⟨rfl, rfl, rfl⟩ := hcs
    have hmm : m = cap := by simpa using hmm
    rw [Try.cells24] at hel
    obtain ⟨O, hO⟩ := choose_lt (n := len) (p := fun i (t : Int × Int) => W.cell? ((ad.add (i * 2)).add 0) = some (.int .i64 t.1) ∧ W.cell? ((ad.add (i * 2)).add 1) = some (.int .i64 t.2) ∧ (-9223372036854775808 ≤ t.1 ∧ t.1 < 9223372036854775808) ∧ (-9223372036854775808 ≤ t.2 ∧ t.2 < 9223372036854775808)) (fun i hi => by
      obtain ⟨cs', h1, h2⟩ := hel i (by omega)
      obtain ⟨_, hlen, hc⟩ := World.cells?_some h1
      match cs', hlen with
      | [c0, c1], _ =>
        obtain ⟨x, y, rfl, rfl, fx, fy⟩ := open_cells h2
        exact ⟨(x, y), hc 0 (by omega), hc 1 (by omega), fx, fy⟩)
    refine ⟨(List.range len).map O, ⟨by simp, hl, hm, ?_, fun q => ?_⟩, ?_⟩
    · intro t ht
      obtain ⟨i, hi, rfl⟩ := List.mem_map.1 ht
      exact ⟨(hO i (by simpa using hi)).2.2.1, (hO i (by simpa using hi)).2.2.2⟩
    · obtain ⟨b, off, spot⟩ := ad
      have hs : spot = none := by
        have := (hO 0 q).1
        have := World.cell?_spot this
        simpa [Addr.add] using this
      subst hs
      refine ⟨b, off, rfl, fun i hi => ?_⟩
      have e : ((List.range len).map O).getD i (0, 0) = O i := by
        rw [List.getD_eq_getElem?_getD]
        simp [hi]
      have h0 := (hO i hi).1
      have h1 := (hO i hi).2.1
      rw [e]
      rw [Addr.add_none, Addr.add_none] at h0 h1
      exact ⟨h0, h1⟩
    · right
      rw [hx]
      refine ⟨_, _, rfl, ?_⟩
      simp
/-- A call's cells, opened. -/
theorem open_opcells {H : Type} {enc : TypeId × Value → H} {W : World} {base : Nat} {spare : Nat → Bool} {held : Bool} {n : Nat} {c0 c1 c2 c3 : Value} {x : DataW H × List MemPlace}
    (h : DataW.trod enc Try.prog W base spare held n 52 [c0, c1, c2, c3] = some x) : ∃ k a b z : Int, c0 = .int .i64 k ∧ c1 = .int .i64 a ∧ c2 = .int .i64 b ∧ c3 = .int .i64 z ∧ (-9223372036854775808 ≤ a ∧ a < 9223372036854775808) ∧ (-9223372036854775808 ≤ b ∧ b < 9223372036854775808) ∧ (-9223372036854775808 ≤ z ∧ z < 9223372036854775808) := by
  obtain ⟨xs, m, _, hx, _, hxs, g⟩ := DataW.trod_struct Try.underlying52 h
  match xs, hxs with
  | [y0, y1, y2], _ =>
    have g0 : DataW.trod enc Try.prog W base spare held m 3 [c0] = some y0 := by have := g 0 _ rfl; simpa [Try.cells3] using this
    have g1 : DataW.trod enc Try.prog W base spare held m 24 [c1, c2] = some y1 := by have := g 1 _ rfl; simpa [Try.cells24] using this
    have g2 : DataW.trod enc Try.prog W base spare held m 3 [c3] = some y2 := by have := g 2 _ rfl; simpa [Try.cells3] using this
    obtain ⟨k, e0, _, wk⟩ := DataW.trod_int Try.underlying3 g0
    obtain ⟨a, b, rfl, rfl, ha, hb⟩ := open_cells g1
    obtain ⟨z, e3, _, wz⟩ := DataW.trod_int Try.underlying3 g2
    simp at e0 e3
    exact ⟨k, a, b, z, e0, rfl, rfl, e3, ha, hb, fit_i64 wz⟩
/-- A script, opened. -/
theorem open_ops {H : Type} {enc : TypeId × Value → H} {W : World} {a : Option Addr} {len cap fuel : Nat} {x : DataW H × List MemPlace}
    (h : DataW.trod enc Try.prog W 0 (fun _ => true) true fuel 35 [.slice a len cap] = some x) : ∃ l, OReads W a len cap l ∧ (len = 0 ∨ ∃ els sp, x.1 = .slice els sp ∧ len ≤ els.length + sp.length) := by
  rcases open_slice Try.underlying35 h with ⟨hcs, _⟩ | ⟨ad, l', c', m, n, D, Pl, hcs, _, hl, hm, hmm, hx, hel⟩
  · simp at hcs
    obtain ⟨rfl, rfl, rfl⟩ := hcs
    exact ⟨[], ⟨rfl, Nat.le_refl _, by unfold maxLen; omega, fun _ q => absurd q (by simp), fun q => absurd q (by omega)⟩, .inl rfl⟩
  · simp at hcs
    obtain ⟨rfl, rfl, rfl⟩ := hcs
    have hmm : m = cap := by simpa using hmm
    rw [Try.cells52] at hel
    obtain ⟨O, hO⟩ := choose_lt (n := len) (p := fun i (t : Int × (Int × Int) × Int) => (W.cell? ((ad.add (i * 4)).add 0) = some (.int .i64 t.1) ∧ W.cell? ((ad.add (i * 4)).add 1) = some (.int .i64 t.2.1.1) ∧ W.cell? ((ad.add (i * 4)).add 2) = some (.int .i64 t.2.1.2) ∧ W.cell? ((ad.add (i * 4)).add 3) = some (.int .i64 t.2.2)) ∧ (-9223372036854775808 ≤ t.2.1.1 ∧ t.2.1.1 < 9223372036854775808) ∧ (-9223372036854775808 ≤ t.2.1.2 ∧ t.2.1.2 < 9223372036854775808) ∧ (-9223372036854775808 ≤ t.2.2 ∧ t.2.2 < 9223372036854775808)) (fun i hi => by
      obtain ⟨cs', h1, h2⟩ := hel i (by omega)
      obtain ⟨_, hlen, hc⟩ := World.cells?_some h1
      match cs', hlen with
      | [c0, c1, c2, c3], _ =>
        obtain ⟨k, x, y, z, rfl, rfl, rfl, rfl, fx, fy, fz⟩ := open_opcells h2
        exact ⟨(k, (x, y), z), ⟨hc 0 (by omega), hc 1 (by omega), hc 2 (by omega), hc 3 (by omega)⟩, fx, fy, fz⟩)
    refine ⟨(List.range len).map O, ⟨by simp, hl, hm, ?_, fun q => ?_⟩, ?_⟩
    · intro t ht
      obtain ⟨i, hi, rfl⟩ := List.mem_map.1 ht
      have hh := hO i (by simpa using hi)
      exact ⟨fun u hu => by rw [List.mem_singleton] at hu; subst hu; exact ⟨hh.2.1, hh.2.2.1⟩, hh.2.2.2⟩
    · obtain ⟨b, off, spot⟩ := ad
      have hs : spot = none := by
        have := (hO 0 q).1.1
        have := World.cell?_spot this
        simpa [Addr.add] using this
      subst hs
      refine ⟨b, off, rfl, fun i hi => ?_⟩
      have hi' : i < len := by simpa using hi
      have e : ((List.range len).map O)[i] = O i := by simp
      obtain ⟨h0, h1, h2, h3⟩ := (hO i hi').1
      rw [e]
      rw [Addr.add_none, Addr.add_none] at h0 h1 h2 h3
      exact ⟨h0, h1, h2, h3⟩
    · right
      rw [hx]
      refine ⟨_, _, rfl, ?_⟩
      simp
theorem small_both (n m : Nat) (h : n * 16 ≤ 140737488351232) (g : m * 32 ≤ 140737488351232) : (n + m + 4) * 16 ≤ 211106232532992 := by
  omega
set_option maxRecDepth 100000 in
theorem tagSets_lifted (os : Os) (started : os.Started) (H : Type) (enc : TypeId × Value → H) :
    ReturnsInHanded {} Try.checked os 5 .any (Rows.tagSetsSpec.pre6 enc Try.prog Try.f5 Rows.tagSetsRow.domain false) (Rows.tagSetsSpec.post enc Try.prog Try.f5 false true false false) := by
  refine returnsInHanded_of_change_sized (C := Try.checked) Try.own started (by kernel_rfl) Try.func5
    (ChangeSpec.witness6 (enc := enc) (C := Try.checked) false ⟨#[], #[.slice none 0 0, .slice none 0 0], []⟩ 8 (by kernel_rfl) (by kernel_rfl) (by kernel_rfl) (by kernel_rfl)) ?_
  intro W base args ds gs before hval0 hW _ hsz0 _
  have hval : ∀ (j : Nat) t v, Try.f5.params[j]? = some t → args[j]? = some v → Value.okWide Try.prog W .any base t v := hval0
  have hsz : (DataW.weightsEach Try.prog (Try.f5.params.toList ++ Rows.tagSetsSpec.plain.varTypes Try.prog) (ds ++ gs)).all (· ≤ reachBytes) = true := hsz0
  have hW' := hW
  obtain ⟨p, q, hA0, hV, rfl, _, _⟩ := hW
  have hA : DataW.TrodAll enc Try.prog W 0 (fun _ => true) true Try.f5.params.toList args.toList ds p := hA0
  rw [Try.params5] at hA hval hsz
  obtain ⟨v1, v2, d1, d2, p1, p2, rfl, rfl, rfl, h1, h2⟩ := trodAll_two hA
  obtain ⟨rfl, rfl⟩ := trodVars_none hV
  have k1 := h1
  have k2 := h2
  have lt1 : ∀ x ∈ p1, x.block < W.heap.size := by obtain ⟨m, hm⟩ := k1; exact DataW.trod_lt m _ _ _ hm
  have lt2 : ∀ x ∈ p2, x.block < W.heap.size := by obtain ⟨m, hm⟩ := k2; exact DataW.trod_lt m _ _ _ hm
  obtain ⟨a1, len1, cap1, rfl⟩ := okWide_slice Try.underlying22 (hval 0 22 v1 rfl rfl)
  obtain ⟨a2, len2, cap2, rfl⟩ := okWide_slice Try.underlying35 (hval 1 35 v2 rfl rfl)
  obtain ⟨fuel1, hf1⟩ := h1
  obtain ⟨fuel2, hf2⟩ := h2
  obtain ⟨l1, r1, c1⟩ := open_tags hf1
  obtain ⟨l2, r2, c2⟩ := open_ops hf2
  have z1 : len1 * 16 ≤ 140737488351232 := by
    rcases c1 with c | ⟨els, sp, e, hl⟩
    · rw [c]; decide
    · have e : d1 = .slice els sp := e
      subst e
      have := sized_slice hsz (j := 0) (t := 22) (e := 24) rfl rfl Try.underlying22
      rw [Try.bytes24] at this
      simp only [reachBytes] at this
      have h2 : len1 * 16 ≤ (els.length + sp.length) * 16 := Nat.mul_le_mul_right 16 hl
      first | exact Nat.le_trans h2 this | exact Nat.le_trans h2 (by rw [Nat.mul_comm]; exact this)
  have z2 : len2 * 32 ≤ 140737488351232 := by
    rcases c2 with c | ⟨els, sp, e, hl⟩
    · rw [c]; decide
    · have e : d2 = .slice els sp := e
      subst e
      have := sized_slice hsz (j := 1) (t := 35) (e := 52) rfl rfl Try.underlying35
      rw [Try.bytes52] at this
      simp only [reachBytes] at this
      have h2 : len2 * 32 ≤ (els.length + sp.length) * 32 := Nat.mul_le_mul_right 32 hl
      first | exact Nat.le_trans h2 this | exact Nat.le_trans h2 (by rw [Nat.mul_comm]; exact this)
  clear hA0 hval0 hsz0 hsz
  refine (tagSets a1 a2 len1 cap1 len2 cap2 l1 l2 W r1 r2 (small_both len1 len2 z1 z2)).mono fun e W' ⟨he, bel⟩ => ?_
  subst he
  exact ⟨_, rfl, _, _, _, [], _, [], hW', trodAll_mk1 (shut_bool Try.underlying4 _), trodAll_cons_mk (Below.trod Try.laidOut (by kernel_rfl) (of_decide_eq_true (by kernel_rfl)) k1 bel lt1) (trodAll_cons_mk (Below.trod Try.laidOut (by kernel_rfl) (of_decide_eq_true (by kernel_rfl)) k2 bel lt2) trodAll_mk0), rfl, bel.frame _, fun h => by cases h⟩

theorem tagSets_holds : Rows.TagSetsSaid :=
  OpenClaim.holds_of_wide 5 Try.f5 rfl rfl rfl rfl rfl rfl rfl ⟨rfl, rfl, rfl, rfl, rfl⟩ rfl rfl rfl rfl rfl (by kernel_rfl) Try.func5 (by kernel_rfl)
    (of_decide_eq_true (by kernel_rfl)) (by unfold Func.isWrapper; first | (rw [if_pos (by decide +kernel)]; kernel_rfl) | (rw [if_neg (by decide +kernel)]; exact ⟨rfl, rfl⟩))
    (fun os started H enc _ => tagSets_lifted os started H enc)
#print axioms tagSets_holds
end Go.Proofs.Ytpgfmoddhjhlkaa
