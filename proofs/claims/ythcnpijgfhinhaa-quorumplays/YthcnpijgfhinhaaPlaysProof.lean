import Derived.Test.YthcnpijgfhinhaaPlaysWalk
import Derived.Test.YthcnpijgfhinhaaOpen
import Derived.SizedLaws
namespace Go.Proofs.Ythcnpijgfhinhaa
open Go.ChangeShapes Go.WideShapes Go.ChangeAt Go.RowKit Go.Deep

theorem Try.cells51 : Try.prog.cellsOf 51 = 7 := by kernel_rfl
theorem Try.bytes51 : Try.prog.bytesOf 51 = 56 := by kernel_rfl
/-- A step's cells, opened. -/
theorem open_seven {H : Type} {enc : TypeId × Value → H} {W : World} {base : Nat} {spare : Nat → Bool} {held : Bool} {n : Nat} {c0 c1 c2 c3 c4 c5 c6 : Value} {x : DataW H × List MemPlace}
    (h : DataW.trod enc Try.prog W base spare held n 51 [c0, c1, c2, c3, c4, c5, c6] = some x) : ∃ k a b c i j z : Int, c0 = .int .i64 k ∧ c1 = .int .i64 a ∧ c2 = .int .i64 b ∧ c3 = .int .i64 c ∧ c4 = .int .i64 i ∧ c5 = .int .i64 j ∧ c6 = .int .i64 z := by
  obtain ⟨xs, m, _, hx, _, hxs, g⟩ := DataW.trod_struct Try.underlying51 h
  match xs, hxs with
  | [y0, y1, y2, y3, y4], _ =>
    have g0 : DataW.trod enc Try.prog W base spare held m 3 [c0] = some y0 := by have := g 0 _ rfl; simpa [Try.cells3] using this
    have g1 : DataW.trod enc Try.prog W base spare held m 23 [c1, c2, c3] = some y1 := by have := g 1 _ rfl; simpa [Try.cells23] using this
    have g2 : DataW.trod enc Try.prog W base spare held m 3 [c4] = some y2 := by have := g 2 _ rfl; simpa [Try.cells3] using this
    have g3 : DataW.trod enc Try.prog W base spare held m 3 [c5] = some y3 := by have := g 3 _ rfl; simpa [Try.cells3] using this
    have g4 : DataW.trod enc Try.prog W base spare held m 3 [c6] = some y4 := by have := g 4 _ rfl; simpa [Try.cells3] using this
    obtain ⟨k, e0, _, _⟩ := DataW.trod_int Try.underlying3 g0
    obtain ⟨a, b, c, rfl, rfl, rfl, _, _, _⟩ := open_three g1
    obtain ⟨i, e4, _, _⟩ := DataW.trod_int Try.underlying3 g2
    obtain ⟨j, e5, _, _⟩ := DataW.trod_int Try.underlying3 g3
    obtain ⟨z, e6, _, _⟩ := DataW.trod_int Try.underlying3 g4
    simp at e0 e4 e5 e6
    exact ⟨k, a, b, c, i, j, z, e0, rfl, rfl, rfl, e4, e5, e6⟩
/-- A script, opened. -/
theorem open_steps {H : Type} {enc : TypeId × Value → H} {W : World} {a : Option Addr} {len cap fuel : Nat} {x : DataW H × List MemPlace}
    (h : DataW.trod enc Try.prog W 0 (fun _ => true) true fuel 44 [.slice a len cap] = some x) : PReads W a len cap ∧ (len = 0 ∨ ∃ els sp, x.1 = .slice els sp ∧ len ≤ els.length + sp.length) := by
  rcases open_slice Try.underlying44 h with ⟨hcs, _⟩ | ⟨ad, l', c', m, n, D, Pl, hcs, _, hl, hm, hmm, hx, hel⟩
  · simp at hcs
    obtain ⟨rfl, rfl, rfl⟩ := hcs
    exact ⟨⟨Nat.le_refl _, by unfold maxLen; omega, fun q => absurd q (by omega)⟩, .inl rfl⟩
  · simp at hcs
    obtain ⟨rfl, rfl, rfl⟩ := hcs
    have hmm : m = cap := by simpa using hmm
    rw [Try.cells51] at hel
    have one : ∀ i, i < len → ∃ k N K D I J x : Int, W.cell? ((ad.add (i * 7)).add 0) = some (.int .i64 k) ∧ W.cell? ((ad.add (i * 7)).add 1) = some (.int .i64 N) ∧ W.cell? ((ad.add (i * 7)).add 2) = some (.int .i64 K) ∧ W.cell? ((ad.add (i * 7)).add 3) = some (.int .i64 D) ∧ W.cell? ((ad.add (i * 7)).add 4) = some (.int .i64 I) ∧ W.cell? ((ad.add (i * 7)).add 5) = some (.int .i64 J) ∧ W.cell? ((ad.add (i * 7)).add 6) = some (.int .i64 x) := fun i hi => by
      obtain ⟨cs', h1, h2⟩ := hel i (by omega)
      obtain ⟨_, hlen, hc⟩ := World.cells?_some h1
      match cs', hlen with
      | [c0, c1, c2, c3, c4, c5, c6], _ =>
        obtain ⟨k, N, K, D, I, J, x, rfl, rfl, rfl, rfl, rfl, rfl, rfl⟩ := open_seven h2
        exact ⟨k, N, K, D, I, J, x, hc 0 (by omega), hc 1 (by omega), hc 2 (by omega), hc 3 (by omega), hc 4 (by omega), hc 5 (by omega), hc 6 (by omega)⟩
    refine ⟨⟨hl, hm, fun q => ?_⟩, ?_⟩
    · obtain ⟨b, off, spot⟩ := ad
      have hs : spot = none := by
        obtain ⟨k, _, _, _, _, _, _, h0, _⟩ := one 0 q
        have := World.cell?_spot h0
        simpa [Addr.add] using this
      subst hs
      refine ⟨b, off, rfl, fun i hi => ?_⟩
      obtain ⟨k, N, K, D, I, J, x, h0, h1, h2, h3, h4, h5, h6⟩ := one i hi
      rw [Addr.add_none, Addr.add_none] at h0 h1 h2 h3 h4 h5 h6
      exact ⟨k, N, K, D, I, J, x, h0, h1, h2, h3, h4, h5, h6⟩
    · right
      rw [hx]
      refine ⟨_, _, rfl, ?_⟩
      simp
theorem small_script (n : Nat) (h : n * 56 ≤ 140737488351232) : (n + 1) * 8 ≤ 140737488355328 ∧ n ≤ 4611686018427387000 := by
  have a : n * 8 ≤ n * 56 := Nat.mul_le_mul_left n (by decide)
  have b : n * 1 ≤ n * 56 := Nat.mul_le_mul_left n (by decide)
  rw [Nat.mul_one] at b
  refine ⟨?_, Nat.le_trans (Nat.le_trans b h) (by decide)⟩
  rw [Nat.add_mul]
  exact Nat.le_trans (Nat.add_le_add_right (Nat.le_trans a h) _) (by decide)
set_option maxRecDepth 100000 in
theorem quorumPlays_lifted (os : Os) (started : os.Started) (H : Type) (enc : TypeId × Value → H) :
    ReturnsInHanded {} Try.checked os 6 .any (Rows.quorumPlaysSpec.pre6 enc Try.prog Try.f6 Rows.quorumPlaysRow.domain false) (Rows.quorumPlaysSpec.post enc Try.prog Try.f6 false true false false) := by
  refine returnsInHanded_of_change_sized (C := Try.checked) Try.own started (by kernel_rfl) Try.func6
    (ChangeSpec.witness6 (enc := enc) (C := Try.checked) false ⟨#[], #[.slice none 0 0], []⟩ 8 (by kernel_rfl) (by kernel_rfl) (by kernel_rfl) (by kernel_rfl)) ?_
  intro W base args ds gs before hval0 hW _ hsz0 _
  have hval : ∀ (j : Nat) t v, Try.f6.params[j]? = some t → args[j]? = some v → Value.okWide Try.prog W .any base t v := hval0
  have hsz : (DataW.weightsEach Try.prog (Try.f6.params.toList ++ Rows.quorumPlaysSpec.plain.varTypes Try.prog) (ds ++ gs)).all (· ≤ reachBytes) = true := hsz0
  have hW' := hW
  obtain ⟨p, q, hA0, hV, rfl, _, _⟩ := hW
  have hA : DataW.TrodAll enc Try.prog W 0 (fun _ => true) true Try.f6.params.toList args.toList ds p := hA0
  rw [Try.params6] at hA hval hsz
  obtain ⟨v1, d1, rfl, rfl, h1⟩ := trodAll_one hA
  obtain ⟨rfl, rfl⟩ := trodVars_none hV
  have k1 := h1
  have lt1 : ∀ x ∈ p, x.block < W.heap.size := by obtain ⟨m, hm⟩ := k1; exact DataW.trod_lt m _ _ _ hm
  obtain ⟨a1, len1, cap1, rfl⟩ := okWide_slice Try.underlying44 (hval 0 44 v1 rfl rfl)
  obtain ⟨fuel1, hf1⟩ := h1
  obtain ⟨r1, c1⟩ := open_steps hf1
  have z1 : len1 * 56 ≤ 140737488351232 := by
    rcases c1 with c | ⟨els, sp, e, hl⟩
    · rw [c]; decide
    · have e : d1 = .slice els sp := e
      subst e
      have := sized_slice hsz (j := 0) (t := 44) (e := 51) rfl rfl Try.underlying44
      rw [Try.bytes51] at this
      simp only [reachBytes] at this
      have h2 : len1 * 56 ≤ (els.length + sp.length) * 56 := Nat.mul_le_mul_right 56 hl
      first | exact Nat.le_trans h2 this | exact Nat.le_trans h2 (by rw [Nat.mul_comm]; exact this)
  clear hA0 hval0 hsz0 hsz
  obtain ⟨n1, n2⟩ := small_script len1 z1
  refine (quorumPlays a1 len1 cap1 W r1 n1 n2).mono fun e W' ⟨he, bel⟩ => ?_
  subst he
  exact ⟨_, rfl, _, _, _, [], _, [], hW', trodAll_mk1 (shut_bool Try.underlying4 _), trodAll_mk1 (Below.trod Try.laidOut (by kernel_rfl) (of_decide_eq_true (by kernel_rfl)) k1 bel lt1), rfl, bel.frame _, fun h => by cases h⟩

theorem quorumPlays_holds : Rows.QuorumPlaysSaid :=
  OpenClaim.holds_of_wide 6 Try.f6 rfl rfl rfl rfl rfl rfl rfl ⟨rfl, rfl, rfl, rfl, rfl⟩ rfl rfl rfl rfl rfl (by kernel_rfl) Try.func6 (by kernel_rfl)
    (of_decide_eq_true (by kernel_rfl)) (by unfold Func.isWrapper; first | (rw [if_pos (by decide +kernel)]; kernel_rfl) | (rw [if_neg (by decide +kernel)]; exact ⟨rfl, rfl⟩))
    (fun os started H enc _ => quorumPlays_lifted os started H enc)
#print axioms quorumPlays_holds
end Go.Proofs.Ythcnpijgfhinhaa
