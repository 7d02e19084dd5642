import Derived.Test.YtankiipkkbihiaaOpen
import Derived.Test.YtankiipkkbihiaaLinesB
namespace Go.Proofs.Ytankiipkkbihiaa
open Go.ChangeShapes Go.WideShapes Go.ChangeAt Go.RowKit

theorem lines_walk (n : Int) (a1 a2 : Option Addr) (len1 cap1 len2 cap2 c : Nat) (lp lq : List Nat) (w : World) (hn1 : -9223372036854775808 ≤ n) (hn2 : n ≤ 9223372036854775807)
    (r1 : Reads w a1 len1 cap1 lp) (r2 : Reads w a2 len2 cap2 lq) (hz1 : cap1 ≤ 140737488351232) (hz2 : cap2 ≤ 140737488351232) (hc : c < 256) :
    Calls Try.prog 4 #[.int .i64 n, .slice a1 len1 cap1, .slice a2 len2 cap2, .int .u8 (c : Int)] w fun e w' => e = .returned (.bool true) ∧ Below w.heap.size w w' := by
  by_cases h : len2 < len1
  · exact lines_a n a1 a2 len1 cap1 len2 cap2 c lp lq w hn1 hn2 r1 r2 hz1 hz2 hc h
  · exact lines_b n a1 a2 len1 cap1 len2 cap2 c lp lq w hn1 hn2 r1 r2 hz1 hz2 hc (by omega)

set_option maxRecDepth 100000 in
theorem gfLines_lifted (os : Os) (started : os.Started) (H : Type) (enc : TypeId × Value → H) :
    ReturnsInHanded {} Try.checked os 4 .any (Rows.gfLinesSpec.pre6 enc Try.prog Try.f4 Rows.gfLinesRow.domain false) (Rows.gfLinesSpec.post enc Try.prog Try.f4 false true false false) := by
  refine returnsInHanded_of_change_sized (C := Try.checked) Try.own started (by kernel_rfl) Try.func4
    (ChangeSpec.witness6 (enc := enc) (C := Try.checked) false ⟨#[], #[.int .i64 0, .slice none 0 0, .slice none 0 0, .int .u8 0], []⟩ 8 (by kernel_rfl) (by kernel_rfl) (by kernel_rfl) (by kernel_rfl)) ?_
  intro W base args ds gs before hval0 hW _ hsz0 _
  have hval : ∀ (j : Nat) t v, Try.f4.params[j]? = some t → args[j]? = some v → Value.okWide Try.prog W .any base t v := hval0
  have hsz : (DataW.weightsEach Try.prog (Try.f4.params.toList ++ Rows.gfLinesSpec.plain.varTypes Try.prog) (ds ++ gs)).all (· ≤ reachBytes) = true := hsz0
  have hW' := hW
  obtain ⟨p, q, hA0, hV, rfl, _, _⟩ := hW
  have hA : DataW.TrodAll enc Try.prog W 0 (fun _ => true) true Try.f4.params.toList args.toList ds p := hA0
  rw [Try.params4] at hA hval hsz
  obtain ⟨v0, v1, v2, v3, d0, d1, d2, d3, p0, p1, p2, p3, rfl, rfl, rfl, h0, h1, h2, h3⟩ := trodAll_four hA
  obtain ⟨rfl, rfl⟩ := trodVars_none hV
  obtain ⟨n, rfl, rfl, rfl, wn⟩ := open_int Try.underlying3 (hval 0 3 v0 rfl rfl) h0
  obtain ⟨c, rfl, rfl, rfl, wc⟩ := open_int Try.underlying5 (hval 3 5 v3 rfl rfl) h3
  obtain ⟨c, hc, rfl⟩ := byte_nat c wc
  have k1 := h1
  have k2 := h2
  have lt1 : ∀ x ∈ p1, x.block < W.heap.size := by obtain ⟨m, hm⟩ := k1; exact DataW.trod_lt m _ _ _ hm
  have lt2 : ∀ x ∈ p2, x.block < W.heap.size := by obtain ⟨m, hm⟩ := k2; exact DataW.trod_lt m _ _ _ hm
  obtain ⟨a1, len1, cap1, rfl⟩ := okWide_slice Try.underlying22 (hval 1 22 v1 rfl rfl)
  obtain ⟨a2, len2, cap2, rfl⟩ := okWide_slice Try.underlying22 (hval 2 22 v2 rfl rfl)
  obtain ⟨fuel1, hf1⟩ := h1
  obtain ⟨fuel2, hf2⟩ := h2
  obtain ⟨lp, r1, c1⟩ := open_bytes hf1
  obtain ⟨lq, r2, c2⟩ := open_bytes hf2
  have z1 : cap1 ≤ 140737488351232 := by
    rcases c1 with c | ⟨els, sp, e, hl⟩
    · omega
    · have e : d1 = .slice els sp := e
      subst e
      have := sized_slice hsz (j := 1) (t := 22) (e := 5) rfl rfl Try.underlying22
      rw [Try.bytes5] at this
      simp only [reachBytes] at this
      omega
  have z2 : cap2 ≤ 140737488351232 := by
    rcases c2 with c | ⟨els, sp, e, hl⟩
    · omega
    · have e : d2 = .slice els sp := e
      subst e
      have := sized_slice hsz (j := 2) (t := 22) (e := 5) rfl rfl Try.underlying22
      rw [Try.bytes5] at this
      simp only [reachBytes] at this
      omega
  have hn := bounds_i64 wn
  clear hA0 hval0 hsz0 hsz
  refine (lines_walk n a1 a2 len1 cap1 len2 cap2 c lp lq W (by omega) (by omega) r1 r2 z1 z2 hc).mono fun e W' ⟨he, bel⟩ => ?_
  subst he
  exact ⟨_, rfl, _, _, _, [], _, [], hW', trodAll_mk1 (shut_bool Try.underlying4 _), (trodAll_cons_mk (shut_int Try.underlying3 wn) (trodAll_cons_mk (Below.trod Try.laidOut (by kernel_rfl) (of_decide_eq_true (by kernel_rfl)) k1 bel lt1) (trodAll_cons_mk (Below.trod Try.laidOut (by kernel_rfl) (of_decide_eq_true (by kernel_rfl)) k2 bel lt2) (trodAll_cons_mk (shut_int Try.underlying5 wc) trodAll_mk0)))), rfl, bel.frame _, fun h => by cases h⟩

theorem gfLines_holds : Rows.GfLinesSaid :=
  OpenClaim.holds_of_wide 4 Try.f4 rfl rfl rfl rfl rfl rfl rfl ⟨rfl, rfl, rfl, rfl, rfl⟩ rfl rfl rfl rfl rfl (by kernel_rfl) Try.func4 (by kernel_rfl)
    (of_decide_eq_true (by kernel_rfl)) (by unfold Func.isWrapper; first | (rw [if_pos (by decide +kernel)]; kernel_rfl) | (rw [if_neg (by decide +kernel)]; exact ⟨rfl, rfl⟩))
    (fun os started H enc _ => gfLines_lifted os started H enc)
#print axioms gfLines_holds
end Go.Proofs.Ytankiipkkbihiaa
