import Derived.Test.YtpgfmoddhjhlkaaDoorAllWalk
import Derived.Test.YtpgfmoddhjhlkaaDoorOpen
import Derived.Test.YtpgfmoddhjhlkaaDoorTie
import Derived.Test.YtpgfmoddhjhlkaaDoorCards
namespace Go.Proofs.YtpgfmoddhjhlkaaDoor
open Go.ChangeShapes Go.WideShapes Go.ChangeAt Go.RowKit Go.Deep

theorem Tryd.cells32 : Tryd.prog.cellsOf 32 = 9 := by kernel_rfl
theorem Tryd.cells30 : Tryd.prog.cellsOf 30 = 1 := by kernel_rfl
theorem Tryd.bytes23 : Tryd.prog.bytesOf 23 = 16 := by kernel_rfl
theorem reach_is : reachBytes = 140737488351232 := by decide
/-- A list of tags, opened. -/
theorem open_tags {H : Type} {enc : TypeId × Value → H} {W : World} {a : Option Addr} {len cap fuel : Nat} {x : DataW H × List MemPlace}
    (h : DataW.trod enc Tryd.prog W 0 (fun _ => true) true fuel 30 [.slice a len cap] = some x) : ∃ l, TReads W a len cap l ∧ (len = 0 ∨ ∃ elems spare, x.1 = .slice elems spare ∧ len ≤ elems.length + spare.length) := by
  rcases open_slice Tryd.underlying30 h with ⟨hcs, _⟩ | ⟨ad, l', c', m, n, D, Pl, hcs, _, hl, hm, hmm, hx, hel⟩
  · simp at hcs
    obtain ⟨rfl, rfl, rfl⟩ := hcs
    exact ⟨[], ⟨rfl, Nat.le_refl _, by unfold maxLen; omega, fun _ q => absurd q (by simp), fun q => absurd q (by omega)⟩, .inl rfl⟩
  · simp at hcs
    obtain ⟨rfl, rfl, rfl⟩ := hcs
    have hmm : m = cap := by simpa using hmm
    rw [Tryd.cells23] at hel
    obtain ⟨O, hO⟩ := choose_lt (n := len) (p := fun i (t : Int × Int) => W.cell? ((ad.add (i * 2)).add 0) = some (.int .i64 t.1) ∧ W.cell? ((ad.add (i * 2)).add 1) = some (.int .i64 t.2) ∧ (-9223372036854775808 ≤ t.1 ∧ t.1 < 9223372036854775808) ∧ (-9223372036854775808 ≤ t.2 ∧ t.2 < 9223372036854775808)) (fun i hi => by
      obtain ⟨cs', h1, h2⟩ := hel i (by omega)
      obtain ⟨_, hlen, hc⟩ := World.cells?_some h1
      match cs', hlen with
      | [c0, c1], _ =>
        obtain ⟨x, y, rfl, rfl, fx, fy⟩ := open_cells h2
        exact ⟨(x, y), hc 0 (by omega), hc 1 (by omega), fx, fy⟩)
    refine ⟨(List.range len).map O, ⟨by simp, hl, hm, ?_, fun q => ?_⟩, ?_⟩
    · intro t ht
      obtain ⟨i, hi, rfl⟩ := List.mem_map.1 ht
      exact ⟨(hO i (by simpa using hi)).2.2.1, (hO i (by simpa using hi)).2.2.2⟩
    · obtain ⟨b, off, spot⟩ := ad
      have hs : spot = none := by
        have := (hO 0 q).1
        have := World.cell?_spot this
        simpa [Addr.add] using this
      subst hs
      refine ⟨b, off, rfl, fun i hi => ?_⟩
      have e : ((List.range len).map O).getD i (0, 0) = O i := by
        rw [List.getD_eq_getElem?_getD]
        simp [hi]
      have h0 := (hO i hi).1
      have h1 := (hO i hi).2.1
      rw [e]
      have ad0 : ∀ j, (⟨b, off, none⟩ : Addr).add j = ⟨b, off + j, none⟩ := fun j => by unfold Addr.add; split <;> simp_all
      have ad1 : ∀ o j, (⟨b, o, none⟩ : Addr).add j = ⟨b, o + j, none⟩ := fun o j => by unfold Addr.add; split <;> simp_all
      rw [ad0, ad1] at h0 h1
      exact ⟨h0, h1⟩
    · right
      rw [hx]
      refine ⟨_, _, rfl, ?_⟩
      simp
theorem array9 {α : Type} {cs : Array α} (h : cs.size = 9) : ∃ c0 c1 c2 c3 c4 c5 c6 c7 c8, cs = #[c0, c1, c2, c3, c4, c5, c6, c7, c8] := by
  obtain ⟨l⟩ := cs
  match l, h with
  | [c0, c1, c2, c3, c4, c5, c6, c7, c8], _ => exact ⟨c0, c1, c2, c3, c4, c5, c6, c7, c8, rfl⟩
theorem slice_form {H : Type} {enc : TypeId × Value → H} {P : Program} {w : World} {base : Nat} {spare : Nat → Bool} {held : Bool} {t e : TypeId} {fuel : Nat} {v : Value} {x : DataW H × List MemPlace} (ht : P.underlying t = some (.slice e)) (h : DataW.trod enc P w base spare held fuel t [v] = some x) :
    ∃ a len cap, v = .slice a len cap := by
  rcases DataW.trod_slice ht h with ⟨q, _⟩ | ⟨a, len, cap, _, _, _, _, q, _⟩
  · simp at q; exact ⟨none, 0, 0, q⟩
  · simp at q; exact ⟨some a, len, cap, q⟩
/-- A case by value, opened. -/
theorem open_case {H : Type} {enc : TypeId × Value → H} {W : World} {r : Reach} {b0 : Nat} {v : Value} {d : DataW H} {p : List MemPlace}
    (hv : Value.okWide Tryd.prog W r b0 32 v) (h : DataW.Trod enc Tryd.prog W 0 (fun _ => true) true 32 v d p) :
    ∃ (q : Option Addr) (len cap : Nat) (l : List (Int × Int)) (a b c e u k o : Int) (s : ByteArray), v = .agg #[.slice q len cap, .int .i64 a, .int .i64 b, .int .i64 c, .int .i64 e, .int .i64 u, .int .i64 k, .int .i64 o, .string s] ∧
      (-9223372036854775808 ≤ a ∧ a < 9223372036854775808) ∧ (-9223372036854775808 ≤ b ∧ b < 9223372036854775808) ∧ (-9223372036854775808 ≤ u ∧ u < 9223372036854775808) ∧ TReads W q len cap l ∧
      ((d.weights Tryd.prog 32).all (· ≤ reachBytes) = true → s.size ≤ 140737488355328 ∧ (len + 1) * 16 ≤ 140737488355328) := by
  obtain ⟨cs, rfl, hsz⟩ := okWide_struct Tryd.underlying32 hv
  obtain ⟨c0, c1, c2, c3, c4, c5, c6, c7, c8, rfl⟩ := array9 (hsz.trans Tryd.cells32)
  obtain ⟨fuel, hf⟩ := h
  have hf : DataW.trod enc Tryd.prog W 0 (fun _ => true) true fuel 32 [c0, c1, c2, c3, c4, c5, c6, c7, c8] = some (d, p) := by simpa [Value.cells] using hf
  obtain ⟨xs, m, _, hx, _, hxs, g⟩ := DataW.trod_struct Tryd.underlying32 hf
  match xs, hxs with
  | [y0, y1, y2, y3, y4, y5, y6], _ =>
    have g0 : DataW.trod enc Tryd.prog W 0 (fun _ => true) true m 30 [c0] = some y0 := by have := g 0 _ rfl; simpa [Tryd.cells30] using this
    have g1 : DataW.trod enc Tryd.prog W 0 (fun _ => true) true m 23 [c1, c2] = some y1 := by have := g 1 _ rfl; simpa [Tryd.cells23] using this
    have g2 : DataW.trod enc Tryd.prog W 0 (fun _ => true) true m 23 [c3, c4] = some y2 := by have := g 2 _ rfl; simpa [Tryd.cells23] using this
    have g3 : DataW.trod enc Tryd.prog W 0 (fun _ => true) true m 2 [c5] = some y3 := by have := g 3 _ rfl; simpa [Tryd.cells2] using this
    have g4 : DataW.trod enc Tryd.prog W 0 (fun _ => true) true m 3 [c6] = some y4 := by have := g 4 _ rfl; simpa [Tryd.cells3] using this
    have g5 : DataW.trod enc Tryd.prog W 0 (fun _ => true) true m 3 [c7] = some y5 := by have := g 5 _ rfl; simpa [Tryd.cells3] using this
    have g6 : DataW.trod enc Tryd.prog W 0 (fun _ => true) true m 9 [c8] = some y6 := by have := g 6 _ rfl; simpa [Tryd.cells9] using this
    obtain ⟨q, len, cap, rfl⟩ := slice_form Tryd.underlying30 g0
    obtain ⟨l, R, hR⟩ := open_tags g0
    obtain ⟨a, b, rfl, rfl, ha, hb⟩ := open_cells g1
    obtain ⟨c, e, rfl, rfl, hc, he⟩ := open_cells g2
    obtain ⟨u, e3, _, wu⟩ := DataW.trod_int Tryd.underlying2 g3
    obtain ⟨k, e4, _, wk⟩ := DataW.trod_int Tryd.underlying3 g4
    obtain ⟨o, e5, _, wo⟩ := DataW.trod_int Tryd.underlying3 g5
    obtain ⟨s, e6, x6, _⟩ := DataW.trod_string Tryd.underlying9 g6
    simp at e3 e4 e5 e6
    subst e3 e4 e5 e6
    refine ⟨q, len, cap, l, a, b, c, e, u, k, o, s, rfl, ha, hb, fit_i64 wu, R, fun hw => ?_⟩
    have hd : d = .agg ([y0, y1, y2, y3, y4, y5, y6].map (·.1)) := congrArg (·.1) hx
    rw [hd] at hw
    have hw2 : (DataW.weightsEach Tryd.prog [30, 23, 23, 2, 3, 3, 9] ([y0, y1, y2, y3, y4, y5, y6].map (·.1))).all (· ≤ reachBytes) = true := by
      simp only [DataW.weights, Tryd.underlying32] at hw
      exact hw
    have rb := reach_is
    refine ⟨?_, ?_⟩
    · have h1 := sized_string hw2 (j := 6) (t := 9) (bytes := s.data.toList) rfl (by simp [x6])
      have e2 : s.data.toList.length = s.size := by rw [Array.length_toList]; rfl
      omega
    · rcases hR with h0 | ⟨elems, spare, e1, hle⟩
      · omega
      · have h1 := sized_slice hw2 (j := 0) (t := 30) (e := 23) (elems := elems) (spare := spare) rfl (by simp [e1]) Tryd.underlying30
        rw [Tryd.bytes23] at h1
        omega
set_option maxRecDepth 100000 in
theorem tagAll_lifted (os : Os) (started : os.Started) (H : Type) (enc : TypeId × Value → H) :
    ReturnsInHanded {} Tryd.checked os 4 .any (fun w args => (Rows.tagAllSpec.pre enc Tryd.prog Tryd.f4 Rows.tagAllRow.domain false w args ∧ laidMet Tryd.prog laidAll w) ∧ sizedMet enc Tryd.prog Tryd.f4 (OpenSpec.ofChange Rows.tagAllSpec) false w args)
      (Rows.tagAllSpec.post enc Tryd.prog Tryd.f4 false true false false) := by
  refine returnsInHanded_of_change_and (C := Tryd.checked) (X := fun w _ => laidMet Tryd.prog laidAll w) (fun _ _ _ hh h => h.of_heap hh) Tryd.own started (by kernel_rfl) Tryd.func4
    (ChangeSpec.witness_at (enc := enc) (C := Tryd.checked) (os := os) (X := fun w _ => laidMet Tryd.prog laidAll w) false
      ({ World.holding Tryd.prog os ⟨#[.cells #[.string synS] 92, .cells #[.string rngS] 92], #[], []⟩ with heap := (((((World.holding Tryd.prog os ⟨#[.cells #[.string synS] 92, .cells #[.string rngS] 92], #[], []⟩).heap.modify 0 (relay (tabCells Rows.laid_internal_strconv_uint64pow10))).modify 2 (relay #[.iface 90 (.pointer (some ⟨11, 0, none⟩))])).modify 3 (relay #[.iface 90 (.pointer (some ⟨12, 0, none⟩))])).modify 4 (relay (tabCells Rows.laid_math_bits_deBruijn32tab))).modify 5 (relay (tabCells Rows.laid_math_bits_deBruijn64tab)) }) #[.agg #[.slice none 0 0, .int .i64 0, .int .i64 0, .int .i64 0, .int .i64 0, .int .i64 0, .int .i64 0, .int .i64 0, .string ⟨#[]⟩]] 8 rfl (by kernel_rfl) (by kernel_rfl) (by kernel_rfl) (by kernel_rfl) (by kernel_rfl) (laidMet_of_run' 8 (by kernel_rfl) (by kernel_rfl))) ?_
  intro W base args ds gs before hval0 hW _ hsz0 hL _
  have hsz : (DataW.weightsEach Tryd.prog (Tryd.f4.params.toList ++ Rows.tagAllSpec.plain.varTypes Tryd.prog) (ds ++ gs)).all (· ≤ reachBytes) = true := hsz0
  clear hsz0
  have hval : ∀ (j : Nat) t v, Tryd.f4.params[j]? = some t → args[j]? = some v → Value.okWide Tryd.prog W .any base t v := hval0
  have hW' := hW
  obtain ⟨p, q, hA0, hV, rfl, _, _⟩ := hW
  have hA : DataW.TrodAll enc Tryd.prog W 0 (fun _ => true) true Tryd.f4.params.toList args.toList ds p := hA0
  rw [Tryd.params4] at hA hval hsz
  obtain ⟨v0, d0, rfl, rfl, h0⟩ := trodAll_one hA
  obtain ⟨rfl, rfl⟩ := trodVars_none hV
  have k0 := h0
  have lt0 : ∀ x ∈ p, x.block < W.heap.size := by obtain ⟨m, hm⟩ := k0; exact DataW.trod_lt m _ _ _ hm
  obtain ⟨q, len, cap, l, a, b, c, e, u, k, o, s, rfl, fa, fb, fu, R, hsize⟩ := open_case (hval 0 32 v0 rfl rfl) h0
  have hw : (d0.weights Tryd.prog 32).all (· ≤ reachBytes) = true := by
    rw [List.all_eq_true] at hsz ⊢
    intro n hn
    exact hsz n (DataW.weights_mem_each (j := 0) (t := 32) (d := d0) rfl rfl n hn)
  obtain ⟨hs, hb⟩ := hsize hw
  clear hA0 hval0
  refine (tagAll_walk q len cap l a b c e u k o s W fa fb fu hs hb R (vars_of_laid hL)).mono fun e W' ⟨he, bel⟩ => ?_
  subst he
  exact ⟨_, rfl, _, _, _, [], _, [], hW', trodAll_mk1 (shut_bool Tryd.underlying4 _), trodAll_mk1 (Below.trod Tryd.laidOut (by kernel_rfl) (of_decide_eq_true (by kernel_rfl)) k0 bel lt0), rfl, bel.frame _, fun h => by cases h⟩

theorem tagAll_row : Rows.TagAllSaid :=
  OpenClaim.holds_of_wide 4 Tryd.f4 rfl rfl rfl rfl rfl rfl rfl ⟨rfl, rfl, rfl, rfl, rfl⟩ rfl rfl rfl rfl rfl (by kernel_rfl) Tryd.func4 (by kernel_rfl)
    (of_decide_eq_true (by kernel_rfl)) (by unfold Func.isWrapper; first | (rw [if_pos (by decide +kernel)]; kernel_rfl) | (rw [if_neg (by decide +kernel)]; exact ⟨rfl, rfl⟩))
    (fun os started H enc _ => tagAll_lifted os started H enc)
theorem tagAll_holds : Rows.TagAllCardSaid :=
  Claim7.holds_tied_plain_at .later [] [.data, .data, .data, .sentinel, .sentinel] true (true, "f93c9f2eb2341ea396eebb0daf82bff0380fa14405c3a216ce263b767423ee18") true
    tagAll_row (fun _ h => by cases h) (by kernel_rfl) (fun _ h => by cases h) tagAll_row_tie rfl ⟨rfl, rfl⟩ (by kernel_rfl) rfl
    (fun f fn hf hfn => by
      obtain rfl : f = 4 := Option.some.inj ((show Tryd.prog.funcNamed "sherd/sherdlaw08.TagAll" = some 4 by kernel_rfl).symm.trans hf) |>.symm
      obtain rfl : fn = Tryd.f4 := (Option.some.inj (Tryd.func4.symm.trans hfn)).symm
      refine ⟨by kernel_rfl, fun j t ht => ?_⟩
      rw [Tryd.params4] at ht
      rcases j with _ | j
      · have h3 : t = 32 := by simpa using ht.symm
        subst h3
        exact (show Tryd.prog.wantsStandIn 32 = false by kernel_rfl)
      · simp at ht)
    (by kernel_rfl)
#print axioms tagAll_holds
end Go.Proofs.YtpgfmoddhjhlkaaDoor
