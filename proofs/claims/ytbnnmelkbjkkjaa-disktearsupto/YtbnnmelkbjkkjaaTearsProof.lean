import Derived.Test.YtbnnmelkbjkkjaaOpen
import Derived.Test.YtbnnmelkbjkkjaaTears
namespace Go.Proofs.Ytbnnmelkbjkkjaa
open Go.ChangeShapes Go.WideShapes Go.ChangeAt Go.RowKit Go.Deep

theorem bulk_rangeD {H : Type} (D : Nat → DataW H) (O : Nat → Sli) : ∀ n, (∀ i, i < n → (O i).len ≤ Rows.uptoBulk (D i)) → sumD ((List.range n).map O) ≤ Rows.uptoBulkAll ((List.range n).map D) := by
  have app : ∀ (l r : List (DataW H)), Rows.uptoBulkAll (l ++ r) = Rows.uptoBulkAll l + Rows.uptoBulkAll r := fun l r => by
    induction l with
    | nil => simp [Rows.uptoBulkAll]
    | cons d t ih => simp only [List.cons_append, Rows.uptoBulkAll, ih]; omega
  intro n
  induction n with
  | zero => intro _; simp [sumD]
  | succ n ih =>
    intro h
    have := ih (fun i hi => h i (by omega))
    have hn := h n (by omega)
    rw [List.range_succ, List.map_append, List.map_append, app]
    unfold sumD at this ⊢
    rw [List.map_append, List.sum_append]
    simp only [List.map_cons, List.map_nil, List.sum_cons, List.sum_nil, Rows.uptoBulkAll]
    omega
/-- One of a list of lists of bytes, where it lies. -/
def SliAt (W : World) (ad : Addr) (s : Sli) : Prop := W.cell? ad = some (.slice s.a s.len s.cap) ∧ Reads W s.a s.len s.cap s.l
/-- A list of lists of bytes that came in. -/
theorem open_datas {H : Type} {enc : TypeId × Value → H} {W : World} {a : Option Addr} {len cap fuel : Nat} {x : DataW H × List MemPlace}
    (h : DataW.trod enc Try.prog W 0 (fun _ => true) true fuel 23 [.slice a len cap] = some x) : ∃ D, Datas W a len cap D ∧ len ≤ Rows.uptoBulk x.1 ∧ sumD D ≤ Rows.uptoBulk x.1 := by
  rcases open_slice Try.underlying23 h with ⟨hcs, _⟩ | ⟨ad, l', c', m, n, D, Pl, hcs, _, hl, hm, hmm, hx, hel⟩
  · simp at hcs
    obtain ⟨rfl, rfl, rfl⟩ := hcs
    exact ⟨[], ⟨rfl, Nat.le_refl _, by unfold maxLen; omega, fun h => absurd h (by omega), fun _ h => absurd h (by simp)⟩, Nat.zero_le _, Nat.zero_le _⟩
  · simp at hcs
    obtain ⟨rfl, rfl, rfl⟩ := hcs
    have hmm : m = cap := by simpa using hmm
    rw [Try.cells22] at hel
    have : Inhabited Sli := ⟨⟨none, 0, 0, []⟩⟩
    obtain ⟨O, hO⟩ := choose_lt (n := len) (p := fun (i : Nat) (o : Sli) => SliAt W (ad.add (i * 1)) o ∧ o.len ≤ Rows.uptoBulk (D i)) (fun i hi => by
      obtain ⟨cs', h1, h2⟩ := hel i (by omega)
      obtain ⟨_, hlen, hc⟩ := World.cells?_some h1
      match cs', hlen with
      | [v], _ =>
        obtain ⟨a', len', cap', rfl⟩ := slice_form Try.underlying22 h2
        obtain ⟨l, rd⟩ := open_bytes h2
        have c0 : W.cell? ((ad.add (i * 1)).add 0) = some (.slice a' len' cap') := hc 0 (by omega)
        have b3 : len' ≤ Rows.uptoBulk (D i) := by
          have hr := rd.room
          rcases open_wide h2 with z | ⟨els, sp, e, hl⟩
          · omega
          · have e : D i = .slice els sp := e
            rw [e]
            have l1 := bulk_length els
            have l2 := bulk_length sp
            simp only [Rows.uptoBulk]
            omega
        exact ⟨⟨a', len', cap', l⟩, ⟨by simpa [Addr.add] using c0, rd⟩, b3⟩)
    refine ⟨(List.range len).map O, ⟨by simp, hl, hm, fun h0 => ?_, fun s hs => ?_⟩, ?_, ?_⟩
    · obtain ⟨b, off, spot⟩ := ad
      have h1 := (hO 0 h0).1.1
      have hs : spot = none := by
        have := World.cell?_spot h1
        simpa [Addr.add] using this
      subst hs
      refine ⟨b, off, rfl, fun i hi => ?_⟩
      have := (hO i (by simpa using hi)).1.1
      rw [Addr.add_none, Nat.mul_one] at this
      simpa using this
    · obtain ⟨i, hi, rfl⟩ := List.mem_map.1 hs
      exact (hO i (by simpa using hi)).1.2
    · rw [hx]
      have := bulk_length ((List.range len).map D)
      simp only [Rows.uptoBulk]
      simp only [List.length_map, List.length_range] at this
      omega
    · rw [hx]
      have := bulk_rangeD D O len (fun i hi => (hO i hi).2)
      simp only [Rows.uptoBulk]
      omega
theorem Try.cells26 : Try.prog.cellsOf 26 = 4 := by kernel_rfl
theorem Try.cells23 : Try.prog.cellsOf 23 = 1 := by kernel_rfl
/-- A tear that came in. -/
theorem open_tear {H : Type} {enc : TypeId × Value → H} {W : World} {n : Nat} {c0 c1 c2 c3 : Value} {x : DataW H × List MemPlace} (h : DataW.trod enc Try.prog W 0 (fun _ => true) true n 26 [c0, c1, c2, c3] = some x) :
    ∃ (aL : Option Addr) (nL cL : Nat) (l : List Nat) (qP : Option Addr) (nP cP : Nat) (D : List Sli) (sz : Int) (qC : Option Addr) (nC cC : Nat) (cs : List Int), c0 = .slice aL nL cL ∧ c1 = .slice qP nP cP ∧ c2 = .int .i64 sz ∧ c3 = .slice qC nC cC ∧ Reads W aL nL cL l ∧ Datas W qP nP cP D ∧ IRd W qC nC cC cs ∧ nL + sumD D ≤ Rows.uptoBulk x.1 ∧ nP ≤ Rows.uptoBulk x.1 := by
  obtain ⟨xs, m, _, hx, _, hxs, g⟩ := DataW.trod_struct Try.underlying26 h
  match xs, hxs with
  | [y0, y1, y2, y3], _ =>
    have g0 : DataW.trod enc Try.prog W 0 (fun _ => true) true m 22 [c0] = some y0 := by have := g 0 _ rfl; simpa [Try.cells22] using this
    have g1 : DataW.trod enc Try.prog W 0 (fun _ => true) true m 23 [c1] = some y1 := by have := g 1 _ rfl; simpa [Try.cells23, Try.cells22] using this
    have g2 : DataW.trod enc Try.prog W 0 (fun _ => true) true m 3 [c2] = some y2 := by have := g 2 _ rfl; simpa [Try.cells3, Try.cells22, Try.cells23] using this
    have g3 : DataW.trod enc Try.prog W 0 (fun _ => true) true m 24 [c3] = some y3 := by have := g 3 _ rfl; simpa [Try.cells24, Try.cells3, Try.cells22, Try.cells23] using this
    obtain ⟨aL, nL, cL, rfl⟩ := slice_form Try.underlying22 g0
    obtain ⟨qP, nP, cP, rfl⟩ := slice_form Try.underlying23 g1
    obtain ⟨sz, e2, _, _⟩ := DataW.trod_int Try.underlying3 g2
    obtain ⟨qC, nC, cC, rfl⟩ := slice_form Try.underlying24 g3
    simp at e2
    subst e2
    obtain ⟨l, rd⟩ := open_bytes g0
    obtain ⟨D, hD, hp, hs⟩ := open_datas g1
    obtain ⟨cs, hc⟩ := open_choices g3
    have b0 : nL ≤ Rows.uptoBulk y0.1 := by
      have hr := rd.room
      rcases open_wide g0 with z | ⟨els, sp, e, hl⟩
      · omega
      · rw [e]
        have l1 := bulk_length els
        have l2 := bulk_length sp
        simp only [Rows.uptoBulk]
        omega
    refine ⟨aL, nL, cL, l, qP, nP, cP, D, sz, qC, nC, cC, cs, rfl, rfl, rfl, rfl, rd, hD, hc, ?_, ?_⟩
    · rw [hx]
      simp only [List.map_cons, List.map_nil, Rows.uptoBulk, Rows.uptoBulkAll]
      omega
    · rw [hx]
      simp only [List.map_cons, List.map_nil, Rows.uptoBulk, Rows.uptoBulkAll]
      omega
theorem uarray4 {α : Type} {a : Array α} (h : a.size = 4) : ∃ c0 c1 c2 c3, a = #[c0, c1, c2, c3] := by
  match a, h with
  | ⟨[c0, c1, c2, c3]⟩, _ => exact ⟨c0, c1, c2, c3, rfl⟩
set_option maxRecDepth 100000 in
theorem diskTears_lifted (os : Os) (started : os.Started) (H : Type) (enc : TypeId × Value → H) (F : Stop.Interp) :
    ReturnsInHanded {} Try.checked os 3 .any ((Rows.OpenSpec.upto Rows.diskTearsSpec).pre6 enc Try.prog Try.f3 Rows.diskTearsUptoRow.domain false) (((Rows.OpenSpec.upto Rows.diskTearsSpec).at F).post enc Try.prog Try.f3 false true false false) := by
  refine returnsInHanded_of_cond (C := Try.checked) (s := Rows.OpenSpec.upto Rows.diskTearsSpec) (k := Rows.uptoSmall) rfl Try.own started (by kernel_rfl) Try.func3
    (OpenSpec.witness (enc := enc) (C := Try.checked) (s := Rows.OpenSpec.upto Rows.diskTearsSpec) (k := Rows.uptoSmall) rfl false ⟨#[], #[.agg #[.slice none 0 0, .slice none 0 0, .int .i64 0, .slice none 0 0]], []⟩ 8 (by kernel_rfl) (by kernel_rfl) (by kernel_rfl)
      (x := ([.agg [.nil, .nil, .lit (.int .i64 0), .nil]], [], [])) (by kernel_rfl) rfl (by kernel_rfl)) ?_
  intro W base args ds gs before hval0 hW _ hk _
  have hval : ∀ (j : Nat) t v, Try.f3.params[j]? = some t → args[j]? = some v → Value.okWide Try.prog W .any base t v := hval0
  have hW' := hW
  obtain ⟨p, q, hA0, hV, rfl, _, _⟩ := hW
  have hA : DataW.TrodAll enc Try.prog W 0 (fun _ => true) true Try.f3.params.toList args.toList ds p := hA0
  rw [Try.params3] at hA hval
  obtain ⟨v1, d1, rfl, rfl, h1⟩ := trodAll_one hA
  obtain ⟨rfl, rfl⟩ := trodVars_none hV
  have k1 := h1
  have lt1 : ∀ x ∈ p, x.block < W.heap.size := by obtain ⟨m, hm⟩ := k1; exact DataW.trod_lt m _ _ _ hm
  obtain ⟨cs, rfl, hsz⟩ := okWide_struct Try.underlying26 (hval 0 26 v1 rfl rfl)
  obtain ⟨c0, c1, c2, c3, rfl⟩ := uarray4 (hsz.trans Try.cells26)
  obtain ⟨fuel1, hf1⟩ := h1
  obtain ⟨aL, nL, cL, l, qP, nP, cP, D, sz, qC, nC, cC, ch, rfl, rfl, rfl, rfl, r1, r2, r3, hb1, hb2⟩ := open_tear hf1
  have hb : Rows.uptoBulkAll [d1] ≤ 1048576 := of_decide_eq_true hk
  simp only [Rows.uptoBulkAll] at hb
  have hd1 : Rows.uptoBulk d1 ≤ 1048576 := by omega
  clear hA0 hval0
  refine (diskTears aL nL cL l qP nP cP D sz qC nC cC ch W r1 r2 r3 (Nat.le_trans (Nat.le_trans hb1 hd1) (by decide)) (Nat.le_trans (Nat.le_trans hb2 hd1) (by decide))).mono fun e W' ⟨he, K⟩ => ?_
  have bel := below_kept K
  subst he
  exact ⟨_, rfl, _, _, _, [], _, [], hW', trodAll_mk1 (shut_bool Try.underlying4 _), (trodAll_mk1 (Below.trod Try.laidOut (by kernel_rfl) (of_decide_eq_true (by kernel_rfl)) k1 bel lt1)), rfl, bel.frame _, fun h => by cases h⟩

theorem diskTears_holds : Rows.DiskTearsUptoSaid :=
  OpenClaim.holds_of_cond 3 Try.f3 rfl rfl rfl rfl rfl rfl rfl ⟨rfl, rfl, rfl, rfl, rfl⟩ rfl rfl rfl rfl rfl (by kernel_rfl) Try.func3 (by kernel_rfl)
    (of_decide_eq_true (by kernel_rfl)) (by unfold Func.isWrapper; first | (rw [if_pos (by decide +kernel)]; kernel_rfl) | (rw [if_neg (by decide +kernel)]; exact ⟨rfl, rfl⟩))
    (fun os started H enc _ F => diskTears_lifted os started H enc F)
#print axioms diskTears_holds
end Go.Proofs.Ytbnnmelkbjkkjaa
