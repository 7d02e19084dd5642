import Derived.Test.YtojepeefphbekaaGreatOpenJ
import Derived.Test.YtojepeefphbekaaGreatTurns
import Derived.JoinedCond
import Derived.Test.YtojepeefphbekaaGreatDst
namespace Go.Proofs.YtojepeefphbekaaGreat
open Go.RowKit Go.ChangeShapes Go.WideShapes Go.ChangeAt Go.Deep

theorem Tryz.cells3i : Tryz.prog.cellsOf 3 = 1 := by kernel_rfl
theorem bulk_pos {H : Type} (d : DataW H) : 1 ≤ Rows.uptoBulk d := by
  cases d with
  | lit l => cases l <;> simp [Rows.uptoBulk]
  | nil => simp [Rows.uptoBulk]
  | ptr d => simp [Rows.uptoBulk]
  | slice elems spare => simp [Rows.uptoBulk]
  | agg parts => simp [Rows.uptoBulk]
  | iface t d => simp [Rows.uptoBulk]
  | map entries => simp [Rows.uptoBulk]
  | held h => simp [Rows.uptoBulk]
theorem bulk_length {H : Type} : ∀ l : List (DataW H), l.length ≤ Rows.uptoBulkAll l
  | [] => by simp
  | d :: r => by have := bulk_length r; have := bulk_pos d; simp only [Rows.uptoBulkAll, List.length_cons]; omega
/-- A list of ints that came in. -/
theorem open_swaps {H : Type} {enc : TypeId × Value → H} {W : World} {a : Option Addr} {len cap fuel : Nat} {x : DataW H × List MemPlace}
    (h : DataW.trod enc Tryz.prog W 0 (fun _ => true) true fuel 59 [.slice a len cap] = some x) : ∃ l, IReads W a len cap l ∧ len ≤ Rows.uptoBulk x.1 := by
  rcases open_ints Tryz.underlying59 Tryz.underlying3 Tryz.cells3i h with ⟨hcs, _⟩ | ⟨ad, l', c', zs, hcs, _, hl, hm, hz, hx, hcell, hwz⟩
  · simp at hcs
    obtain ⟨rfl, rfl, rfl⟩ := hcs
    exact ⟨[], ⟨rfl, Nat.le_refl _, by unfold maxLen; omega, fun h => absurd h (by omega)⟩, Nat.zero_le _⟩
  · simp at hcs
    obtain ⟨rfl, rfl, rfl⟩ := hcs
    have hz' : zs.length = cap := by simpa using hz
    refine ⟨zs.take len, ⟨by rw [List.length_take]; omega, hl, hm, fun h0 => ?_⟩, ?_⟩
    · obtain ⟨b, off, spot⟩ := ad
      have c0 := hcell 0 (by omega)
      have hs : spot = none := by simpa [Addr.add] using World.cell?_spot c0
      subst hs
      refine ⟨b, off, rfl, fun i hi => ?_⟩
      have ci := hcell i (by omega)
      rw [Addr.add_none] at ci
      rw [ci, List.getD_eq_getElem?_getD, List.getD_eq_getElem?_getD, List.getElem?_take_of_lt hi]
    · rw [hx]
      simp only [Rows.uptoBulk]
      refine Nat.le_trans ?_ (Nat.le_trans (bulk_length _) (Nat.le_trans (Nat.le_add_right _ _) (Nat.le_succ _)))
      unfold lits
      rw [List.length_map, List.length_take]
      omega
set_option maxRecDepth 100000 in
theorem tableTurns_lifted (os : Os) (started : os.Started) (H : Type) (enc : TypeId × Value → H) (F : Stop.Interp) :
    ReturnsInHanded {} Tryz.checked os 5 .any ((Rows.OpenSpec.upto Rows.tableTurnsSpec).pre6 enc Tryz.prog Tryz.f5 Rows.tableTurnsUptoRow.domain false) (((Rows.OpenSpec.upto Rows.tableTurnsSpec).at F).post enc Tryz.prog Tryz.f5 false true false false) := by
  refine returnsInHanded_of_cond (C := Tryz.checked) (s := Rows.OpenSpec.upto Rows.tableTurnsSpec) (k := Rows.uptoSmall) rfl Tryz.own started (by kernel_rfl) Tryz.func5
    (OpenSpec.witness (enc := enc) (C := Tryz.checked) (s := Rows.OpenSpec.upto Rows.tableTurnsSpec) (k := Rows.uptoSmall) rfl false ⟨#[], #[.int .i64 0, .slice none 0 0, .slice none 0 0], []⟩ 8 (by kernel_rfl) (by kernel_rfl) (by kernel_rfl)
      (x := ([.lit (.int .i64 0), .nil, .nil], [], [])) (by kernel_rfl) rfl (by kernel_rfl)) ?_
  intro W base args ds gs before hval0 hW _ hk _
  have hval : ∀ (j : Nat) t v, Tryz.f5.params[j]? = some t → args[j]? = some v → Value.okWide Tryz.prog W .any base t v := hval0
  have hW' := hW
  obtain ⟨p, q, hA0, hV, rfl, _, _⟩ := hW
  have hA : DataW.TrodAll enc Tryz.prog W 0 (fun _ => true) true Tryz.f5.params.toList args.toList ds p := hA0
  rw [Tryz.params5] at hA hval
  obtain ⟨v1, v2, v3, d1, d2, d3, p1, p2, p3, rfl, rfl, rfl, h1, h2, h3⟩ := trodAll_three hA
  obtain ⟨rfl, rfl⟩ := trodVars_none hV
  have k1 := h1
  have k2 := h2
  have k3 := h3
  have lt1 : ∀ x ∈ p1, x.block < W.heap.size := by obtain ⟨m, hm⟩ := k1; exact DataW.trod_lt m _ _ _ hm
  have lt2 : ∀ x ∈ p2, x.block < W.heap.size := by obtain ⟨m, hm⟩ := k2; exact DataW.trod_lt m _ _ _ hm
  have lt3 : ∀ x ∈ p3, x.block < W.heap.size := by obtain ⟨m, hm⟩ := k3; exact DataW.trod_lt m _ _ _ hm
  obtain ⟨d, rfl⟩ := okWide_int Tryz.underlying3 (hval 0 3 v1 rfl rfl)
  obtain ⟨a2, len2, cap2, rfl⟩ := okWide_slice Tryz.underlying22 (hval 1 22 v2 rfl rfl)
  obtain ⟨a3, len3, cap3, rfl⟩ := okWide_slice Tryz.underlying59 (hval 2 59 v3 rfl rfl)
  obtain ⟨fuel2, hf2⟩ := h2
  obtain ⟨fuel3, hf3⟩ := h3
  obtain ⟨l2, r2, c2⟩ := open_moves hf2
  obtain ⟨l3, r3, c3⟩ := open_swaps hf3
  have hb : Rows.uptoBulkAll [d1, d2, d3] ≤ 1048576 := of_decide_eq_true hk
  simp only [Rows.uptoBulkAll] at hb
  have e2 : len2 ≤ 1048576 := by
    rcases c2 with c | ⟨els, sp, e, hl⟩
    · omega
    · have e : d2 = .slice els sp := e
      subst e
      simp only [Rows.uptoBulk] at hb
      have := bulk_length els
      have := bulk_length sp
      omega
  have e3 : len3 ≤ 1048576 := by
    have c3 : len3 ≤ Rows.uptoBulk d3 := c3
    omega
  clear hA0 hval0
  refine (turnsWalk d a2 len2 cap2 l2 a3 len3 cap3 l3 W r2 e2 r3 e3).mono fun e W' ⟨he, K⟩ => ?_
  have bel := kept_below0 K
  subst he
  exact ⟨_, rfl, _, _, _, [], _, [], hW', trodAll_mk1 (shut_bool Tryz.underlying4 _), (trodAll_cons_mk (Below.trod Tryz.laidOut (by kernel_rfl) (of_decide_eq_true (by kernel_rfl)) k1 bel lt1) (trodAll_cons_mk (Below.trod Tryz.laidOut (by kernel_rfl) (of_decide_eq_true (by kernel_rfl)) k2 bel lt2) (trodAll_cons_mk (Below.trod Tryz.laidOut (by kernel_rfl) (of_decide_eq_true (by kernel_rfl)) k3 bel lt3) trodAll_mk0))), rfl, bel.frame _, fun h => by cases h⟩
theorem tableTurns_holds : Rows.TableTurnsUptoSaid :=
  OpenClaim.holds_of_cond 5 Tryz.f5 rfl rfl rfl rfl rfl rfl rfl ⟨rfl, rfl, rfl, rfl, rfl⟩ rfl rfl rfl rfl rfl (by kernel_rfl) Tryz.func5 (by kernel_rfl)
    (of_decide_eq_true (by kernel_rfl)) (by unfold Func.isWrapper; first | (rw [if_pos (by decide +kernel)]; kernel_rfl) | (rw [if_neg (by decide +kernel)]; exact ⟨rfl, rfl⟩))
    (fun os started H enc _ F => tableTurns_lifted os started H enc F)
end Go.Proofs.YtojepeefphbekaaGreat

namespace Go.Proofs.YtojepeefphbekaaGreat
open Go.RowKit 

theorem By.memS {d : Int} {S : List (Int × Int)} {M : Int × Int → Option Hd} {eF eH : Int × Int → Bool} (h : By d S M eF eH) (i : Inv d S M) (g : Int × Int) : g ∈ S ↔ ¬ tc g (floorT S d) < 0 ∧ eF g = true := by
  rw [i.fin g]
  constructor
  · rintro ⟨hd, hm, hf⟩
    have lo := i.low g hd hm
    refine ⟨lo, ?_⟩
    have := (h.at lo).1
    rw [hm] at this
    exact this.symm.trans hf
  · rintro ⟨lo, hf⟩
    have := h.inn g lo
    rw [hf] at this
    cases hm : M g with
    | none => rw [hm] at this; simp at this
    | some hd =>
      have q := (h.at lo).1
      rw [hm, hf] at q
      exact ⟨hd, rfl, q⟩
theorem Inv.nodup {d : Int} {S : List (Int × Int)} {M : Int × Int → Option Hd} (i : Inv d S M) : S.Nodup := i.up.imp (fun {a b} hab e => by rw [e, tc_self] at hab; exact absurd hab (by decide))
theorem By.le {d : Int} {S S' : List (Int × Int)} {M M' : Int × Int → Option Hd} {eF eH : Int × Int → Bool} (h : By d S M eF eH) (i : Inv d S M) (h' : By d S' M' eF eH) (i' : Inv d S' M') (h0 : 0 ≤ d) : ¬ tc (floorT S d) (floorT S' d) < 0 := by
  intro lt
  have sub : ∀ g, g ∈ S' → g ∈ S := by
    intro g hg
    obtain ⟨q1, q2⟩ := (h'.memS i' g).1 hg
    refine (h.memS i g).2 ⟨fun z => q1 ?_, q2⟩
    rw [tc_lt] at *
    omega
  have c1 := i.card
  rcases floor_mem S' d h0 with ⟨z, e⟩ | ⟨z, z2, z3⟩
  · rw [e] at lt
    rcases floor_mem S d h0 with ⟨_, e2⟩ | ⟨_, q2, q3⟩
    · rw [e2, tc_self] at lt
      exact absurd lt (by decide)
    · have hm : floorT S d ∈ S := by rw [q3]; exact List.getElem_mem _
      obtain ⟨hd, hmm, _⟩ := (i.fin _).1 hm
      exact tc_asym _ _ (i.pos _ hd hmm) lt
  · rcases floor_mem S d h0 with ⟨q, _⟩ | ⟨q, q2, q3⟩
    · have := nodup_le S' S i'.nodup sub
      omega
    · have hm : floorT S d ∈ S := by rw [q3]; exact List.getElem_mem _
      have := nodup_le (floorT S d :: S') S (List.nodup_cons.2 ⟨fun y => ((h'.memS i' _).1 y).1 lt, i'.nodup⟩) (fun g hg => by
        rcases List.mem_cons.1 hg with rfl | hg
        · exact hm
        · exact sub g hg)
      rw [List.length_cons] at this
      omega
/-- What is held is told by what came. -/
theorem By.one {d : Int} {S S' : List (Int × Int)} {M M' : Int × Int → Option Hd} {eF eH : Int × Int → Bool} (h : By d S M eF eH) (i : Inv d S M) (h' : By d S' M' eF eH) (i' : Inv d S' M') (h0 : 0 ≤ d) : S = S' ∧ ∀ g, (M g).map (fun h => (h.fin, h.has)) = (M' g).map (fun h => (h.fin, h.has)) := by
  have e : floorT S d = floorT S' d := by
    have a := h.le i h' i' h0
    have b := h'.le i' h i h0
    rcases Classical.em (floorT S d = floorT S' d) with z | z
    · exact z
    · exact absurd (tc_total _ _ a z) b
  refine ⟨pairwise_one (r := fun x y : Int × Int => tc x y < 0) (fun a b => tc_asym _ _) _ _ i.up i'.up (fun g => ?_), fun g => ?_⟩
  · rw [h.memS i, h'.memS i', e]
  · by_cases lo : tc g (floorT S d) < 0
    · have e1 : M g = none := by
        cases hm : M g with
        | none => rfl
        | some hd => exact absurd lo (i.low g hd hm)
      have e2 : M' g = none := by
        cases hm : M' g with
        | none => rfl
        | some hd => exact absurd (by rw [← e]; exact lo) (i'.low g hd hm)
      rw [e1, e2]
    · rw [h.inn g lo, h'.inn g (by rw [← e]; exact lo)]
end Go.Proofs.YtojepeefphbekaaGreat
