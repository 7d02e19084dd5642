import Derived.Test.YtojepeefphbekabGreatCallsJ
import Derived.Test.YtojepeefphbekabGreatCuts
namespace Go.Proofs.YtojepeefphbekabGreat
open Go.Shelf Go.RowKit Go.Lib Go.Sort

/-- Compare lays blocks and draws, no more. -/
theorem compareGrow (a b c d : Int) (w : World) : Calls Tryz.prog 39 #[.agg #[.int .i64 a, .int .i64 b], .agg #[.int .i64 c, .int .i64 d]] w fun x w' => x = .returned (.int .i64 (tcmp a b c d)) ∧ ∃ q os, w' = grow (w.drewN q) os := by
  unfold tcmp
  have B1 : Hid (grow (w.drewN 0) #[Obj.cells #[.int .i64 a, .int .i64 b] 31, Obj.cells #[.int .i64 c, .int .i64 d] 31] = ((w.alloc (Obj.cells #[.int .i64 a, .int .i64 b] 31)).alloc (Obj.cells #[.int .i64 c, .int .i64 d] 31))) := by
    show _ = _
    rw [alloc_eq_grow, alloc_eq_grow, grow_grow]; rfl
  go_enter Tryz.func39, Tryz.ntmps39
  go_wp2_with fail
  have g0 : ((w.alloc (Obj.cells #[.int .i64 a, .int .i64 b] 31)).alloc (Obj.cells #[.int .i64 c, .int .i64 d] 31)).cell? ⟨w.heap.size, 0, none⟩ = some (.int .i64 a) := by simp
  have g1 : ((w.alloc (Obj.cells #[.int .i64 a, .int .i64 b] 31)).alloc (Obj.cells #[.int .i64 c, .int .i64 d] 31)).cell? ⟨w.heap.size, 1, none⟩ = some (.int .i64 b) := by simp
  have g2 : ((w.alloc (Obj.cells #[.int .i64 a, .int .i64 b] 31)).alloc (Obj.cells #[.int .i64 c, .int .i64 d] 31)).cell? ⟨w.heap.size + 1, 0, none⟩ = some (.int .i64 c) := by simp
  have g3 : ((w.alloc (Obj.cells #[.int .i64 a, .int .i64 b] 31)).alloc (Obj.cells #[.int .i64 c, .int .i64 d] 31)).cell? ⟨w.heap.size + 1, 1, none⟩ = some (.int .i64 d) := by simp
  have sz : ((w.alloc (Obj.cells #[.int .i64 a, .int .i64 b] 31)).alloc (Obj.cells #[.int .i64 c, .int .i64 d] 31)).heap.size = w.heap.size + 2 := by simp
  generalize (w.alloc (Obj.cells #[.int .i64 a, .int .i64 b] 31)).alloc (Obj.cells #[.int .i64 c, .int .i64 d] 31) = w1 at g0 g1 g2 g3 sz B1 ⊢
  go_region_held3 (fun w' => w'.cell? ⟨w.heap.size, 0, none⟩ = some (.int .i64 a) ∧ w'.cell? ⟨w.heap.size, 1, none⟩ = some (.int .i64 b) ∧ w'.cell? ⟨w.heap.size + 1, 0, none⟩ = some (.int .i64 c) ∧ w'.cell? ⟨w.heap.size + 1, 1, none⟩ = some (.int .i64 d))
    (go_keep) (first | (go_at_call 54; refine (cmp64 _ _ _).mono ?_; rintro x w2 ⟨rfl, rfl⟩) | (go_at_call 55; refine (cmpInt _ _ _).mono ?_; rintro x w2 ⟨rfl, rfl⟩) | (go_at_call 53; refine (or2 (icmp a c) (icmp b d) _ _ _ (by rw [← sz]; simp) (by rw [← sz]; simp)).mono ?_; rintro x w2 ⟨rfl, rfl⟩) | fail)
  go_wp2_with fail
  go_ret
  refine ⟨rfl, 1, #[Obj.cells #[.int .i64 a, .int .i64 b] 31, Obj.cells #[.int .i64 c, .int .i64 d] 31, Obj.cells #[.int .i64 (icmp a c), .int .i64 (icmp b d)] 3], ?_⟩
  rw [← B1.out, alloc_eq_grow, grow_grow]
  rfl
/-- A tag's two cells. -/
def encT (x : Int × Int) : List Value := [.int .i64 x.1, .int .i64 x.2]
def cf (x y : Int × Int) : Int := tcmp x.1 x.2 y.1 y.2
theorem cmpLays (blk off size : Nat) (w : World) : CmpLays Tryz.prog 39 #[] encT 2 cf blk off size w :=
  fun _ _ _ _ x y => compareGrow x.1 x.2 y.1 y.2 _
theorem ltCf (x y : Int × Int) : ltOf cf x y = decide (tc x y < 0) := rfl
theorem swoCf : SWO (ltOf cf) where
  irrefl x := by rw [ltCf, tc_self]; decide
  trans x y z h1 h2 := by
    rw [ltCf] at *
    exact decide_eq_true (tc_trans x y z (of_decide_eq_true h1) (of_decide_eq_true h2))
  ntrans x y z h1 h2 := by
    rw [ltCf] at *
    have a1 := of_decide_eq_false h1
    have a2 := of_decide_eq_false h2
    apply decide_eq_false
    intro h3
    have f1 := tc_3 x y
    have f2 := tc_3 y z
    have f3 := tc_3 x z
    rcases f1 with ⟨_, e⟩ | ⟨rfl, e⟩ | ⟨f1, e⟩
    · omega
    · exact a2 h3
    · rcases f2 with ⟨_, e2⟩ | ⟨rfl, e2⟩ | ⟨f2, e2⟩
      · omega
      · exact a1 h3
      · rcases f3 with ⟨f3, e3⟩ | ⟨_, e3⟩ | ⟨_, e3⟩ <;> omega
theorem flat_eq (l : List (Int × Int)) : flatK encT 2 l.toArray = (tcells l).toArray := by
  apply Array.ext
  · simp [tcells_length]
  · intro t h1 h2
    have h : t < l.length * 2 := by simpa [tcells_length] using h2
    have g := get_flatK encT 2 l.toArray t (by simpa using h)
    rw [getElem!_pos _ t h1] at g
    rw [g]
    obtain ⟨e0, e1⟩ := tcells_get l (t / 2) (by omega)
    have hd : l.toArray[t / 2]! = l.getD (t / 2) (0, 0) := by
      rw [getElem!_pos _ _ (by simp; omega)]
      simp [List.getD, show t / 2 < l.length by omega]
    rw [hd]
    rcases Nat.mod_two_eq_zero_or_one t with q | q
    · have e : t / 2 * 2 = t := by omega
      rw [e] at e0
      rw [q]
      have := (List.getElem?_eq_some_iff.1 e0).2
      simpa [encT] using this.symm
    · have e : t / 2 * 2 + 1 = t := by omega
      rw [e] at e1
      rw [q]
      have := (List.getElem?_eq_some_iff.1 e1).2
      simpa [encT] using this.symm
theorem sorted_heap (w : World) (g off n : Nat) (l : List (Int × Int)) (os : Array Obj) (cur : Array Value) (hg : w.heap[g]? = some (.cells cur 31 (0, 0))) :
    (sortWorldK encT 2 w g off n l.toArray os).heap[g]? = some (.cells (putCells id off (tcells l).toArray cur) 31 (0, 0)) := by
  have hlt := block_lt hg
  unfold sortWorldK putRowK putRow mapBlock grow
  rw [flat_eq]
  simp only [heap_ahead]
  rw [Array.getElem?_append_left (by rw [Array.size_modify]; exact hlt), Array.getElem?_modify, if_pos rfl, hg]
  rfl
theorem sorted_other (w : World) (g off n : Nat) (l : List (Int × Int)) (os : Array Obj) (k : Nat) (hk : k < w.heap.size) (hne : k ≠ g) :
    (sortWorldK encT 2 w g off n l.toArray os).heap[k]? = w.heap[k]? := by
  unfold sortWorldK putRowK putRow mapBlock grow
  simp only [heap_ahead]
  rw [Array.getElem?_append_left (by rw [Array.size_modify]; exact hk), Array.getElem?_modify, if_neg (fun e => hne e.symm)]
theorem put_take (off : Nat) (F cur : List Value) (h : off + F.length ≤ cur.length) : (((putCells id off F.toArray cur.toArray).toList.drop off).take F.length) = F := by
  apply List.ext_getElem?
  intro j
  by_cases hj : j < F.length
  · rw [List.getElem?_take_of_lt hj, List.getElem?_drop]
    unfold putCells
    rw [Array.getElem?_toList, Array.getElem?_mapIdx]
    have hc : off + j < cur.length := by omega
    simp [hc, hj]
  · rw [List.getElem?_eq_none (by rw [List.length_take]; omega), List.getElem?_eq_none (by omega)]
/-- Sorted, as the sort leaves it. -/
def Sorted (S : List (Int × Int)) : Prop := S.Pairwise fun x y => ¬ tc y x < 0
theorem sort_some (g off len cap : Nat) (S : List (Int × Int)) (w : World) (r : Row w (some ⟨g, off, none⟩) len cap S) (hb : len * 16 ≤ 211106232532992) :
    Calls Tryz.prog 57 #[.slice (some ⟨g, off, none⟩) len cap, .func (.func 39) #[] #[]] w fun o w' => o = .returned (.tuple #[]) ∧ ∃ S', S'.Perm S ∧ Sorted S' ∧ Row w' (some ⟨g, off, none⟩) len cap S' ∧ Kept (fun k => k = g) w w' := by
  have hl := r.length
  obtain ⟨cur, hg, hz, ht⟩ : ∃ cur, w.heap[g]? = some (.cells cur 31 (0, 0)) ∧ off + cap * 2 ≤ cur.size ∧ (cur.toList.drop off).take (len * 2) = tcells S := by
    rcases r.pos with ⟨e, _⟩ | ⟨g', off', cur, e, h1, h2, h3⟩
    · cases e
    · cases e; exact ⟨cur, h1, h2, h3⟩
  have hH : HoldsK encT 2 w g off S.toArray := by
    unfold HoldsK
    rw [flat_eq]
    intro j hj
    have hj' : j < (tcells S).length := by simpa using hj
    refine ⟨?_, by simp [World.frozen?, hg]⟩
    refine Row.cell hg ht hl j _ ?_
    rw [getElem!_pos _ j hj, List.getElem?_eq_getElem hj']
    rfl
  have eg : ∀ args w, (callFunc 39 args).run Tryz.prog w = .ok (.enter 39 args) w := enters_of Tryz.func39 (by kernel_rfl) rfl
  have hcon := AnyQ.slices_SortFunc Tryz.sortTag 2 Tryz.isAgg31 Tryz.sizeOf31 encT (fun _ => rfl) (fun x v hv => by simp [encT] at hv; rcases hv with rfl | rfl <;> rfl) cf swoCf 39 #[] g off cap S.toArray w eg (cmpLays g off _ w) hH (block_lt hg) (by simp; omega)
  change Calls Tryz.prog 57 _ _ _ at hcon
  rw [List.size_toArray, hl] at hcon
  refine hcon.mono ?_
  rintro e w' ⟨rfl, d', n, os, ⟨hp1, _, hp⟩, hs, rfl⟩
  have hsz : d'.size = len := by rw [hp1, List.size_toArray, hl]
  have hd : d'.toList.length = len := by rw [Array.length_toList]; exact hsz
  have e1 : d'.extract 0 len = d' := by rw [← hsz]; exact Array.extract_size
  have e2 : S.toArray.extract 0 len = S.toArray := by rw [show len = S.toArray.size by rw [List.size_toArray]; exact hl.symm]; exact Array.extract_size
  rw [e1, e2] at hp
  have P : d'.toList.Perm S := by simpa using hp
  have ed : d' = d'.toList.toArray := by simp
  rw [ed]
  have tl : (tcells d'.toList).length = len * 2 := by rw [tcells_length, hd]
  refine ⟨rfl, d'.toList, P, ?_, ⟨hd, r.room, r.small, fit_perm r.fit P.symm, .inr ⟨g, off, _, rfl, sorted_heap w g off n d'.toList os cur hg, ?_, ?_⟩⟩, ?_⟩
  · refine List.pairwise_iff_getElem.2 (fun i j hi hj hij => ?_)
    have h := hs i j (Nat.zero_le _) hij (by omega)
    rw [ltCf, getElem!_pos d' j (by omega), getElem!_pos d' i (by omega)] at h
    have := of_decide_eq_false h
    simpa using this
  · unfold putCells
    rw [Array.size_mapIdx]
    exact hz
  · have := put_take off (tcells d'.toList) cur.toList (by rw [tl, Array.length_toList]; have := r.room; omega)
    rw [tl] at this
    simpa using this
  · refine ⟨rfl, rfl, rfl, ?_, fun k hk hne => sorted_other w g off n d'.toList os k hk hne⟩
    unfold sortWorldK putRowK putRow mapBlock grow
    simp
end Go.Proofs.YtojepeefphbekabGreat
