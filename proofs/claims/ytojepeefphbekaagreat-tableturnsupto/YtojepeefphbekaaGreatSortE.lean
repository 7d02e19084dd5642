import Derived.Test.YtojepeefphbekaaGreatSort
import Derived.Test.YtojepeefphbekaaGreatEntry
namespace Go.Proofs.YtojepeefphbekaaGreat
open Go.Shelf Go.RowKit Go.Lib Go.Sort

/-- An entry: its tag, whether it is finalized, whether it has a fragment, the fragment. -/
def encE (e : ((Int × Int) × Bool × Bool × Option Addr × Nat × Nat)) : List Value := [.int .i64 e.1.1, .int .i64 e.1.2, .bool e.2.1, .bool e.2.2.1, .slice e.2.2.2.1 e.2.2.2.2.1 e.2.2.2.2.2]
def ecells (l : List ((Int × Int) × Bool × Bool × Option Addr × Nat × Nat)) : List Value := l.flatMap encE
theorem ecells_cons (e : ((Int × Int) × Bool × Bool × Option Addr × Nat × Nat)) (l : List ((Int × Int) × Bool × Bool × Option Addr × Nat × Nat)) : ecells (e :: l) = encE e ++ ecells l := by simp [ecells]
theorem ecells_append (l m : List ((Int × Int) × Bool × Bool × Option Addr × Nat × Nat)) : ecells (l ++ m) = ecells l ++ ecells m := by simp [ecells]
theorem enc_length (e : ((Int × Int) × Bool × Bool × Option Addr × Nat × Nat)) : (encE e).length = 5 := rfl
theorem ecells_length (l : List ((Int × Int) × Bool × Bool × Option Addr × Nat × Nat)) : (ecells l).length = l.length * 5 := by
  induction l with
  | nil => rfl
  | cons t r ih => rw [ecells_cons, List.length_append, ih, enc_length, List.length_cons]; omega
theorem ecells_get (l : List ((Int × Int) × Bool × Bool × Option Addr × Nat × Nat)) : ∀ i (h : i < l.length) j, j < 5 → (ecells l)[i * 5 + j]? = (encE l[i])[j]? := by
  induction l with
  | nil => intro i h; simp at h
  | cons t r ih =>
    intro i h j hj
    rw [ecells_cons]
    cases i with
    | zero => rw [List.getElem?_append_left (by rw [enc_length]; omega)]; simp
    | succ i =>
      rw [List.getElem?_append_right (by rw [enc_length]; omega), enc_length, show (i + 1) * 5 + j - 5 = i * 5 + j by omega, ih i (by simpa using h) j hj]
      rfl
def ce (p q : ((Int × Int) × Bool × Bool × Option Addr × Nat × Nat)) : Int := tc p.1 q.1
theorem cmpE (p q : ((Int × Int) × Bool × Bool × Option Addr × Nat × Nat)) (w : World) : Calls Tryz.prog 64 #[.agg (encE p).toArray, .agg (encE q).toArray] w fun o w' => o = .returned (.int .i64 (ce p q)) ∧ ∃ k os, w' = grow (w.drewN k) os := by
  obtain ⟨⟨px, py⟩, pf, ph, pa, pn, pc⟩ := p
  obtain ⟨⟨qx, qy⟩, qf, qh, qa, qn, qc⟩ := q
  unfold ce tc
  show Calls Tryz.prog 64 #[.agg #[.int .i64 px, .int .i64 py, .bool pf, .bool ph, .slice pa pn pc], .agg #[.int .i64 qx, .int .i64 qy, .bool qf, .bool qh, .slice qa qn qc]] w _
  go_enter Tryz.func64, Tryz.ntmps64
  go_wp2_with fail
  refine (compareGrow px py qx qy _).mono ?_
  rintro o w1 ⟨rfl, k, os, rfl⟩
  go_wp2_with fail
  go_ret
  refine ⟨rfl, k, #[.cells #[.int .i64 px, .int .i64 py, .bool pf, .bool ph, .slice pa pn pc] 40, .cells #[.int .i64 qx, .int .i64 qy, .bool qf, .bool qh, .slice qa qn qc] 40] ++ os, ?_⟩
  show grow (((w.drewN k).alloc _).alloc _) os = _
  rw [alloc_eq_grow, alloc_eq_grow, grow_grow, grow_grow, ← Array.append_assoc]
  rfl
theorem cmpLaysE (blk off size : Nat) (w : World) : CmpLays Tryz.prog 64 #[] encE 5 ce blk off size w :=
  fun _ _ _ _ x y => cmpE x y _
theorem ltCe (x y : ((Int × Int) × Bool × Bool × Option Addr × Nat × Nat)) : ltOf ce x y = decide (tc x.1 y.1 < 0) := rfl
theorem swoCe : SWO (ltOf ce) where
  irrefl x := by rw [ltCe, tc_self]; decide
  trans x y z h1 h2 := swoCf.trans x.1 y.1 z.1 h1 h2
  ntrans x y z h1 h2 := swoCf.ntrans x.1 y.1 z.1 h1 h2
theorem flat_eqE (l : List ((Int × Int) × Bool × Bool × Option Addr × Nat × Nat)) : flatK encE 5 l.toArray = (ecells l).toArray := by
  apply Array.ext
  · simp [ecells_length]
  · intro t h1 h2
    have h : t < l.length * 5 := by simpa [ecells_length] using h2
    have g := get_flatK encE 5 l.toArray t (by simpa using h)
    rw [getElem!_pos _ t h1] at g
    rw [g]
    have hi : t / 5 < l.length := by omega
    have e := ecells_get l (t / 5) hi (t % 5) (by omega)
    rw [show t / 5 * 5 + t % 5 = t by omega] at e
    have hd : l.toArray[t / 5]! = l[t / 5] := by
      rw [getElem!_pos _ _ (by simpa using hi)]
      simp
    rw [hd]
    have e2 : (ecells l)[t]? = some ((ecells l).toArray[t]) := by
      rw [List.getElem?_eq_getElem (by rw [ecells_length]; exact h)]
      simp
    rw [e2] at e
    have hj : t % 5 < (encE l[t / 5]).length := by rw [enc_length]; omega
    rw [List.getElem?_eq_getElem hj] at e
    have := Option.some.inj e
    rw [this]
    exact getElem!_pos (encE l[t / 5]) (t % 5) hj
theorem sortedE_heap (w : World) (g off n : Nat) (l : List ((Int × Int) × Bool × Bool × Option Addr × Nat × Nat)) (os : Array Obj) (cur : Array Value) (hg : w.heap[g]? = some (.cells cur 40 (0, 0))) :
    (sortWorldK encE 5 w g off n l.toArray os).heap[g]? = some (.cells (putCells id off (ecells l).toArray cur) 40 (0, 0)) := by
  have hlt := block_lt hg
  unfold sortWorldK putRowK putRow mapBlock grow
  rw [flat_eqE]
  simp only [heap_ahead]
  rw [Array.getElem?_append_left (by rw [Array.size_modify]; exact hlt), Array.getElem?_modify, if_pos rfl, hg]
  rfl
theorem sortedE_other (w : World) (g off n : Nat) (l : List ((Int × Int) × Bool × Bool × Option Addr × Nat × Nat)) (os : Array Obj) (k : Nat) (hk : k < w.heap.size) (hne : k ≠ g) :
    (sortWorldK encE 5 w g off n l.toArray os).heap[k]? = w.heap[k]? := by
  unfold sortWorldK putRowK putRow mapBlock grow
  simp only [heap_ahead]
  rw [Array.getElem?_append_left (by rw [Array.size_modify]; exact hk), Array.getElem?_modify, if_neg (fun e => hne e.symm)]
set_option maxRecDepth 100000 in
theorem sortE (g len cap base : Nat) (L : List ((Int × Int) × Bool × Bool × Option Addr × Nat × Nat)) (w : World) (o : w.ownsRow base 40 5 (.slice (some ⟨g, 0, none⟩) len cap) len (ecells L)) (hb : len * 48 ≤ 281474976710656) :
    Calls Tryz.prog 63 #[.slice (some ⟨g, 0, none⟩) len cap, .func (.func 64) #[] #[]] w fun o w' => o = .returned (.tuple #[]) ∧ ∃ L', L'.Perm L ∧ (L'.Pairwise fun x y => ¬ tc y.1 x.1 < 0) ∧ w'.ownsRow base 40 5 (.slice (some ⟨g, 0, none⟩) len cap) len (ecells L') ∧ Kept (fun k => k = g) w w' := by
  have hl : L.length = len := by have := o.1; rw [ecells_length] at this; omega
  rcases o.2 with ⟨e0, _⟩ | ⟨g', cap', cur, e0, hbase, hg, hn, hm, hs, ht⟩
  · cases e0
  · simp at e0
    obtain ⟨rfl, rfl⟩ := e0
    have hH : HoldsK encE 5 w g 0 L.toArray := by
      unfold HoldsK
      rw [flat_eqE]
      intro j hj
      have hj' : j < (ecells L).length := by simpa using hj
      refine ⟨?_, by simp [World.frozen?, hg]⟩
      rw [cell_of_row w g _ cur 40 (0, 0) hg]
      have e : (ecells L)[j]? = some ((ecells L).toArray[j]!) := by
        rw [getElem!_pos _ j hj, List.getElem?_eq_getElem hj']
        simp
      generalize (ecells L).toArray[j]! = v at e ⊢
      rw [← ht, List.getElem?_take_of_lt (by rw [ecells_length] at hj'; omega)] at e
      simpa using e
    have eg : ∀ args w, (callFunc 64 args).run Tryz.prog w = .ok (.enter 64 args) w := enters_of Tryz.func64 (by kernel_rfl) rfl
    have hcon := AnyQ.slices_SortFunc Tryz.sortEnt 5 Tryz.isAgg40 Tryz.sizeOf40 encE (fun _ => rfl) (fun x v hv => by simp [encE] at hv; rcases hv with rfl | rfl | rfl | rfl | rfl <;> rfl) ce swoCe 64 #[] g 0 cap L.toArray w eg (cmpLaysE g 0 _ w) hH (block_lt hg) (by simp; omega)
    change Calls Tryz.prog 63 _ _ _ at hcon
    rw [List.size_toArray, hl] at hcon
    refine hcon.mono ?_
    rintro e w' ⟨rfl, d', n, os, ⟨hp1, _, hp⟩, hsd, rfl⟩
    have hsz : d'.size = len := by rw [hp1, List.size_toArray, hl]
    have hd : d'.toList.length = len := by rw [Array.length_toList]; exact hsz
    have e1 : d'.extract 0 len = d' := by rw [← hsz]; exact Array.extract_size
    have e2 : L.toArray.extract 0 len = L.toArray := by rw [show len = L.toArray.size by rw [List.size_toArray]; exact hl.symm]; exact Array.extract_size
    rw [e1, e2] at hp
    have P : d'.toList.Perm L := by simpa using hp
    have ed : d' = d'.toList.toArray := by simp
    have tl : (ecells d'.toList).length = len * 5 := by rw [ecells_length, hd]
    refine ⟨rfl, d'.toList, P, ?_, ⟨by rw [tl], .inr ⟨g, cap, _, rfl, hbase, by rw [ed]; exact sortedE_heap w g 0 n d'.toList os cur hg, hn, hm, ?_, ?_⟩⟩, ?_⟩
    · refine List.pairwise_iff_getElem.2 (fun i j hi hj hij => ?_)
      have h := hsd i j (Nat.zero_le _) hij (by omega)
      rw [ltCe, getElem!_pos d' j (by omega), getElem!_pos d' i (by omega)] at h
      have := of_decide_eq_false h
      simpa using this
    · unfold putCells
      rw [Array.size_mapIdx]
      exact hs
    · have := put_take 0 (ecells d'.toList) cur.toList (by rw [tl, Array.length_toList]; omega)
      rw [tl] at this
      simpa using this
    · refine ⟨rfl, rfl, rfl, ?_, fun k hk hne => by rw [ed]; exact sortedE_other w g 0 n d'.toList os k hk hne⟩
      unfold sortWorldK putRowK putRow mapBlock grow
      simp
end Go.Proofs.YtojepeefphbekaaGreat
