import Derived.Test.YteokeifkkhchmaaRef
import Derived.Test.YteokeifkkhchmaaSortLay
namespace Go.Proofs.Yteokeifkkhchmaa
open Go.RowKit Go.Shelf Go.Lib Go.Sort

/-- How two numbers are ordered. -/
def icmp (a b : Int) : Int := if a < b then -1 else if b < a then 1 else 0
theorem icmp_neg (a b : Int) : icmp a b < 0 ↔ a < b := by
  unfold icmp
  split
  · omega
  · split <;> omega
theorem cmpInt (a b : Int) (w : World) : Calls Try.prog 34 #[.int .i64 a, .int .i64 b] w fun x w' => x = .returned (.int .i64 (icmp a b)) ∧ w' = w := by
  unfold icmp
  go_enter Try.func34, Try.ntmps34
  by_cases h : a < b
  · go_wp2_with (go_in)
    go_ret
    exact ⟨by simp, rfl⟩
  · by_cases h2 : b < a
    · go_wp2_with (go_in)
      go_ret
      exact ⟨by simp, rfl⟩
    · go_wp2_with (go_in)
      go_ret
      exact ⟨by simp, rfl⟩
def encE (e : Int × Int) : List Value := [.int .i64 e.1, .int .i64 e.2]
theorem put_take (off : Nat) (F cur : List Value) (h : off + F.length ≤ cur.length) : (((putCells id off F.toArray cur.toArray).toList.drop off).take F.length) = F := by
  apply List.ext_getElem?
  intro j
  by_cases hj : j < F.length
  · rw [List.getElem?_take_of_lt hj, List.getElem?_drop]
    unfold putCells
    rw [Array.getElem?_toList, Array.getElem?_mapIdx]
    have hc : off + j < cur.length := by omega
    simp [hc, hj]
  · rw [List.getElem?_eq_none (by rw [List.length_take]; omega), List.getElem?_eq_none (by omega)]
def ecells (l : List (Int × Int)) : List Value := l.flatMap encE
theorem ecells_cons (e : (Int × Int)) (l : List (Int × Int)) : ecells (e :: l) = encE e ++ ecells l := by simp [ecells]
theorem ecells_append (l m : List (Int × Int)) : ecells (l ++ m) = ecells l ++ ecells m := by simp [ecells]
theorem enc_length (e : (Int × Int)) : (encE e).length = 2 := rfl
theorem ecells_length (l : List (Int × Int)) : (ecells l).length = l.length * 2 := by
  induction l with
  | nil => rfl
  | cons t r ih => rw [ecells_cons, List.length_append, ih, enc_length, List.length_cons]; omega
theorem ecells_get (l : List (Int × Int)) : ∀ i (h : i < l.length) j, j < 2 → (ecells l)[i * 2 + j]? = (encE l[i])[j]? := by
  induction l with
  | nil => intro i h; simp at h
  | cons t r ih =>
    intro i h j hj
    rw [ecells_cons]
    cases i with
    | zero => rw [List.getElem?_append_left (by rw [enc_length]; omega)]; simp
    | succ i =>
      rw [List.getElem?_append_right (by rw [enc_length]; omega), enc_length, show (i + 1) * 2 + j - 2 = i * 2 + j by omega, ih i (by simpa using h) j hj]
      rfl
def ce (p q : Int × Int) : Int := icmp p.1 q.1
theorem cmpE (p q : Int × Int) (w : World) : Calls Try.prog 33 #[.agg (encE p).toArray, .agg (encE q).toArray] w fun o w' => o = .returned (.int .i64 (ce p q)) ∧ ∃ k os, w' = grow (w.drewN k) os := by
  obtain ⟨px, py⟩ := p
  obtain ⟨qx, qy⟩ := q
  unfold ce
  show Calls Try.prog 33 #[.agg #[.int .i64 px, .int .i64 py], .agg #[.int .i64 qx, .int .i64 qy]] w _
  go_enter Try.func33, Try.ntmps33
  go_wp2_with fail
  refine (cmpInt px qx _).mono ?_
  rintro o w1 ⟨rfl, rfl⟩
  go_wp2_with fail
  go_ret
  refine ⟨rfl, 0, #[.cells #[.int .i64 px, .int .i64 py] 74, .cells #[.int .i64 qx, .int .i64 qy] 74], ?_⟩
  show (w.alloc _).alloc _ = _
  rw [alloc_eq_grow, alloc_eq_grow, grow_grow]
  rfl
theorem cmpLaysE (blk off size : Nat) (w : World) : CmpLays Try.prog 33 #[] encE 2 ce blk off size w :=
  fun _ _ _ _ x y => cmpE x y _
theorem ltCe (x y : Int × Int) : ltOf ce x y = decide (icmp x.1 y.1 < 0) := rfl
theorem swoCe : SWO (ltOf ce) where
  irrefl x := by rw [ltCe]; apply decide_eq_false; rw [icmp_neg]; omega
  trans x y z h1 h2 := by
    rw [ltCe] at *
    have a := (icmp_neg _ _).1 (of_decide_eq_true h1)
    have b := (icmp_neg _ _).1 (of_decide_eq_true h2)
    apply decide_eq_true
    rw [icmp_neg]; omega
  ntrans x y z h1 h2 := by
    rw [ltCe] at *
    have a := of_decide_eq_false h1
    have b := of_decide_eq_false h2
    rw [icmp_neg] at a b
    apply decide_eq_false
    rw [icmp_neg]; omega
theorem flat_eqE (l : List (Int × Int)) : flatK encE 2 l.toArray = (ecells l).toArray := by
  apply Array.ext
  · simp [ecells_length]
  · intro t h1 h2
    have h : t < l.length * 2 := by simpa [ecells_length] using h2
    have g := get_flatK encE 2 l.toArray t (by simpa using h)
    rw [getElem!_pos _ t h1] at g
    rw [g]
    have hi : t / 2 < l.length := by omega
    have e := ecells_get l (t / 2) hi (t % 2) (by omega)
    rw [show t / 2 * 2 + t % 2 = t by omega] at e
    have hd : l.toArray[t / 2]! = l[t / 2] := by
      rw [getElem!_pos _ _ (by simpa using hi)]
      simp
    rw [hd]
    have e2 : (ecells l)[t]? = some ((ecells l).toArray[t]) := by
      rw [List.getElem?_eq_getElem (by rw [ecells_length]; exact h)]
      simp
    rw [e2] at e
    have hj : t % 2 < (encE l[t / 2]).length := by rw [enc_length]; omega
    rw [List.getElem?_eq_getElem hj] at e
    have := Option.some.inj e
    rw [this]
    exact getElem!_pos (encE l[t / 2]) (t % 2) hj
theorem sortedE_heap (w : World) (g off n : Nat) (l : List (Int × Int)) (os : Array Obj) (cur : Array Value) (hg : w.heap[g]? = some (.cells cur 74 (0, 0))) :
    (sortWorldK encE 2 w g off n l.toArray os).heap[g]? = some (.cells (putCells id off (ecells l).toArray cur) 74 (0, 0)) := by
  have hlt := block_lt hg
  unfold sortWorldK putRowK putRow mapBlock grow
  rw [flat_eqE]
  simp only [heap_ahead]
  rw [Array.getElem?_append_left (by rw [Array.size_modify]; exact hlt), Array.getElem?_modify, if_pos rfl, hg]
  rfl
theorem sortedE_other (w : World) (g off n : Nat) (l : List (Int × Int)) (os : Array Obj) (k : Nat) (hk : k < w.heap.size) (hne : k ≠ g) :
    (sortWorldK encE 2 w g off n l.toArray os).heap[k]? = w.heap[k]? := by
  unfold sortWorldK putRowK putRow mapBlock grow
  simp only [heap_ahead]
  rw [Array.getElem?_append_left (by rw [Array.size_modify]; exact hk), Array.getElem?_modify, if_neg (fun e => hne e.symm)]
theorem sortE (g len cap base : Nat) (L : List (Int × Int)) (w : World) (o : w.ownsRow base 74 2 (.slice (some ⟨g, 0, none⟩) len cap) len (ecells L)) (hb : len * 16 ≤ 281474976710656) :
    Calls Try.prog 32 #[.slice (some ⟨g, 0, none⟩) len cap, .func (.func 33) #[] #[]] w fun o w' => o = .returned (.tuple #[]) ∧ ∃ L', L'.Perm L ∧ (L'.Pairwise fun x y => ¬ icmp y.1 x.1 < 0) ∧ w'.ownsRow base 74 2 (.slice (some ⟨g, 0, none⟩) len cap) len (ecells L') ∧ Kept (fun k => k = g) w w' := by
  have hl : L.length = len := by have := o.1; rw [ecells_length] at this; omega
  rcases o.2 with ⟨e0, _⟩ | ⟨g', cap', cur, e0, hbase, hg, hn, hm, hs, ht⟩
  · cases e0
  · simp at e0
    obtain ⟨rfl, rfl⟩ := e0
    have hH : HoldsK encE 2 w g 0 L.toArray := by
      unfold HoldsK
      rw [flat_eqE]
      intro j hj
      have hj' : j < (ecells L).length := by simpa using hj
      refine ⟨?_, by simp [World.frozen?, hg]⟩
      rw [cell_of_row w g _ cur 74 (0, 0) hg]
      have e : (ecells L)[j]? = some ((ecells L).toArray[j]!) := by
        rw [getElem!_pos _ j hj, List.getElem?_eq_getElem hj']
        simp
      generalize (ecells L).toArray[j]! = v at e ⊢
      rw [← ht, List.getElem?_take_of_lt (by rw [ecells_length] at hj'; omega)] at e
      simpa using e
    have eg : ∀ args w, (callFunc 33 args).run Try.prog w = .ok (.enter 33 args) w := enters_of Try.func33 (by kernel_rfl) rfl
    have hcon := AnyQ.slices_SortFunc Try.sortAns 2 Try.isAgg74 Try.sizeOf74 encE (fun _ => rfl) (fun x v hv => by simp [encE] at hv; rcases hv with rfl | rfl <;> rfl) ce swoCe 33 #[] g 0 cap L.toArray w eg (cmpLaysE g 0 _ w) hH (block_lt hg) (by simp; omega)
    change Calls Try.prog 32 _ _ _ at hcon
    rw [List.size_toArray, hl] at hcon
    refine hcon.mono ?_
    rintro e w' ⟨rfl, d', n, os, ⟨hp1, _, hp⟩, hsd, rfl⟩
    have hsz : d'.size = len := by rw [hp1, List.size_toArray, hl]
    have hd : d'.toList.length = len := by rw [Array.length_toList]; exact hsz
    have e1 : d'.extract 0 len = d' := by rw [← hsz]; exact Array.extract_size
    have e2 : L.toArray.extract 0 len = L.toArray := by rw [show len = L.toArray.size by rw [List.size_toArray]; exact hl.symm]; exact Array.extract_size
    rw [e1, e2] at hp
    have P : d'.toList.Perm L := by simpa using hp
    have ed : d' = d'.toList.toArray := by simp
    have tl : (ecells d'.toList).length = len * 2 := by rw [ecells_length, hd]
    refine ⟨rfl, d'.toList, P, ?_, ⟨by rw [tl], .inr ⟨g, cap, _, rfl, hbase, by rw [ed]; exact sortedE_heap w g 0 n d'.toList os cur hg, hn, hm, ?_, ?_⟩⟩, ?_⟩
    · refine List.pairwise_iff_getElem.2 (fun i j hi hj hij => ?_)
      have h := hsd i j (Nat.zero_le _) hij (by omega)
      rw [ltCe, getElem!_pos d' j (by omega), getElem!_pos d' i (by omega)] at h
      have := of_decide_eq_false h
      simpa using this
    · unfold putCells
      rw [Array.size_mapIdx]
      exact hs
    · have := put_take 0 (ecells d'.toList) cur.toList (by rw [tl, Array.length_toList]; omega)
      rw [tl] at this
      simpa using this
    · refine ⟨rfl, rfl, rfl, ?_, fun k hk hne => by rw [ed]; exact sortedE_other w g 0 n d'.toList os k hk hne⟩
      unfold sortWorldK putRowK putRow mapBlock grow
      simp
end Go.Proofs.Yteokeifkkhchmaa
