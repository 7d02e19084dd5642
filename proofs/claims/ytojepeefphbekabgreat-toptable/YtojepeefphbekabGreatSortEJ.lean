import Derived.Test.YtojepeefphbekabGreatBytes
import Derived.Test.YtojepeefphbekabGreatSort
namespace Go.Proofs.YtojepeefphbekabGreat
open Go.RowKit

theorem Tryz.info34 : (Tryz.prog.info? 34).map (·.size) = some 5 := by kernel_rfl
theorem results_entry {fn : Func} {p : Tmp} (h : fn.results = #[.cell p 34]) (tmps : Array Value) (w : World) (b : Nat) (cs : Array Value) (hz : cs.size = 5) (hp : tmps.getD p undef = .pointer (some ⟨b, 0, none⟩)) (hb : w.heap[b]? = some (.cells cs 34 (0, 0))) : (results fn tmps).run Tryz.prog w = .ok (.agg cs) w :=
  results_cell_row h tmps w b 34 _ (0, 0) _ hp hb Tryz.underlying34 rfl (by rw [Tryz.info34, hz])
theorem three_new (w : World) (o0 o1 o2 : Obj) : (((w.alloc o0).alloc o1).alloc o2).heap[w.heap.size]? = some o0 ∧ (((w.alloc o0).alloc o1).alloc o2).heap[w.heap.size + 1]? = some o1 ∧ (((w.alloc o0).alloc o1).alloc o2).heap[w.heap.size + 2]? = some o2 := by
  have e1 : ((w.alloc o0).alloc o1).heap.size = w.heap.size + 2 := by simp
  have a := heap_alloc_new ((w.alloc o0).alloc o1) o2
  rw [e1] at a
  refine ⟨?_, ?_, a⟩
  · rw [Below.heap_alloc _ _ _ (by simp; omega)]
    exact two0 w o0 o1
  · rw [Below.heap_alloc _ _ _ (by simp)]
    exact two1 w o0 o1
/-- The three boxes of 'entry'. -/
structure EB (w W : World) (f g : Bool) (a : Option Addr) (n c : Nat) (x y : Int) (l : List Nat) : Prop where
  hold : W.heap[w.heap.size]? = some (.cells #[.bool f, .bool g, .slice a n c] 87 (0, 0))
  tag : W.heap[w.heap.size + 1]? = some (.cells #[.int .i64 x, .int .i64 y] 31 (0, 0))
  res : W.heap[w.heap.size + 2]? = some (.cells #[.int .i64 0, .int .i64 0, .bool false, .bool false, .slice none 0 0] 34 (0, 0))
  kept : Kept (fun _ => False) w W
  rd : Reads W a n c l
theorem EB.k0 {w W W' : World} {f g : Bool} {a : Option Addr} {n c : Nat} {x y : Int} {l : List Nat} (h : EB w W f g a n c x y l) (K : Kept (fun _ => False) W W') : EB w W' f g a n c x y l :=
  ⟨K.get h.hold (fun z => z), K.get h.tag (fun z => z), K.get h.res (fun z => z), h.kept.and0 K, h.rd.kept' K (fun _ _ z => z)⟩
set_option maxRecDepth 100000 in
set_option maxHeartbeats 2000000 in
theorem entry (f g : Bool) (a : Option Addr) (n c : Nat) (x y : Int) (l : List Nat) (w : World) (r : Reads w a n c l) (hn : n ≤ 140737488355328) : Calls Tryz.prog 49 #[.agg #[.bool f, .bool g, .slice a n c], .agg #[.int .i64 x, .int .i64 y]] w fun o w' => ∃ p c', o = .returned (.agg #[.int .i64 x, .int .i64 y, .bool f, .bool g, .slice p n c']) ∧ w'.ownsRow w.heap.size 5 1 (.slice p n c') n (cellsOf l) ∧ Kept (fun _ => False) w w' := by
  obtain ⟨W, hW⟩ : ∃ W, W = ((w.alloc (.cells #[.bool f, .bool g, .slice a n c] 87)).alloc (.cells #[.int .i64 x, .int .i64 y] 31)).alloc (.cells #[.int .i64 0, .int .i64 0, .bool false, .bool false, .slice none 0 0] 34) := ⟨_, rfl⟩
  have KZ : Kept (fun _ => False) w W := by rw [hW]; exact (((Kept.refl _ w).alloc _).alloc _).alloc _
  have H : Hid (EB w W f g a n c x y l ∧ n ≤ 140737488355328) := by
    obtain ⟨q1, q2, q3⟩ := three_new w (.cells #[.bool f, .bool g, .slice a n c] 87) (.cells #[.int .i64 x, .int .i64 y] 31) (.cells #[.int .i64 0, .int .i64 0, .bool false, .bool false, .slice none 0 0] 34)
    rw [← hW] at q1 q2 q3
    exact ⟨⟨q1, q2, q3, KZ, r.kept' KZ (fun _ _ z => z)⟩, hn⟩
  have EW : Hid (W = ((w.alloc (.cells #[.bool f, .bool g, .slice a n c] 87)).alloc (.cells #[.int .i64 x, .int .i64 y] 31)).alloc (.cells #[.int .i64 0, .int .i64 0, .bool false, .bool false, .slice none 0 0] 34)) := hW
  clear hW KZ r hn
  go_enter Tryz.func49, Tryz.ntmps49
  go_upto_region 1 with fail
  rw [← EW.out]
  have c0 := cell_blk H.out.1.hold 0 (v := .bool f) rfl
  have c1 := cell_blk H.out.1.hold 1 (v := .bool g) rfl
  have c2 := cell_blk H.out.1.hold 2 (v := .slice a n c) rfl
  have t0 := cell_blk H.out.1.tag 0 (v := .int .i64 x) rfl
  have t1 := cell_blk H.out.1.tag 1 (v := .int .i64 y) rfl
  go_region_held3 (fun w' => w'.cell? ⟨w.heap.size, 0, none⟩ = some (.bool f) ∧ w'.cell? ⟨w.heap.size, 1, none⟩ = some (.bool g) ∧ w'.cell? ⟨w.heap.size, 2, none⟩ = some (.slice a n c) ∧ w'.cell? ⟨w.heap.size + 1, 0, none⟩ = some (.int .i64 x) ∧ w'.cell? ⟨w.heap.size + 1, 1, none⟩ = some (.int .i64 y)) (first | with_reducible exact SK.out | go_keep)
    (first
      | (go_at_call 43; refine (cloneB a n c l _ (H.out.1.rd.kept' ((Kept.refl _ _).drew) (fun _ _ z => z)) H.out.2).mono ?_; rintro o w2 ⟨p, c', rfl, ow, K2⟩
         have H2 : Hid (EB w w2 f g a n c x y l ∧ w2.ownsRow W.heap.size 5 1 (.slice p n c') n (cellsOf l)) := ⟨H.out.1.k0 (((Kept.refl _ _).drew).and0 K2), ow⟩
         have c0 := cell_blk H2.out.1.hold 0 (v := .bool f) rfl
         have c1 := cell_blk H2.out.1.hold 1 (v := .bool g) rfl
         have c2 := cell_blk H2.out.1.hold 2 (v := .slice a n c) rfl
         have t0 := cell_blk H2.out.1.tag 0 (v := .int .i64 x) rfl
         have t1 := cell_blk H2.out.1.tag 1 (v := .int .i64 y) rfl
         have r0 := cell_blk H2.out.1.res 0 (v := .int .i64 0) rfl
         have r1 := cell_blk H2.out.1.res 1 (v := .int .i64 0) rfl
         have r2 := cell_blk H2.out.1.res 2 (v := .bool false) rfl
         have r3 := cell_blk H2.out.1.res 3 (v := .bool false) rfl
         have r4 := cell_blk H2.out.1.res 4 (v := .slice none 0 0) rfl
         have s0 := soft_blk H2.out.1.res 0
         have s1 := soft_blk H2.out.1.res 1
         have s2 := soft_blk H2.out.1.res 2
         have s3 := soft_blk H2.out.1.res 3
         have s4 := soft_blk H2.out.1.res 4
         have KSH : Hid (Kept (fun k => k = w.heap.size + 2) w2 (((((w2.setCell ⟨w.heap.size + 2, 0, none⟩ (.int .i64 x)).setCell ⟨w.heap.size + 2, 1, none⟩ (.int .i64 y)).setCell ⟨w.heap.size + 2, 2, none⟩ (.bool f)).setCell ⟨w.heap.size + 2, 3, none⟩ (.bool g)).setCell ⟨w.heap.size + 2, 4, none⟩ (.slice p n c'))) := (((((Kept.refl (fun k => k = w.heap.size + 2) w2).setCell (p := ⟨w.heap.size + 2, 0, none⟩) (fun _ => rfl) _).setCell (p := ⟨w.heap.size + 2, 1, none⟩) (fun _ => rfl) _).setCell (p := ⟨w.heap.size + 2, 2, none⟩) (fun _ => rfl) _).setCell (p := ⟨w.heap.size + 2, 3, none⟩) (fun _ => rfl) _).setCell (p := ⟨w.heap.size + 2, 4, none⟩) (fun _ => rfl) _
         have SK : Hid ((((((w2.setCell ⟨w.heap.size + 1 + 1, 0, none⟩ (.int .i64 x)).setCell ⟨w.heap.size + 1 + 1, 1, none⟩ (.int .i64 y)).setCell ⟨w.heap.size + 1 + 1, 2, none⟩ (.bool f)).setCell ⟨w.heap.size + 1 + 1, 3, none⟩ (.bool g)).setCell ⟨w.heap.size + 1 + 1, 4, none⟩ (.slice p n c')).cell? ⟨w.heap.size, 0, none⟩ = some (.bool f) ∧ (((((w2.setCell ⟨w.heap.size + 1 + 1, 0, none⟩ (.int .i64 x)).setCell ⟨w.heap.size + 1 + 1, 1, none⟩ (.int .i64 y)).setCell ⟨w.heap.size + 1 + 1, 2, none⟩ (.bool f)).setCell ⟨w.heap.size + 1 + 1, 3, none⟩ (.bool g)).setCell ⟨w.heap.size + 1 + 1, 4, none⟩ (.slice p n c')).cell? ⟨w.heap.size, 1, none⟩ = some (.bool g) ∧ (((((w2.setCell ⟨w.heap.size + 1 + 1, 0, none⟩ (.int .i64 x)).setCell ⟨w.heap.size + 1 + 1, 1, none⟩ (.int .i64 y)).setCell ⟨w.heap.size + 1 + 1, 2, none⟩ (.bool f)).setCell ⟨w.heap.size + 1 + 1, 3, none⟩ (.bool g)).setCell ⟨w.heap.size + 1 + 1, 4, none⟩ (.slice p n c')).cell? ⟨w.heap.size, 2, none⟩ = some (.slice a n c) ∧ (((((w2.setCell ⟨w.heap.size + 1 + 1, 0, none⟩ (.int .i64 x)).setCell ⟨w.heap.size + 1 + 1, 1, none⟩ (.int .i64 y)).setCell ⟨w.heap.size + 1 + 1, 2, none⟩ (.bool f)).setCell ⟨w.heap.size + 1 + 1, 3, none⟩ (.bool g)).setCell ⟨w.heap.size + 1 + 1, 4, none⟩ (.slice p n c')).cell? ⟨w.heap.size + 1, 0, none⟩ = some (.int .i64 x) ∧ (((((w2.setCell ⟨w.heap.size + 1 + 1, 0, none⟩ (.int .i64 x)).setCell ⟨w.heap.size + 1 + 1, 1, none⟩ (.int .i64 y)).setCell ⟨w.heap.size + 1 + 1, 2, none⟩ (.bool f)).setCell ⟨w.heap.size + 1 + 1, 3, none⟩ (.bool g)).setCell ⟨w.heap.size + 1 + 1, 4, none⟩ (.slice p n c')).cell? ⟨w.heap.size + 1, 1, none⟩ = some (.int .i64 y)) := ⟨KSH.out.cell c0 (by show ¬ w.heap.size = w.heap.size + 2; omega), KSH.out.cell c1 (by show ¬ w.heap.size = w.heap.size + 2; omega), KSH.out.cell c2 (by show ¬ w.heap.size = w.heap.size + 2; omega), KSH.out.cell t0 (by show ¬ w.heap.size + 1 = w.heap.size + 2; omega), KSH.out.cell t1 (by show ¬ w.heap.size + 1 = w.heap.size + 2; omega)⟩
         clear K2 ow)
      | fail)
  go_wp2_with fail
  have KS := KSH.out
  refine bodyPost_ret (results_entry rfl _ _ _ #[.int .i64 x, .int .i64 y, .bool f, .bool g, .slice p n c'] rfl rfl (heap_set (heap_set (heap_set (heap_set (heap_set H2.out.1.res 0 _) 1 _) 2 _) 3 _) 4 _)) rfl ⟨p, c', rfl, ?_, ?_⟩
  · have sz := block_lt H.out.1.res
    refine owns_mono (KS.owns H2.out.2 (fun k hk z => ?_)) H.out.1.kept.size
    have z : k = w.heap.size + 2 := z
    have q := own_lt H2.out.2 k (by rw [← hk]; exact (blockOf_own ..).symm)
    omega
  · exact H2.out.1.kept.trans KS (fun j hj z => by have z : j = w.heap.size + 2 := z; omega)
end Go.Proofs.YtojepeefphbekabGreat

namespace Go.Proofs.YtojepeefphbekabGreat
open Go.Shelf Go.RowKit Go.Lib Go.Sort

/-- An entry: its tag, whether it is finalized, whether it has a fragment, the fragment. -/
def encE (e : ((Int × Int) × Bool × Bool × Option Addr × Nat × Nat)) : List Value := [.int .i64 e.1.1, .int .i64 e.1.2, .bool e.2.1, .bool e.2.2.1, .slice e.2.2.2.1 e.2.2.2.2.1 e.2.2.2.2.2]
def ecells (l : List ((Int × Int) × Bool × Bool × Option Addr × Nat × Nat)) : List Value := l.flatMap encE
theorem ecells_cons (e : ((Int × Int) × Bool × Bool × Option Addr × Nat × Nat)) (l : List ((Int × Int) × Bool × Bool × Option Addr × Nat × Nat)) : ecells (e :: l) = encE e ++ ecells l := by simp [ecells]
theorem ecells_append (l m : List ((Int × Int) × Bool × Bool × Option Addr × Nat × Nat)) : ecells (l ++ m) = ecells l ++ ecells m := by simp [ecells]
theorem enc_length (e : ((Int × Int) × Bool × Bool × Option Addr × Nat × Nat)) : (encE e).length = 5 := rfl
theorem ecells_length (l : List ((Int × Int) × Bool × Bool × Option Addr × Nat × Nat)) : (ecells l).length = l.length * 5 := by
  induction l with
  | nil => rfl
  | cons t r ih => rw [ecells_cons, List.length_append, ih, enc_length, List.length_cons]; omega
theorem ecells_get (l : List ((Int × Int) × Bool × Bool × Option Addr × Nat × Nat)) : ∀ i (h : i < l.length) j, j < 5 → (ecells l)[i * 5 + j]? = (encE l[i])[j]? := by
  induction l with
  | nil => intro i h; simp at h
  | cons t r ih =>
    intro i h j hj
    rw [ecells_cons]
    cases i with
    | zero => rw [List.getElem?_append_left (by rw [enc_length]; omega)]; simp
    | succ i =>
      rw [List.getElem?_append_right (by rw [enc_length]; omega), enc_length, show (i + 1) * 5 + j - 5 = i * 5 + j by omega, ih i (by simpa using h) j hj]
      rfl
def ce (p q : ((Int × Int) × Bool × Bool × Option Addr × Nat × Nat)) : Int := tc p.1 q.1
theorem cmpE (p q : ((Int × Int) × Bool × Bool × Option Addr × Nat × Nat)) (w : World) : Calls Tryz.prog 51 #[.agg (encE p).toArray, .agg (encE q).toArray] w fun o w' => o = .returned (.int .i64 (ce p q)) ∧ ∃ k os, w' = grow (w.drewN k) os := by
  obtain ⟨⟨px, py⟩, pf, ph, pa, pn, pc⟩ := p
  obtain ⟨⟨qx, qy⟩, qf, qh, qa, qn, qc⟩ := q
  unfold ce tc
  show Calls Tryz.prog 51 #[.agg #[.int .i64 px, .int .i64 py, .bool pf, .bool ph, .slice pa pn pc], .agg #[.int .i64 qx, .int .i64 qy, .bool qf, .bool qh, .slice qa qn qc]] w _
  go_enter Tryz.func51, Tryz.ntmps51
  go_wp2_with fail
  refine (compareGrow px py qx qy _).mono ?_
  rintro o w1 ⟨rfl, k, os, rfl⟩
  go_wp2_with fail
  go_ret
  refine ⟨rfl, k, #[.cells #[.int .i64 px, .int .i64 py, .bool pf, .bool ph, .slice pa pn pc] 34, .cells #[.int .i64 qx, .int .i64 qy, .bool qf, .bool qh, .slice qa qn qc] 34] ++ os, ?_⟩
  show grow (((w.drewN k).alloc _).alloc _) os = _
  rw [alloc_eq_grow, alloc_eq_grow, grow_grow, grow_grow, ← Array.append_assoc]
  rfl
theorem cmpLaysE (blk off size : Nat) (w : World) : CmpLays Tryz.prog 51 #[] encE 5 ce blk off size w :=
  fun _ _ _ _ x y => cmpE x y _
theorem ltCe (x y : ((Int × Int) × Bool × Bool × Option Addr × Nat × Nat)) : ltOf ce x y = decide (tc x.1 y.1 < 0) := rfl
theorem swoCe : SWO (ltOf ce) where
  irrefl x := by rw [ltCe, tc_self]; decide
  trans x y z h1 h2 := swoCf.trans x.1 y.1 z.1 h1 h2
  ntrans x y z h1 h2 := swoCf.ntrans x.1 y.1 z.1 h1 h2
theorem flat_eqE (l : List ((Int × Int) × Bool × Bool × Option Addr × Nat × Nat)) : flatK encE 5 l.toArray = (ecells l).toArray := by
  apply Array.ext
  · simp [ecells_length]
  · intro t h1 h2
    have h : t < l.length * 5 := by simpa [ecells_length] using h2
    have g := get_flatK encE 5 l.toArray t (by simpa using h)
    rw [getElem!_pos _ t h1] at g
    rw [g]
    have hi : t / 5 < l.length := by omega
    have e := ecells_get l (t / 5) hi (t % 5) (by omega)
    rw [show t / 5 * 5 + t % 5 = t by omega] at e
    have hd : l.toArray[t / 5]! = l[t / 5] := by
      rw [getElem!_pos _ _ (by simpa using hi)]
      simp
    rw [hd]
    have e2 : (ecells l)[t]? = some ((ecells l).toArray[t]) := by
      rw [List.getElem?_eq_getElem (by rw [ecells_length]; exact h)]
      simp
    rw [e2] at e
    have hj : t % 5 < (encE l[t / 5]).length := by rw [enc_length]; omega
    rw [List.getElem?_eq_getElem hj] at e
    have := Option.some.inj e
    rw [this]
    exact getElem!_pos (encE l[t / 5]) (t % 5) hj
theorem sortedE_heap (w : World) (g off n : Nat) (l : List ((Int × Int) × Bool × Bool × Option Addr × Nat × Nat)) (os : Array Obj) (cur : Array Value) (hg : w.heap[g]? = some (.cells cur 34 (0, 0))) :
    (sortWorldK encE 5 w g off n l.toArray os).heap[g]? = some (.cells (putCells id off (ecells l).toArray cur) 34 (0, 0)) := by
  have hlt := block_lt hg
  unfold sortWorldK putRowK putRow mapBlock grow
  rw [flat_eqE]
  simp only [heap_ahead]
  rw [Array.getElem?_append_left (by rw [Array.size_modify]; exact hlt), Array.getElem?_modify, if_pos rfl, hg]
  rfl
theorem sortedE_other (w : World) (g off n : Nat) (l : List ((Int × Int) × Bool × Bool × Option Addr × Nat × Nat)) (os : Array Obj) (k : Nat) (hk : k < w.heap.size) (hne : k ≠ g) :
    (sortWorldK encE 5 w g off n l.toArray os).heap[k]? = w.heap[k]? := by
  unfold sortWorldK putRowK putRow mapBlock grow
  simp only [heap_ahead]
  rw [Array.getElem?_append_left (by rw [Array.size_modify]; exact hk), Array.getElem?_modify, if_neg (fun e => hne e.symm)]
set_option maxRecDepth 100000 in
theorem sortE (g len cap base : Nat) (L : List ((Int × Int) × Bool × Bool × Option Addr × Nat × Nat)) (w : World) (o : w.ownsRow base 34 5 (.slice (some ⟨g, 0, none⟩) len cap) len (ecells L)) (hb : len * 48 ≤ 281474976710656) :
    Calls Tryz.prog 50 #[.slice (some ⟨g, 0, none⟩) len cap, .func (.func 51) #[] #[]] w fun o w' => o = .returned (.tuple #[]) ∧ ∃ L', L'.Perm L ∧ (L'.Pairwise fun x y => ¬ tc y.1 x.1 < 0) ∧ w'.ownsRow base 34 5 (.slice (some ⟨g, 0, none⟩) len cap) len (ecells L') ∧ Kept (fun k => k = g) w w' := by
  have hl : L.length = len := by have := o.1; rw [ecells_length] at this; omega
  rcases o.2 with ⟨e0, _⟩ | ⟨g', cap', cur, e0, hbase, hg, hn, hm, hs, ht⟩
  · cases e0
  · simp at e0
    obtain ⟨rfl, rfl⟩ := e0
    have hH : HoldsK encE 5 w g 0 L.toArray := by
      unfold HoldsK
      rw [flat_eqE]
      intro j hj
      have hj' : j < (ecells L).length := by simpa using hj
      refine ⟨?_, by simp [World.frozen?, hg]⟩
      rw [cell_of_row w g _ cur 34 (0, 0) hg]
      have e : (ecells L)[j]? = some ((ecells L).toArray[j]!) := by
        rw [getElem!_pos _ j hj, List.getElem?_eq_getElem hj']
        simp
      generalize (ecells L).toArray[j]! = v at e ⊢
      rw [← ht, List.getElem?_take_of_lt (by rw [ecells_length] at hj'; omega)] at e
      simpa using e
    have eg : ∀ args w, (callFunc 51 args).run Tryz.prog w = .ok (.enter 51 args) w := enters_of Tryz.func51 (by kernel_rfl) rfl
    have hcon := AnyQ.slices_SortFunc Tryz.sortEnt 5 Tryz.isAgg34 Tryz.sizeOf34 encE (fun _ => rfl) (fun x v hv => by simp [encE] at hv; rcases hv with rfl | rfl | rfl | rfl | rfl <;> rfl) ce swoCe 51 #[] g 0 cap L.toArray w eg (cmpLaysE g 0 _ w) hH (block_lt hg) (by simp; omega)
    change Calls Tryz.prog 50 _ _ _ at hcon
    rw [List.size_toArray, hl] at hcon
    refine hcon.mono ?_
    rintro e w' ⟨rfl, d', n, os, ⟨hp1, _, hp⟩, hsd, rfl⟩
    have hsz : d'.size = len := by rw [hp1, List.size_toArray, hl]
    have hd : d'.toList.length = len := by rw [Array.length_toList]; exact hsz
    have e1 : d'.extract 0 len = d' := by rw [← hsz]; exact Array.extract_size
    have e2 : L.toArray.extract 0 len = L.toArray := by rw [show len = L.toArray.size by rw [List.size_toArray]; exact hl.symm]; exact Array.extract_size
    rw [e1, e2] at hp
    have P : d'.toList.Perm L := by simpa using hp
    have ed : d' = d'.toList.toArray := by simp
    have tl : (ecells d'.toList).length = len * 5 := by rw [ecells_length, hd]
    refine ⟨rfl, d'.toList, P, ?_, ⟨by rw [tl], .inr ⟨g, cap, _, rfl, hbase, by rw [ed]; exact sortedE_heap w g 0 n d'.toList os cur hg, hn, hm, ?_, ?_⟩⟩, ?_⟩
    · refine List.pairwise_iff_getElem.2 (fun i j hi hj hij => ?_)
      have h := hsd i j (Nat.zero_le _) hij (by omega)
      rw [ltCe, getElem!_pos d' j (by omega), getElem!_pos d' i (by omega)] at h
      have := of_decide_eq_false h
      simpa using this
    · unfold putCells
      rw [Array.size_mapIdx]
      exact hs
    · have := put_take 0 (ecells d'.toList) cur.toList (by rw [tl, Array.length_toList]; omega)
      rw [tl] at this
      simpa using this
    · refine ⟨rfl, rfl, rfl, ?_, fun k hk hne => by rw [ed]; exact sortedE_other w g 0 n d'.toList os k hk hne⟩
      unfold sortWorldK putRowK putRow mapBlock grow
      simp
end Go.Proofs.YtojepeefphbekabGreat
