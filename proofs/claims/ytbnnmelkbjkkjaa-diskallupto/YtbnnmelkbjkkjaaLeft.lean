import Derived.Test.YtbnnmelkbjkkjaaSyncJ
namespace Go.Proofs.Ytbnnmelkbjkkjaa
open Go.RowKit

/-- What a crash leaves of a slot, and of the choices. -/
def leftL (l : List Nat) (xs : List (Option (List Nat))) (cs : List Int) : List Nat × List Int :=
  match xs[(nextC cs (xs.length + 1)).1]? with
  | some (some x) => (redoL l (xs.take (nextC cs (xs.length + 1)).1) ++ x.take (nextC (nextC cs (xs.length + 1)).2 x.length).1, (nextC (nextC cs (xs.length + 1)).2 x.length).2)
  | _ => (redoL l (xs.take (nextC cs (xs.length + 1)).1), (nextC cs (xs.length + 1)).2)
theorem weigh_mem {l : List Nat} : ∀ {L : List (Option (List Nat))}, some l ∈ L → l.length ≤ weigh L
  | [], h => by simp at h
  | x :: L, h => by
    have e : weigh (x :: L) = (x.getD []).length + weigh L := by simp [weigh]
    rcases List.mem_cons.1 h with z | z
    · rw [e, ← z]; exact Nat.le_add_right _ _
    · have := weigh_mem z; omega
theorem PK.kept0 {w w' : World} {P T : Nat} {cs : List Int} (h : PK w P T cs) (K : Kept (fun _ => False) w w') : PK w' P T cs := by
  obtain ⟨q, n, c, b, r, ne⟩ := h.ex
  exact ⟨q, n, c, K.get b (fun z => z), r.kept0 K, ne⟩
theorem slice_to67 {w : World} {base : Nat} {a : Option Addr} {len cap : Nat} {xs : List Value} (h : w.ownsRow base 90 2 (.slice a len cap) len xs) (mn : Nat) (hm : mn ≤ len) (W : World) : (Instr.slice 67 (.slice a len cap) none (some (.int .i64 (mn : Int))) none).run Try.prog W = .ok (.slice a mn cap) W := by
  rcases h.2 with ⟨e0, e1⟩ | ⟨g, cap', cur, e0, _, _, h1, h2, _⟩
  · simp at e0
    obtain ⟨rfl, rfl, rfl⟩ := e0
    have : mn = 0 := by omega
    subst this
    simp [Instr.slice, Instr.sliceBounds, Instr.sliceBound, asIntOf, run_underlying Try.underlying67]
  · simp at e0
    obtain ⟨rfl, rfl⟩ := e0
    unfold maxLen at h2
    have h3 : mn ≤ cap := by omega
    simp [Instr.slice, Instr.sliceBounds, Instr.sliceBound, asIntOf, run_underlying Try.underlying67, h3]
    intro _
    rw [Addr.add_none]
theorem own_take {w : World} {base : Nat} {a : Option Addr} {n c : Nat} {l : List Nat} (h : w.ownsRow base 5 1 (.slice a n c) n (cellsOf l)) (k : Nat) (hk : k ≤ n) : w.ownsRow base 5 1 (.slice a k c) k (cellsOf (l.take k)) := by
  have hl := len_own h
  refine ⟨by rw [cellsOf_length, List.length_take]; omega, ?_⟩
  rcases h.2 with ⟨e0, e1⟩ | ⟨g, cap', cur, e0, h0, h1, h2, h3, h4, h5⟩
  · simp at e0
    obtain ⟨rfl, rfl, rfl⟩ := e0
    exact .inl ⟨by rw [show k = 0 by omega], by omega⟩
  · simp at e0
    obtain ⟨rfl, rfl⟩ := e0
    refine .inr ⟨g, c, cur, rfl, h0, h1, by omega, h3, h4, ?_⟩
    rw [Nat.mul_one] at h5 ⊢
    unfold cellsOf at h5 ⊢
    rw [List.map_take, ← h5, List.take_take, Nat.min_eq_left hk]
set_option maxRecDepth 100000 in
set_option maxHeartbeats 2000000 in
theorem left (base B o P T : Nat) (s : SL) (cs : List Int) (w : World) (h : IsS base w s) (c0 : w.cell? ⟨B, o, none⟩ = some (.slice s.a s.n s.c)) (c1 : w.cell? ⟨B, o + 1, none⟩ = some (.slice s.la s.ln s.lc)) (pk : PK w P T cs) (hP : P ≠ B) (hU : ¬ s.Uses P) (hl : s.l.length + weigh s.xs ≤ Lim) (hln : s.ln + 1 ≤ Lim) :
    Calls Try.prog 40 #[.pointer (some ⟨B, o, none⟩), .pointer (some ⟨P, 0, none⟩)] w fun x w' => ∃ a n c, x = .returned (.slice a n c) ∧ w'.ownsRow w.heap.size 5 1 (.slice a n c) n (cellsOf (leftL s.l s.xs cs).1) ∧ PK w' P T (leftL s.l s.xs cs).2 ∧ Kept (fun k => k = P) w w' := by
  have hxl : s.xs.length = s.ln := by unfold SL.xs; rw [List.length_map]; exact (owns_lrd h.lown).length
  have H : Hid (IsS base w s ∧ PK w P T cs ∧ s.l.length + weigh s.xs ≤ Lim ∧ ¬ s.Uses P ∧ s.xs.length = s.ln ∧ s.n ≤ 140737488355328) := by
    refine ⟨h, pk, hl, hU, hxl, ?_⟩
    have := len_own h.own
    unfold Lim at hl
    omega
  have hlb : s.ln < 1099511627776 := by unfold Lim at hln; omega
  have hBP : ¬ B = P := fun z => hP z.symm
  obtain ⟨m1, hm1⟩ : ∃ m, s.ln + 1 = m := ⟨_, rfl⟩
  have wm1 : IntKind.i64.wrap ((s.ln : Int) + 1) = (m1 : Int) := by rw [IntKind.wrap_i64]; omega
  obtain ⟨k1, hk1⟩ : ∃ k, (nextC cs m1).1 = k := ⟨_, rfl⟩
  obtain ⟨cs1, hcs1⟩ : ∃ r, (nextC cs m1).2 = r := ⟨_, rfl⟩
  have hk1l : k1 ≤ s.ln := by have := nextC_lt cs m1 (by omega); omega
  have HN : Hid ((nextC cs (s.xs.length + 1)).1 = k1 ∧ (nextC cs (s.xs.length + 1)).2 = cs1) := by rw [hxl, hm1]; exact ⟨hk1, hcs1⟩
  obtain ⟨hr3, hr4⟩ := own_room h.lown
  unfold maxLen at hr4
  have slc : ∀ W : World, (Instr.slice 67 (.slice s.la s.ln s.lc) none (some (.int .i64 (k1 : Int))) none).run Try.prog W = .ok (.slice s.la k1 s.lc) W := slice_to67 h.lown k1 hk1l
  clear h pk hl hU hxl
  go_enter Try.func40, Try.ntmps40
  go_wp2_with fail
  refine (next P T cs m1 w H.out.2.1 (by omega) (by omega)).mono ?_
  rintro x w1 ⟨rfl, pk1, K1⟩
  rw [hk1]
  rw [hcs1] at pk1
  have X1 : Hid (PK w1 P T cs1 ∧ Kept (fun k => k = P) w w1 ∧ IsS base w1 s) := ⟨pk1, K1, H.out.1.off K1 (fun k hk z => H.out.2.2.2.1 (by rw [← z]; exact hk))⟩
  have d0 := K1.cell c0 hBP
  have d1 := K1.cell c1 hBP
  clear pk1 K1 c0 c1
  go_upto_region 2 with fail
  have KD : Hid (Kept (fun _ => False) w1 w1.drew) := (Kept.refl (fun _ => False) w1).drew
  go_region_held3 (fun w' => w'.cell? ⟨B, o, none⟩ = some (.slice s.a s.n s.c) ∧ w'.cell? ⟨B, o + 1, none⟩ = some (.slice s.la s.ln s.lc)) (first | go_keep)
    (first
      | (go_at_call 60; refine (redo w1.drew.heap.size p2 s.n q2 s.l s.la k1 s.lc (s.L.take k1) w2 X2.out.1).mono ?_; rintro x w3 ⟨a3, n3, c3, rfl, o3, K3, _⟩
         have X3 : Hid (w3.ownsRow w1.heap.size 5 1 (.slice a3 n3 c3) n3 (cellsOf (redoL s.l (s.xs.take k1))) ∧ Kept (fun _ => False) w1 w3) := ⟨by have := o3; rw [List.map_take] at this; exact this, X2.out.2.trans K3 (fun k hk z => by have := (own_lt X2.out.1.own k z).1; rw [drew_size] at this; omega)⟩
         have g0 := X3.out.2.cell d0 (fun z => z)
         have g1 := X3.out.2.cell d1 (fun z => z)
         clear o3 K3)
      | (go_at_call 35; refine (clone s.a s.n s.c s.l w1.drew (X1.out.2.2.reads.kept' KD.out (fun _ _ z => z)) H.out.2.2.2.2.2).mono ?_; rintro x w2 ⟨p2, q2, rfl, o2, K2⟩
         have KW : Kept (fun _ => False) w1 w2 := KD.out.trans K2 (fun _ _ z => z)
         have X2 : Hid (RD w1.drew.heap.size w2 p2 s.n q2 s.l s.la k1 s.lc (s.L.take k1) ∧ Kept (fun _ => False) w1 w2) := by
           have h1 := X1.out.2.2.kept0 KW
           refine ⟨⟨o2, H.out.1.bytes, KW.size, (owns_lrd h1.lown).take k1 hk1l, fun e he => h1.good e (List.mem_of_mem_take he), fun k hk => ?_, ?_⟩, KW⟩
           · have hk2 := (own_lt o2 k hk).1
             rw [drew_size] at hk2
             exact ⟨fun z => by have := (own_lt X1.out.2.2.lown k z).2; omega, fun e he z => by have := X1.out.2.2.lt (k := k) (.inr (.inr ⟨e, List.mem_of_mem_take he, z⟩)); omega⟩
           · have h2 := weigh_take s.xs k1
             have h3 := H.out.2.2.1
             rw [List.map_take]
             unfold SL.xs at h2 h3
             omega
         have e0 := KW.cell d0 (fun z => z)
         have e1 := KW.cell d1 (fun z => z)
         clear o2 K2 KW)
      | fail)
  have Z3 : Hid (w3.ownsRow w1.heap.size 5 1 (.slice a3 n3 c3) n3 (cellsOf (redoL s.l (s.xs.take k1))) ∧ PK w3 P T cs1 ∧ Kept (fun k => k = P) w w3 ∧ IsS base w3 s ∧ Kept (fun _ => False) w1 w3 ∧ w.heap.size ≤ w1.heap.size) := ⟨X3.out.1, X1.out.1.kept0 X3.out.2, X1.out.2.1.trans X3.out.2 (fun _ _ z => z.elim), X1.out.2.2.kept0 X3.out.2, X3.out.2, X1.out.2.1.size⟩
  have PK1 : Hid (PK w1 P T cs1) := X1.out.1
  clear X1 X2 X3 KD
  by_cases hend : k1 = s.ln
  · have i1 : (k1 : Int) = (s.ln : Int) := by omega
    have EL : Hid (leftL s.l s.xs cs = (redoL s.l (s.xs.take k1), cs1)) := by
      show leftL s.l s.xs cs = _
      unfold leftL
      rw [HN.out.1, HN.out.2, List.getElem?_eq_none (by rw [H.out.2.2.2.2.1]; omega)]
    go_wp2_with fail
    go_ret
    rw [EL.out]
    exact ⟨a3, n3, c3, rfl, owns_mono Z3.out.1 Z3.out.2.2.2.2.2, Z3.out.2.1, Z3.out.2.2.1⟩
  · have hlt : k1 < s.ln := by omega
    have i1 : ¬ (k1 : Int) = (s.ln : Int) := by omega
    have i2 : (k1 : Int) < (s.ln : Int) := by omega
    obtain ⟨e, he⟩ : ∃ e, s.L[k1]? = some e := ⟨_, List.getElem?_eq_getElem (by have := (owns_lrd Z3.out.2.2.2.1.lown).length; omega)⟩
    obtain ⟨b, off, hla, hc⟩ := (owns_lrd Z3.out.2.2.2.1.lown).cells (by omega)
    obtain ⟨t0, t1⟩ := hc k1 e he
    have hge := Z3.out.2.2.2.1.good e (List.mem_of_getElem? he)
    have hxe : s.xs[k1]? = some e.x := by unfold SL.xs; rw [List.getElem?_map, he]; rfl
    have HX : Hid (s.xs[k1]? = some e.x ∧ e.Good w3) := ⟨hxe, hge⟩
    rw [hla] at g1 slc
    obtain ⟨fv, hfv⟩ : ∃ v, v = e.fv := ⟨_, rfl⟩
    obtain ⟨sz, hsz⟩ : ∃ v, v = e.sz := ⟨_, rfl⟩
    rw [← hfv] at t0
    rw [← hsz] at t1
    clear hc he hxe hge
    cases hx : e.x with
    | none =>
      have hz : sz = 0 := by rw [hsz]; unfold LA.sz; rw [hx]; rfl
      subst hz
      have EL : Hid (leftL s.l s.xs cs = (redoL s.l (s.xs.take k1), cs1)) := by
        show leftL s.l s.xs cs = _
        unfold leftL
        rw [HN.out.1, HN.out.2, HX.out.1, hx]
      clear hfv hsz hx hk1 hcs1 slc
      go_wp2_with fail
      go_ret
      rw [EL.out]
      exact ⟨a3, n3, c3, rfl, owns_mono Z3.out.1 Z3.out.2.2.2.2.2, Z3.out.2.1, Z3.out.2.2.1⟩
    | some l =>
      have hz : sz = l.length := by rw [hsz]; unfold LA.sz; rw [hx]; rfl
      have hv : fv = .func (.func 58) #[] #[.pointer (some ⟨e.o, 0, none⟩)] := by rw [hfv]; unfold LA.fv; rw [hx]
      subst hv
      obtain ⟨h0, h1, h2⟩ := HX.out.2 l hx
      have hen : e.n = sz := by rw [hz]; exact h2.length.symm
      have sz0 : ¬ ((sz : Int) = 0) := by omega
      have sz1 : ¬ (sz = 0) := by omega
      have sb : ((sz : Int) == 0) = false := by simpa using sz1
      have kb : ((k1 : Int) == (s.ln : Int)) = false := by simp; omega
      obtain ⟨t, ht⟩ : ∃ t, (nextC cs1 sz).1 = t := ⟨_, rfl⟩
      obtain ⟨cs2, hcs2⟩ : ∃ r, (nextC cs1 sz).2 = r := ⟨_, rfl⟩
      have htl : t < sz := by have := nextC_lt cs1 sz (by omega); omega
      obtain ⟨u, hu⟩ : ∃ u, n3 + t = u := ⟨_, rfl⟩
      have hn3 : n3 + sz ≤ 2199023255552 := by
        have q1 := len_own Z3.out.1
        have q2 := redoL_length (s.xs.take k1) s.l
        have q3 := weigh_take s.xs k1
        have q4 := H.out.2.2.1
        have q5 : l.length ≤ weigh s.xs := by
          have hm : some l ∈ s.xs := by rw [← hx]; exact List.mem_of_getElem? HX.out.1
          exact weigh_mem hm
        unfold Lim at q4
        omega
      have wu : IntKind.i64.wrap ((n3 : Int) + (t : Int)) = (u : Int) := by rw [IntKind.wrap_i64]; omega
      have EL : Hid (leftL s.l s.xs cs = (redoL s.l (s.xs.take k1) ++ l.take t, cs2) ∧ (redoL s.l (s.xs.take k1) ++ l).take u = redoL s.l (s.xs.take k1) ++ l.take t) := by
        refine ⟨?_, ?_⟩
        · show leftL s.l s.xs cs = _
          unfold leftL
          rw [HN.out.1, HN.out.2, HX.out.1, hx]
          simp only
          rw [← hz, ht, hcs2]
        · have q1 := len_own Z3.out.1
          rw [← hu, ← q1, List.take_length_add_append]
      obtain ⟨W, hW⟩ : ∃ W, W = w3.alloc (.cells #[.func (.func 58) #[] #[.pointer (some ⟨e.o, 0, none⟩)], .int .i64 (sz : Int)] 90) := ⟨_, rfl⟩
      have EW : Hid (W = w3.alloc (.cells #[.func (.func 58) #[] #[.pointer (some ⟨e.o, 0, none⟩)], .int .i64 (sz : Int)] 90)) := hW
      have KW : Kept (fun _ => False) w3 W := by rw [hW]; exact alloc_kept0 _ _
      have bW : W.heap[w3.heap.size]? = some (.cells #[.func (.func 58) #[] #[.pointer (some ⟨e.o, 0, none⟩)], .int .i64 (sz : Int)] 90 (0, 0)) := by rw [hW]; exact alloc_new _ _
      have x0 := cell_blk bW 0 rfl
      have x1 := cell_blk bW 1 rfl
      have Y : Hid (∀ V : World, Kept (fun _ => False) W V → V.ownsRow w1.heap.size 5 1 (.slice a3 n3 c3) n3 (cellsOf (redoL s.l (s.xs.take k1))) ∧ w1.heap.size ≤ V.heap.size ∧ V.heap[e.o]? = some (.cells #[.slice e.a e.n e.c] 22 (0, 0)) ∧ Reads V e.a e.n e.c l ∧ PK V P T cs1 ∧ Kept (fun k => k = P) w V ∧ Kept (fun _ => False) w1 V) := fun V KV => by
        have K := KW.trans KV (fun _ _ z => z)
        have k1V := Z3.out.2.2.2.2.1.trans K (fun _ _ z => z)
        exact ⟨K.owns Z3.out.1 (fun _ _ z => z), k1V.size, K.get h1 (fun z => z), h2.kept' K (fun _ _ z => z), Z3.out.2.1.kept0 K, Z3.out.2.2.1.trans K (fun _ _ z => z.elim), k1V⟩
      have NN : Hid (n3 + e.n ≤ 2 * Lim ∧ P < w1.heap.size ∧ e.n = sz) := by
        refine ⟨by unfold Lim; omega, ?_, hen⟩
        have := H.out.2.1.lt
        have := Z3.out.2.2.2.2.2
        omega
      clear hW bW h0 h1 h2 hfv hsz hx hk1 hcs1 slc hz
      go_upto_region 6 with fail
      rw [← EW.out]
      have KD : Hid (Kept (fun _ => False) W W.drew) := (Kept.refl (fun _ => False) W).drew
      go_region_held3 (fun w' => w'.cell? ⟨w3.heap.size, 0, none⟩ = some (.func (.func 58) #[] #[.pointer (some ⟨e.o, 0, none⟩)]) ∧ w'.cell? ⟨w3.heap.size, 1, none⟩ = some (.int .i64 (sz : Int))) (first | go_keep)
        (first
          | (go_at_call 59; refine (next P T cs1 sz w4 X4.out.2.1 (by omega) (by omega)).mono ?_; rintro x w5 ⟨rfl, pk5, K5⟩
             rw [ht]
             rw [hcs2] at pk5
             have X5 : Hid (w5.ownsRow w1.heap.size 5 1 (.slice a4 (n3 + e.n) c4) (n3 + e.n) (cellsOf (redoL s.l (s.xs.take k1) ++ l)) ∧ PK w5 P T cs2 ∧ Kept (fun k => k = P) w w5) := ⟨K5.owns X4.out.1 (fun k hk z => by have q1 := (own_lt X4.out.1 k (by rw [← hk]; exact (blockOf_own ..).symm)).1; have q2 := NN.out.2.1; have z : k = P := z; omega), pk5, X4.out.2.2.1.trans K5 (fun _ _ z => z)⟩
             have slc4 : ∀ V : World, (Instr.slice 22 (.slice a4 (n3 + sz) c4) none (some (.int .i64 (u : Int))) none).run Try.prog V = .ok (.slice a4 u c4) V := by rw [← hen]; exact slice_to X4.out.1 u (by have := NN.out.2.2; omega)
             have y0 := X4.out.2.2.2.1
             have y1 := X4.out.2.2.2.2
             have z0 := K5.cell y0 (fun z => by have := NN.out.2.1; have q := Z3.out.2.2.2.2.1.size; have z : w3.heap.size = P := z; omega)
             have z1 := K5.cell y1 (fun z => by have := NN.out.2.1; have q := Z3.out.2.2.2.2.1.size; have z : w3.heap.size = P := z; omega)
             clear pk5 K5)
          | (go_at_call 58; refine (again w1.heap.size a3 n3 c3 (redoL s.l (s.xs.take k1)) e.o e.a e.n e.c l W.drew (Y.out _ KD.out).1 (Y.out _ KD.out).2.1 (Y.out _ KD.out).2.2.1 (Y.out _ KD.out).2.2.2.1 NN.out.1).mono ?_; rintro x w4 ⟨a4, c4, rfl, o4, K4, n4⟩
             have X4 : Hid (w4.ownsRow w1.heap.size 5 1 (.slice a4 (n3 + e.n) c4) (n3 + e.n) (cellsOf (redoL s.l (s.xs.take k1) ++ l)) ∧ PK w4 P T cs1 ∧ Kept (fun k => k = P) w w4 ∧ w4.cell? ⟨w3.heap.size, 0, none⟩ = some (.func (.func 58) #[] #[.pointer (some ⟨e.o, 0, none⟩)]) ∧ w4.cell? ⟨w3.heap.size, 1, none⟩ = some (.int .i64 (sz : Int))) := by
               have yv := Y.out _ KD.out
               have ne3 : ¬ blockOf a3 = some w3.heap.size := fun z => by have := (own_lt Z3.out.1 _ z).2; omega
               have kk : Kept (fun _ => False) w1 w4 := yv.2.2.2.2.2.2.trans K4 (fun k hk z => by have := (own_lt Z3.out.1 k z).1; omega)
               exact ⟨o4, PK1.out.kept0 kk, yv.2.2.2.2.2.1.trans K4 (fun k hk z => by have q1 := (own_lt Z3.out.1 k z).1; have q2 := Z3.out.2.2.2.2.2; omega), K4.cell (KD.out.cell x0 (fun z => z)) ne3, K4.cell (KD.out.cell x1 (fun z => z)) ne3⟩
             have y0 := X4.out.2.2.2.1
             have y1 := X4.out.2.2.2.2
             clear o4 K4 n4)
          | fail)
      go_wp2_with fail
      go_ret
      rw [EL.out.1]
      exact ⟨a4, u, c4, rfl, by have q := own_take X5.out.1 u (by have := NN.out.2.2; omega); rw [EL.out.2] at q; exact owns_mono q Z3.out.2.2.2.2.2, X5.out.2.1, X5.out.2.2⟩
end Go.Proofs.Ytbnnmelkbjkkjaa
