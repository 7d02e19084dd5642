import Derived.Test.YtojfnehdanhgiaaFates
namespace Go.Proofs.Ytojfnehdanhgiaa
open Go.RowKit

/-- copy, at a step of a region that draws. -/
theorem step_copy {ops : Array Oper} {o : Oper} {a : Act} {K : Act → World → Prop} {Q : Exit → Act → World → Prop} {E : Prop} (w : World) (hg : o.guard = none) (d x : Operand) (dT sT : TypeId) (hop : o.op = Op.call { callee := Callee.builtin Builtin.copy, args := #[d, x], argTypes := #[dT, sT] })
    (v u : Value) (hd : a.eval d = v) (hx : a.eval x = u) {v' : Value} {w' : World} (hr : (Builtin.copy_ #[dT, sT] o.type #[v, u]).run Try.prog w = .ok v' w') (hK : K (a.put o.dst v') w') :
    if Region.wanted o (yielded ops a.tmps) = true then Oper.wp Try.prog o a w K Q else E := by
  have hw : Region.wanted o (yielded ops a.tmps) = true := by simp [Region.wanted, hg]
  rw [if_pos hw]
  unfold Oper.wp
  simp [execOp, hop, resolve, invoke, builtin, hd, hx, hr, Result.andThen]
  exact hK
/-- What stands in a block behind a copy into it. -/
def over (L N : List Value) (o : Nat) : List Value := L.take o ++ N ++ L.drop (o + N.length)
theorem over_length (L N : List Value) (o : Nat) (h : o + N.length ≤ L.length) : (over L N o).length = L.length := by
  unfold over
  simp only [List.length_append, List.length_take, List.length_drop]
  omega
theorem over_take (L N : List Value) (o : Nat) (h : o ≤ L.length) : (over L N o).take (o + N.length) = L.take o ++ N := by
  unfold over
  rw [show o + N.length = (L.take o ++ N).length by rw [List.length_append, List.length_take]; omega]
  exact List.take_left
/-- copy of rows of one kind. -/
theorem copy_rows (t e : TypeId) (size : Nat) (ht : Try.prog.underlying t = some (.slice e)) (hsz : ∀ w, (sizeOf e).run Try.prog w = .ok size w) (w : World) (ty : TypeId) (b o dLen dCap : Nat) (a : Addr) (sLen sCap : Nat) (N : List Value) (cur : Array Value) (hb : w.heap[b]? = some (.cells cur e (0, 0))) (hn : N.length = Nat.min sLen dLen * size)
    (hsrc : ∀ j v, N[j]? = some v → w.cell? (a.add j) = some v) (hfit : o + N.length ≤ cur.size) (h1 : ∀ v ∈ N, v.oneCell' = true) :
    (Builtin.copy_ #[t, t] ty #[.slice (some ⟨b, o, none⟩) dLen dCap, .slice (some a) sLen sCap]).run Try.prog w = .ok (goInt (Nat.min sLen dLen)) (w.setRow b (over cur.toList N o).toArray) := by
  have hl := run_loadCells_list (P := Try.prog) w a N hsrc
  rw [hn] at hl
  have hst := run_storeCells_at Try.prog b o e N 0 cur w hb (by simpa using hfit) h1
  simp only [Nat.add_zero] at hst
  simp [Builtin.copy_, run_underlying ht, Builtin.lenOf, Builtin.firstCells, hsz, hl, hst, over]
theorem size39 (w : World) : (sizeOf 39).run Try.prog w = .ok 6 w := by kernel_rfl
/-- x[k:], k within. -/
theorem slice27 (g len cap : Nat) (k : Nat) (hk : k ≤ len) (hr : len ≤ cap) :
    ∃ p c, (∀ W : World, (Instr.slice 27 (.slice (some ⟨g, 0, none⟩) len cap) (some (.int .i64 (k : Int))) none none).run Try.prog W = .ok (.slice (some p) (len - k) c) W) ∧ (k < len → p = ⟨g, k * 6, none⟩) := by
  by_cases hc : cap = k
  · refine ⟨⟨g, 0, none⟩, 0, fun W => ?_, fun h => by omega⟩
    simp [Instr.slice, Instr.sliceBounds, Instr.sliceBound, asIntOf, run_underlying Try.underlying27]
    rw [if_pos hk, if_pos hc, hc, Nat.sub_self]
  · refine ⟨⟨g, k * 6, none⟩, cap - k, fun W => ?_, fun _ => rfl⟩
    simp [Instr.slice, Instr.sliceBounds, Instr.sliceBound, asIntOf, run_underlying Try.underlying27]
    rw [if_pos hk, if_neg hc, Addr.add_none]
    simp
theorem IsL.cells_drop {base : Nat} {w : World} {g : Nat} {len cap : Nat} {R : List Ent} (h : IsL base w (some ⟨g, 0, none⟩) len cap R) (k : Nat) {p : Addr} (hp : k < len → p = ⟨g, k * 6, none⟩) : ∀ j v, (rcells (R.drop k))[j]? = some v → w.cell? (p.add j) = some v := fun j v hj => by
  have hjl := (List.getElem?_eq_some_iff.1 hj).1
  rw [rcells_length, List.length_drop, h.length] at hjl
  rw [hp (by omega), Addr.add_none]
  have := h.own.cells (g := g) rfl (k * 6 + j) v ?_
  · rw [Addr.add_none, Nat.zero_add] at this; exact this
  · have e : rcells R = rcells (R.take k) ++ rcells (R.drop k) := by rw [← rcells_append, List.take_append_drop]
    rw [e, List.getElem?_append_right (by rw [rcells_length, List.length_take, h.length]; omega), rcells_length, List.length_take, h.length, show k * 6 + j - min k len * 6 = j by omega]
    exact hj
/-- Its own list is laid anew where it lies. -/
theorem IsNet.relaid {ty base : Nat} {w w' : World} {C g len cap len' : Nat} {R R' : List Ent} {cur : Array Value} (h : IsNet ty base w C (some ⟨g, 0, none⟩) len cap R) (K : Kept (fun k => k = C ∨ k = g) w w') (hb : w'.heap[C]? = some (.cells #[.slice (some ⟨g, 0, none⟩) len' cap] ty (0, 0)))
    (hg : w'.heap[g]? = some (.cells cur 39 (0, 0))) (hs : cur.size = cap * 6) (ht : cur.toList.take (len' * 6) = rcells R') (hl : R'.length = len') (hle : len' ≤ cap) (good : ∀ e ∈ R', Good base w e ∨ Good base w' e) :
    IsNet ty base w' C (some ⟨g, 0, none⟩) len' cap R' ∧ Moved w w' C (some ⟨g, 0, none⟩) (some ⟨g, 0, none⟩) := by
  refine ⟨⟨hb, ⟨⟨by rw [rcells_length, hl], .inr ⟨g, cap, cur, rfl, (own_lt h.list.own g rfl).1, hg, hle, (own_room h.list.own).2, hs, ht⟩⟩, fun e he => ?_⟩, h.low, h.t5, h.t39⟩, ⟨K.mono (fun k _ e => e.elim .inl (fun e => .inr (by rw [e]; rfl))), fun _ q => .inl q⟩⟩
  rcases good e he with q | q
  · refine q.kept K (fun k _ e => ?_)
    rcases e with e | e
    · rw [e]; exact h.notdata
    · exact h.list.notdata k (by rw [e]; rfl)
  · exact q
theorem dropped {ty base : Nat} {w W w2 : World} {C g len cap m : Nat} {R : List Ent} {cur1 : Array Value} {i : Nat} (h : IsNet ty base w C (some ⟨g, 0, none⟩) len cap R) (KW : Kept (fun _ => False) w W) (K2 : Kept (fun k => k = g) W w2) (hg : w2.heap[g]? = some (.cells cur1 39 (0, 0))) (hs : cur1.size = cap * 6)
    (ht : cur1.toList.take (m * 6) = rcells (R.take i ++ R.drop (i + 1))) (hb : w2.heap[C]? = some (.cells #[.slice (some ⟨g, 0, none⟩) len cap] ty (0, 0))) (gC : C ≠ g) (hl : (R.take i ++ R.drop (i + 1)).length = m) (hm : m < len) (hle : len ≤ cap) :
    IsNet ty base ((((((((w2.setCell ⟨g, m * 6, none⟩ (.int .i64 0)).setCell ⟨g, m * 6 + 1, none⟩ (.int .i64 0)).setCell ⟨g, m * 6 + 2, none⟩ (.int .i64 0)).setCell ⟨g, m * 6 + 3, none⟩ (.int .i64 0)).setCell ⟨g, m * 6 + 4, none⟩ (.slice none 0 0)).setCell ⟨g, m * 6 + 5, none⟩ (.bool false)).setCell ⟨C, 0, none⟩ (.slice (some ⟨g, 0, none⟩) m cap))) C (some ⟨g, 0, none⟩) m cap (R.take i ++ R.drop (i + 1)) ∧
    Moved w ((((((((w2.setCell ⟨g, m * 6, none⟩ (.int .i64 0)).setCell ⟨g, m * 6 + 1, none⟩ (.int .i64 0)).setCell ⟨g, m * 6 + 2, none⟩ (.int .i64 0)).setCell ⟨g, m * 6 + 3, none⟩ (.int .i64 0)).setCell ⟨g, m * 6 + 4, none⟩ (.slice none 0 0)).setCell ⟨g, m * 6 + 5, none⟩ (.bool false)).setCell ⟨C, 0, none⟩ (.slice (some ⟨g, 0, none⟩) m cap))) C (some ⟨g, 0, none⟩) (some ⟨g, 0, none⟩) := by
  obtain ⟨cur', h1, h2, h3⟩ := put6 hg (m * 6) (by omega) (.int .i64 0) (.int .i64 0) (.int .i64 0) (.int .i64 0) (.slice none 0 0) (.bool false)
  have hb' : w2.heap[C]? = some (.cells #[.slice (some ⟨g, 0, none⟩) len cap] ty (0, 0)) := hb
  refine h.relaid (cur := cur') ?_ (set_heap (cs := #[.slice (some ⟨g, 0, none⟩) len cap]) ?_ 0 _) ?_ (by omega) ?_ hl (by omega) (fun e he => .inl ?_)
  · have hS : g < w.heap.size → (g = C ∨ g = g) := fun _ => .inr rfl
    refine Kept.setCell (p := ⟨C, 0, none⟩) ?_ (fun _ => .inl rfl) _
    refine (((((Kept.setCell (p := ⟨g, _, none⟩) ?_ hS _).setCell (p := ⟨g, _, none⟩) hS _).setCell (p := ⟨g, _, none⟩) hS _).setCell (p := ⟨g, _, none⟩) hS _).setCell (p := ⟨g, _, none⟩) hS _).setCell (p := ⟨g, _, none⟩) hS _
    exact (KW.mono (fun _ _ q => q.elim)).trans K2 (fun j _ e => .inr e)
  · rw [set_other _ _ gC, set_other _ _ gC, set_other _ _ gC, set_other _ _ gC, set_other _ _ gC, set_other _ _ gC]
    exact hb'
  · rw [set_other _ _ (Ne.symm gC)]
    exact h1
  · have := congrArg (List.take (m * 6)) h3
    rw [List.take_take, Nat.min_eq_left (by omega), List.take_append_of_le_length (by rw [List.length_take, Array.length_toList]; omega), List.take_take, Nat.min_self] at this
    rw [this, ht]
  · rcases List.mem_append.1 he with q | q
    · exact h.list.good e (List.mem_of_mem_take q)
    · exact h.list.good e (List.mem_of_mem_drop q)
set_option maxRecDepth 100000 in
set_option maxHeartbeats 1000000 in
theorem drop (base C : Nat) (q : Option Addr) (len cap : Nat) (R : List Ent) (w : World) (h : IsNet 67 base w C q len cap R) (i : Nat) (hi : i < len) (num pat : Int) :
    Calls Try.prog 49 #[.pointer (some ⟨C, 0, none⟩), .int .i64 (i : Int), .agg #[.int .i64 num, .int .u32 pat]] w fun x w' => x = .returned (.int .i64 0) ∧ IsNet 67 base w' C q (len - 1) cap (R.take i ++ R.drop (i + 1)) ∧ Moved w w' C q q := by
  obtain ⟨hr1, hr2⟩ := own_room h.list.own
  have lC := h.lt
  have hl := h.list.length
  obtain ⟨g, rfl, hlR, _⟩ := h.list.cells i hi
  obtain ⟨W, hW⟩ : ∃ W, W = w.alloc (.cells #[.int .i64 num, .int .u32 pat] 65) := ⟨_, rfl⟩
  have KW : Hid (Kept (fun _ => False) w W.drew) := by show Kept _ w W.drew; rw [hW]; exact (alloc_kept0 w _).drew
  have H2 := h.kept0 KW.out
  have cC : W.cell? ⟨C, 0, none⟩ = some (.slice (some ⟨g, 0, none⟩) len cap) := H2.cell
  obtain ⟨p1, c1, sl1, hp1⟩ := slice27 g len cap i (by omega) hr1
  obtain ⟨p2, c2, sl2, hp2⟩ := slice27 g len cap (i + 1) (by omega) hr1
  have e1 := hp1 hi
  subst e1
  obtain ⟨cur, hg, hs, ht⟩ : ∃ cur, W.drew.heap[g]? = some (.cells cur 39 (0, 0)) ∧ cur.size = cap * 6 ∧ cur.toList.take (len * 6) = rcells R := by
    rcases H2.list.own.2 with ⟨e0, _⟩ | ⟨g', cap', cur, e0, _, hg, _, _, hs, ht⟩
    · simp at e0
    · simp at e0; obtain ⟨rfl, rfl⟩ := e0; exact ⟨cur, hg, hs, ht⟩
  have lN : (rcells (R.drop (i + 1))).length = (len - (i + 1)) * 6 := by rw [rcells_length, List.length_drop, hl]
  have lc : cur.toList.length = cur.size := Array.length_toList
  have hcp : (Builtin.copy_ #[27, 27] 3 #[.slice (some ⟨g, i * 6, none⟩) (len - i) c1, .slice (some p2) (len - (i + 1)) c2]).run Try.prog W.drew = .ok (goInt (Nat.min (len - (i + 1)) (len - i))) (W.drew.setRow g (over cur.toList (rcells (R.drop (i + 1))) (i * 6)).toArray) :=
    copy_rows 27 39 6 Try.underlying27 size39 W.drew 3 g (i * 6) (len - i) c1 p2 (len - (i + 1)) c2 (rcells (R.drop (i + 1))) cur hg (by rw [lN]; simp only [Nat.min_def]; split <;> omega) (H2.list.cells_drop (i + 1) hp2) (by rw [lN]; omega) (rcells_one _)
  obtain ⟨cur1, hcur1⟩ : ∃ cur1, cur1 = (over cur.toList (rcells (R.drop (i + 1))) (i * 6)).toArray := ⟨_, rfl⟩
  rw [← hcur1] at hcp
  have z1 : cur1.size = cap * 6 := by rw [hcur1, List.size_toArray, over_length _ _ _ (by rw [lN]; omega), lc, hs]
  have t1 : cur1.toList.take ((len - 1) * 6) = rcells (R.take i ++ R.drop (i + 1)) := by
    rw [hcur1, rcells_append, ← rcells_take, ← ht, List.take_take, Nat.min_eq_left (by omega), show (len - 1) * 6 = i * 6 + (rcells (R.drop (i + 1))).length by rw [lN]; omega]
    exact over_take _ _ _ (by omega)
  obtain ⟨w2, hw2⟩ : ∃ w2, w2 = W.drew.setRow g cur1 := ⟨_, rfl⟩
  rw [← hw2] at hcp
  have hg2 : w2.heap[g]? = some (.cells cur1 39 (0, 0)) := by rw [hw2]; exact setRow_heap W.drew g cur _ 39 _ hg
  have K2 : Kept (fun k => k = g) W.drew w2 := by rw [hw2]; exact ⟨rfl, rfl, rfl, by simp, fun k _ hk => setRow_other _ g k _ hk⟩
  have gC : C ≠ g := fun e => h.apart (by rw [e]; rfl)
  have b2 : w2.heap[C]? = some (.cells #[.slice (some ⟨g, 0, none⟩) len cap] 67 (0, 0)) := K2.get H2.blk gC
  have c2C := cell_blk b2 0 (v := .slice (some ⟨g, 0, none⟩) len cap) rfl
  obtain ⟨u0, u1, u2, u3, u4, u5, f0, f1, f2, f3, f4, f5, ff⟩ := six hg2 ((len - 1) * 6) (by omega)
  have fC := soft_blk b2 0
  have HH : Hid (IsNet 67 base w C (some ⟨g, 0, none⟩) len cap R ∧ Kept (fun k => k = g) W.drew w2 ∧ w2.heap[g]? = some (.cells cur1 39 (0, 0)) ∧ cur1.size = cap * 6 ∧ cur1.toList.take ((len - 1) * 6) = rcells (R.take i ++ R.drop (i + 1)) ∧ w2.heap[C]? = some (.cells #[.slice (some ⟨g, 0, none⟩) len cap] 67 (0, 0))) := ⟨h, K2, hg2, z1, t1, b2⟩
  have EW : Hid (W = w.alloc (.cells #[.int .i64 num, .int .u32 pat] 65)) := hW
  have CP : Hid ((Builtin.copy_ #[27, 27] 3 #[.slice (some ⟨g, i * 6, none⟩) (len - i) c1, .slice (some p2) (len - (i + 1)) c2]).run Try.prog W.drew = .ok (goInt (Nat.min (len - (i + 1)) (len - i))) w2) := hcp
  have hm := hr2
  unfold maxLen at hm
  have w1 : IntKind.i64.wrap ((i : Int) + 1) = (i : Int) + 1 := by rw [IntKind.wrap_i64]; omega
  have w2' : IntKind.i64.wrap ((len : Int) - 1) = ((len - 1 : Nat) : Int) := by rw [IntKind.wrap_i64]; omega
  rw [show ((i + 1 : Nat) : Int) = (i : Int) + 1 by omega] at sl2
  obtain ⟨m, hm1⟩ : ∃ m, m = len - 1 := ⟨_, rfl⟩
  have gC' : Hid (C ≠ g) := gC
  rw [← hm1] at f0 f1 f2 f3 f4 f5 w2'
  have i2 : (m : Int) < (len : Int) := by omega
  have i3 : m ≤ len := by omega
  have i4 : m < len := by omega
  have HM : Hid (m = len - 1) := hm1
  clear h hm1 hW hcp hw2 hcur1 t1 z1 K2 hg2 b2 H2 hg hs ht lN lc hp2 hp1
  go_enter Try.func49, Try.ntmps49
  go_upto_region 1 with fail
  rw [← EW.out]
  go_region_law
    (first
      | (refine step_copy _ (by rfl) (.tmp 13) (.tmp 20) 27 27 (by rfl) (.slice (some ⟨g, i * 6, none⟩) (len - i) c1) (.slice (some p2) (len - (i + 1)) c2) (by rfl) (by rfl) CP.out ?_)
      | fail)
  all_goals go_wp2_with fail
  all_goals go_ret
  all_goals refine ⟨rfl, ?_⟩
  all_goals rw [← HM.out]
  all_goals refine dropped HH.out.1 KW.out HH.out.2.1 HH.out.2.2.1 HH.out.2.2.2.1 (by rw [HM.out]; exact HH.out.2.2.2.2.1) HH.out.2.2.2.2.2 gC'.out ?_ (by omega) (by omega)
  all_goals (rw [List.length_append, List.length_take, List.length_drop, hl, HM.out]; omega)
end Go.Proofs.Ytojfnehdanhgiaa
