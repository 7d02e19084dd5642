import Derived.Test.YtojfnehdanhgiaaKeepB
namespace Go.Proofs.Ytojfnehdanhgiaa
open Go.RowKit

theorem IsL.off {S : Nat → Prop} {base : Nat} {w w' : World} {q : Option Addr} {len cap : Nat} {R : List Ent} (h : IsL base w q len cap R) (K : Kept S w w') (hq : ∀ k, blockOf q = some k → ¬ S k) (hd : ∀ e ∈ R, ∀ k, blockOf e.a = some k → ¬ S k) : IsL base w' q len cap R :=
  ⟨K.owns h.own fun k hk => hq k (by rw [← blockOf_own]; exact hk), fun e he => (h.good e he).kept' K (fun k hk => hd e he k (by rw [← blockOf_own]; exact hk))⟩
theorem IsNet.off {S : Nat → Prop} {ty base : Nat} {w w' : World} {C : Nat} {q : Option Addr} {len cap : Nat} {R : List Ent} (h : IsNet ty base w C q len cap R) (K : Kept S w w') (hC : ¬ S C) (hq : ∀ k, blockOf q = some k → ¬ S k) (hd : ∀ e ∈ R, ∀ k, blockOf e.a = some k → ¬ S k) : IsNet ty base w' C q len cap R :=
  ⟨K.get h.blk hC, h.list.off K hq hd, h.low, h.t5, h.t39⟩
/-- A copy whose bytes lie apart. -/
theorem copy_apart (base C : Nat) (g : Option Nat) (ps : List Pk) (w : World) (h : NetOf 67 base w C g ps) (hb : ps.length ≤ Big) :
    Calls Try.prog 11 #[.pointer (some ⟨C, 0, none⟩)] w fun x w' => ∃ C' p c R', x = .returned (.pointer (some ⟨C', 0, none⟩)) ∧ R'.map Ent.p = ps ∧ IsNet 67 w.heap.size w' C' p ps.length c R' ∧ Apart R' ∧ Kept (fun _ => False) w w' := by
  obtain ⟨q, len, cap, R, n, rfl, e⟩ := h
  have hl := len_eq n.list.length e
  subst hl
  refine (nCopy base C q ps.length cap R w n hb).mono ?_
  rintro x w' ⟨C', p, c, R', rfl, hm, rest⟩
  exact ⟨C', p, c, R', rfl, by rw [hm, e], rest⟩
/-- The network, its copy, the list that is wanted: where they lie, and that the bytes taken out (a5) are none of theirs. -/
structure BN (T : Nat) (a5 : Option Addr) (b2 b4 : Nat) (X : World) (C : Nat) (qn : Option Addr) (ln cn : Nat) (Rn : List Ent) (C5 : Nat) (q5 : Option Addr) (l5 c5 : Nat) (R5 : List Ent) (pw : Option Addr) (lw cw : Nat) (Rw : List Ent) : Prop where
  n : IsNet 67 b2 X C qn ln cn Rn
  m : IsNet 67 b4 X C5 q5 l5 c5 R5
  l : IsL b2 X pw lw cw Rw
  fC : C < T ∧ blockOf a5 ≠ some C
  fC5 : C5 < T ∧ blockOf a5 ≠ some C5
  fn : ∀ k, blockOf qn = some k → k < T ∧ blockOf a5 ≠ some k
  fm : ∀ k, blockOf q5 = some k → k < T ∧ blockOf a5 ≠ some k
  fl : ∀ k, blockOf pw = some k → k < T ∧ blockOf a5 ≠ some k
  dn : ∀ e ∈ Rn, ∀ k, blockOf e.a = some k → k < T ∧ blockOf a5 ≠ some k
  dm : ∀ e ∈ R5, ∀ k, blockOf e.a = some k → k < T ∧ blockOf a5 ≠ some k
  dl : ∀ e ∈ Rw, ∀ k, blockOf e.a = some k → k < T ∧ blockOf a5 ≠ some k
theorem BN.off {T : Nat} {a5 : Option Addr} {b2 b4 : Nat} {X X' : World} {C : Nat} {qn : Option Addr} {ln cn : Nat} {Rn : List Ent} {C5 : Nat} {q5 : Option Addr} {l5 c5 : Nat} {R5 : List Ent} {pw : Option Addr} {lw cw : Nat} {Rw : List Ent} (s : BN T a5 b2 b4 X C qn ln cn Rn C5 q5 l5 c5 R5 pw lw cw Rw) {S : Nat → Prop} (K : Kept S X X') (hS : ∀ k, S k → T ≤ k ∨ blockOf a5 = some k) : BN T a5 b2 b4 X' C qn ln cn Rn C5 q5 l5 c5 R5 pw lw cw Rw := by
  have key : ∀ k, (k < T ∧ blockOf a5 ≠ some k) → ¬ S k := fun k h z => by
    rcases hS k z with q | q
    · omega
    · exact h.2 q
  exact ⟨s.n.off K (key _ s.fC) (fun k hk => key k (s.fn k hk)) (fun e he k hk => key k (s.dn e he k hk)), s.m.off K (key _ s.fC5) (fun k hk => key k (s.fm k hk)) (fun e he k hk => key k (s.dm e he k hk)), s.l.off K (fun k hk => key k (s.fl k hk)) (fun e he k hk => key k (s.dl e he k hk)), s.fC, s.fC5, s.fn, s.fm, s.fl, s.dn, s.dm, s.dl⟩
theorem BN.quiet {T : Nat} {a5 : Option Addr} {b2 b4 : Nat} {X X' : World} {C : Nat} {qn : Option Addr} {ln cn : Nat} {Rn : List Ent} {C5 : Nat} {q5 : Option Addr} {l5 c5 : Nat} {R5 : List Ent} {pw : Option Addr} {lw cw : Nat} {Rw : List Ent} (s : BN T a5 b2 b4 X C qn ln cn Rn C5 q5 l5 c5 R5 pw lw cw Rw) (K : Kept (fun _ => False) X X') : BN T a5 b2 b4 X' C qn ln cn Rn C5 q5 l5 c5 R5 pw lw cw Rw := s.off K (fun _ z => z.elim)
/-- Two datagrams, for an append. -/
theorem src_two {w : World} {b : Nat} {e f : Ent} (h : w.heap[b]? = some (.cells #[.int .i64 e.p.fk, .int .i64 e.p.fi, .int .i64 e.p.tk, .int .i64 e.p.ti, .slice e.a e.len e.cap, .bool e.p.lost, .int .i64 f.p.fk, .int .i64 f.p.fi, .int .i64 f.p.tk, .int .i64 f.p.ti, .slice f.a f.len f.cap, .bool f.p.lost] 39 (0, 0))) : Src Try.prog 6 27 (.slice (some ⟨b, 0, none⟩) 2 2) 2 (rcells [e, f]) w :=
  Src.ofSlice w Try.underlying27 ⟨b, 0, none⟩ 2 2 (rcells [e, f]) rfl (fun j u hj => by
    rw [Addr.add_none, Nat.zero_add, cell_of_row w b j _ 39 (0, 0) h]
    have : rcells [e, f] = (#[.int .i64 e.p.fk, .int .i64 e.p.fi, .int .i64 e.p.tk, .int .i64 e.p.ti, .slice e.a e.len e.cap, .bool e.p.lost, .int .i64 f.p.fk, .int .i64 f.p.fi, .int .i64 f.p.tk, .int .i64 f.p.ti, .slice f.a f.len f.cap, .bool f.p.lost] : Array Value).toList := rfl
    rw [this] at hj
    simpa using hj) (rcells_one [e, f])
/-- What 'apart' is handed: the list of Flight with two more behind it. -/
theorem apart_list {b2 T : Nat} {w10 Y w11 : World} {p7 p11 : Option Addr} {M c7 c11 : Nat} {R7 : List Ent} {e f : Ent} (L7 : IsL T Y p7 M c7 R7) (A7 : Apart R7) (ge : Good b2 Y e) (gf : Good w10.heap.size Y f) (h2 : b2 ≤ T) (hlo : ∀ k, blockOf e.a = some k → k < T) (h10 : ∀ g ∈ R7, ∀ k, blockOf g.a = some k → k < w10.heap.size) (hT : T ≤ w10.heap.size)
    (ho : w11.ownsRow T 39 6 (.slice p11 (M + 2) c11) (M + 2) (rcells R7 ++ rcells [e, f])) (hg : Y.grownBy w11 (Value.slice p7 M c7).ownBlock) :
    IsL b2 w11 p11 (M + 2) c11 (R7 ++ [e, f]) ∧ Apart (R7 ++ [e, f]) ∧ Kept (fun k => blockOf p7 = some k) Y w11 ∧ (∀ k, DB (R7 ++ [e, f]) k → T ≤ k ∨ blockOf e.a = some k) := by
  rw [blockOf_own] at hg
  have K : Kept (fun k => blockOf p7 = some k) Y w11 := (Kept.refl _ _).grown hg (fun k _ z => z.symm ▸ rfl)
  have nd : ∀ k, k < Y.heap.size → blockOf p7 = some k → NotData Y k := fun k _ z => L7.notdata k z
  refine ⟨⟨owns_mono (by rw [rcells_append]; exact ho) h2, fun g hg => ?_⟩, List.pairwise_append.2 ⟨A7, ?_, fun g hg x hx k h1 h3 => ?_⟩, K, fun k hk => ?_⟩
  · rcases List.mem_append.1 hg with z | z
    · exact ((L7.good g z).kept K nd).mono h2
    · rcases List.mem_cons.1 z with z | z
      · rw [z]; exact ge.kept K nd
      · rw [List.mem_singleton.1 z]; exact (gf.kept K nd).mono (by omega)
  · refine List.pairwise_cons.2 ⟨fun x hx k h1 h3 => ?_, List.pairwise_singleton _ _⟩
    rw [List.mem_singleton.1 hx] at h3
    have := hlo k h1
    have := (gf.lt k h3).1
    omega
  · have a1 := ((L7.good g hg).lt k h1).1
    rcases List.mem_cons.1 hx with z | z
    · rw [z] at h3
      have := hlo k h3
      omega
    · rw [List.mem_singleton.1 z] at h3
      have := (gf.lt k h3).1
      have := h10 g hg k h1
      omega
  · obtain ⟨j, x, hx, hk⟩ := hk
    rcases List.mem_append.1 (List.mem_of_getElem? hx) with z | z
    · exact .inl ((L7.good x z).lt k hk).1
    · rcases List.mem_cons.1 z with z | z
      · exact .inr (by rw [← z]; exact hk)
      · rw [List.mem_singleton.1 z] at hk
        exact .inl (by have := (gf.lt k hk).1; omega)
theorem BN.make {w2 w4 w5 w6 w7 w8 W8 : World} {C C5 : Nat} {qn q5 pw : Option Addr} {ln cn M c5 l8 lw cw i : Nat} {Rn R5 Rw : List Ent} {e5 : Ent} (hn : IsNet 67 w2.heap.size w4 C qn ln cn Rn) (n5 : IsNet 67 w4.heap.size w5 C5 q5 M c5 R5) (A5 : Apart R5) (h5 : R5[i]? = some e5) (K45 : Kept (fun _ => False) w4 w5) (K56 : Kept (fun _ => False) w5 w6) (K67 : Kept (fun _ => False) w6 w7)
    (hl : IsL w2.heap.size w6 pw lw cw Rw) (hpw : ∀ k, blockOf pw = some k → w5.heap.size ≤ k) (hdl : ∀ e ∈ Rw, ∀ k, blockOf e.a = some k → k < w4.heap.size) (m8 : IsNet 67 w4.heap.size w8 C5 q5 l8 c5 (R5.take i ++ R5.drop (i + 1))) (mv : Moved w7 w8 C5 q5 q5) (K8 : Kept (fun _ => False) w8 W8) :
    BN w6.heap.size e5.a w2.heap.size w4.heap.size W8 C qn ln cn Rn C5 q5 l8 c5 (R5.take i ++ R5.drop (i + 1)) pw lw cw Rw ∧ Good w4.heap.size W8 e5 ∧ (∀ k, blockOf e5.a = some k → k < w6.heap.size) ∧ (∀ {p7 : Option Addr} {M7 c7 : Nat} {R7 : List Ent}, IsL w6.heap.size w7 p7 M7 c7 R7 → IsL w6.heap.size W8 p7 M7 c7 R7) := by
  have s45 := K45.size
  have s56 := K56.size
  have K47 := (K45.trans K56 (fun _ _ z => z)).trans K67 (fun _ _ z => z)
  have K57 := K56.trans K67 (fun _ _ z => z)
  have g5 := n5.list.good e5 (List.mem_of_getElem? h5)
  have lo5 : ∀ k, blockOf e5.a = some k → w4.heap.size ≤ k ∧ k < w5.heap.size := g5.lt
  have q5b : ∀ k, blockOf q5 = some k → w4.heap.size ≤ k ∧ k < w5.heap.size := own_lt n5.list.own
  have C5b : w4.heap.size ≤ C5 ∧ C5 < w5.heap.size := ⟨n5.low, n5.lt⟩
  have Cb : C < w4.heap.size := hn.lt
  have qnb : ∀ k, blockOf qn = some k → k < w4.heap.size := fun k hk => (own_lt hn.list.own k hk).2
  have dnb : ∀ e ∈ Rn, ∀ k, blockOf e.a = some k → k < w4.heap.size := fun e he k hk => ((hn.list.good e he).lt k hk).2
  have old : ∀ k, k < w4.heap.size → ¬ (k = C5 ∨ blockOf q5 = some k) := fun k hk z => by
    rcases z with z | z
    · omega
    · have := (q5b k z).1; omega
  have nd : ∀ k, k < w7.heap.size → (k = C5 ∨ blockOf q5 = some k) → NotData w7 k := fun k _ z => by
    have n7 := n5.kept0 K57
    rcases z with z | z
    · rw [z]; exact n7.notdata
    · exact n7.list.notdata k z
  have far4 : ∀ k, k < w4.heap.size → k < w6.heap.size ∧ blockOf e5.a ≠ some k := fun k hk => ⟨by omega, fun z => by have := (lo5 k z).1; omega⟩
  have N8 : IsNet 67 w2.heap.size w8 C qn ln cn Rn := (hn.kept0 K47).off mv.kept (old _ Cb) (fun k hk => old k (qnb k hk)) (fun e he k hk => old k (dnb e he k hk))
  have L8 : IsL w2.heap.size w8 pw lw cw Rw := (hl.kept0 K67).off mv.kept (fun k hk z => by
    have := hpw k hk
    rcases z with z | z
    · omega
    · have := (q5b k z).2; omega) (fun e he k hk => old k (hdl e he k hk))
  refine ⟨⟨N8.kept0 K8, m8.kept0 K8, L8.kept0 K8, far4 _ Cb, ⟨by omega, fun z => ?_⟩, fun k hk => far4 k (qnb k hk), fun k hk => ⟨by have := (q5b k hk).2; omega, fun z => ?_⟩, fun k hk => ⟨(own_lt hl.own k hk).2, fun z => by have := (lo5 k z).2; have := hpw k hk; omega⟩, fun e he k hk => far4 k (dnb e he k hk), fun e he k hk => ?_, fun e he k hk => far4 k (hdl e he k hk)⟩, ((g5.kept0 K57).kept mv.kept nd).kept0 K8, fun k hk => by have := (lo5 k hk).2; omega, fun L7 => (L7.kept mv.kept (fun k hk z => ?_) nd).kept0 K8⟩
  · obtain ⟨cs, hc⟩ := own_type g5.own _ z
    exact n5.notdata _ _ hc
  · obtain ⟨cs, hc⟩ := own_type g5.own _ z
    exact n5.list.notdata k hk _ _ hc
  · have he5 : e ∈ R5 := by
      rcases List.mem_append.1 he with z | z
      · exact List.mem_of_mem_take z
      · exact List.mem_of_mem_drop z
    refine ⟨by have := ((n5.list.good e he5).lt k hk).2; omega, fun z => ?_⟩
    obtain ⟨j, hj, hji⟩ : ∃ j : Nat, R5[j]? = some e ∧ j ≠ i := by
      rcases List.mem_append.1 he with z | z
      · obtain ⟨j, hj⟩ := List.getElem?_of_mem z
        have hlt := (List.getElem?_eq_some_iff.1 hj).1
        rw [List.length_take] at hlt
        rw [List.getElem?_take_of_lt (by omega)] at hj
        exact ⟨j, hj, by omega⟩
      · obtain ⟨j, hj⟩ := List.getElem?_of_mem z
        rw [List.getElem?_drop] at hj
        exact ⟨i + 1 + j, hj, by omega⟩
    exact A5.ne hj h5 hji k hk z
  · have := (own_lt L7.own k hk).1
    rcases z with z | z
    · omega
    · have := (q5b k z).2; omega
theorem step_append_g {ops : Array Oper} {o : Oper} {a : Act} {K : Act → World → Prop} {Q : Exit → Act → World → Prop} {E : Prop} (w : World) (hw : Region.wanted o (yielded ops a.tmps) = true) (d : Nat) (hd : o.dst = some d) (s x : Operand) (t e tx : TypeId) (z : Value) (size bytes : Nat)
    (ho : o.op = .call { callee := .builtin .append, args := #[s, x], argTypes := #[t, tx] }) (ht : Try.prog.underlying t = some (.slice e)) (hinfo : (Try.prog.info? e).map (fun i => (i.zero, i.size, i.bytes)) = some (some z, size, bytes)) (hzs : z.cells.size = size)
    (base : Nat) (v : Value) (n : Nat) (xs : List Value) (hs : a.eval s = v) (hown : w.ownsRow base e size v n xs)
    (y : Value) (m : Nat) (news : List Value) (hx : a.eval x = y) (r : Src Try.prog size tx y m news w)
    (h63 : n + m ≤ maxLen) (hbytes : ((n + m) + (n + m) / 4 + 192) * bytes ≤ 281474976710656) (hbase : base ≤ w.heap.size)
    (h : ∀ p c w', Hid (w'.ownsRow base e size (.slice p (n + m) c) (n + m) (xs ++ news)) → Hid (w.grownBy w' v.ownBlock) → Hid ((Value.slice p (n + m) c).ownBlock = v.ownBlock ∨ ((Value.slice p (n + m) c).ownBlock = some w.heap.size ∧ w.grownBy w' none)) → K (a.put (some d) (.slice p (n + m) c)) w') : if Region.wanted o (yielded ops a.tmps) = true then Oper.wp Try.prog o a w K Q else E := by
  rw [if_pos hw]
  rw [← hd] at h
  obtain ⟨i, hi, hz, hsize, hby⟩ := info_parts hinfo
  obtain ⟨v', w', hr, h2, h3, _, h5⟩ := append_all (P := Try.prog) w base t tx o.type e i z size bytes ht hi hz hsize hby hzs v n xs hown y m news r h63 hbytes hbase
  unfold Oper.wp execOp
  simp only [ho, resolve, invoke, builtin, Sem.run_bind, Sem.run_pure, Result.andThen_ok, List.map_toArray, List.map_cons, List.map_nil, hs, hx, hr]
  obtain ⟨p, c, rfl⟩ : ∃ p c, v' = .slice p (n + m) c := by
    rcases h2.2 with ⟨rfl, e⟩ | ⟨g, cap, cur, rfl, _⟩
    · exact ⟨none, 0, by rw [e]⟩
    · exact ⟨_, _, rfl⟩
  exact h p c w' h2 h3 h5
theorem step_call_g {ops : Array Oper} {o : Oper} {a : Act} {K : Act → World → Prop} {Q : Exit → Act → World → Prop} {E : Prop} (w : World) (hw : Region.wanted o (yielded ops a.tmps) = true) (d : Nat) (hd : o.dst = some d) (f : FuncId) (args : List Operand) (ats : Array TypeId)
    (ho : o.op = .call { callee := .value (.func f), args := args.toArray, argTypes := ats }) (vs : List Value) (hv : args.map a.eval = vs)
    (hcf : (callFunc f vs.toArray).run Try.prog w = .ok (.enter f vs.toArray) w) (h : Calls Try.prog f vs.toArray w fun x w' => ∃ v, x = .returned v ∧ K (a.put (some d) v) w') : if Region.wanted o (yielded ops a.tmps) = true then Oper.wp Try.prog o a w K Q else E := by
  rw [if_pos hw]
  rw [← hd] at h
  unfold Oper.wp execOp
  simp [ho, resolve, invoke, hv, hcf, Act.eval, Deferred.ofValue]
  refine h.mono ?_
  rintro x w' ⟨v, rfl, hk⟩
  exact hk
theorem enter11 (vs : Array Value) (w : World) : (callFunc 11 vs).run Try.prog w = .ok (.enter 11 vs) w := by kernel_rfl
theorem enter17 (vs : Array Value) (w : World) : (callFunc 17 vs).run Try.prog w = .ok (.enter 17 vs) w := by kernel_rfl
theorem keep_src1 (w1 : World) (o : Obj) (v : Value) (hv : v.oneCell' = true) : Src Try.prog 1 22 (.slice (some ⟨w1.heap.size + 1, 0, none⟩) 1 1) 1 [v] ((w1.alloc o).alloc (.cells #[v] 30)) := by
  have := src_slice1 (w1.alloc o) v hv
  rw [alloc_size] at this
  exact this
end Go.Proofs.Ytojfnehdanhgiaa
