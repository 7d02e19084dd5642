import Derived.Test.YteokeifkkhchmaaNow
namespace Go.Proofs.Yteokeifkkhchmaa
open Go.RowKit 

/-- The pairs, one behind the other. -/
def flat : List (Int × Int) → List Int
  | [] => []
  | e :: r => e.1 :: e.2 :: flat r
theorem flat_len (l : List (Int × Int)) : (flat l).length = 2 * l.length := by
  induction l with
  | nil => rfl
  | cons e r ih => unfold flat; rw [List.length_cons, List.length_cons, ih, List.length_cons]; omega
theorem flat_app (l m : List (Int × Int)) : flat (l ++ m) = flat l ++ flat m := by
  induction l with
  | nil => rfl
  | cons e r ih => show e.1 :: e.2 :: flat (r ++ m) = e.1 :: e.2 :: (flat r ++ flat m); rw [ih]
theorem flat_take (l : List (Int × Int)) : ∀ k, flat (l.take k) = (flat l).take (2 * k) := by
  induction l with
  | nil => intro k; simp [flat]
  | cons e r ih =>
    intro k
    cases k with
    | zero => rfl
    | succ k =>
      rw [show 2 * (k + 1) = 2 * k + 1 + 1 by omega]
      show e.1 :: e.2 :: flat (r.take k) = e.1 :: e.2 :: (flat r).take (2 * k)
      rw [ih]
/-- What an answer makes of what is known. -/
def ansM {ε : Type} (M : Int → Option ε) (N s : Int) (v : ε) : Int → Option ε := if 0 ≤ s ∧ s < N then upd M s v else M
theorem ansM_in {ε : Type} (M : Int → Option ε) (N s : Int) (v : ε) (h0 : 0 ≤ s) (h1 : s < N) : ansM M N s v = upd M s v := by unfold ansM; rw [if_pos ⟨h0, h1⟩]
theorem ansM_off {ε : Type} (M : Int → Option ε) (N s : Int) (v : ε) (h : s < 0 ∨ N ≤ s) : ansM M N s v = M := by unfold ansM; rw [if_neg (by omega)]
def ansB {ε : Type} (M : Int → Option ε) (N s : Int) : Bool := if 0 ≤ s ∧ s < N then !(M s).isSome else false
def ansE (N s : Int) : Int := if 0 ≤ s ∧ s < N then 0 else 51
/-- Answer, whatever the server. -/
theorem answerI {pb mb : Nat} {N Q : Int} {M : Int → Option Int} (s v : Int) (w : World) (h : IsP 49 (Value.int .i64) RI w pb mb N Q M) : Calls Try.prog 11 #[.pointer (some ⟨pb, 0, none⟩), .int .i64 s, .int .i64 v] w fun x w' => x = .returned (.tuple #[.bool (ansB M N s), .int .i64 (ansE N s)]) ∧ IsP 49 (Value.int .i64) RI w' pb mb N Q (ansM M N s v) ∧ Kept (fun j => j = mb) w w' := by
  by_cases hs : 0 ≤ s ∧ s < N
  · unfold ansB ansE ansM
    rw [if_pos hs, if_pos hs, if_pos hs]
    exact answerI_in s v w h hs.1 hs.2
  · unfold ansB ansE ansM
    rw [if_neg hs, if_neg hs, if_neg hs]
    refine (answerI_off s v w h (by omega)).mono ?_
    rintro o w1 ⟨rfl, rfl⟩
    exact ⟨rfl, h, Kept.refl _ _⟩
theorem rAnswer {rb cb lb n : Nat} {K D : Int} {M : Int → Option Int} (s v : Int) (w : World) (h : IsR w rb cb lb n K D M) : Calls Try.prog 10 #[.pointer (some ⟨rb, 0, none⟩), .int .i64 s, .int .i64 v] w fun x w' => x = .returned (.tuple #[.bool (ansB M (n : Int) s), .int .i64 (ansE (n : Int) s)]) ∧ IsR w' rb cb lb n K D (ansM M (n : Int) s v) ∧ Kept (fun j => j = cb ∨ j = lb) w w' := by
  by_cases hs : 0 ≤ s ∧ s < (n : Int)
  · obtain ⟨t, rfl⟩ : ∃ t : Nat, s = (t : Int) := ⟨s.toNat, by omega⟩
    unfold ansB ansE ansM
    rw [if_pos hs, if_pos hs, if_pos hs]
    exact rAnswer_in t v w h (by omega)
  · unfold ansB ansE ansM
    rw [if_neg hs, if_neg hs, if_neg hs]
    refine (rAnswer_off s v w h (by omega)).mono ?_
    rintro o w1 ⟨rfl, rfl⟩
    exact ⟨rfl, h, Kept.refl _ _⟩
/-- Where the calls of Each stand: the boxes of 'each', the phase, what has come. -/
structure ES (w wr : World) (bg bp bo pb mb : Nat) (N Q : Int) (M : Int → Option Int) (k p s v n : Int) (q : Option Addr) (len c : Nat) (t : List Int) : Prop where
  ph : IsP 49 (Value.int .i64) RI wr pb mb N Q M
  g : wr.heap[bg]? = some (.cells #[.slice q len c] 42 (0, 0))
  bx : wr.heap[bp]? = some (.cells #[.pointer (some ⟨pb, 0, none⟩)] 25 (0, 0))
  o : wr.heap[bo]? = some (.cells #[.int .i64 k, .int .i64 p, .int .i64 s, .int .i64 v, .int .i64 n] 36 (0, 0))
  row : Row wr 3 q len c (ints t)
  far : ∀ g, blockOf q = some g → w.heap.size ≤ g
  new : w.heap.size ≤ bg ∧ w.heap.size ≤ bp ∧ w.heap.size ≤ bo ∧ mb < w.heap.size ∧ pb < w.heap.size
  kept : Kept (fun j => j = mb) w wr
theorem ES.k0 {w wr w' : World} {bg bp bo pb mb : Nat} {N Q : Int} {M : Int → Option Int} {k p s v n : Int} {q : Option Addr} {len c : Nat} {t : List Int} (h : ES w wr bg bp bo pb mb N Q M k p s v n q len c t) (K : Kept (fun _ => False) wr w') : ES w w' bg bp bo pb mb N Q M k p s v n q len c t :=
  ⟨h.ph.k0 K, K.get h.g (fun z => z), K.get h.bx (fun z => z), K.get h.o (fun z => z), h.row.kept K (fun _ _ z => z), h.far, h.new, h.kept.and0 K⟩
theorem ES.ans {w wr w' : World} {bg bp bo pb mb : Nat} {N Q : Int} {M M' : Int → Option Int} {k p s v n : Int} {q : Option Addr} {len c : Nat} {t : List Int} (h : ES w wr bg bp bo pb mb N Q M k p s v n q len c t) (i : IsP 49 (Value.int .i64) RI w' pb mb N Q M') (K : Kept (fun j => j = mb) wr w') : ES w w' bg bp bo pb mb N Q M' k p s v n q len c t := by
  have h1 := h.new
  have nm : ∀ j, w.heap.size ≤ j → ¬ j = mb := fun j hj e => by omega
  exact ⟨i, K.get h.g (nm _ h1.1), K.get h.bx (nm _ h1.2.1), K.get h.o (nm _ h1.2.2.1), h.row.kept K (fun g hg => nm _ (h.far g hg)), h.far, h.new, h.kept.trans K (fun _ _ z => z)⟩
theorem ES.ne {w wr : World} {bg bp bo pb mb : Nat} {N Q : Int} {M : Int → Option Int} {k p s v n : Int} {q : Option Addr} {len c : Nat} {t : List Int} (h : ES w wr bg bp bo pb mb N Q M k p s v n q len c t) : bg ≠ bp ∧ bg ≠ bo ∧ ∀ g, blockOf q = some g → g ≠ bg ∧ g ≠ bp ∧ g ≠ bo := by
  refine ⟨fun e => ?_, fun e => ?_, fun g hg => ?_⟩
  · have := h.g; rw [e, h.bx] at this; simp at this
  · have := h.g; rw [e, h.o] at this; simp at this
  · obtain ⟨cur, hc⟩ := h.row.blk hg
    refine ⟨fun e => ?_, fun e => ?_, fun e => ?_⟩
    · rw [e, h.g] at hc; simp at hc
    · rw [e, h.bx] at hc; simp at hc
    · rw [e, h.o] at hc; simp at hc
/-- Two more are put behind. -/
theorem ES.more {w wr w' : World} {bg bp bo pb mb : Nat} {N Q : Int} {M : Int → Option Int} {k p s v n : Int} {q q' : Option Addr} {len c c' : Nat} {t : List Int} {x y : Int} (h : ES w wr bg bp bo pb mb N Q M k p s v n q len c t) (hr : Row w' 3 q' (len + 2) c' (ints t ++ [.int .i64 x, .int .i64 y])) (K : Kept (fun j => blockOf q = some j) wr w') (hq : q' = q ∨ q' = some ⟨wr.heap.size + 1, 0, none⟩) : ES w (w'.setCell ⟨bg, 0, none⟩ (.slice q' (len + 2) c')) bg bp bo pb mb N Q M k p s v n q' (len + 2) c' (t ++ [x, y]) := by
  obtain ⟨n1, n2, n3⟩ := h.ne
  have nw := h.new
  have nl : ∀ j, blockOf q = some j → w.heap.size ≤ j := h.far
  have lb := block_lt h.g
  have KS : Kept (fun j => j = bg) w' (w'.setCell ⟨bg, 0, none⟩ (.slice q' (len + 2) c')) := (Kept.refl (fun j => j = bg) w').setCell (p := ⟨bg, 0, none⟩) (fun _ => rfl) _
  have fr : ∀ g, blockOf q' = some g → w.heap.size ≤ g := fun g hg => by
    rcases hq with e | e
    · rw [e] at hg; exact h.far g hg
    · rw [e, blockOf_some] at hg; have := Option.some.inj hg; have := h.kept.size; omega
  refine ⟨(h.ph.kept K (fun z => by have := nl _ z; omega) (fun z => by have := nl _ z; omega)).kept KS (by omega) (by omega), ?_, KS.get (K.get h.bx (fun z => (n3 _ z).2.1 rfl)) (fun e => n1 e.symm), KS.get (K.get h.o (fun z => (n3 _ z).2.2 rfl)) (fun e => n2 e.symm), ?_, fr, nw, ?_⟩
  · rw [heap_set (K.get h.g (fun z => (n3 _ z).1 rfl)) 0]; rfl
  · have e1 : ints t ++ [.int .i64 x, .int .i64 y] = ints (t ++ [x, y]) := ints_app _ [x, y]
    rw [e1] at hr
    refine hr.kept KS (fun g hg => ?_)
    intro e
    rcases hq with e2 | e2
    · rw [e2] at hg; exact (n3 g hg).1 e
    · rw [e2, blockOf_some] at hg; have := Option.some.inj hg; omega
  · refine (h.kept.trans K (fun j hj z => ?_)).trans KS (fun j hj z => ?_)
    · have := nl j z; omega
    · have z : j = bg := z; omega
theorem ES.cells {w wr : World} {bg bp bo pb mb : Nat} {N Q : Int} {M : Int → Option Int} {k p s v n : Int} {q : Option Addr} {len c : Nat} {t : List Int} (h : ES w wr bg bp bo pb mb N Q M k p s v n q len c t) : wr.cell? ⟨bg, 0, none⟩ = some (.slice q len c) ∧ wr.frozen? ⟨bg, 0, none⟩ = false ∧ wr.cell? ⟨bp, 0, none⟩ = some (.pointer (some ⟨pb, 0, none⟩)) ∧ wr.cell? ⟨bo, 3, none⟩ = some (.int .i64 v) ∧ wr.cell? ⟨bo, 4, none⟩ = some (.int .i64 n) :=
  ⟨cell_blk h.g 0 rfl, soft_blk h.g 0, cell_blk h.bx 0 rfl, cell_blk h.o 3 rfl, cell_blk h.o 4 rfl⟩
/-- Behind the append, ahead of the store. -/
theorem ES.mid {w wr w' : World} {bg bp bo pb mb : Nat} {N Q : Int} {M : Int → Option Int} {k p s v n : Int} {q : Option Addr} {len c : Nat} {t : List Int} {o : Obj} (h : ES w wr bg bp bo pb mb N Q M k p s v n q len c t) (g : (wr.alloc o).grownBy w' (blockOf q)) : Kept (fun j => blockOf q = some j) wr w' ∧ w'.cell? ⟨bg, 0, none⟩ = some (.slice q len c) ∧ w'.frozen? ⟨bg, 0, none⟩ = false ∧ w'.cell? ⟨bo, 4, none⟩ = some (.int .i64 n) ∧ bg ≠ bo := by
  have K : Kept (fun j => blockOf q = some j) wr w' := ((Kept.refl _ wr).alloc _).grown g (fun j _ z => z)
  obtain ⟨n1, n2, n3⟩ := h.ne
  have e1 := K.get h.g (fun z => (n3 _ z).1 rfl)
  have e2 := K.get h.o (fun z => (n3 _ z).2.2 rfl)
  exact ⟨K, cell_blk e1 0 rfl, soft_blk e1 0, cell_blk e2 4 rfl, n2⟩
set_option maxRecDepth 100000 in
set_option maxHeartbeats 2000000 in
theorem each1_tail {w wr : World} {bg bp bo pb mb : Nat} {N Q : Int} {M M' : Int → Option Int} {k p s v n : Int} {q : Option Addr} {len c : Nat} {t : List Int} (x y : Int) (h : ES w wr bg bp bo pb mb N Q M k p s v n q len c t) (hl : len ≤ 1000) (h0 : (len = 0 ∧ M' = ansM M N v 4444) ∨ (0 < len ∧ M' = M)) : Calls Try.prog 29 #[.int .i64 x, .int .i64 y, .pointer (some ⟨bg, 0, none⟩), .pointer (some ⟨bp, 0, none⟩), .pointer (some ⟨bo, 0, none⟩)] wr fun o w' => o = .returned (.bool ((((len + 2) / 2 : Nat) : Int) != n)) ∧ ∃ q' c', ES w w' bg bp bo pb mb N Q M' k p s v n q' (len + 2) c' (t ++ [x, y]) ∧ Kept (fun j => j = mb ∨ j = bg ∨ blockOf q = some j) wr w' := by
  obtain ⟨c0, s0, c1, c2, c3⟩ := h.cells
  have rm := h.row.room
  have H : Hid (ES w wr bg bp bo pb mb N Q M k p s v n q len c t) := h
  clear h
  have td : ((len : Int) + 2).tdiv 2 = (((len + 2) / 2 : Nat) : Int) := by rw [Int.tdiv_eq_ediv_of_nonneg (by omega)]; omega
  obtain ⟨d, hd⟩ : ∃ d : Nat, d = (len + 2) / 2 := ⟨_, rfl⟩
  rw [← hd] at td ⊢
  have ld : d ≤ 1000 := by omega
  clear hd
  obtain ⟨L2, hL2⟩ : ∃ L2 : Nat, L2 = len + 2 := ⟨_, rfl⟩
  rcases h0 with ⟨rfl, rfl⟩ | ⟨h0, rfl⟩
  · replace td : (2 : Int).tdiv 2 = (d : Int) := td
    have d1 : d = 1 := by have : (2 : Int).tdiv 2 = 1 := by decide
                          omega
    subst d1
    go_enter Try.func29, Try.ntmps29
    go_wp2_with fail
    refine (answerI v 4444 wr H.out.ph).mono ?_
    rintro o w1 ⟨rfl, ip, kp⟩
    have H1 : Hid (ES w w1 bg bp bo pb mb N Q (ansM M N v 4444) k p s v n q 0 c t) := H.out.ans ip kp
    have KP : Hid (Kept (fun j => j = mb) wr w1) := kp
    clear ip kp c0 s0 c1 c2 c3 H
    obtain ⟨c0, s0, c1, c2, c3⟩ := H1.out.cells
    go_wp2_with (first | (at_builtin; refine wpList_append_row _ rfl (.tmp 15) (.tmp 18) 42 3 (.int .i64 0) rfl Try.underlying42 int_info rfl q 0 c 2 (ints t) [.int .i64 x, .int .i64 y] rfl (H1.out.row.kept (k0_alloc _ _) (fun _ _ z => z)) w1.heap.size rfl (by omega) (fun u hu => by simp at hu; rcases hu with rfl | rfl <;> rfl) rfl (two_src (by simp) (by simp)) (by omega) ?_; intro q' c' w3 hr hg hq; have c5 := hr.out.room; obtain ⟨KK, f0, f1, f2, f3⟩ := H1.out.mid hg.out; have KH : Hid (Kept (fun j => blockOf q = some j) w1 w3) := KK; clear KK) | fail)
    go_ret
    exact ⟨rfl, q', c', H1.out.more hr.out KH.out (by simpa using hq.out), ((KP.out.mono (fun _ _ z => .inl z)).trans KH.out (fun _ _ z => .inr (.inr z))).setCell (p := ⟨bg, 0, none⟩) (fun _ => .inr (.inl rfl)) _⟩
  · have l0 : ¬ (len : Int) = 0 := by omega
    have wl : IntKind.i64.wrap ((len : Int) + 2) = (len : Int) + 2 := by rw [IntKind.wrap_i64]; omega
    go_enter Try.func29, Try.ntmps29
    go_wp2_with (first | (at_builtin; refine wpList_append_row _ rfl (.tmp 15) (.tmp 18) 42 3 (.int .i64 0) rfl Try.underlying42 int_info rfl q len c 2 (ints t) [.int .i64 x, .int .i64 y] rfl (H.out.row.kept (k0_alloc _ _) (fun _ _ z => z)) wr.heap.size rfl (by omega) (fun u hu => by simp at hu; rcases hu with rfl | rfl <;> rfl) rfl (two_src (by simp) (by simp)) (by omega) ?_; intro q' c' w3 hr hg hq; have c5 := hr.out.room; obtain ⟨KK, f0, f1, f2, f3⟩ := H.out.mid hg.out; have KH : Hid (Kept (fun j => blockOf q = some j) wr w3) := KK; clear KK) | fail)
    go_ret
    exact ⟨rfl, q', c', H.out.more hr.out KH.out (by simpa using hq.out), (KH.out.mono (fun _ _ z => .inr (.inr z))).setCell (p := ⟨bg, 0, none⟩) (fun _ => .inr (.inl rfl)) _⟩
/-- Where Each stops. -/
def stopAt (n : Int) (m : Nat) : Nat := if 1 ≤ n ∧ n < (m : Int) then n.toNat else m
def lastM (M : Int → Option Int) (N v : Int) (i : Nat) : Int → Option Int := if i = 0 then M else ansM M N v 4444
theorem prs_at (P : List (Int × Int)) (i : Nat) (h : i < P.length) : ∃ x y, P[i] = (x, y) ∧ (ecells P)[i * 2]? = some (.int .i64 x) ∧ (ecells P)[i * 2 + 1]? = some (.int .i64 y) ∧ flat (P.take (i + 1)) = flat (P.take i) ++ [x, y] := by
  rcases he : P[i] with ⟨x, y⟩
  refine ⟨x, y, rfl, ?_, ?_, ?_⟩
  · have := ecells_get P i h 0 (by omega)
    rw [Nat.add_zero] at this
    rw [this, he]; rfl
  · rw [ecells_get P i h 1 (by omega), he]; rfl
  · rw [List.take_succ_eq_append_getElem h, flat_app, he]; rfl
/-- The list that is gone through lies as it lay. -/
structure EL (w wr : World) (bg bp bo pb mb g : Nat) (cur : Array Value) (N Q : Int) (M : Int → Option Int) (k p s v n : Int) (i : Nat) (q : Option Addr) (c : Nat) (t : List Int) : Prop where
  es : ES w wr bg bp bo pb mb N Q M k p s v n q (2 * i) c t
  row : wr.heap[g]? = some (.cells cur 74 (0, 0))
theorem EL.ne {w wr : World} {bg bp bo pb mb g : Nat} {cur : Array Value} {N Q : Int} {M : Int → Option Int} {k p s v n : Int} {i : Nat} {q : Option Addr} {c : Nat} {t : List Int} (h : EL w wr bg bp bo pb mb g cur N Q M k p s v n i q c t) : ¬ (g = mb ∨ g = bg ∨ blockOf q = some g) := by
  rintro (e | e | e)
  · obtain ⟨D, ⟨es, clock, hb, _⟩, _⟩ := h.es.ph.tm
    have := h.row; rw [e, hb] at this; cases this
  · have := h.row; rw [e, h.es.g] at this; simp at this
  · obtain ⟨c2, hc⟩ := h.es.row.blk e
    have := h.row; rw [hc] at this; simp at this
theorem EL.k0 {w wr w' : World} {bg bp bo pb mb g : Nat} {cur : Array Value} {N Q : Int} {M : Int → Option Int} {k p s v n : Int} {i : Nat} {q : Option Addr} {c : Nat} {t : List Int} (h : EL w wr bg bp bo pb mb g cur N Q M k p s v n i q c t) (K : Kept (fun _ => False) wr w') : EL w w' bg bp bo pb mb g cur N Q M k p s v n i q c t :=
  ⟨h.es.k0 K, K.get h.row (fun z => z)⟩
set_option maxRecDepth 100000 in
set_option maxHeartbeats 4000000 in
theorem eachAll {w wr : World} {bg bp bo pb mb : Nat} {N Q : Int} {M : Int → Option Int} {k p s v n : Int} (h : ES w wr bg bp bo pb mb N Q M k p s v n none 0 0 []) : Calls Try.prog 28 #[.pointer (some ⟨pb, 0, none⟩), .func (.func 29) #[] #[.pointer (some ⟨bg, 0, none⟩), .pointer (some ⟨bp, 0, none⟩), .pointer (some ⟨bo, 0, none⟩)]] wr fun o w' => o = .returned (.tuple #[]) ∧ ∃ q' c', ES w w' bg bp bo pb mb N Q (lastM M N v (cntM M N.toNat)) k p s v n q' (2 * stopAt n (cntM M N.toNat)) c' (flat ((prs M N.toNat).take (stopAt n (cntM M N.toNat)))) := by
  obtain ⟨m, hm⟩ : ∃ m, m = cntM M N.toNat := ⟨_, rfl⟩
  obtain ⟨P, hP⟩ : ∃ P, P = prs M N.toNat := ⟨_, rfl⟩
  have lP : P.length = m := by rw [hP, hm, prs_len]
  have m255 : m ≤ 255 := by have := cntM_le M N.toNat; have := h.ph.ok; omega
  have HM : Hid (m = cntM M N.toNat ∧ P = prs M N.toNat ∧ P.length = m) := ⟨hm, hP, lP⟩
  have H : Hid (ES w wr bg bp bo pb mb N Q M k p s v n none 0 0 []) := h
  rw [← hm, ← hP]
  have nf : (binOp .eql 67 (.func (.func 29) #[] #[.pointer (some ⟨bg, 0, none⟩), .pointer (some ⟨bp, 0, none⟩), .pointer (some ⟨bo, 0, none⟩)]) .nilFunc).run Try.prog wr = .ok (.bool false) wr := by kernel_rfl
  clear h hm hP lP
  go_enter Try.func28, Try.ntmps28
  go_wp2_with fail
  refine (now wr H.out.ph).mono ?_
  rintro o w1 ⟨g, cp, rfl, ow, K1⟩
  rw [← HM.out.1, ← HM.out.2.1] at ow
  rw [← HM.out.1]
  obtain ⟨cur, F0, CU⟩ : ∃ cur, Hid (EL w w1 bg bp bo pb mb g cur N Q (lastM M N v 0) k p s v n 0 none 0 (flat (P.take 0))) ∧ Hid (∀ j u, (ecells P)[j]? = some u → cur[j]? = some u) := by
    rcases ow.2 with ⟨e0, _⟩ | ⟨g', cap', cur, e0, _, hg, _, _, _, ht⟩
    · simp at e0
    · simp at e0
      obtain ⟨rfl, rfl⟩ := e0
      refine ⟨cur, ⟨H.out.k0 K1, hg⟩, fun j u hj => ?_⟩
      have hl := (List.getElem?_eq_some_iff.1 hj).1
      rw [ecells_length, HM.out.2.2] at hl
      rw [← ht, List.getElem?_take_of_lt hl] at hj
      simpa using hj
  have cpm : m ≤ cp := (own_room ow).1
  clear ow K1
  go_wp2_with fail
  (try go_frame)
  go_loopw [15] (fun z wr => ∃ (i c : Nat) (q : Option Addr), z = .int .i64 (i : Int) ∧ i ≤ m ∧ ¬ (1 ≤ n ∧ n ≤ (i : Int)) ∧ Hid (EL w wr bg bp bo pb mb g cur N Q (lastM M N v i) k p s v n i q c (flat (P.take i)))) (fun z _ => m - (intOf z).toNat)
  case atStart => exact ⟨0, 0, none, rfl, Nat.zero_le _, by omega, F0⟩
  case round =>
    obtain ⟨i, c, q, rfl, hi, hno, F⟩ := hrel
    clear F0
    by_cases hlt : i < m
    · obtain ⟨x, y, he, e0, e1, ef⟩ := prs_at P i (by rw [HM.out.2.2]; exact hlt)
      have d0 := cell_blk F.out.row (i * 2) (CU.out _ _ e0)
      have d1 := cell_blk F.out.row (i * 2 + 1) (CU.out _ _ e1)
      have hlt' : (i : Int) < (m : Int) := by omega
      have EF : Hid (flat (P.take (i + 1)) = flat (P.take i) ++ [x, y]) := ef
      obtain ⟨W, hW⟩ : ∃ W, W = wr.alloc (.cells #[.int .i64 x, .int .i64 y] 74) := ⟨_, rfl⟩
      have F1 : Hid (EL w W bg bp bo pb mb g cur N Q (lastM M N v i) k p s v n i q c (flat (P.take i))) := F.out.k0 (by rw [hW]; exact k0_alloc _ _)
      have EW : Hid (W = wr.alloc (.cells #[.int .i64 x, .int .i64 y] 74)) := hW
      clear he e0 e1 ef hW
      go_wp2_with fail
      rw [← EW.out]
      refine (each1_tail x y F1.out.es (by omega) (M' := lastM M N v (i + 1)) ?_).mono ?_
      · unfold lastM
        by_cases i0 : i = 0
        · left; refine ⟨by omega, ?_⟩; rw [if_neg (by omega), if_pos i0]
        · right; refine ⟨by omega, ?_⟩; rw [if_neg (by omega), if_neg i0]
      · rintro o w2 ⟨rfl, q', c', es, k2⟩
        have e2 : (2 * i + 2) / 2 = i + 1 := by omega
        rw [e2]
        have F2 : Hid (EL w w2 bg bp bo pb mb g cur N Q (lastM M N v (i + 1)) k p s v n (i + 1) q' c' (flat (P.take (i + 1)))) := by
          refine ⟨?_, k2.get F1.out.row F1.out.ne⟩
          rw [EF.out]
          exact es
        clear es k2 F F1 d0 d1 EW e2
        by_cases hn : ((i + 1 : Nat) : Int) = n
        · have hb : (((i + 1 : Nat) : Int) != n) = false := by simp; omega
          rw [hb]
          go_wp2_with fail
          have E : Hid (stopAt n m = i + 1 ∧ lastM M N v m = lastM M N v (i + 1)) := by
            refine ⟨?_, ?_⟩
            · unfold stopAt
              split <;> omega
            · unfold lastM
              rw [if_neg (by omega), if_neg (by omega)]
          refine bodyPost_ret (results_none rfl _ _ _) rfl ⟨rfl, q', c', ?_⟩
          rw [E.out.1, E.out.2]
          exact F2.out.es
        · have hb : (((i + 1 : Nat) : Int) != n) = true := by simp; omega
          rw [hb]
          go_wp2_with fail
          go_roundw
          case rel => exact ⟨i + 1, c', q', by go_num, by omega, by omega, F2⟩
          case measure => simp [intOf]; omega
    · have E : Hid (stopAt n m = m ∧ i = m) := by
        refine ⟨?_, by omega⟩
        unfold stopAt
        rw [if_neg (by omega)]
      go_wp2_with fail
      refine bodyPost_end (results_none rfl _ _ _) rfl ⟨rfl, q, c, ?_⟩
      rw [E.out.1]
      have f := F.out.es
      rw [E.out.2] at f
      exact f
theorem eachAll_nil (f : Value) (w : World) : Calls Try.prog 28 #[.pointer none, f] w fun o w' => o = .returned (.tuple #[]) ∧ w' = w := by
  go_enter Try.func28, Try.ntmps28
  go_wp2_with fail
  exact bodyPost_ret (results_none rfl _ _ _) rfl ⟨rfl, rfl⟩
theorem each_nil (k p s v n : Int) (w : World) : Calls Try.prog 16 #[.pointer none, .agg #[.int .i64 k, .int .i64 p, .int .i64 s, .int .i64 v, .int .i64 n]] w fun o w' => o = .returned (.slice none 0 0) ∧ Kept (fun _ => False) w w' := by
  have K3 : Hid (Kept (fun _ => False) w (((w.alloc (.cells #[.pointer none] 25)).alloc (.cells #[.int .i64 k, .int .i64 p, .int .i64 s, .int .i64 v, .int .i64 n] 36)).alloc (.cells #[.slice none 0 0] 42))) := ((k0_alloc _ _).alloc _).alloc _
  go_enter Try.func16, Try.ntmps16
  go_wp2_with fail
  refine (eachAll_nil _ _).mono ?_
  rintro o w1 ⟨rfl, rfl⟩
  go_wp2_with fail
  go_ret
  exact ⟨rfl, K3.out⟩
set_option maxRecDepth 100000 in
theorem each {pb mb : Nat} {N Q : Int} {M : Int → Option Int} (k p s v n : Int) (w : World) (h : IsP 49 (Value.int .i64) RI w pb mb N Q M) : Calls Try.prog 16 #[.pointer (some ⟨pb, 0, none⟩), .agg #[.int .i64 k, .int .i64 p, .int .i64 s, .int .i64 v, .int .i64 n]] w fun o w' => ∃ q c, o = .returned (.slice q (2 * stopAt n (cntM M N.toNat)) c) ∧ Hid (Row w' 3 q (2 * stopAt n (cntM M N.toNat)) c (ints (flat ((prs M N.toNat).take (stopAt n (cntM M N.toNat))))) ∧ (∀ g, blockOf q = some g → w.heap.size ≤ g) ∧ IsP 49 (Value.int .i64) RI w' pb mb N Q (lastM M N v (cntM M N.toNat)) ∧ Kept (fun j => j = mb) w w') := by
  obtain ⟨W, hW⟩ : ∃ W, W = ((w.alloc (.cells #[.pointer (some ⟨pb, 0, none⟩)] 25)).alloc (.cells #[.int .i64 k, .int .i64 p, .int .i64 s, .int .i64 v, .int .i64 n] 36)).alloc (.cells #[.slice none 0 0] 42) := ⟨_, rfl⟩
  have K3 : Kept (fun _ => False) w W := by rw [hW]; exact ((k0_alloc _ _).alloc _).alloc _
  have E0 : Hid (ES w W (w.heap.size + 1 + 1) w.heap.size (w.heap.size + 1) pb mb N Q M k p s v n none 0 0 []) := by
    refine ⟨h.k0 K3, by rw [hW]; exact three2 _ _ _ _, by rw [hW]; exact three0 _ _ _ _, by rw [hW]; exact three1 _ _ _ _, Row.nil _ _, fun g e => by simp [blockOf] at e, ⟨by omega, by omega, by omega, h.lt.2, h.lt.1⟩, K3.mono (fun _ _ z => z.elim)⟩
  have EW : Hid (W = ((w.alloc (.cells #[.pointer (some ⟨pb, 0, none⟩)] 25)).alloc (.cells #[.int .i64 k, .int .i64 p, .int .i64 s, .int .i64 v, .int .i64 n] 36)).alloc (.cells #[.slice none 0 0] 42)) := hW
  clear h hW K3
  go_enter Try.func16, Try.ntmps16
  go_wp2_with fail
  rw [← EW.out]
  refine (eachAll E0.out).mono ?_
  rintro o w2 ⟨rfl, q, c, es⟩
  have E1 : Hid (ES w w2 (w.heap.size + 1 + 1) w.heap.size (w.heap.size + 1) pb mb N Q (lastM M N v (cntM M N.toNat)) k p s v n q (2 * stopAt n (cntM M N.toNat)) c (flat ((prs M N.toNat).take (stopAt n (cntM M N.toNat))))) := es
  obtain ⟨c0, _, _, _, _⟩ := es.cells
  clear es
  go_wp2_with fail
  go_ret
  exact ⟨q, c, rfl, E1.out.row, E1.out.far, E1.out.ph, E1.out.kept⟩
end Go.Proofs.Yteokeifkkhchmaa
