import Derived.Test.YteokeifkkhchmaaWant
import Derived.Test.YteokeifkkhchmaaTaken
namespace Go.Proofs.Yteokeifkkhchmaa
open Go.RowKit 

/-- A phase of the program's and one of the document's. -/
structure PX where
  pb : Nat
  mb : Nat
  rb : Nat
  cb : Nat
  lb : Nat
  n : Nat
  K : Int
  D : Int
  M : Int → Option Int
structure Both (w : World) (x : PX) : Prop where
  p : IsP 49 (Value.int .i64) RI w x.pb x.mb (x.n : Int) (quo (x.n : Int) x.K) x.M
  r : IsR w x.rb x.cb x.lb x.n x.K x.D x.M
def PX.Uses (x : PX) (j : Nat) : Prop := j = x.mb ∨ j = x.cb ∨ j = x.lb
theorem IsP.map {ε : Type} {T : TypeId} {ev : ε → Value} {RD : Value → Option (DataW Value × List MemPlace)} {w : World} {pb mb : Nat} {N Q : Int} {M : Int → Option ε} (h : IsP T ev RD w pb mb N Q M) : ∃ es c, w.heap[mb]? = some (.map es c) := by
  obtain ⟨D, ⟨es, clock, hb, _⟩, _⟩ := h.tm
  exact ⟨es, clock, hb⟩
/-- None of the blocks that change is one of cells of another type. -/
theorem Both.off {w : World} {x : PX} (h : Both w x) {j : Nat} {cs : Array Value} {t : TypeId} (hj : w.heap[j]? = some (.cells cs t (0, 0))) (h4 : t ≠ 4) (h3 : t ≠ 3) : ¬ x.Uses j := by
  rintro (e | e | e)
  · obtain ⟨es, c, hm⟩ := h.p.map
    rw [e, hm] at hj; cases hj
  · rw [e, h.r.come] at hj; simp at hj; exact h4 hj.2.symm
  · rw [e, h.r.last] at hj; simp at hj; exact h3 hj.2.symm
theorem Both.sep {w : World} {x : PX} (h : Both w x) : x.pb ≠ x.cb ∧ x.pb ≠ x.lb ∧ x.mb ≠ x.cb ∧ x.mb ≠ x.lb ∧ x.rb ≠ x.mb := by
  obtain ⟨es, c, hm⟩ := h.p.map
  refine ⟨fun e => ?_, fun e => ?_, fun e => ?_, fun e => ?_, fun e => ?_⟩
  · have := h.p.blk; rw [e, h.r.come] at this; simp at this
  · have := h.p.blk; rw [e, h.r.last] at this; simp at this
  · rw [e, h.r.come] at hm; cases hm
  · rw [e, h.r.last] at hm; cases hm
  · have := h.r.blk; rw [e, hm] at this; cases this
theorem Both.k0 {w w' : World} {x : PX} (h : Both w x) (K : Kept (fun _ => False) w w') : Both w' x := ⟨h.p.k0 K, h.r.k0 K⟩
theorem Both.lt {w : World} {x : PX} (h : Both w x) {j : Nat} (hj : x.Uses j) : j < w.heap.size := by
  rcases hj with e | e | e
  · rw [e]; exact h.p.lt.2
  · rw [e]; exact h.r.lt.2.1
  · rw [e]; exact h.r.lt.2.2
/-- The document's answers first, then the program's. -/
theorem Both.step {w w1 w2 : World} {x : PX} {M' : Int → Option Int} (h : Both w x) (r : IsR w1 x.rb x.cb x.lb x.n x.K x.D M') (k1 : Kept (fun j => j = x.cb ∨ j = x.lb) w w1) (p : IsP 49 (Value.int .i64) RI w2 x.pb x.mb (x.n : Int) (quo (x.n : Int) x.K) M') (k2 : Kept (fun j => j = x.mb) w1 w2) : Both w2 { x with M := M' } ∧ Kept x.Uses w w2 := by
  obtain ⟨s1, s2, s3, s4, s5⟩ := h.sep
  exact ⟨⟨p, r.kept k2 s5 (fun e => s3 e.symm) (fun e => s4 e.symm)⟩, (k1.mono (fun _ _ z => .inr z)).trans k2 (fun _ _ z => .inl z)⟩
theorem Both.mid {w w1 : World} {x : PX} (h : Both w x) (k1 : Kept (fun j => j = x.cb ∨ j = x.lb) w w1) : IsP 49 (Value.int .i64) RI w1 x.pb x.mb (x.n : Int) (quo (x.n : Int) x.K) x.M := by
  obtain ⟨s1, s2, s3, s4, s5⟩ := h.sep
  exact h.p.kept k1 (fun z => by rcases z with z | z; exact s1 z; exact s2 z) (fun z => by rcases z with z | z; exact s3 z; exact s4 z)
/-- A step's box. -/
def opBox (k p s v n : Int) : Obj := .cells #[.int .i64 k, .int .i64 p, .int .i64 s, .int .i64 v, .int .i64 n] 36
theorem box_cells {w : World} {b : Nat} {k p s v n : Int} (h : w.heap[b]? = some (.cells #[.int .i64 k, .int .i64 p, .int .i64 s, .int .i64 v, .int .i64 n] 36 (0, 0))) : w.cell? ⟨b, 0, none⟩ = some (.int .i64 k) ∧ w.cell? ⟨b, 1, none⟩ = some (.int .i64 p) ∧ w.cell? ⟨b, 2, none⟩ = some (.int .i64 s) ∧ w.cell? ⟨b, 3, none⟩ = some (.int .i64 v) ∧ w.cell? ⟨b, 4, none⟩ = some (.int .i64 n) :=
  ⟨cell_blk h 0 rfl, cell_blk h 1 rfl, cell_blk h 2 rfl, cell_blk h 3 rfl, cell_blk h 4 rfl⟩
/-- Answer. -/
theorem plays0 (x : PX) (p s v n : Int) (w : World) (h : Both w x) : Calls Try.prog 6 #[.pointer (some ⟨x.pb, 0, none⟩), .pointer (some ⟨x.rb, 0, none⟩), .agg #[.int .i64 0, .int .i64 p, .int .i64 s, .int .i64 v, .int .i64 n]] w fun o w' => o = .returned (.bool true) ∧ ∃ M', Both w' { x with M := M' } ∧ Kept x.Uses w w' := by
  obtain ⟨W, hW⟩ : ∃ W, W = w.alloc (.cells #[.int .i64 0, .int .i64 p, .int .i64 s, .int .i64 v, .int .i64 n] 36) := ⟨_, rfl⟩
  have K1 : Kept (fun _ => False) w W := by rw [hW]; exact k0_alloc _ _
  have B1 : W.heap[w.heap.size]? = some (.cells #[.int .i64 0, .int .i64 p, .int .i64 s, .int .i64 v, .int .i64 n] 36 (0, 0)) := by rw [hW]; exact heap_alloc_new _ _
  have H : Hid (Both W x ∧ Kept (fun _ => False) w W ∧ W.heap[w.heap.size]? = some (.cells #[.int .i64 0, .int .i64 p, .int .i64 s, .int .i64 v, .int .i64 n] 36 (0, 0))) := ⟨h.k0 K1, K1, B1⟩
  have EW : Hid (W = w.alloc (.cells #[.int .i64 0, .int .i64 p, .int .i64 s, .int .i64 v, .int .i64 n] 36)) := hW
  clear h hW K1 B1
  go_enter Try.func6, Try.ntmps6
  go_wp2_with fail
  rw [← EW.out]
  refine (rAnswer s v W H.out.1.r).mono ?_
  rintro o w1 ⟨rfl, ir, k1⟩
  have H1 : Hid (IsR w1 x.rb x.cb x.lb x.n x.K x.D (ansM x.M (x.n : Int) s v) ∧ Kept (fun j => j = x.cb ∨ j = x.lb) W w1 ∧ w1.heap[w.heap.size]? = some (.cells #[.int .i64 0, .int .i64 p, .int .i64 s, .int .i64 v, .int .i64 n] 36 (0, 0))) := ⟨ir, k1, k1.get H.out.2.2 (fun z => H.out.1.off H.out.2.2 (by decide) (by decide) (.inr z))⟩
  obtain ⟨c0, c1, c2, c3, c4⟩ := box_cells H1.out.2.2
  clear ir k1
  go_wp2_with fail
  refine (answerI s v w1 (H.out.1.mid H1.out.2.1)).mono ?_
  rintro o w2 ⟨rfl, ip, k2⟩
  have G : Hid (Both w2 { x with M := ansM x.M (x.n : Int) s v } ∧ Kept x.Uses w w2) := by
    obtain ⟨b, k⟩ := H.out.1.step H1.out.1 H1.out.2.1 ip k2
    exact ⟨b, (H.out.2.1.mono (fun _ _ z => z.elim)).trans k (fun _ _ z => z)⟩
  clear ip k2 c0 c1 c2 c3 c4
  go_wp2_with fail
  go_ret
  exact ⟨by simp, _, G.out.1, G.out.2⟩
/-- Get. -/
theorem plays2 (x : PX) (p s v n : Int) (w : World) (h : Both w x) (kf : KF s) : Calls Try.prog 6 #[.pointer (some ⟨x.pb, 0, none⟩), .pointer (some ⟨x.rb, 0, none⟩), .agg #[.int .i64 2, .int .i64 p, .int .i64 s, .int .i64 v, .int .i64 n]] w fun o w' => o = .returned (.bool true) ∧ ∃ M', Both w' { x with M := M' } ∧ Kept x.Uses w w' := by
  obtain ⟨W, hW⟩ : ∃ W, W = w.alloc (.cells #[.int .i64 2, .int .i64 p, .int .i64 s, .int .i64 v, .int .i64 n] 36) := ⟨_, rfl⟩
  have K1 : Kept (fun _ => False) w W := by rw [hW]; exact k0_alloc _ _
  have B1 : W.heap[w.heap.size]? = some (.cells #[.int .i64 2, .int .i64 p, .int .i64 s, .int .i64 v, .int .i64 n] 36 (0, 0)) := by rw [hW]; exact heap_alloc_new _ _
  have H : Hid (Both W x ∧ Kept (fun _ => False) w W ∧ KF s) := ⟨h.k0 K1, K1, kf⟩
  have EW : Hid (W = w.alloc (.cells #[.int .i64 2, .int .i64 p, .int .i64 s, .int .i64 v, .int .i64 n] 36)) := hW
  obtain ⟨c0, c1, c2, c3, c4⟩ := box_cells B1
  clear h hW K1 B1 kf
  go_enter Try.func6, Try.ntmps6
  go_wp2_with fail
  rw [← EW.out]
  refine (rGet s W H.out.1.r).mono ?_
  rintro o w1 ⟨rfl, rfl⟩
  go_wp2_with fail
  refine (getI s w1 H.out.1.p H.out.2.2).mono ?_
  rintro o w2 ⟨rfl, rfl⟩
  clear c0 c1 c2 c3 c4
  go_wp2_with fail
  go_ret
  exact ⟨by simp, x.M, H.out.1, H.out.2.1.mono (fun _ _ z => z.elim)⟩
theorem Row.reads {w : World} {q : Option Addr} {len c : Nat} {l : List Int} (r : Row w 3 q len c (ints l)) : IReads w q len c l := r.ireads
/-- Each. -/
theorem plays3 (x : PX) (p s v n : Int) (w : World) (h : Both w x) : Calls Try.prog 6 #[.pointer (some ⟨x.pb, 0, none⟩), .pointer (some ⟨x.rb, 0, none⟩), .agg #[.int .i64 3, .int .i64 p, .int .i64 s, .int .i64 v, .int .i64 n]] w fun o w' => o = .returned (.bool true) ∧ ∃ M', Both w' { x with M := M' } ∧ Kept x.Uses w w' := by
  obtain ⟨W, hW⟩ : ∃ W, W = w.alloc (.cells #[.int .i64 3, .int .i64 p, .int .i64 s, .int .i64 v, .int .i64 n] 36) := ⟨_, rfl⟩
  have K1 : Kept (fun _ => False) w W := by rw [hW]; exact k0_alloc _ _
  have B1 : W.heap[w.heap.size]? = some (.cells #[.int .i64 3, .int .i64 p, .int .i64 s, .int .i64 v, .int .i64 n] 36 (0, 0)) := by rw [hW]; exact heap_alloc_new _ _
  have H : Hid (Both W x ∧ Kept (fun _ => False) w W ∧ W.heap[w.heap.size]? = some (.cells #[.int .i64 3, .int .i64 p, .int .i64 s, .int .i64 v, .int .i64 n] 36 (0, 0))) := ⟨h.k0 K1, K1, B1⟩
  have EW : Hid (W = w.alloc (.cells #[.int .i64 3, .int .i64 p, .int .i64 s, .int .i64 v, .int .i64 n] 36)) := hW
  obtain ⟨c0, c1, c2, c3, c4⟩ := box_cells B1
  clear h hW K1 B1
  go_enter Try.func6, Try.ntmps6
  go_wp2_with fail
  rw [← EW.out]
  refine (wanted 3 p s v n W H.out.1.r).mono ?_
  rintro o w1 ⟨q, c, rfl, R⟩
  have rm := R.out.1.room
  have B1 : w1.heap[w.heap.size]? = some (.cells #[.int .i64 3, .int .i64 p, .int .i64 s, .int .i64 v, .int .i64 n] 36 (0, 0)) := R.out.2.2.2.get H.out.2.2 (fun z => H.out.1.off H.out.2.2 (by decide) (by decide) (.inr z))
  clear c0 c1 c2 c3 c4
  obtain ⟨c0, c1, c2, c3, c4⟩ := box_cells B1
  clear B1
  go_wp2_with fail
  refine (each 3 p s v n w1 (H.out.1.mid R.out.2.2.2)).mono ?_
  have eN : ((x.n : Int)).toNat = x.n := by omega
  rw [eN]
  rintro o w2 ⟨q2, c2', rfl, R2⟩
  have rm2 := R2.out.1.room
  have G : Hid (Both w2 { x with M := lastM x.M (x.n : Int) v (cntM x.M x.n) } ∧ Kept x.Uses w w2) := by
    obtain ⟨b, k⟩ := H.out.1.step R.out.2.2.1 R.out.2.2.2 R2.out.2.2.1 R2.out.2.2.2
    exact ⟨b, (H.out.2.1.mono (fun _ _ z => z.elim)).trans k (fun _ _ z => z)⟩
  have RD : Hid (Row w2 3 q (2 * stopAt n (cntM x.M x.n)) c (ints (flat ((prs x.M x.n).take (stopAt n (cntM x.M x.n)))))) := by
    refine R.out.1.kept R2.out.2.2.2 (fun g hg z => ?_)
    have z : g = x.mb := z
    have := R.out.2.1 g hg
    have := H.out.1.p.lt.2
    omega
  clear c0 c1 c2 c3 c4
  obtain ⟨L, hL⟩ : ∃ L, L = 2 * stopAt n (cntM x.M x.n) := ⟨_, rfl⟩
  rw [← hL] at rm rm2
  rw [← hL] at RD R2 R
  rw [← hL]
  clear hL
  go_wp2_with fail
  refine (sameInts q2 q L c2' L c _ _ w2 R2.out.1.reads RD.out.reads).mono ?_
  rintro o w3 ⟨rfl, kk, rfl⟩
  have G2 : Hid (Both (w2.drewN kk) { x with M := lastM x.M (x.n : Int) v (cntM x.M x.n) } ∧ Kept x.Uses w (w2.drewN kk)) := ⟨G.out.1.k0 ((Kept.refl _ _).drewN kk), G.out.2.drewN kk⟩
  generalize w2.drewN kk = w4 at G2 ⊢
  rw [decide_eq_true rfl]
  go_wp2_with fail
  go_ret
  exact ⟨rfl, _, G2.out.1, G2.out.2⟩
end Go.Proofs.Yteokeifkkhchmaa
