import Derived.Test.YtojfnehdanhgiaaPlayZ
import Derived.Test.YtojfnehdanhgiaaTaken
namespace Go.Proofs.Ytojfnehdanhgiaa
open Go.RowKit

theorem plays (base : Nat) (w : World) (vn vr : Value) (sn sr : Option (Nat × Option Nat)) (ps : List Pk) (o : Opv) (h : Pair base w vn vr sn sr ps) (ho : OpOk w o) (hb : ps.length + 1 ≤ Big) (hlow : 0 < o.dl → ∀ p, o.a = some p → p.block < base) :
    Calls Try.prog 23 #[vn, vr, .agg #[.int .i64 o.kd, .int .i64 o.nt, .int .i64 o.fk, .int .i64 o.fi, .int .i64 o.tk, .int .i64 o.ti, .slice o.a o.dl o.dc, .bool o.lost, .int .i64 o.i, .int .i64 o.n, .int .u32 (o.pat : Int)]] w fun x w' => x = .returned (.bool true) ∧ PDid base w vn vr sn sr ps w' := by
  by_cases h0 : o.kd = 0
  · exact plays0 base w vn vr sn sr ps o h ho hb h0 hlow
  by_cases h1 : o.kd = 1
  · exact plays1 base w vn vr sn sr ps o h hb h1
  by_cases h2 : o.kd = 2
  · exact plays2 base w vn vr sn sr ps o h ho hb h2
  by_cases h3 : o.kd = 3
  · exact plays3 base w vn vr sn sr ps o h ho hb h3
  by_cases h4 : o.kd = 4
  · exact plays4 base w vn vr sn sr ps o h ho hb h4
  by_cases h5 : o.kd = 5
  · exact plays5 base w vn vr sn sr ps o h ho hb h5
  by_cases h6 : o.kd = 6
  · exact plays6 base w vn vr sn sr ps o h ho hb h6
  exact plays7 base w vn vr sn sr ps o h hb ⟨h0, h1, h2, h3, h4, h5, h6⟩
theorem NSide.typ {ty base : Nat} {w : World} {v : Value} {s : Option (Nat × Option Nat)} {ps : List Pk} (h : NSide ty base w v s ps) : ∀ k, FP s k → ∃ cs t, w.heap[k]? = some (.cells cs t (0, 0)) ∧ (t = ty ∨ t = 39) := fun k hk => by
  rcases h with ⟨rfl, _⟩ | ⟨C, g, rfl, _, n⟩
  · exact (FP_none k hk).elim
  · obtain ⟨q, len, cap, R, n, e, _⟩ := n
    rcases FP_some.1 hk with z | z
    · subst z; exact ⟨_, ty, n.blk, .inl rfl⟩
    · obtain ⟨cs, hc⟩ := own_type n.list.own k (by rw [e]; exact z)
      exact ⟨cs, 39, hc, .inr rfl⟩
theorem NSide.mono {ty b b' : Nat} {w : World} {v : Value} {s : Option (Nat × Option Nat)} {ps : List Pk} (h : NSide ty b w v s ps) (hb : b' ≤ b) : NSide ty b' w v s ps := by
  rcases h with h | ⟨C, g, rfl, rfl, q, len, cap, R, n, e, m⟩
  · exact .inl h
  · exact .inr ⟨C, g, rfl, rfl, q, len, cap, R, ⟨n.blk, ⟨owns_mono n.list.own hb, fun f hf => (n.list.good f hf).mono hb⟩, Nat.le_trans hb n.low, n.t5, n.t39⟩, e, m⟩
theorem side_copy67 {base : Nat} {w : World} {v : Value} {s : Option (Nat × Option Nat)} {ps : List Pk} (h : NSide 67 base w v s ps) (hb : ps.length ≤ Big) : Calls Try.prog 11 #[v] w fun x w' => ∃ v2 s2, x = .returned v2 ∧ NSide 67 w.heap.size w' v2 s2 ps ∧ s.isSome = s2.isSome ∧ Kept (fun _ => False) w w' := by
  rcases h with ⟨rfl, rfl⟩ | ⟨C, g, rfl, rfl, n⟩
  · refine (nCopy_nil w).mono ?_
    rintro x w' ⟨rfl, rfl⟩
    exact ⟨_, none, rfl, .inl ⟨rfl, rfl⟩, rfl, Kept.refl _ _⟩
  · refine (copy_of base C g ps w n hb).mono ?_
    rintro x w' ⟨C', g', rfl, n', K⟩
    exact ⟨_, some (C', g'), rfl, .inr ⟨C', g', rfl, rfl, n'⟩, rfl, K⟩
theorem rcopy_nil (w : World) : Calls Try.prog 22 #[.pointer none] w fun x w' => x = .returned (.pointer none) ∧ w' = w := by
  go_enter Try.func22, Try.ntmps22
  go_wp2_with fail
  go_ret
  exact ⟨rfl, rfl⟩
theorem side_copy71 {base : Nat} {w : World} {v : Value} {s : Option (Nat × Option Nat)} {ps : List Pk} (h : NSide 71 base w v s ps) (hb : ps.length ≤ Big) : Calls Try.prog 22 #[v] w fun x w' => ∃ v2 s2, x = .returned v2 ∧ NSide 71 w.heap.size w' v2 s2 ps ∧ s.isSome = s2.isSome ∧ Kept (fun _ => False) w w' := by
  rcases h with ⟨rfl, rfl⟩ | ⟨C, g, rfl, rfl, n⟩
  · refine (rcopy_nil w).mono ?_
    rintro x w' ⟨rfl, rfl⟩
    exact ⟨_, none, rfl, .inl ⟨rfl, rfl⟩, rfl, Kept.refl _ _⟩
  · refine (rcopy_of base C g ps w n hb).mono ?_
    rintro x w' ⟨C', g', rfl, n', K⟩
    exact ⟨_, some (C', g'), rfl, .inr ⟨C', g', rfl, rfl, n'⟩, rfl, K⟩
/-- Two cells in a block of its own. -/
def Two (w : World) (b : Nat) (t : TypeId) (k j : Nat) (v v' : Value) : Prop := ∃ cs : Array Value, w.heap[b]? = some (.cells cs t (0, 0)) ∧ cs.size = 2 ∧ cs[k]? = some v ∧ cs[j]? = some v'
theorem Two.kept {S : Nat → Prop} {w w' : World} {b : Nat} {t : TypeId} {k j : Nat} {v v' : Value} (h : Two w b t k j v v') (K : Kept S w w') (hn : ¬ S b) : Two w' b t k j v v' := by
  obtain ⟨cs, h1, h2⟩ := h
  exact ⟨cs, K.get h1 hn, h2⟩
theorem Two.cell {w : World} {b : Nat} {t : TypeId} {k j : Nat} {v v' : Value} (h : Two w b t k j v v') : w.cell? ⟨b, k, none⟩ = some v ∧ w.cell? ⟨b, j, none⟩ = some v' ∧ w.frozen? ⟨b, j, none⟩ = false := by
  obtain ⟨cs, h1, h2, h3, h4⟩ := h
  exact ⟨cell_blk h1 k h3, cell_blk h1 j h4, soft_blk h1 j⟩
theorem Two.set {w : World} {b : Nat} {t : TypeId} {k j : Nat} {v v' : Value} (h : Two w b t k j v v') (hkj : k ≠ j) (hj : j < 2) (u : Value) : Two (w.setCell ⟨b, j, none⟩ u) b t k j v u := by
  obtain ⟨cs, h1, h2, h3, h4⟩ := h
  refine ⟨_, set_heap h1 j u, by simpa using h2, ?_, ?_⟩
  · rw [Array.getElem?_setIfInBounds_ne (Ne.symm hkj)]; exact h3
  · simp [h2, hj]
/-- What the script has in hand: number k, and the other, j. -/
structure NP (w wr : World) (bA bB k j : Nat) (v r v' r' : Value) (sn sr sn' sr' : Option (Nat × Option Nat)) (ps ps' : List Pk) : Prop where
  kj : (k = 0 ∧ j = 1) ∨ (k = 1 ∧ j = 0)
  kept : Kept (fun _ => False) w wr
  boxA : Two wr bA 53 k j v v'
  boxB : Two wr bB 56 k j r r'
  low : w.heap.size ≤ bA ∧ w.heap.size ≤ bB
  p : Pair w.heap.size wr v r sn sr ps
  p' : Pair w.heap.size wr v' r' sn' sr' ps'
  cross : ∀ x, (FP sn x ∨ FP sr x) → ¬ (FP sn' x ∨ FP sr' x)
theorem NP.flip {w wr : World} {bA bB k j : Nat} {v r v' r' : Value} {sn sr sn' sr' : Option (Nat × Option Nat)} {ps ps' : List Pk} (h : NP w wr bA bB k j v r v' r' sn sr sn' sr' ps ps') : NP w wr bA bB j k v' r' v r sn' sr' sn sr ps' ps := by
  obtain ⟨csA, a1, a2, a3, a4⟩ := h.boxA
  obtain ⟨csB, b1, b2, b3, b4⟩ := h.boxB
  exact ⟨by rcases h.kj with z | z; exact .inr ⟨z.2, z.1⟩; exact .inl ⟨z.2, z.1⟩, h.kept, ⟨csA, a1, a2, a4, a3⟩, ⟨csB, b1, b2, b4, b3⟩, h.low, h.p', h.p, fun x z y => h.cross x y z⟩
theorem Pair.quiet {base : Nat} {w w' : World} {vn vr : Value} {sn sr : Option (Nat × Option Nat)} {ps : List Pk} (h : Pair base w vn vr sn sr ps) (K : Kept (fun _ => False) w w') : Pair base w' vn vr sn sr ps := ⟨h.net.kept0 K, h.ref.kept0 K, h.disj, Nat.le_trans h.low K.size, h.both⟩
theorem NP.quiet {w wr w' : World} {bA bB k j : Nat} {v r v' r' : Value} {sn sr sn' sr' : Option (Nat × Option Nat)} {ps ps' : List Pk} (h : NP w wr bA bB k j v r v' r' sn sr sn' sr' ps ps') (K : Kept (fun _ => False) wr w') : NP w w' bA bB k j v r v' r' sn sr sn' sr' ps ps' :=
  ⟨h.kj, h.kept.trans K (fun _ _ q => q), h.boxA.kept K (fun q => q), h.boxB.kept K (fun q => q), h.low, h.p.quiet K, h.p'.quiet K, h.cross⟩
theorem Pair.fp {base : Nat} {w : World} {vn vr : Value} {sn sr : Option (Nat × Option Nat)} {ps : List Pk} (h : Pair base w vn vr sn sr ps) : ∀ k, (FP sn k ∨ FP sr k) → k < w.heap.size ∧ base ≤ k ∧ NotData w k := fun k z => by
  rcases z with z | z
  · exact h.net.fp k z
  · exact h.ref.fp k z
theorem Pair.not {base : Nat} {w : World} {vn vr : Value} {sn sr : Option (Nat × Option Nat)} {ps : List Pk} (h : Pair base w vn vr sn sr ps) {b : Nat} {cs : Array Value} {t : TypeId} (hb : w.heap[b]? = some (.cells cs t (0, 0))) (h1 : t ≠ 67) (h2 : t ≠ 71) (h3 : t ≠ 39) : ¬ (FP sn b ∨ FP sr b) := fun z => by
  rcases z with z | z
  · obtain ⟨cs', t', e, y⟩ := h.net.typ b z
    rw [hb] at e
    simp at e
    rcases y with y | y
    · exact h1 (e.2.trans y)
    · exact h3 (e.2.trans y)
  · obtain ⟨cs', t', e, y⟩ := h.ref.typ b z
    rw [hb] at e
    simp at e
    rcases y with y | y
    · exact h2 (e.2.trans y)
    · exact h3 (e.2.trans y)
/-- A step of number k. -/
theorem NP.did {w wr w2 : World} {bA bB k j : Nat} {v r v' r' : Value} {sn sr sn' sr' : Option (Nat × Option Nat)} {ps ps' : List Pk} (h : NP w wr bA bB k j v r v' r' sn sr sn' sr' ps ps') (d : PDid w.heap.size wr v r sn sr ps w2) :
    ∃ sn2 sr2 ps2, NP w w2 bA bB k j v r v' r' sn2 sr2 sn' sr' ps2 ps' ∧ ps2.length ≤ ps.length + 1 ∧ Kept (fun k => FP sn k ∨ FP sr k) wr w2 := by
  obtain ⟨sn2, sr2, ps2, p2, K, nN, nR, _, hl⟩ := d
  have nA : ¬ (FP sn bA ∨ FP sr bA) := by obtain ⟨cs, h1, _⟩ := h.boxA; exact h.p.not h1 (by decide) (by decide) (by decide)
  have nB : ¬ (FP sn bB ∨ FP sr bB) := by obtain ⟨cs, h1, _⟩ := h.boxB; exact h.p.not h1 (by decide) (by decide) (by decide)
  refine ⟨sn2, sr2, ps2, ⟨h.kj, h.kept.trans K (fun i hi z => ?_), h.boxA.kept K nA, h.boxB.kept K nB, h.low, p2, ⟨?_, ?_, h.p'.disj, Nat.le_trans h.p'.low K.size, h.p'.both⟩, fun x z y => ?_⟩, hl, K⟩
  · have := (h.p.fp i z).2.1; omega
  · exact h.p'.net.kept K (fun x hx z => h.cross x z (.inl hx)) (fun x _ z => (h.p.fp x z).2.2)
  · exact h.p'.ref.kept K (fun x hx z => h.cross x z (.inr hx)) (fun x _ z => (h.p.fp x z).2.2)
  · have a1 := (h.p'.fp x y).1
    rcases z with z | z
    · rcases nN x z with u | u
      · exact h.cross x (.inl u) y
      · omega
    · rcases nR x z with u | u
      · exact h.cross x (.inr u) y
      · omega
/-- The other becomes a copy. -/
theorem NP.copied {w wr w1 w3 : World} {bA bB k j : Nat} {v r v' r' : Value} {sn sr sn' sr' : Option (Nat × Option Nat)} {ps ps' : List Pk} (h : NP w wr bA bB k j v r v' r' sn sr sn' sr' ps ps') {v2 r2 : Value} {s2 t2 : Option (Nat × Option Nat)}
    (n2 : NSide 67 wr.heap.size w1 v2 s2 ps) (e2 : sn.isSome = s2.isSome) (K1 : Kept (fun _ => False) wr w1) (m2 : NSide 71 (w1.setCell ⟨bA, j, none⟩ v2).heap.size w3 r2 t2 ps) (f2 : sr.isSome = t2.isSome) (K3 : Kept (fun _ => False) (w1.setCell ⟨bA, j, none⟩ v2) w3) :
    NP w (w3.setCell ⟨bB, j, none⟩ r2) bA bB k j v r v2 r2 sn sr s2 t2 ps ps := by
  have hkj : k ≠ j ∧ j < 2 := by rcases h.kj with z | z <;> omega
  have h1 := h.quiet K1
  obtain ⟨csA, a1, a2⟩ := h1.boxA
  obtain ⟨csB, b1, b2⟩ := h1.boxB
  have hAB : bA ≠ bB := fun e => by rw [e, b1] at a1; simp at a1
  have ndA : NotData w1 bA := fun cs f y => by rw [a1] at y; simp at y
  have KA : Kept (fun x => x = bA) w1 (w1.setCell ⟨bA, j, none⟩ v2) := (Kept.refl (fun x => x = bA) w1).setCell (p := ⟨bA, j, none⟩) (fun _ => rfl) _
  have nA : ¬ (FP sn bA ∨ FP sr bA) := h1.p.not a1 (by decide) (by decide) (by decide)
  have nA2 : ∀ x, FP s2 x → x ≠ bA := fun x hx e => by
    subst e
    obtain ⟨cs', t', e, y⟩ := n2.typ x hx
    rw [a1] at e
    simp at e
    rcases y with y | y <;> rw [y] at e <;> simp at e
  have pA : Pair w.heap.size (w1.setCell ⟨bA, j, none⟩ v2) v r sn sr ps := ⟨h1.p.net.kept KA (fun x hx z => nA (.inl (by have z : x = bA := z; rw [← z]; exact hx))) (fun x _ z => by rw [z]; exact ndA), h1.p.ref.kept KA (fun x hx z => nA (.inr (by have z : x = bA := z; rw [← z]; exact hx))) (fun x _ z => by rw [z]; exact ndA), h1.p.disj, Nat.le_trans h1.p.low KA.size, h1.p.both⟩
  have nn : NSide 67 wr.heap.size (w1.setCell ⟨bA, j, none⟩ v2) v2 s2 ps := n2.kept KA (fun x hx z => nA2 x hx z) (fun x _ z => by rw [z]; exact ndA)
  have boxA1 : Two (w1.setCell ⟨bA, j, none⟩ v2) bA 53 k j v v2 := h1.boxA.set hkj.1 hkj.2 v2
  have boxB1 : Two (w1.setCell ⟨bA, j, none⟩ v2) bB 56 k j r r' := h1.boxB.kept KA (fun z => hAB z.symm)
  obtain ⟨csB3, b3, _⟩ := boxB1.kept K3 (fun q => q)
  have ndB : NotData w3 bB := fun cs f y => by rw [b3] at y; simp at y
  have KB : Kept (fun x => x = bB) w3 (w3.setCell ⟨bB, j, none⟩ r2) := (Kept.refl (fun x => x = bB) w3).setCell (p := ⟨bB, j, none⟩) (fun _ => rfl) _
  have p3 := pA.quiet K3
  have nB : ¬ (FP sn bB ∨ FP sr bB) := p3.not b3 (by decide) (by decide) (by decide)
  have nn3 := nn.kept0 K3
  have typB : ∀ {ty : Nat} {b0 : Nat} {vv : Value} {ss : Option (Nat × Option Nat)}, NSide ty b0 w3 vv ss ps → ty ≠ 56 → ∀ x, FP ss x → x ≠ bB := fun n h56 x hx e => by
    subst e
    obtain ⟨cs', t', e, y⟩ := n.typ x hx
    rw [b3] at e
    simp at e
    rcases y with y | y
    · exact h56 (y.symm.trans e.2.symm)
    · rw [y] at e; simp at e
  have szA : wr.heap.size ≤ (w1.setCell ⟨bA, j, none⟩ v2).heap.size := Nat.le_trans K1.size KA.size
  have hw : w.heap.size ≤ wr.heap.size := h.kept.size
  refine ⟨h.kj, ?_, (boxA1.kept K3 (fun q => q)).kept KB (fun z => hAB z), (boxB1.kept K3 (fun q => q)).set hkj.1 hkj.2 r2, h.low, ⟨?_, ?_, p3.disj, Nat.le_trans p3.low KB.size, p3.both⟩, ⟨?_, ?_, fun x hx y => ?_, Nat.le_trans p3.low KB.size, by rw [← e2, ← f2]; exact p3.both⟩, fun x z y => ?_⟩
  · exact ((h1.kept.setCell (p := ⟨bA, j, none⟩) (fun q => absurd q (by have := h.low.1; show ¬ bA < w.heap.size; omega)) _).trans K3 (fun _ _ q => q)).setCell (p := ⟨bB, j, none⟩) (fun q => absurd q (by have := h.low.2; show ¬ bB < w.heap.size; omega)) _
  · exact p3.net.kept KB (fun x hx z => nB (.inl (by have z : x = bB := z; rw [← z]; exact hx))) (fun x _ z => by rw [z]; exact ndB)
  · exact p3.ref.kept KB (fun x hx z => nB (.inr (by have z : x = bB := z; rw [← z]; exact hx))) (fun x _ z => by rw [z]; exact ndB)
  · exact (nn3.kept KB (fun x hx z => typB nn3 (by decide) x hx z) (fun x _ z => by rw [z]; exact ndB)).mono hw
  · exact (m2.kept KB (fun x hx z => typB m2 (by decide) x hx z) (fun x _ z => by rw [z]; exact ndB)).mono (Nat.le_trans hw szA)
  · have a1 := (nn.fp x hx).1
    have a2 := (m2.fp x y).2.1
    omega
  · have a1 := (h.p.fp x z).1
    rcases y with y | y
    · have := (nn.fp x y).2.1; omega
    · have := (m2.fp x y).2.1; omega
end Go.Proofs.Ytojfnehdanhgiaa
