import Derived.Test.YtbnnmelkbjkkjaaRefF
namespace Go.Proofs.Ytbnnmelkbjkkjaa
open Go.RowKit

theorem Try.info95 : (Try.prog.info? 95).map (fun i => (i.zero, i.size, i.bytes)) = some (some (.agg #[.bool false, .slice none 0 0]), 2, 32) := by kernel_rfl
theorem lim_wide32 {n : Nat} (h : n ≤ Lim) : (n + n / 4 + 192) * 32 ≤ 281474976710656 := by unfold Lim at h; omega
theorem enter68 (vs : Array Value) (w : World) : (callFunc 68 vs).run Try.prog w = .ok (.enter 68 vs) w := by kernel_rfl
theorem enter69 (vs : Array Value) (w : World) : (callFunc 69 vs).run Try.prog w = .ok (.enter 69 vs) w := by kernel_rfl
theorem src_ra {w : World} {b : Nat} {e : RA} {v u : Value} (h : w.heap[b]? = some (.cells #[v, u] 95 (0, 0))) (hv : v = .bool e.w) (hu : u = .slice e.a e.n e.c) : Src Try.prog 2 79 (.slice (some ⟨b, 0, none⟩) 1 1) 1 e.cells w := by
  subst hv hu
  exact Src.ofSlice w Try.underlying79 ⟨b, 0, none⟩ 1 1 e.cells rfl (fun j u hj => by
    rw [Addr.add_none, Nat.zero_add, cell_of_row w b j _ 95 (0, 0) h]
    have : e.cells = (#[.bool e.w, .slice e.a e.n e.c] : Array Value).toList := rfl
    rw [this] at hj
    simpa using hj) (by have := rcells_ones [e]; rw [rcells_one'] at this; exact this)
theorem put_counted (A : AB) (k : Int) (i : Nat) (l : List Nat) : (A.put k i l).counted = A.counted.put k i l := by
  unfold AB.put AB.add AB.more AB.sync AB.switch AB.counted
  (repeat' split) <;> rfl
/-- One more loose act, in slot 0. -/
theorem IsR.more0 {base B : Nat} {w W w2 : World} {r : RK} {e : RA} {p : Option Addr} {c : Nat} (h : IsR base w B r) (K : Kept (fun _ => False) w W) (ge : e.Good W) (he : ∀ k, blockOf e.a = some k → w.heap.size ≤ k ∧ k < W.heap.size)
    (ho : w2.ownsRow base 95 2 (.slice p (r.s0.ln + 1) c) (r.s0.ln + 1) (rcells r.s0.L ++ e.cells)) (hg : W.grownBy w2 (Value.slice r.s0.la r.s0.ln r.s0.lc).ownBlock) (hn : (Value.slice p (r.s0.ln + 1) c).ownBlock = (Value.slice r.s0.la r.s0.ln r.s0.lc).ownBlock ∨ ((Value.slice p (r.s0.ln + 1) c).ownBlock = some W.heap.size ∧ W.grownBy w2 none)) :
    w2.heap[B]? = some (.cells r.cells 82 (0, 0)) ∧ IsR base (w2.setCell ⟨B, 2, none⟩ (.slice p (r.s0.ln + 1) c)) B { r with s0 := { r.s0 with la := p, ln := r.s0.ln + 1, lc := c, L := r.s0.L ++ [e] } } ∧ RM w (w2.setCell ⟨B, 2, none⟩ (.slice p (r.s0.ln + 1) c)) B r { r with s0 := { r.s0 with la := p, ln := r.s0.ln + 1, lc := c, L := r.s0.L ++ [e] } } := by
  rw [blockOf_own] at hg hn
  rw [blockOf_own] at hn
  have hBs := block_lt h.blk
  have hs := K.size
  have K2 : Kept (fun k => blockOf r.s0.la = some k) W w2 := (Kept.refl _ _).grown hg (fun k _ z => z.symm ▸ rfl)
  have KW2 : Kept (fun k => blockOf r.s0.la = some k) w w2 := (K.mono (fun _ _ z => z.elim)).trans K2 (fun _ _ z => z)
  have hBl : ¬ blockOf r.s0.la = some B := fun z => h.u0 (.inr (.inl z))
  have bk2 := KW2.get h.blk hBl
  have K3 : Kept (fun k => k = B) w2 (w2.setCell ⟨B, 2, none⟩ (.slice p (r.s0.ln + 1) c)) := (Kept.refl (fun k => k = B) w2).setCell (p := ⟨B, 2, none⟩) (fun _ => rfl) _
  have KA : Kept (fun k => k = B ∨ blockOf r.s0.la = some k) w (w2.setCell ⟨B, 2, none⟩ (.slice p (r.s0.ln + 1) c)) := (KW2.mono (fun k _ z => .inr z)).setCell (p := ⟨B, 2, none⟩) (fun _ => .inl rfl) _
  have pn : ∀ k, blockOf p = some k → blockOf r.s0.la = some k ∨ W.heap.size ≤ k := fun k hk => by
    rcases hn with z | ⟨z, _⟩
    · exact .inl (by rw [← z]; exact hk)
    · rw [z] at hk; simp at hk; exact .inr (by omega)
  have pB : ∀ k, blockOf p = some k → k ≠ B := fun k hk z => by
    subst z
    rcases pn k hk with q | q
    · exact hBl q
    · omega
  have S' : IsRS base (w2.setCell ⟨B, 2, none⟩ (.slice p (r.s0.ln + 1) c)) { r.s0 with la := p, ln := r.s0.ln + 1, lc := c, L := r.s0.L ++ [e] } := by
    refine ⟨KA.owns h.z0.own (fun k hk z => ?_), h.z0.bytes, K3.owns (by rw [rcells_append, rcells_one']; exact ho) (fun k hk => pB k (by rw [← hk]; exact (blockOf_own ..).symm)), fun x hx => ?_, fun k hk x hx z => ?_⟩
    · have hk2 : blockOf r.s0.a = some k := by rw [← hk]; exact (blockOf_own ..).symm
      rcases z with z | z
      · exact h.u0 (.inl (by rw [← z]; exact hk2))
      · exact h.z0.ne k hk2 z
    · rcases List.mem_append.1 hx with z | z
      · refine (h.z0.good x z).off KA (fun k hk q => ?_)
        rcases q with q | q
        · exact h.u0 (.inr (.inr ⟨x, z, by rw [← q]; exact hk⟩))
        · exact h.z0.far k q x z hk
      · rw [List.mem_singleton.1 z]
        refine (ge.off K2 (fun k hk q => ?_)).off K3 (fun k hk q => ?_)
        · have := (own_lt h.z0.lown k q).2
          have := he k hk
          omega
        · have := he k hk
          have q : k = B := q
          omega
    · rcases List.mem_append.1 hx with m | m
      · rcases pn k hk with q | q
        · exact h.z0.far k q x m z
        · have := (h.z0.good x m).lt z
          omega
      · rw [List.mem_singleton.1 m] at z
        have := he k z
        rcases pn k hk with q | q
        · have := (own_lt h.z0.lown k q).2
          omega
        · omega
  have U' : ∀ k, RSl.Uses { r.s0 with la := p, ln := r.s0.ln + 1, lc := c, L := r.s0.L ++ [e] } k → r.s0.Uses k ∨ w.heap.size ≤ k := fun k hk => by
    rcases hk with z | z | ⟨x, hx, z⟩
    · exact .inl (.inl z)
    · rcases pn k z with q | q
      · exact .inl (.inr (.inl q))
      · exact .inr (by omega)
    · rcases List.mem_append.1 hx with m | m
      · exact .inl (.inr (.inr ⟨x, m, z⟩))
      · rw [List.mem_singleton.1 m] at z
        exact .inr (he k z).1
  have O' : IsRS base (w2.setCell ⟨B, 2, none⟩ (.slice p (r.s0.ln + 1) c)) r.s1 := h.z1.off KA (fun k hk z => by
    rcases z with z | z
    · exact h.u1 (by rw [← z]; exact hk)
    · exact h.l01 k z hk)
  refine ⟨bk2, ⟨set_heap bk2 2 _, h.low, S', O', fun z => ?_, h.u1, fun k hk z => ?_, fun k hk z => ?_, h.two⟩, KA.mono (fun k _ z => ?_), fun k hk => ?_, fun k hk => ?_⟩
  · rcases U' B z with q | q
    · exact h.u0 q
    · omega
  · rcases pn k hk with q | q
    · exact h.l01 k q z
    · have := h.z1.lt z; omega
  · rcases U' k z with q | q
    · exact h.l10 k hk q
    · have := (own_lt h.z1.lown k hk).2; omega
  · rcases z with z | z
    · exact .inl z
    · exact .inr (.inl z)
  · rcases hk with z | z | z
    · exact .inl (.inl z)
    · rcases U' k z with q | q
      · exact .inl (.inr (.inl q))
      · exact .inr q
    · exact .inl (.inr (.inr z))
  · rcases hk with z | z | z
    · exact .inl (.inl z)
    · rcases pn k z with q | q
      · exact .inl (.inr (.inl q))
      · exact .inr (by omega)
    · exact .inl (.inr (.inr z))
/-- New bytes that last and nothing loose, in slot 0. -/
theorem IsR.synced0 {base B : Nat} {w w2 : World} {r : RK} {a : Option Addr} {n c : Nat} {l : List Nat} (h : IsR base w B r) (K : Kept (fun _ => False) w w2) (ho : w2.ownsRow w.heap.size 5 1 (.slice a n c) n (cellsOf l)) (hb : ∀ c ∈ l, c < 256) :
    IsR base ((w2.setCell ⟨B, 0, none⟩ (.slice a n c)).setCell ⟨B, 2, none⟩ (.slice none 0 0)) B { r with s0 := ⟨a, n, c, l, none, 0, 0, []⟩ } ∧ RM w ((w2.setCell ⟨B, 0, none⟩ (.slice a n c)).setCell ⟨B, 2, none⟩ (.slice none 0 0)) B r { r with s0 := ⟨a, n, c, l, none, 0, 0, []⟩ } := by
  have hBs := block_lt h.blk
  have hlow := h.low
  have K3 : Kept (fun k => k = B) w2 ((w2.setCell ⟨B, 0, none⟩ (.slice a n c)).setCell ⟨B, 2, none⟩ (.slice none 0 0)) := ((Kept.refl (fun k => k = B) w2).setCell (p := ⟨B, 0, none⟩) (fun _ => rfl) _).setCell (p := ⟨B, 2, none⟩) (fun _ => rfl) _
  have KA : Kept (fun k => k = B) w ((w2.setCell ⟨B, 0, none⟩ (.slice a n c)).setCell ⟨B, 2, none⟩ (.slice none 0 0)) := (K.mono (fun _ _ z => z.elim)).trans K3 (fun _ _ z => z)
  have na : ∀ k, blockOf a = some k → w.heap.size ≤ k := fun k hk => (own_lt ho k hk).1
  have U' : ∀ k, RSl.Uses ⟨a, n, c, l, none, 0, 0, []⟩ k → w.heap.size ≤ k := fun k hk => by
    rcases hk with z | z | ⟨x, hx, _⟩
    · exact na k z
    · simp [blockOf] at z
    · simp at hx
  have S' : IsRS base ((w2.setCell ⟨B, 0, none⟩ (.slice a n c)).setCell ⟨B, 2, none⟩ (.slice none 0 0)) ⟨a, n, c, l, none, 0, 0, []⟩ := ⟨owns_mono (K3.owns ho (fun k hk z => by have z : k = B := z; have := na k (by rw [← hk]; exact (blockOf_own ..).symm); omega)) (by omega), hb, World.ownsRow_nil _ _ _ _, fun e he => by simp at he, fun k hk => by simp [blockOf] at hk⟩
  have O' : IsRS base ((w2.setCell ⟨B, 0, none⟩ (.slice a n c)).setCell ⟨B, 2, none⟩ (.slice none 0 0)) r.s1 := h.z1.off KA (fun k hk z => h.u1 (by rw [← z]; exact hk))
  refine ⟨⟨set_heap (set_heap (K.get h.blk (fun z => z)) 0 _) 2 _, h.low, S', O', fun z => by have := U' B z; omega, h.u1, fun k hk z => ?_, fun k hk z => ?_, h.two⟩, KA.mono (fun k _ z => .inl z), fun k hk => ?_, fun k hk => ?_⟩
  · simp [blockOf] at hk
  · have := U' k z
    have := (own_lt h.z1.lown k hk).2
    omega
  · rcases hk with z | z | z
    · exact .inl (.inl z)
    · exact .inr (U' k z)
    · exact .inl (.inr (.inr z))
  · rcases hk with z | z | z
    · exact .inl (.inl z)
    · simp [blockOf] at z
    · exact .inl (.inr (.inr z))
/-- One more loose act, in slot 1. -/
theorem IsR.more1 {base B : Nat} {w W w2 : World} {r : RK} {e : RA} {p : Option Addr} {c : Nat} (h : IsR base w B r) (K : Kept (fun _ => False) w W) (ge : e.Good W) (he : ∀ k, blockOf e.a = some k → w.heap.size ≤ k ∧ k < W.heap.size)
    (ho : w2.ownsRow base 95 2 (.slice p (r.s1.ln + 1) c) (r.s1.ln + 1) (rcells r.s1.L ++ e.cells)) (hg : W.grownBy w2 (Value.slice r.s1.la r.s1.ln r.s1.lc).ownBlock) (hn : (Value.slice p (r.s1.ln + 1) c).ownBlock = (Value.slice r.s1.la r.s1.ln r.s1.lc).ownBlock ∨ ((Value.slice p (r.s1.ln + 1) c).ownBlock = some W.heap.size ∧ W.grownBy w2 none)) :
    w2.heap[B]? = some (.cells r.cells 82 (0, 0)) ∧ IsR base (w2.setCell ⟨B, 3, none⟩ (.slice p (r.s1.ln + 1) c)) B { r with s1 := { r.s1 with la := p, ln := r.s1.ln + 1, lc := c, L := r.s1.L ++ [e] } } ∧ RM w (w2.setCell ⟨B, 3, none⟩ (.slice p (r.s1.ln + 1) c)) B r { r with s1 := { r.s1 with la := p, ln := r.s1.ln + 1, lc := c, L := r.s1.L ++ [e] } } := by
  rw [blockOf_own] at hg hn
  rw [blockOf_own] at hn
  have hBs := block_lt h.blk
  have hs := K.size
  have K2 : Kept (fun k => blockOf r.s1.la = some k) W w2 := (Kept.refl _ _).grown hg (fun k _ z => z.symm ▸ rfl)
  have KW2 : Kept (fun k => blockOf r.s1.la = some k) w w2 := (K.mono (fun _ _ z => z.elim)).trans K2 (fun _ _ z => z)
  have hBl : ¬ blockOf r.s1.la = some B := fun z => h.u1 (.inr (.inl z))
  have bk2 := KW2.get h.blk hBl
  have K3 : Kept (fun k => k = B) w2 (w2.setCell ⟨B, 3, none⟩ (.slice p (r.s1.ln + 1) c)) := (Kept.refl (fun k => k = B) w2).setCell (p := ⟨B, 3, none⟩) (fun _ => rfl) _
  have KA : Kept (fun k => k = B ∨ blockOf r.s1.la = some k) w (w2.setCell ⟨B, 3, none⟩ (.slice p (r.s1.ln + 1) c)) := (KW2.mono (fun k _ z => .inr z)).setCell (p := ⟨B, 3, none⟩) (fun _ => .inl rfl) _
  have pn : ∀ k, blockOf p = some k → blockOf r.s1.la = some k ∨ W.heap.size ≤ k := fun k hk => by
    rcases hn with z | ⟨z, _⟩
    · exact .inl (by rw [← z]; exact hk)
    · rw [z] at hk; simp at hk; exact .inr (by omega)
  have pB : ∀ k, blockOf p = some k → k ≠ B := fun k hk z => by
    subst z
    rcases pn k hk with q | q
    · exact hBl q
    · omega
  have S' : IsRS base (w2.setCell ⟨B, 3, none⟩ (.slice p (r.s1.ln + 1) c)) { r.s1 with la := p, ln := r.s1.ln + 1, lc := c, L := r.s1.L ++ [e] } := by
    refine ⟨KA.owns h.z1.own (fun k hk z => ?_), h.z1.bytes, K3.owns (by rw [rcells_append, rcells_one']; exact ho) (fun k hk => pB k (by rw [← hk]; exact (blockOf_own ..).symm)), fun x hx => ?_, fun k hk x hx z => ?_⟩
    · have hk2 : blockOf r.s1.a = some k := by rw [← hk]; exact (blockOf_own ..).symm
      rcases z with z | z
      · exact h.u1 (.inl (by rw [← z]; exact hk2))
      · exact h.z1.ne k hk2 z
    · rcases List.mem_append.1 hx with z | z
      · refine (h.z1.good x z).off KA (fun k hk q => ?_)
        rcases q with q | q
        · exact h.u1 (.inr (.inr ⟨x, z, by rw [← q]; exact hk⟩))
        · exact h.z1.far k q x z hk
      · rw [List.mem_singleton.1 z]
        refine (ge.off K2 (fun k hk q => ?_)).off K3 (fun k hk q => ?_)
        · have := (own_lt h.z1.lown k q).2
          have := he k hk
          omega
        · have := he k hk
          have q : k = B := q
          omega
    · rcases List.mem_append.1 hx with m | m
      · rcases pn k hk with q | q
        · exact h.z1.far k q x m z
        · have := (h.z1.good x m).lt z
          omega
      · rw [List.mem_singleton.1 m] at z
        have := he k z
        rcases pn k hk with q | q
        · have := (own_lt h.z1.lown k q).2
          omega
        · omega
  have U' : ∀ k, RSl.Uses { r.s1 with la := p, ln := r.s1.ln + 1, lc := c, L := r.s1.L ++ [e] } k → r.s1.Uses k ∨ w.heap.size ≤ k := fun k hk => by
    rcases hk with z | z | ⟨x, hx, z⟩
    · exact .inl (.inl z)
    · rcases pn k z with q | q
      · exact .inl (.inr (.inl q))
      · exact .inr (by omega)
    · rcases List.mem_append.1 hx with m | m
      · exact .inl (.inr (.inr ⟨x, m, z⟩))
      · rw [List.mem_singleton.1 m] at z
        exact .inr (he k z).1
  have O' : IsRS base (w2.setCell ⟨B, 3, none⟩ (.slice p (r.s1.ln + 1) c)) r.s0 := h.z0.off KA (fun k hk z => by
    rcases z with z | z
    · exact h.u0 (by rw [← z]; exact hk)
    · exact h.l10 k z hk)
  refine ⟨bk2, ⟨set_heap bk2 3 _, h.low, O', S', h.u0, fun z => ?_, fun k hk z => ?_, fun k hk z => ?_, h.two⟩, KA.mono (fun k _ z => ?_), fun k hk => ?_, fun k hk => ?_⟩
  · rcases U' B z with q | q
    · exact h.u1 q
    · omega
  · rcases U' k z with q | q
    · exact h.l01 k hk q
    · have := (own_lt h.z0.lown k hk).2; omega
  · rcases pn k hk with q | q
    · exact h.l10 k q z
    · have := h.z0.lt z; omega
  · rcases z with z | z
    · exact .inl z
    · exact .inr (.inr z)
  · rcases hk with z | z | z
    · exact .inl (.inl z)
    · exact .inl (.inr (.inl z))
    · rcases U' k z with q | q
      · exact .inl (.inr (.inr q))
      · exact .inr q
  · rcases hk with z | z | z
    · exact .inl (.inl z)
    · exact .inl (.inr (.inl z))
    · rcases pn k z with q | q
      · exact .inl (.inr (.inr q))
      · exact .inr (by omega)
/-- New bytes that last and nothing loose, in slot 1. -/
theorem IsR.synced1 {base B : Nat} {w w2 : World} {r : RK} {a : Option Addr} {n c : Nat} {l : List Nat} (h : IsR base w B r) (K : Kept (fun _ => False) w w2) (ho : w2.ownsRow w.heap.size 5 1 (.slice a n c) n (cellsOf l)) (hb : ∀ c ∈ l, c < 256) :
    IsR base ((w2.setCell ⟨B, 1, none⟩ (.slice a n c)).setCell ⟨B, 3, none⟩ (.slice none 0 0)) B { r with s1 := ⟨a, n, c, l, none, 0, 0, []⟩ } ∧ RM w ((w2.setCell ⟨B, 1, none⟩ (.slice a n c)).setCell ⟨B, 3, none⟩ (.slice none 0 0)) B r { r with s1 := ⟨a, n, c, l, none, 0, 0, []⟩ } := by
  have hBs := block_lt h.blk
  have hlow := h.low
  have K3 : Kept (fun k => k = B) w2 ((w2.setCell ⟨B, 1, none⟩ (.slice a n c)).setCell ⟨B, 3, none⟩ (.slice none 0 0)) := ((Kept.refl (fun k => k = B) w2).setCell (p := ⟨B, 1, none⟩) (fun _ => rfl) _).setCell (p := ⟨B, 3, none⟩) (fun _ => rfl) _
  have KA : Kept (fun k => k = B) w ((w2.setCell ⟨B, 1, none⟩ (.slice a n c)).setCell ⟨B, 3, none⟩ (.slice none 0 0)) := (K.mono (fun _ _ z => z.elim)).trans K3 (fun _ _ z => z)
  have na : ∀ k, blockOf a = some k → w.heap.size ≤ k := fun k hk => (own_lt ho k hk).1
  have U' : ∀ k, RSl.Uses ⟨a, n, c, l, none, 0, 0, []⟩ k → w.heap.size ≤ k := fun k hk => by
    rcases hk with z | z | ⟨x, hx, _⟩
    · exact na k z
    · simp [blockOf] at z
    · simp at hx
  have S' : IsRS base ((w2.setCell ⟨B, 1, none⟩ (.slice a n c)).setCell ⟨B, 3, none⟩ (.slice none 0 0)) ⟨a, n, c, l, none, 0, 0, []⟩ := ⟨owns_mono (K3.owns ho (fun k hk z => by have z : k = B := z; have := na k (by rw [← hk]; exact (blockOf_own ..).symm); omega)) (by omega), hb, World.ownsRow_nil _ _ _ _, fun e he => by simp at he, fun k hk => by simp [blockOf] at hk⟩
  have O' : IsRS base ((w2.setCell ⟨B, 1, none⟩ (.slice a n c)).setCell ⟨B, 3, none⟩ (.slice none 0 0)) r.s0 := h.z0.off KA (fun k hk z => h.u0 (by rw [← z]; exact hk))
  refine ⟨⟨set_heap (set_heap (K.get h.blk (fun z => z)) 1 _) 3 _, h.low, O', S', h.u0, fun z => by have := U' B z; omega, fun k hk z => ?_, fun k hk z => ?_, h.two⟩, KA.mono (fun k _ z => .inl z), fun k hk => ?_, fun k hk => ?_⟩
  · have := U' k z
    have := (own_lt h.z0.lown k hk).2
    omega
  · simp [blockOf] at hk
  · rcases hk with z | z | z
    · exact .inl (.inl z)
    · exact .inl (.inr (.inl z))
    · exact .inr (U' k z)
  · rcases hk with z | z | z
    · exact .inl (.inl z)
    · exact .inl (.inr (.inl z))
    · simp [blockOf] at z
end Go.Proofs.Ytbnnmelkbjkkjaa

namespace Go.Proofs.Ytbnnmelkbjkkjaa
open Go.RowKit

set_option maxRecDepth 100000 in
theorem rAct_dead (base B : Nat) (d : RK) (k s : Int) (a : Option Addr) (n c : Nat) (w : World) (h : IsR base w B d) (hd : d.dead = true) :
    Calls Try.prog 70 #[.pointer (some ⟨B, 0, none⟩), .int .i64 k, .int .i64 s, .slice a n c] w fun x w' => x = .returned (.int .i64 60) ∧ w' = w := by
  have c8 : w.cell? ⟨B, 8, none⟩ = some (.bool true) := by rw [← hd]; exact h.cell 8 rfl
  clear h hd
  go_enter Try.func70, Try.ntmps70
  go_wp2_with fail
  go_ret
  exact ⟨rfl, rfl⟩
set_option maxRecDepth 100000 in
theorem rAct_off (base B : Nat) (d : RK) (k s : Int) (a : Option Addr) (n c : Nat) (w : World) (h : IsR base w B d) (hd : d.dead = false) (hs : ¬ (s = 0 ∨ s = 1)) :
    Calls Try.prog 70 #[.pointer (some ⟨B, 0, none⟩), .int .i64 k, .int .i64 s, .slice a n c] w fun x w' => x = .returned (.int .i64 61) ∧ w' = w := by
  have c8 : w.cell? ⟨B, 8, none⟩ = some (.bool false) := by rw [← hd]; exact h.cell 8 rfl
  have n0 : (s != 0) = true := by simp; omega
  have n1 : (s != 1) = true := by simp; omega
  clear h hd hs
  go_enter Try.func70, Try.ntmps70
  go_wp2_with fail
  go_ret
  exact ⟨rfl, rfl⟩
set_option maxRecDepth 100000 in
theorem rAct_cur (base B : Nat) (d : RK) (j : Nat) (hj : j = 0 ∨ j = 1) (a : Option Addr) (n c : Nat) (w : World) (h : IsR base w B d) (hd : d.dead = false) (hc : d.cur = j) :
    Calls Try.prog 70 #[.pointer (some ⟨B, 0, none⟩), .int .i64 2, .int .i64 (j : Int), .slice a n c] w fun x w' => x = .returned (.int .i64 61) ∧ w' = w := by
  have c8 : w.cell? ⟨B, 8, none⟩ = some (.bool false) := by rw [← hd]; exact h.cell 8 rfl
  have c4 : w.cell? ⟨B, 4, none⟩ = some (.int .i64 (j : Int)) := by rw [← hc]; exact h.cell 4 rfl
  clear h hd hc
  rcases hj with rfl | rfl
  · go_enter Try.func70, Try.ntmps70
    go_wp2_with fail
    go_ret
    exact ⟨rfl, rfl⟩
  · go_enter Try.func70, Try.ntmps70
    go_wp2_with fail
    go_ret
    exact ⟨rfl, rfl⟩
set_option maxRecDepth 100000 in
theorem rAct_stopN (base B : Nat) (d : RK) (k : Int) (hk : k = 1 ∨ k = 2 ∨ k = 3 ∨ k = 4) (j : Nat) (hj : j = 0 ∨ j = 1) (a : Option Addr) (n c : Nat) (w : World) (h : IsR base w B d) (hd : d.dead = false) (hc : k = 2 → ¬ d.cur = j) (hN : d.named = 1) (hdn : d.done = false) :
    Calls Try.prog 70 #[.pointer (some ⟨B, 0, none⟩), .int .i64 k, .int .i64 (j : Int), .slice a n c] w fun x w' => x = .returned (.int .i64 60) ∧ ∃ d', IsR base w' B d' ∧ RM w w' B d d' ∧ d'.ab = d.ab.stopped := by
  have c8 : w.cell? ⟨B, 8, none⟩ = some (.bool false) := by rw [← hd]; exact h.cell 8 rfl
  have c6 : w.cell? ⟨B, 6, none⟩ = some (.int .i64 1) := by rw [← hN]; exact h.cell 6 rfl
  have c7 : w.cell? ⟨B, 7, none⟩ = some (.bool false) := by rw [← hdn]; exact h.cell 7 rfl
  have c4 : w.cell? ⟨B, 4, none⟩ = some (.int .i64 (d.cur : Int)) := h.cell 4 rfl
  have s6 := h.soft 6
  have s8 := h.soft 8
  have nc : k = 2 → ¬ (j : Int) = (d.cur : Int) := fun z q => hc z (by omega)
  obtain ⟨p1, p2⟩ := h.put (d' := { d with named := 0 }) 6 (.int .i64 0) rfl rfl rfl h.two
  obtain ⟨q1, q2⟩ := p1.put (d' := { d with named := 0, dead := true }) 8 (.bool true) rfl rfl rfl h.two
  have W2 : Hid (IsR base ((w.setCell ⟨B, 6, none⟩ (.int .i64 0)).setCell ⟨B, 8, none⟩ (.bool true)) B { d with named := 0, dead := true } ∧ RM w ((w.setCell ⟨B, 6, none⟩ (.int .i64 0)).setCell ⟨B, 8, none⟩ (.bool true)) B d { d with named := 0, dead := true }) := ⟨q1, p2.trans q2⟩
  have wz : IntKind.i64.wrap (1 - 1) = 0 := by decide
  have wz' : IntKind.i64.wrap 0 = 0 := by decide
  clear h hd hc hN hdn p1 p2 q1 q2
  obtain ⟨cu, hcu⟩ : ∃ cu : Int, cu = (d.cur : Int) := ⟨_, rfl⟩
  rw [← hcu] at c4 nc
  clear hcu
  rcases hk with rfl | rfl | rfl | rfl <;> rcases hj with rfl | rfl
  all_goals
    first
    | (have nc2 := nc rfl; clear nc; go_enter Try.func70, Try.ntmps70; go_wp2_with fail; go_ret; exact ⟨rfl, _, W2.out.1, W2.out.2, rfl⟩)
    | (clear nc; go_enter Try.func70, Try.ntmps70; go_wp2_with fail; go_ret; exact ⟨rfl, _, W2.out.1, W2.out.2, rfl⟩)
end Go.Proofs.Ytbnnmelkbjkkjaa
