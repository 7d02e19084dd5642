import Derived.Test.YtgfglbbfoadiaaaGrow
namespace Go.Proofs.Ytgfglbbfoadiaaa
open Go.RowKit

theorem Try.info28 : (Try.prog.info? 28).map (fun i => (i.zero, i.size, i.bytes)) = some (some (.slice none 0 0), 1, 24) := by kernel_rfl
/-- A list's mark. -/
def mark (k : Nat) : Nat := (k * 5 + 3) % 256
theorem mark_lt (k : Nat) : mark k < 256 := Nat.mod_lt _ (by omega)
/-- A list that was handed out, and the same with seventy more behind it. -/
structure Held where
  p : Option Addr
  n : Nat
  c : Nat
  q : Option Addr
  d : Nat
def Held.lv (h : Held) : Value := .slice h.p h.n h.c
def Held.mv (h : Held) : Value := .slice h.q (h.n + 70) h.d
def reps (n m : Nat) : List Value := cellsOf (List.replicate n m)
structure Holds (base : Nat) (w : World) (m : Nat) (h : Held) : Prop where
  l : w.ownsRow base 5 1 h.lv h.n (reps h.n m)
  x : w.ownsRow base 5 1 h.mv (h.n + 70) (reps (h.n + 70) m)
structure IsB (base : Nat) (w : World) (K : Nat) (hs : List Held) : Prop where
  ex : ∃ vL vM, w.heap[K]? = some (.cells #[vL, vM] 53 (0, 0)) ∧ w.ownsRow base 28 1 vL hs.length (hs.map Held.lv) ∧ w.ownsRow base 28 1 vM hs.length (hs.map Held.mv) ∧ ∀ j, vL.ownBlock = some j → vM.ownBlock ≠ some j
  held : ∀ k (h : k < hs.length), Holds base w (mark k) hs[k]
  low : base ≤ K
/-- The lists' own blocks. -/
def bfoot (hs : List Held) (j : Nat) : Prop := ∃ h ∈ hs, h.lv.ownBlock = some j ∨ h.mv.ownBlock = some j
/-- The book's own blocks. -/
def bookish (base : Nat) (w : World) (j : Nat) : Prop := base ≤ j ∧ ∃ cs t fr, w.heap[j]? = some (.cells cs t fr) ∧ (t = 53 ∨ t = 28)
theorem owns_block {w : World} {base : Nat} {e : TypeId} {size : Nat} {v : Value} {n : Nat} {xs : List Value} (h : w.ownsRow base e size v n xs) {j : Nat} (hj : v.ownBlock = some j) : base ≤ j ∧ ∃ cs, w.heap[j]? = some (.cells cs e (0, 0)) := by
  rcases h.2 with ⟨rfl, _⟩ | ⟨g, cap, cur, rfl, hb, hg, _⟩
  · simp [Value.ownBlock] at hj
  · simp [Value.ownBlock] at hj
    subst hj
    exact ⟨hb, cur, hg⟩
theorem owns_bookish {w : World} {base : Nat} {size : Nat} {v : Value} {n : Nat} {xs : List Value} (h : w.ownsRow base 28 size v n xs) {j : Nat} (hj : v.ownBlock = some j) : bookish base w j := by
  obtain ⟨a, cs, b⟩ := owns_block h hj
  exact ⟨a, cs, 28, (0, 0), b, .inr rfl⟩
theorem not_bookish {base : Nat} {w : World} {j : Nat} {cs : Array Value} {t : TypeId} {fr : Nat × Nat} (h : w.heap[j]? = some (.cells cs t fr)) (h1 : t ≠ 53) (h2 : t ≠ 28) : ¬ bookish base w j := fun ⟨_, cs', t', fr', hb, ht⟩ => by
  rw [h] at hb
  simp at hb
  obtain ⟨_, rfl, _⟩ := hb
  rcases ht with ht | ht
  · exact h1 ht
  · exact h2 ht
theorem IsB.kept {S : Nat → Prop} {base : Nat} {w w' : World} {K : Nat} {hs : List Held} (h : IsB base w K hs) (q : Kept S w w') (h1 : ∀ j, S j → ¬ bookish base w j) (h2 : ∀ j, S j → ¬ bfoot hs j) : IsB base w' K hs := by
  obtain ⟨vL, vM, hb, hl, hm, hd⟩ := h.ex
  refine ⟨⟨vL, vM, q.get hb (fun s => h1 K s ⟨h.low, _, 53, _, hb, .inl rfl⟩), q.owns hl (fun j hj s => h1 j s (owns_bookish hl hj)), q.owns hm (fun j hj s => h1 j s (owns_bookish hm hj)), hd⟩, fun k hk => ?_, h.low⟩
  have hh := h.held k hk
  have mem : hs[k] ∈ hs := List.getElem_mem hk
  exact ⟨q.owns hh.l (fun j hj s => h2 j s ⟨_, mem, .inl hj⟩), q.owns hh.x (fun j hj s => h2 j s ⟨_, mem, .inr hj⟩)⟩
theorem IsB.foot {base : Nat} {w : World} {K : Nat} {hs : List Held} (h : IsB base w K hs) {j : Nat} (hj : bfoot hs j) : base ≤ j ∧ j < w.heap.size ∧ ∃ cs, w.heap[j]? = some (.cells cs 5 (0, 0)) := by
  obtain ⟨x, hx, hj⟩ := hj
  obtain ⟨k, hk, rfl⟩ := List.getElem_of_mem hx
  have hh := h.held k hk
  rcases hj with hj | hj
  · obtain ⟨a, cs, b⟩ := owns_block hh.l hj; exact ⟨a, block_lt b, cs, b⟩
  · obtain ⟨a, cs, b⟩ := owns_block hh.x hj; exact ⟨a, block_lt b, cs, b⟩

theorem reps_step (i m : Nat) (l : List Nat) (h : i < l.length) : (cellsOf (List.replicate i m ++ l.drop i)).set i (.int .u8 (m : Int)) = cellsOf (List.replicate (i + 1) m ++ l.drop (i + 1)) := by
  have e : (List.replicate i m ++ l.drop i).set i m = List.replicate (i + 1) m ++ l.drop (i + 1) := by
    rw [List.set_append_right _ _ (by simp), List.length_replicate, Nat.sub_self, List.drop_eq_getElem_cons h, List.set_cons_zero, List.replicate_succ', List.append_assoc]
    rfl
  rw [← e]
  unfold cellsOf
  rw [List.map_set]
theorem reps_snoc (n m : Nat) : reps n m ++ cellsOf [m] = reps (n + 1) m := by
  unfold reps
  rw [← cellsOf_append, List.replicate_succ']
theorem reps_take (n k m : Nat) (h : k ≤ n) : (reps n m).take k = reps k m := by
  unfold reps cellsOf
  rw [← List.map_take, List.take_replicate, Nat.min_eq_left h]

/-- Between the two lists that the book takes. -/
structure Mid (base : Nat) (w : World) (K : Nat) (hs : List Held) (v : Value) (n m : Nat) (vL vM : Value) : Prop where
  blk : w.heap[K]? = some (.cells #[vL, vM] 53 (0, 0))
  rowL : w.ownsRow base 28 1 vL (hs.length + 1) (hs.map Held.lv ++ [v])
  rowM : w.ownsRow base 28 1 vM hs.length (hs.map Held.mv)
  dis : ∀ j, vL.ownBlock = some j → vM.ownBlock ≠ some j
  held : ∀ k (h : k < hs.length), Holds base w (mark k) hs[k]
  own : w.ownsRow base 5 1 v n (reps n m)
  low : base ≤ K
theorem Mid.keptQ {S : Nat → Prop} {base : Nat} {w w' : World} {K : Nat} {hs : List Held} {v : Value} {n m : Nat} {vL vM : Value} (h : Mid base w K hs v n m vL vM) (q : Kept S w w') (h1 : ∀ j, S j → ¬ bookish base w j) (h2 : ∀ j, S j → ¬ bfoot hs j)
    (ho : w'.ownsRow base 5 1 v n (reps n m)) : Mid base w' K hs v n m vL vM := by
  refine ⟨q.get h.blk (fun s => h1 K s ⟨h.low, _, 53, _, h.blk, .inl rfl⟩), q.owns h.rowL (fun j hj s => h1 j s (owns_bookish h.rowL hj)), q.owns h.rowM (fun j hj s => h1 j s (owns_bookish h.rowM hj)), h.dis, fun k hk => ?_, ho, h.low⟩
  have hh := h.held k hk
  have mem : hs[k] ∈ hs := List.getElem_mem hk
  exact ⟨q.owns hh.l (fun j hj s => h2 j s ⟨_, mem, .inl hj⟩), q.owns hh.x (fun j hj s => h2 j s ⟨_, mem, .inr hj⟩)⟩
theorem src_one (w : World) (v : Value) (h1 : v.oneCell' = true) : Src Try.prog 1 51 (.slice (some ⟨w.heap.size, 0, none⟩) 1 1) 1 [v] (w.alloc (.cells #[v] 28)) :=
  Src.ofSlice _ Try.underlying51 _ 1 1 [v] rfl (World.news_of_block (cs := #[v]) (t := 28) (fr := (0, 0)) (heap_alloc_new w _)) (fun u hu => by simp at hu; subst hu; exact h1)

/-- Behind the first loop: the list goes into the book. -/
theorem Mid.start {base : Nat} {w w2 : World} {K : Nat} {hs : List Held} {p : Option Addr} {n c m : Nat} {vL vM vL2 : Value} (low : base ≤ K) (blk : w.heap[K]? = some (.cells #[vL, vM] 53 (0, 0))) (rowL : w.ownsRow base 28 1 vL hs.length (hs.map Held.lv)) (rowM : w.ownsRow base 28 1 vM hs.length (hs.map Held.mv))
    (dis : ∀ j, vL.ownBlock = some j → vM.ownBlock ≠ some j) (held : ∀ k (h : k < hs.length), Holds base w (mark k) hs[k]) (own : w.ownsRow base 5 1 (.slice p n c) n (reps n m))
    (row2 : w2.ownsRow base 28 1 vL2 (hs.length + 1) (hs.map Held.lv ++ [.slice p n c])) (g : Grew (w.alloc (.cells #[.slice p n c] 28)) w2 vL vL2 hs.length 1) :
    Mid base (w2.setCell ⟨K, 0, none⟩ vL2) K hs (.slice p n c) n m vL2 vM ∧ Kept (fun j => j = K ∨ vL.ownBlock = some j) w (w2.setCell ⟨K, 0, none⟩ vL2) := by
  have k1 : Kept (fun j => vL.ownBlock = some j) w w2 := ((Kept.refl _ w).alloc _).trans g.kept (fun _ _ q => q)
  have kne : vL.ownBlock ≠ some K := own_ne blk rowL (by decide)
  have b2 := k1.get blk kne
  have k2 : Kept (fun j => j = K) w2 (w2.setCell ⟨K, 0, none⟩ vL2) := (Kept.refl (fun j => j = K) w2).setCell (p := ⟨K, 0, none⟩) (fun _ => rfl) _
  have kk : Kept (fun j => j = K ∨ vL.ownBlock = some j) w (w2.setCell ⟨K, 0, none⟩ vL2) := (k1.mono (S' := fun j => j = K ∨ vL.ownBlock = some j) (fun _ _ q => .inr q)).trans k2 (fun _ _ q => .inl q)
  have fives : ∀ {v : Value} {a : Nat} {xs : List Value}, w.ownsRow base 5 1 v a xs → (w2.setCell ⟨K, 0, none⟩ vL2).ownsRow base 5 1 v a xs := fun ho => kk.owns ho (fun j hj q => by
    obtain ⟨_, cs, hb⟩ := owns_block ho hj
    rcases q with q | q
    · subst q; rw [blk] at hb; simp at hb
    · exact (own_ne hb rowL (by decide)) q)
  refine ⟨⟨heap_set b2 0 vL2, k2.owns row2 (fun j hj q => own_ne b2 row2 (by decide) (q ▸ hj)), kk.owns rowM (fun j hj q => ?_), fun j hj hm => ?_, fun k hk => ⟨fives (held k hk).l, fives (held k hk).x⟩, fives own, low⟩, kk⟩
  · rcases q with q | q
    · exact own_ne blk rowM (by decide) (q ▸ hj)
    · exact dis j q hj
  · rcases g.near j hj with q | q
    · exact dis j q hm
    · have := (rowM.lt j hm).2
      simp at q
      omega
/-- The end: the longer list goes into the book. -/
theorem Mid.done {base : Nat} {w w2 : World} {K : Nat} {hs : List Held} {p q : Option Addr} {n c d : Nat} {vL vM vM2 : Value} (h : Mid base w K hs (.slice p n c) n (mark hs.length) vL vM) (ox : w.ownsRow base 5 1 (.slice q (n + 70) d) (n + 70) (reps (n + 70) (mark hs.length)))
    (row2 : w2.ownsRow base 28 1 vM2 (hs.length + 1) (hs.map Held.mv ++ [.slice q (n + 70) d])) (g : Grew (w.alloc (.cells #[.slice q (n + 70) d] 28)) w2 vM vM2 hs.length 1) :
    IsB base (w2.setCell ⟨K, 1, none⟩ vM2) K (hs ++ [⟨p, n, c, q, d⟩]) ∧ Kept (fun j => j = K ∨ vM.ownBlock = some j) w (w2.setCell ⟨K, 1, none⟩ vM2) := by
  have k1 : Kept (fun j => vM.ownBlock = some j) w w2 := ((Kept.refl _ w).alloc _).trans g.kept (fun _ _ q => q)
  have kne : vM.ownBlock ≠ some K := own_ne h.blk h.rowM (by decide)
  have b2 := k1.get h.blk kne
  have k2 : Kept (fun j => j = K) w2 (w2.setCell ⟨K, 1, none⟩ vM2) := (Kept.refl (fun j => j = K) w2).setCell (p := ⟨K, 1, none⟩) (fun _ => rfl) _
  have kk : Kept (fun j => j = K ∨ vM.ownBlock = some j) w (w2.setCell ⟨K, 1, none⟩ vM2) := (k1.mono (S' := fun j => j = K ∨ vM.ownBlock = some j) (fun _ _ q => .inr q)).trans k2 (fun _ _ q => .inl q)
  have fives : ∀ {v : Value} {a : Nat} {xs : List Value}, w.ownsRow base 5 1 v a xs → (w2.setCell ⟨K, 1, none⟩ vM2).ownsRow base 5 1 v a xs := fun ho => kk.owns ho (fun j hj q => by
    obtain ⟨_, cs, hb⟩ := owns_block ho hj
    rcases q with q | q
    · subst q; rw [h.blk] at hb; simp at hb
    · exact (own_ne hb h.rowM (by decide)) q)
  refine ⟨⟨⟨vL, vM2, heap_set b2 1 vM2, ?_, ?_, fun j hj hm => ?_⟩, fun k hk => ?_, h.low⟩, kk⟩
  · have := kk.owns h.rowL (fun j hj q => by
      rcases q with q | q
      · exact own_ne h.blk h.rowL (by decide) (q ▸ hj)
      · exact h.dis j hj q)
    simpa [Held.lv] using this
  · have := k2.owns row2 (fun j hj q => own_ne b2 row2 (by decide) (q ▸ hj))
    simpa [Held.mv] using this
  · rcases g.near j hm with q | q
    · exact h.dis j hj q
    · have := (h.rowL.lt j hj).2
      simp at q
      omega
  · by_cases hlt : k < hs.length
    · rw [List.getElem_append_left hlt]
      exact ⟨fives (h.held k hlt).l, fives (h.held k hlt).x⟩
    · have : k = hs.length := by simp at hk; omega
      subst this
      rw [List.getElem_append_right (Nat.le_refl _)]
      simp only [Nat.sub_self, List.getElem_cons_zero]
      exact ⟨fives h.own, fives ox⟩
end Go.Proofs.Ytgfglbbfoadiaaa
