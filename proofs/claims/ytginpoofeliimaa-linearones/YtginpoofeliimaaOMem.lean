import Derived.Test.YtginpoofeliimaaOSmall
import Derived.Test.YtginpoofeliimaaFLeast
namespace Go.Proofs.Ytginpoofeliimaa
open Go.RowKit 

def boolsB (n : Nat) (b : List Nat) : List Value := (List.range n).map fun i => Value.bool (decide (i ∈ b))
theorem boolsB_get (n : Nat) (b : List Nat) (i : Nat) : (boolsB n b)[i]? = if i < n then some (.bool (decide (i ∈ b))) else none := by
  unfold boolsB
  rw [List.getElem?_map]
  by_cases h : i < n
  · rw [if_pos h, List.getElem?_range h]
    rfl
  · rw [if_neg h, List.getElem?_eq_none (by simp; omega)]
    rfl
theorem boolsB_on {n : Nat} {b : List Nat} {i : Nat} : (boolsB n b).set i (.bool true) = boolsB n (b ++ [i]) := by
  refine List.ext_getElem? fun j => ?_
  rw [List.getElem?_set, boolsB_get, boolsB_get]
  have hl : (boolsB n b).length = n := by simp [boolsB]
  by_cases e : i = j
  · subst e
    rw [if_pos rfl, hl]
    split
    · simp
    · rfl
  · rw [if_neg e]
    have : (j ∈ b ++ [i]) ↔ j ∈ b := by
      rw [List.mem_append, List.mem_singleton]
      exact ⟨fun z => z.elim id (fun z => absurd z.symm e), .inl⟩
    rw [decide_eq_decide.2 this]
theorem boolsB_off {n : Nat} {b : List Nat} {i : Nat} (hi : i ∉ b) : (boolsB n (b ++ [i])).set i (.bool false) = boolsB n b := by
  refine List.ext_getElem? fun j => ?_
  rw [List.getElem?_set, boolsB_get, boolsB_get]
  have hl : (boolsB n (b ++ [i])).length = n := by simp [boolsB]
  by_cases e : i = j
  · subst e
    rw [if_pos rfl, hl]
    split
    · rw [decide_eq_false hi]
    · rfl
  · rw [if_neg e]
    have : (j ∈ b ++ [i]) ↔ j ∈ b := by
      rw [List.mem_append, List.mem_singleton]
      exact ⟨fun z => z.elim id (fun z => absurd z.symm e), .inl⟩
    rw [decide_eq_decide.2 this]
/-- The search on its way. -/
structure SS (w0 wr : World) (sb : Nat) (p0 : Option Addr) (n c0 : Nat) (q : Option Addr) (k kc : Nat) (b : List Nat) (r : Option Addr) (rc : Nat) : Prop where
  kept : Kept (fun _ => False) w0 wr
  ge : w0.heap.size ≤ sb
  blk : wr.heap[sb]? = some (.cells #[.slice p0 n c0, .slice q k kc, .slice r n rc] 62 (0, 0))
  ord : NRow w0.heap.size wr q k kc b
  inn : wr.ownsRow w0.heap.size 4 1 (.slice r n rc) n (boolsB n b)
theorem SS.k0 {w0 wr w' : World} {sb : Nat} {p0 : Option Addr} {n c0 : Nat} {q : Option Addr} {k kc : Nat} {b : List Nat} {r : Option Addr} {rc : Nat} (h : SS w0 wr sb p0 n c0 q k kc b r rc) (K : Kept (fun _ => False) wr w') : SS w0 w' sb p0 n c0 q k kc b r rc :=
  ⟨h.kept.trans K (fun _ _ z => z), h.ge, K.get h.blk (fun z => z), h.ord.k0 K, K.owns h.inn (fun _ _ z => z)⟩
theorem SS.inAt {w0 wr : World} {sb : Nat} {p0 : Option Addr} {n c0 : Nat} {q : Option Addr} {k kc : Nat} {b : List Nat} {r : Option Addr} {rc : Nat} (h : SS w0 wr sb p0 n c0 q k kc b r rc) {i : Nat} (hi : i < n) : ∃ g, r = some ⟨g, 0, none⟩ ∧ wr.cell? ⟨g, i, none⟩ = some (.bool (decide (i ∈ b))) ∧ wr.frozen? ⟨g, i, none⟩ = false ∧ w0.heap.size ≤ g ∧ ∃ cs, wr.heap[g]? = some (.cells cs 4 (0, 0)) := by
  rcases h.inn.2 with ⟨_, e1⟩ | ⟨g, cap, cur, e0, hb, hg, _⟩
  · omega
  · have e0' := e0
    simp at e0'
    obtain ⟨rfl, rfl⟩ := e0'
    have hc := h.inn.cells (g := g) rfl i (.bool (decide (i ∈ b))) (by rw [boolsB_get, if_pos hi])
    rw [Addr.add_none, Nat.zero_add] at hc
    exact ⟨g, rfl, hc, soft_blk hg i, hb, cur, hg⟩
theorem own_cut {w : World} {base : Nat} {p : Option Addr} {k c i : Nat} {R : List Nat} (h : NRow base w p (k + 1) c (R ++ [i])) : NRow base w p k c R := by
  have hl : R.length = k := by have := h.len; rw [List.length_append] at this; simpa using this
  refine ⟨hl, ⟨by simp [intsN, hl], ?_⟩⟩
  rcases h.row.2 with ⟨_, e1⟩ | ⟨g, cap, cur, e0, hb, hg, h1, h2, h3, h4⟩
  · omega
  · simp at e0
    obtain ⟨rfl, rfl⟩ := e0
    refine .inr ⟨g, c, cur, rfl, hb, hg, by omega, h2, h3, ?_⟩
    have : cur.toList.take (k * 1) = (cur.toList.take ((k + 1) * 1)).take k := by rw [List.take_take]; congr 1; omega
    rw [this, h4, intsN_append, List.take_append_of_le_length (by simp [intsN, hl]), List.take_of_length_le (by simp [intsN, hl])]
/-- One call more. -/
theorem SS.push {w0 wr w9 : World} {sb : Nat} {p0 : Option Addr} {n c0 : Nat} {q q9 : Option Addr} {k kc c9 : Nat} {b : List Nat} {g rc i : Nat} {o : Obj} (h : SS w0 wr sb p0 n c0 q k kc b (some ⟨g, 0, none⟩) rc) (ho : w9.ownsRow w0.heap.size 3 1 (.slice q9 (k + 1) c9) (k + 1) (intsN b ++ intsN [i])) (hg : ((wr.setCell ⟨g, i, none⟩ (.bool true)).alloc o).grownBy w9 (Value.slice q k kc).ownBlock) : w9.heap[sb]? = some (.cells #[.slice p0 n c0, .slice q k kc, .slice (some ⟨g, 0, none⟩) n rc] 62 (0, 0)) ∧ SS w0 (w9.setCell ⟨sb, 1, none⟩ (.slice q9 (k + 1) c9)) sb p0 n c0 q9 (k + 1) c9 (b ++ [i]) (some ⟨g, 0, none⟩) rc := by
  obtain ⟨cs4, t4⟩ := own_type h.inn g rfl
  have g0 := (own_lt h.inn g rfl).1
  have nsg : sb ≠ g := fun z => by have := h.blk; rw [z, t4] at this; simp at this
  obtain ⟨A, hA⟩ : ∃ A, A = wr.setCell ⟨g, i, none⟩ (.bool true) := ⟨_, rfl⟩
  have KA : Kept (fun j => j = g) wr A := by rw [hA]; exact (Kept.refl (fun j => j = g) wr).setCell (p := ⟨g, i, none⟩) (fun _ => rfl) _
  rw [← hA] at hg
  have qt : ∀ j, blockOf q = some j → j ≠ g ∧ j ≠ sb := fun j hj => by
    obtain ⟨cs, hc⟩ := own_type h.ord.row j hj
    refine ⟨fun z => ?_, fun z => ?_⟩
    · rw [z, t4] at hc; simp at hc
    · rw [z, h.blk] at hc; simp at hc
  have ordA : NRow w0.heap.size A q k kc b := h.ord.off KA (fun j hj => (qt j hj).1)
  have innA : A.ownsRow w0.heap.size 4 1 (.slice (some ⟨g, 0, none⟩) n rc) n (boolsB n (b ++ [i])) := by
    rw [← boolsB_on, hA]
    exact owns_set h.inn i _
  have KG : Kept (fun j => blockOf q = some j) A w9 := ((Kept.refl (fun j => blockOf q = some j) A).alloc _).grown hg (fun j _ z => by rw [blockOf_own] at z; exact z)
  have b9 := KG.get (KA.get h.blk nsg) (fun z => (qt sb z).2 rfl)
  have inn9 := KG.owns innA (fun j hj z => by
    rw [blockOf_own] at hj
    have hj : g = j := by simpa [blockOf] using hj
    rw [← hj] at z
    exact (qt g z).1 rfl)
  have K9 : Kept (fun _ => False) w0 w9 := Kept.own (Kept.own h.kept KA (fun j z => by rw [z]; exact g0)) KG (fun j z => (own_lt ordA.row j z).1)
  refine ⟨b9, ⟨kept_set K9 h.ge _ _, h.ge, set_heap b9 1 _, ?_, ?_⟩⟩
  · refine NRow.off (S := fun j => j = sb) ⟨by rw [List.length_append, h.ord.len]; rfl, by rw [intsN_append]; exact ho⟩ ((Kept.refl (fun j => j = sb) w9).setCell (p := ⟨sb, 1, none⟩) (fun _ => rfl) _) (fun j hj z => ?_)
    obtain ⟨cs, hc⟩ := own_type ho j hj
    rw [z, b9] at hc
    simp at hc
  · refine ((Kept.refl (fun j => j = sb) w9).setCell (p := ⟨sb, 1, none⟩) (fun _ => rfl) _).owns inn9 (fun j hj z => ?_)
    rw [blockOf_own] at hj
    have hj : g = j := by simpa [blockOf] using hj
    exact nsg (by rw [← z, hj])
/-- One call less. -/
theorem SS.pop {w0 wr : World} {sb : Nat} {p0 : Option Addr} {n c0 : Nat} {q : Option Addr} {k kc : Nat} {b : List Nat} {g rc i : Nat} (h : SS w0 wr sb p0 n c0 q (k + 1) kc (b ++ [i]) (some ⟨g, 0, none⟩) rc) (hi : i ∉ b) : (wr.setCell ⟨g, i, none⟩ (.bool false)).heap[sb]? = some (.cells #[.slice p0 n c0, .slice q (k + 1) kc, .slice (some ⟨g, 0, none⟩) n rc] 62 (0, 0)) ∧ SS w0 ((wr.setCell ⟨g, i, none⟩ (.bool false)).setCell ⟨sb, 1, none⟩ (.slice q k kc)) sb p0 n c0 q k kc b (some ⟨g, 0, none⟩) rc := by
  obtain ⟨cs4, t4⟩ := own_type h.inn g rfl
  have g0 := (own_lt h.inn g rfl).1
  have nsg : sb ≠ g := fun z => by have := h.blk; rw [z, t4] at this; simp at this
  obtain ⟨A, hA⟩ : ∃ A, A = wr.setCell ⟨g, i, none⟩ (.bool false) := ⟨_, rfl⟩
  rw [← hA]
  have KA : Kept (fun j => j = g) wr A := by rw [hA]; exact (Kept.refl (fun j => j = g) wr).setCell (p := ⟨g, i, none⟩) (fun _ => rfl) _
  have qt : ∀ j, blockOf q = some j → j ≠ g ∧ j ≠ sb := fun j hj => by
    obtain ⟨cs, hc⟩ := own_type h.ord.row j hj
    refine ⟨fun z => ?_, fun z => ?_⟩
    · rw [z, t4] at hc; simp at hc
    · rw [z, h.blk] at hc; simp at hc
  have ordA := own_cut (h.ord.off KA (fun j hj => (qt j hj).1))
  have innA : A.ownsRow w0.heap.size 4 1 (.slice (some ⟨g, 0, none⟩) n rc) n (boolsB n b) := by
    rw [← boolsB_off hi, hA]
    exact owns_set h.inn i _
  have bA := KA.get h.blk nsg
  have K9 : Kept (fun _ => False) w0 A := Kept.own h.kept KA (fun j z => by rw [z]; exact g0)
  refine ⟨bA, ⟨kept_set K9 h.ge _ _, h.ge, set_heap bA 1 _, ?_, ?_⟩⟩
  · exact ordA.off ((Kept.refl (fun j => j = sb) A).setCell (p := ⟨sb, 1, none⟩) (fun _ => rfl) _) (fun j hj z => (qt j hj).2 z)
  · refine ((Kept.refl (fun j => j = sb) A).setCell (p := ⟨sb, 1, none⟩) (fun _ => rfl) _).owns innA (fun j hj z => ?_)
    rw [blockOf_own] at hj
    have hj : g = j := by simpa [blockOf] using hj
    exact nsg (by rw [← z, hj])
end Go.Proofs.Ytginpoofeliimaa
