import Derived.Test.YtojfnehdanhgiaaCalls
namespace Go.Proofs.Ytojfnehdanhgiaa
open Go.RowKit

/-- A network in which these are in flight; g: its list's block. -/
def NetOf (ty base : Nat) (w : World) (C : Nat) (g : Option Nat) (ps : List Pk) : Prop := ∃ q len cap R, IsNet ty base w C q len cap R ∧ blockOf q = g ∧ R.map Ent.p = ps
/-- What changed: the network's own block and its list's. -/
structure Mv (w w' : World) (C : Nat) (g g' : Option Nat) : Prop where
  kept : Kept (fun k => k = C ∨ g = some k) w w'
  near : ∀ k, g' = some k → g = some k ∨ w.heap.size ≤ k
theorem Moved.mv {w w' : World} {C : Nat} {q q' : Option Addr} (h : Moved w w' C q q') : Mv w w' C (blockOf q) (blockOf q') := ⟨h.kept, h.near⟩
theorem Mv.of_kept {w w' : World} (K : Kept (fun _ => False) w w') (C : Nat) (g : Option Nat) : Mv w w' C g g := ⟨K.mono (fun _ _ q => q.elim), fun _ h => .inl h⟩
theorem Mv.trans {a b c : World} {C : Nat} {q q' q'' : Option Nat} (h : Mv a b C q q') (k : Mv b c C q' q'') : Mv a c C q q'' := by
  refine ⟨h.kept.trans k.kept fun j hj hs => ?_, fun j hj => ?_⟩
  · rcases hs with e | e
    · exact .inl e
    · rcases h.near j e with e | e
      · exact .inr e
      · omega
  · rcases k.near j hj with e | e
    · exact h.near j e
    · exact .inr (Nat.le_trans h.kept.size e)
theorem NetOf.lt {ty base : Nat} {w : World} {C : Nat} {g : Option Nat} {ps : List Pk} (h : NetOf ty base w C g ps) : C < w.heap.size ∧ base ≤ C := by
  obtain ⟨q, len, cap, R, h, _, _⟩ := h
  exact ⟨h.lt, h.low⟩
theorem NetOf.glt {ty base : Nat} {w : World} {C : Nat} {g : Option Nat} {ps : List Pk} (h : NetOf ty base w C g ps) : ∀ k, g = some k → k < w.heap.size ∧ base ≤ k := fun k hk => by
  obtain ⟨q, len, cap, R, h, e, _⟩ := h
  have := own_lt h.list.own k (by rw [e]; exact hk)
  exact ⟨this.2, this.1⟩
theorem NetOf.cell {ty base : Nat} {w : World} {C : Nat} {g : Option Nat} {ps : List Pk} (h : NetOf ty base w C g ps) : ∃ q cap, w.cell? ⟨C, 0, none⟩ = some (.slice q ps.length cap) := by
  obtain ⟨q, len, cap, R, h, _, e⟩ := h
  refine ⟨q, cap, ?_⟩
  rw [← e, List.length_map, h.list.length]
  exact h.cell
theorem NetOf.notdata {ty base : Nat} {w : World} {C : Nat} {g : Option Nat} {ps : List Pk} (h : NetOf ty base w C g ps) : ∀ k, (k = C ∨ g = some k) → NotData w k := fun k e => by
  obtain ⟨q, len, cap, R, h, e', _⟩ := h
  rcases e with e | e
  · rw [e]; exact h.notdata
  · exact h.list.notdata k (by rw [e']; exact e)
theorem NetOf.kept0 {ty base : Nat} {w w' : World} {C : Nat} {g : Option Nat} {ps : List Pk} (h : NetOf ty base w C g ps) (K : Kept (fun _ => False) w w') : NetOf ty base w' C g ps := by
  obtain ⟨q, len, cap, R, h, e, m⟩ := h
  exact ⟨q, len, cap, R, h.kept0 K, e, m⟩
theorem NetOf.kept {S : Nat → Prop} {ty base : Nat} {w w' : World} {C : Nat} {g : Option Nat} {ps : List Pk} (h : NetOf ty base w C g ps) (K : Kept S w w') (hC : ¬ S C) (hg : ∀ k, g = some k → ¬ S k) (hn : ∀ k, k < w.heap.size → S k → NotData w k) : NetOf ty base w' C g ps := by
  obtain ⟨q, len, cap, R, h, e, m⟩ := h
  exact ⟨q, len, cap, R, h.kept K hC (fun k hk => hg k (by rw [← e]; exact hk)) hn, e, m⟩
theorem Mv.net {w w' : World} {C : Nat} {g g' : Option Nat} {ty base : Nat} {ps : List Pk} (h : Mv w w' C g g') (n : NetOf ty base w C g ps) {ty2 base2 C2 : Nat} {g2 : Option Nat} {ps2 : List Pk} (n2 : NetOf ty2 base2 w C2 g2 ps2) (hC : C2 ≠ C) (hq : ∀ k, g2 = some k → g ≠ some k) : NetOf ty2 base2 w' C2 g2 ps2 := by
  have n' := n
  obtain ⟨q, len, cap, R, n, e, m⟩ := n
  have n2' := n2
  obtain ⟨q2, len2, cap2, R2, n2, e2, m2⟩ := n2
  refine n2'.kept h.kept (fun s => ?_) (fun k hk s => ?_) (fun k _ s => n'.notdata k s)
  · rcases s with s | s
    · exact hC s
    · obtain ⟨cs, hc⟩ := own_type n.list.own C2 (by rw [e]; exact s)
      rw [n2.blk] at hc
      simp at hc
      exact n2.t39 hc.2
  · rcases s with s | s
    · subst s
      obtain ⟨cs, hc⟩ := own_type n2.list.own k (by rw [e2]; exact hk)
      rw [n.blk] at hc
      simp at hc
      exact n.t39 hc.2
    · exact hq k hk s
theorem Mv.list {w w' : World} {C : Nat} {g g' : Option Nat} {ty base : Nat} {ps : List Pk} (h : Mv w w' C g g') (n : NetOf ty base w C g ps) {base2 : Nat} {q2 : Option Addr} {len2 cap2 : Nat} {R2 : List Ent} (n2 : IsL base2 w q2 len2 cap2 R2) (hq : ∀ k, blockOf q2 = some k → g ≠ some k) : IsL base2 w' q2 len2 cap2 R2 := by
  have n' := n
  obtain ⟨q, len, cap, R, n, e, m⟩ := n
  refine n2.kept h.kept (fun k hk s => ?_) (fun k _ s => n'.notdata k s)
  rcases s with s | s
  · subst s
    obtain ⟨cs, hc⟩ := own_type n2.own k hk
    rw [n.blk] at hc
    simp at hc
    exact n.t39 hc.2
  · exact hq k hk s
theorem Mv.good {w w' : World} {C : Nat} {g g' : Option Nat} {ty base : Nat} {ps : List Pk} (h : Mv w w' C g g') (n : NetOf ty base w C g ps) {base2 : Nat} {e : Ent} (ge : Good base2 w e) : Good base2 w' e := ge.kept h.kept fun k _ s => n.notdata k s
theorem Mv.below {w w' : World} {C : Nat} {g g' : Option Nat} {ty base : Nat} {ps : List Pk} (h : Mv w w' C g g') (n : NetOf ty base w C g ps) (hb : base ≤ w.heap.size) : Below base w w' :=
  h.kept.below hb fun k e => by
    rcases e with e | e
    · subst e; exact n.lt.2
    · exact (n.glt k e).2
theorem hasI_nat {i : Int} {n : Nat} (h : hasI i n = true) : ∃ k : Nat, i = (k : Int) ∧ k < n := by
  have := of_decide_eq_true h
  exact ⟨i.toNat, by omega, by omega⟩
theorem hasI_of {k n : Nat} (h : k < n) : hasI (k : Int) n = true := decide_eq_true ⟨by omega, by omega⟩
/-- One of them is changed. -/
def upd (ps : List Pk) (k : Nat) (f : Pk → Pk) : List Pk := match ps[k]? with
  | some p => ps.set k (f p)
  | none => ps
theorem upd_length (ps : List Pk) (k : Nat) (f : Pk → Pk) : (upd ps k f).length = ps.length := by unfold upd; split <;> simp
theorem upd_lt {ps : List Pk} {k : Nat} (h : k < ps.length) (f : Pk → Pk) : upd ps k f = ps.set k (f ps[k]) := by unfold upd; rw [List.getElem?_eq_getElem h]
theorem map_upd {R : List Ent} {k : Nat} {e : Ent} (h : k < R.length) (f : Pk → Pk) (he : e.p = f R[k].p) : (R.set k e).map Ent.p = upd (R.map Ent.p) k f := by
  rw [upd_lt (by simpa using h), List.map_set, he]
  simp
/-- What the calls make of what is in flight, and what they answer. -/
def aDrop (ps : List Pk) (i : Int) : List Pk × Int := if hasI i ps.length = true then (ps.take i.toNat ++ ps.drop (i.toNat + 1), 0) else (ps, 50)
def aDouble (ps : List Pk) (i : Int) : List Pk × Int := if hasI i ps.length = true then (ps ++ ps[i.toNat]?.toList, 0) else (ps, 50)
def aBurst (turnIt : Nat → Nat → List Nat → List Nat) (ps : List Pk) (i bit : Int) (pat : Nat) : List Pk × Int :=
  if hasI i ps.length = true then (if bit < 0 then (ps, 1) else (upd ps i.toNat (fun p => { p with data := turnIt bit.toNat pat p.data }), 0)) else (ps, 50)
def aCut (ps : List Pk) (i size : Int) : List Pk × Int :=
  if hasI i ps.length = true then (if size < 0 then (ps, 1) else (upd ps i.toNat (fun p => { p with data := p.data.take size.toNat }), 0)) else (ps, 50)
def aLose (ps : List Pk) (i : Int) : List Pk × Int := if hasI i ps.length = true then (upd ps i.toNat (fun p => { p with lost := true }), 0) else (ps, 50)
end Go.Proofs.Ytojfnehdanhgiaa
