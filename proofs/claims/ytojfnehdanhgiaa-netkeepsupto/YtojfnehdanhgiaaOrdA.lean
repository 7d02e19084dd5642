import Derived.Test.YtojfnehdanhgiaaFlown
import Derived.Test.YtojfnehdanhgiaaTaken
import Derived.Deep.CutBlock
namespace Go.Proofs.Ytojfnehdanhgiaa
open Go.RowKit

/-- Numbers that were handed in. -/
structure Picks (w : World) (q : Option Addr) (n cap : Nat) (P : List Int) : Prop where
  length : P.length = n
  room : n ≤ cap
  small : cap ≤ maxLen
  fit : ∀ x ∈ P, -9223372036854775808 ≤ x ∧ x < 9223372036854775808
  cells : 0 < n → ∃ b off, q = some ⟨b, off, none⟩ ∧ ∀ i (h : i < P.length), w.cell? ⟨b, off + i, none⟩ = some (.int .i64 P[i])
/-- A number brought within. -/
theorem within (x : Int) (m : Nat) (h0 : 0 < m) (hm : m ≤ 4611686018427387904) : ∃ y z : Int, ∃ i : Nat, x.tmod (m : Int) = y ∧ IntKind.i64.wrap (y + (m : Int)) = z ∧ z.tmod (m : Int) = (i : Int) ∧ i < m := by
  have a1 := Int.tmod_lt_of_pos x (show (0 : Int) < (m : Int) by omega)
  have a2 : -(m : Int) < x.tmod (m : Int) := by
    rcases Int.le_total 0 x with h | h
    · have := Int.tmod_nonneg (m : Int) h; omega
    · have := Int.tmod_lt_of_pos (-x) (show (0 : Int) < (m : Int) by omega)
      rw [Int.neg_tmod] at this
      omega
  have e : IntKind.i64.wrap (x.tmod (m : Int) + (m : Int)) = x.tmod (m : Int) + (m : Int) := by rw [IntKind.wrap_i64]; omega
  have b0 : 0 ≤ x.tmod (m : Int) + (m : Int) := by omega
  have c1 := Int.tmod_lt_of_pos (x.tmod (m : Int) + (m : Int)) (show (0 : Int) < (m : Int) by omega)
  have c2 := Int.tmod_nonneg (m : Int) b0
  refine ⟨_, _, ((x.tmod (m : Int) + (m : Int)).tmod (m : Int)).toNat, rfl, e, ?_, ?_⟩ <;> omega
/-- The source of an append: a beginning of a list of datagrams. -/
theorem IsL.src_take {base : Nat} {w : World} {q : Option Addr} {len cap : Nat} {R : List Ent} (h : IsL base w q len cap R) (k : Nat) (hk : k ≤ len) (c : Nat) : Src Try.prog 6 27 (.slice q k c) k (rcells (R.take k)) w := by
  have ln : (rcells (R.take k)).length = k * 6 := by rw [rcells_length, List.length_take, h.length]; congr 1; omega
  rcases h.own.2 with ⟨e0, e1⟩ | ⟨g, cap', cur, e0, _, hg, _⟩
  · simp at e0
    obtain ⟨rfl, _, _⟩ := e0
    have k0 : k = 0 := by omega
    subst k0
    exact Src.ofNil w Try.underlying27 c
  · simp at e0
    obtain ⟨rfl, rfl⟩ := e0
    refine Src.ofSlice w Try.underlying27 ⟨g, 0, none⟩ k c _ ln (fun j u hj => ?_) (rcells_one _)
    refine h.own.cells (g := g) rfl j u ?_
    have hjl := (List.getElem?_eq_some_iff.1 hj).1
    rw [show rcells R = rcells (R.take k) ++ rcells (R.drop k) by rw [← rcells_append, List.take_append_drop], List.getElem?_append_left hjl]
    exact hj
theorem IsL.src_all {base : Nat} {w : World} {q : Option Addr} {len cap : Nat} {R : List Ent} (h : IsL base w q len cap R) (c : Nat) : Src Try.prog 6 27 (.slice q len c) len (rcells R) w := by
  have := h.src_take len (Nat.le_refl _) c
  rw [List.take_of_length_le (by rw [h.length]; exact Nat.le_refl _)] at this
  exact this
theorem IsL.src_drop {base : Nat} {w : World} {g : Nat} {len cap : Nat} {R : List Ent} (h : IsL base w (some ⟨g, 0, none⟩) len cap R) (k : Nat) {p : Addr} (hp : k < len → p = ⟨g, k * 6, none⟩) (c : Nat) : Src Try.prog 6 27 (.slice (some p) (len - k) c) (len - k) (rcells (R.drop k)) w :=
  Src.ofSlice w Try.underlying27 p (len - k) c _ (by rw [rcells_length, List.length_drop, h.length]) (h.cells_drop k hp) (rcells_one _)
theorem own_empty (w : World) (base : Nat) (hb : base ≤ w.heap.size) : (w.alloc (.cells #[] 39)).ownsRow base 39 6 (.slice (some ⟨w.heap.size, 0, none⟩) 0 0) 0 (rcells []) := World.ownsRow_made w #[] 0 hb (by unfold maxLen; omega) rfl
/-- A list that was made anew of parts of another one. -/
theorem IsL.parts {base : Nat} {w W w2 : World} {q : Option Addr} {len cap : Nat} {R R' : List Ent} (h : IsL base w q len cap R) (K : Kept (fun _ => False) w w2) {p : Option Addr} {m c : Nat} (ho : w2.ownsRow W.heap.size 39 6 (.slice p m c) m (rcells R')) (hs : ∀ e ∈ R', e ∈ R) (hb : base ≤ W.heap.size) : IsL base w2 p m c R' :=
  ⟨owns_mono ho hb, fun e he => (h.good e (hs e he)).kept0 K⟩
/-- One of a list, where it lies. -/
theorem IsL.at {base : Nat} {w : World} {q : Option Addr} {len cap : Nat} {R : List Ent} (h : IsL base w q len cap R) (i : Nat) (hi : i < len) (P : Pk) (hp : (R.map Ent.p)[i]? = some P) : ∃ gl a n c, q = some ⟨gl, 0, none⟩ ∧ R[i]? = some ⟨P, a, n, c⟩ ∧
    w.cell? ⟨gl, i * 6, none⟩ = some (.int .i64 P.fk) ∧ w.cell? ⟨gl, i * 6 + 1, none⟩ = some (.int .i64 P.fi) ∧ w.cell? ⟨gl, i * 6 + 2, none⟩ = some (.int .i64 P.tk) ∧ w.cell? ⟨gl, i * 6 + 3, none⟩ = some (.int .i64 P.ti) ∧ w.cell? ⟨gl, i * 6 + 4, none⟩ = some (.slice a n c) ∧ w.cell? ⟨gl, i * 6 + 5, none⟩ = some (.bool P.lost) ∧
    Good base w ⟨P, a, n, c⟩ := by
  obtain ⟨gl, hgl, hlR, f0, f1, f2, f3, f4, f5⟩ := h.cells i hi
  have g := h.good _ (List.getElem_mem hlR)
  obtain ⟨r, hr⟩ : ∃ r, R[i] = r := ⟨_, rfl⟩
  have hrp : r.p = P := by
    rw [List.getElem?_map, List.getElem?_eq_getElem hlR, hr] at hp
    simpa using hp
  rw [hr] at f0 f1 f2 f3 f4 f5 g
  obtain ⟨rp, a, n, c⟩ := r
  simp only [] at hrp
  subst hrp
  exact ⟨gl, a, n, c, hgl, by rw [List.getElem?_eq_getElem hlR, hr], f0, f1, f2, f3, f4, f5, g⟩
theorem slice27i (g len cap : Nat) (i : Nat) (hi : i < len) (hr : len ≤ cap) :
    ∃ p c, (∀ W : World, (Instr.slice 27 (.slice (some ⟨g, 0, none⟩) len cap) (some (.int .i64 ((i : Int) + 1))) none none).run Try.prog W = .ok (.slice (some p) (len - (i + 1)) c) W) ∧ (i + 1 < len → p = ⟨g, (i + 1) * 6, none⟩) := by
  obtain ⟨p, c, h1, h2⟩ := slice27 g len cap (i + 1) (by omega) hr
  rw [show ((i + 1 : Nat) : Int) = (i : Int) + 1 by omega] at h1
  exact ⟨p, c, h1, h2⟩
/-- A network and a list of one's own, made anew of another's parts. -/
theorem Fzs.relist {w W w4 : World} {C : Nat} {g : Option Nat} {p p4 : Option Addr} {m c c4 m4 : Nat} {R : List Ent} {ps : List Pk} {i : Nat} (K : Kept (fun _ => False) w W) (n : NetOf 67 w.heap.size W C g (ps.take i ++ ps.drop (i + 1))) (L : IsL w.heap.size W p m c R) (hs : R.map Ent.p = ps)
    (K4 : Kept (fun _ => False) W w4) (ho : w4.ownsRow W.heap.size 39 6 (.slice p4 m4 c4) m4 (rcells (R.take i) ++ rcells (R.drop (i + 1)))) (hm : m4 = (ps.take i ++ ps.drop (i + 1)).length) : Fzs w w4 C g p4 c4 (R.take i ++ R.drop (i + 1)) (ps.take i ++ ps.drop (i + 1)) := by
  refine ⟨K.trans K4 (fun _ _ q => q), n.kept0 K4, ?_, by rw [List.map_append, List.map_take, List.map_drop, hs], fun k hk z => ?_⟩
  · rw [← hm]
    refine L.parts (W := W) K4 (by rw [rcells_append]; exact ho) (fun e he => ?_) K.size
    rcases List.mem_append.1 he with q | q
    · exact List.mem_of_mem_take q
    · exact List.mem_of_mem_drop q
  · have a1 := (own_lt ho k hk).1
    have a2 := (n.glt k z).1
    omega
end Go.Proofs.Ytojfnehdanhgiaa
