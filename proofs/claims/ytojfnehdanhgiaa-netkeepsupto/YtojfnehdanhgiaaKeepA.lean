import Derived.Test.YtojfnehdanhgiaaUndC
namespace Go.Proofs.Ytojfnehdanhgiaa
open Go.RowKit

/-- A block that holds the bytes of one of them. -/
def DB (R : List Ent) (k : Nat) : Prop := ∃ (i : Nat) (e : Ent), R[i]? = some e ∧ blockOf e.a = some k
theorem Apart.ne {R : List Ent} (h : Apart R) {i j : Nat} {e f : Ent} (hi : R[i]? = some e) (hj : R[j]? = some f) (hij : i ≠ j) : ∀ k, blockOf e.a = some k → blockOf f.a ≠ some k := by
  obtain ⟨li, rfl⟩ := List.getElem?_eq_some_iff.1 hi
  obtain ⟨lj, rfl⟩ := List.getElem?_eq_some_iff.1 hj
  have H := List.pairwise_iff_getElem.1 h
  intro k h1 h2
  rcases Nat.lt_or_ge i j with q | q
  · exact H i j li lj q k h1 h2
  · exact H j i lj li (by omega) k h2 h1
theorem row4 {base : Nat} {w : World} {q : Option Addr} {len cap : Nat} {R : List Ent} (h : w.ownsRow base 39 6 (.slice q len cap) len (rcells R)) {i : Nat} {e : Ent} (he : R[i]? = some e) : ∃ g, q = some ⟨g, 0, none⟩ ∧ w.cell? ⟨g, i * 6 + 4, none⟩ = some (.slice e.a e.len e.cap) := by
  obtain ⟨hl, rfl⟩ := List.getElem?_eq_some_iff.1 he
  have hR : R.length = len := by have := h.1; rw [rcells_length] at this; omega
  rcases h.2 with ⟨e0, e1⟩ | ⟨g, cap', cur, e0, _, hg, hn, hm, hs, ht⟩
  · omega
  · simp at e0
    obtain ⟨rfl, rfl⟩ := e0
    refine ⟨g, rfl, ?_⟩
    rw [cell_of_row w g _ cur 39 (0, 0) hg]
    have e := rcells_get R i hl 4 (by omega)
    rw [show (R[i].cells)[4]? = some (.slice R[i].a R[i].len R[i].cap) from rfl, ← ht, List.getElem?_take_of_lt (by omega)] at e
    simpa using e
/-- The list, and the bytes of each of them as they are now. -/
structure AP (base : Nat) (w wr : World) (q : Option Addr) (len cap : Nat) (R : List Ent) (F : Nat → List Nat) : Prop where
  kept : Kept (DB R) w wr
  row : wr.ownsRow base 39 6 (.slice q len cap) len (rcells R)
  own : ∀ i e, R[i]? = some e → wr.ownsRow base 5 1 (.slice e.a e.len e.cap) e.len (cellsOf (F i))
  bytes : ∀ i, ∀ c ∈ F i, c < 256
theorem AP.start {base : Nat} {w : World} {q : Option Addr} {len cap : Nat} {R : List Ent} (h : IsL base w q len cap R) : AP base w w q len cap R (fun i => (R[i]?.map (fun e => e.p.data)).getD []) := by
  refine ⟨Kept.refl _ _, h.own, fun i e he => ?_, fun i c hc => ?_⟩
  · rw [he]
    exact (h.good e (List.mem_of_getElem? he)).own
  · cases he : R[i]? with
    | none => rw [he] at hc; simp at hc
    | some e => rw [he] at hc; exact (h.good e (List.mem_of_getElem? he)).bytes c (by simpa using hc)
theorem AP.store {base : Nat} {w wr : World} {q : Option Addr} {len cap : Nat} {R : List Ent} {F : Nat → List Nat} (s : AP base w wr q len cap R F) (ha : Apart R) {i j v g : Nat} {e : Ent} (hi : R[i]? = some e) (hg : e.a = some ⟨g, 0, none⟩) (hv : v < 256) :
    AP base w (wr.setCell ⟨g, j, none⟩ (.int .u8 (v : Int))) q len cap R (fun k => if k = i then (F i).set j v else F k) := by
  have K : Kept (fun k => k = g) wr (wr.setCell ⟨g, j, none⟩ (.int .u8 (v : Int))) := (Kept.refl (fun k => k = g) wr).setCell (p := ⟨g, j, none⟩) (fun _ => rfl) _
  have hb : blockOf e.a = some g := by rw [hg]; rfl
  refine ⟨s.kept.trans K (fun k _ z => ⟨i, e, hi, by rw [z]; exact hb⟩), K.owns s.row (fun k hk z => ?_), fun k f hf => ?_, fun k c hc => ?_⟩
  · obtain ⟨c1, h1⟩ := own_type (s.own i e hi) g hb
    obtain ⟨c2, h2⟩ := own_type s.row k (by rw [← hk]; exact (blockOf_own ..).symm)
    rw [z, h1] at h2
    simp at h2
  · by_cases z : k = i
    · subst z
      rw [hi] at hf
      cases hf
      simp only [if_pos]
      have := s.own k e hi
      rw [hg] at this ⊢
      rw [cellsOf_set]
      exact owns_set this j _
    · simp only [if_neg z]
      exact K.owns (s.own k f hf) (fun b hb2 z2 => ha.ne hi hf (fun q => z q.symm) b (by rw [z2]; exact hb) (by rw [← hb2]; exact (blockOf_own ..).symm))
  · by_cases z : k = i
    · simp only [if_pos z] at hc
      rcases List.mem_or_eq_of_mem_set hc with q | q
      · exact s.bytes i c q
      · omega
    · simp only [if_neg z] at hc
      exact s.bytes k c hc
theorem AP.length {base : Nat} {w wr : World} {q : Option Addr} {len cap : Nat} {R : List Ent} {F : Nat → List Nat} (s : AP base w wr q len cap R F) {i : Nat} {e : Ent} (hi : R[i]? = some e) : (F i).length = e.len := by
  have := (s.own i e hi).1
  rw [cellsOf_length] at this
  omega
/-- All its bytes are the mark. -/
def Marked (R : List Ent) (F : Nat → List Nat) (k : Nat) : Prop := ∀ e, R[k]? = some e → F k = List.replicate e.len (k % 256)
/-- A slice that was put behind: where it lies. -/
structure MO (base : Nat) (w wr : World) (q : Option Addr) (len cap : Nat) (R : List Ent) (i : Nat) (pm : Option Addr) (cm : Nat) (G : List Sli) : Prop where
  kept : Kept (DB R) w wr
  row : wr.ownsRow base 39 6 (.slice q len cap) len (rcells R)
  own : ∀ k e, i ≤ k → R[k]? = some e → wr.ownsRow base 5 1 (.slice e.a e.len e.cap) e.len (cellsOf (List.replicate e.len (k % 256)))
  rd : ∀ k e, k < i → R[k]? = some e → Reads wr e.a e.len e.cap (List.replicate e.len (k % 256))
  more : wr.ownsRow w.heap.size 30 1 (.slice pm i cm) i (dcells G)
  lo : ∀ (k : Nat) (e : Ent), R[k]? = some e → ∀ b, blockOf e.a = some b → b < w.heap.size
  grd : ∀ k e g, R[k]? = some e → G[k]? = some g → g.len = e.len + 1 ∧ Reads wr g.a g.len g.cap (List.replicate g.len (k % 256)) ∧ (∀ b, blockOf g.a = some b → (blockOf e.a = some b ∨ w.heap.size ≤ b) ∧ ∃ cs, wr.heap[b]? = some (.cells cs 5 (0, 0)))
theorem rep_bytes (n k : Nat) : ∀ c ∈ List.replicate n (k % 256), c < 256 := fun c hc => by
  rw [(List.mem_replicate.1 hc).2]
  omega
theorem MO.start {base : Nat} {w wr : World} {q : Option Addr} {len cap : Nat} {R : List Ent} {F : Nat → List Nat} (s : AP base w wr q len cap R F) (hw : IsL base w q len cap R) (h : ∀ k, k < R.length → Marked R F k) : MO base w wr q len cap R 0 none 0 [] := by
  refine ⟨s.kept, s.row, fun k e _ he => ?_, fun k e hk => absurd hk (by omega), World.ownsRow_nil _ _ _ _, fun k e he b hb => (own_lt (hw.good e (List.mem_of_getElem? he)).own b hb).2, fun k e g _ hg => by simp at hg⟩
  have := s.own k e he
  rw [h k (List.getElem?_eq_some_iff.1 he).1 e he] at this
  exact this
theorem MO.quiet {base : Nat} {w wr w' : World} {q : Option Addr} {len cap : Nat} {R : List Ent} {i : Nat} {pm : Option Addr} {cm : Nat} {G : List Sli} (s : MO base w wr q len cap R i pm cm G) (K : Kept (fun _ => False) wr w') : MO base w w' q len cap R i pm cm G := by
  refine ⟨s.kept.trans K (fun _ _ z => z.elim), K.owns s.row (fun _ _ z => z), fun k e h1 h2 => K.owns (s.own k e h1 h2) (fun _ _ z => z), fun k e h1 h2 => (s.rd k e h1 h2).kept' K (fun _ _ z => z), K.owns s.more (fun _ _ z => z), s.lo, fun k e g h1 h2 => ?_⟩
  obtain ⟨a, b, c⟩ := s.grd k e g h1 h2
  exact ⟨a, b.kept' K (fun _ _ z => z), fun x hx => ⟨(c x hx).1, by obtain ⟨cs, hc⟩ := (c x hx).2; exact ⟨cs, K.get hc (fun z => z)⟩⟩⟩
theorem Reads.off {S : Nat → Prop} {w w' : World} {a : Option Addr} {len cap : Nat} {l : List Nat} (r : Reads w a len cap l) (h : Kept S w w') (hn : ∀ k, blockOf a = some k → ¬ S k) : Reads w' a len cap l := r.kept h (fun p hp => hn _ (by rw [hp]; rfl))
/-- Between the two appends of a round. -/
structure MI (base : Nat) (w wr : World) (q : Option Addr) (len cap : Nat) (R : List Ent) (i : Nat) (pm : Option Addr) (cm : Nat) (G : List Sli) (p : Option Addr) (n c : Nat) : Prop where
  kept : Kept (DB R) w wr
  row : wr.ownsRow base 39 6 (.slice q len cap) len (rcells R)
  own : ∀ k e, i + 1 ≤ k → R[k]? = some e → wr.ownsRow base 5 1 (.slice e.a e.len e.cap) e.len (cellsOf (List.replicate e.len (k % 256)))
  rd : ∀ k e, k < i + 1 → R[k]? = some e → Reads wr e.a e.len e.cap (List.replicate e.len (k % 256))
  more : wr.ownsRow w.heap.size 30 1 (.slice pm i cm) i (dcells G)
  lo : ∀ (k : Nat) (e : Ent), R[k]? = some e → ∀ b, blockOf e.a = some b → b < w.heap.size
  grd : ∀ k e g, R[k]? = some e → (G ++ [⟨p, n, c, List.replicate n (i % 256)⟩])[k]? = some g → g.len = e.len + 1 ∧ Reads wr g.a g.len g.cap (List.replicate g.len (k % 256)) ∧ (∀ b, blockOf g.a = some b → (blockOf e.a = some b ∨ w.heap.size ≤ b) ∧ ∃ cs, wr.heap[b]? = some (.cells cs 5 (0, 0)))
theorem MO.glen {base : Nat} {w wr : World} {q : Option Addr} {len cap : Nat} {R : List Ent} {i : Nat} {pm : Option Addr} {cm : Nat} {G : List Sli} (s : MO base w wr q len cap R i pm cm G) : G.length = i := by
  have := s.more.1
  rw [dcells_length] at this
  omega
theorem MO.mid {base : Nat} {w wr W1 w2 : World} {q : Option Addr} {len cap : Nat} {R : List Ent} {i : Nat} {pm : Option Addr} {cm : Nat} {G : List Sli} (s : MO base w wr q len cap R i pm cm G) (ha : Apart R) {e : Ent} (hi : R[i]? = some e) (K1 : Kept (fun _ => False) wr W1) {p : Option Addr} {c : Nat}
    (ho : w2.ownsRow base 5 1 (.slice p (e.len + 1) c) (e.len + 1) (cellsOf (List.replicate e.len (i % 256) ++ [i % 256]))) (hg : W1.grownBy w2 (Value.slice e.a e.len e.cap).ownBlock)
    (hn : (Value.slice p (e.len + 1) c).ownBlock = (Value.slice e.a e.len e.cap).ownBlock ∨ ((Value.slice p (e.len + 1) c).ownBlock = some W1.heap.size ∧ W1.grownBy w2 none)) : MI base w w2 q len cap R i pm cm G p (e.len + 1) c := by
  rw [blockOf_own] at hg hn
  rw [blockOf_own] at hn
  have s1 := s.quiet K1
  have gl := s.glen
  have oi := s1.own i e (Nat.le_refl _) hi
  have K12 : Kept (fun k => blockOf e.a = some k) W1 w2 := (Kept.refl _ _).grown hg (fun k _ z => z.symm ▸ rfl)
  have ho' : w2.ownsRow base 5 1 (.slice p (e.len + 1) c) (e.len + 1) (cellsOf (List.replicate (e.len + 1) (i % 256))) := by
    rw [show List.replicate (e.len + 1) (i % 256) = List.replicate e.len (i % 256) ++ [i % 256] from List.replicate_succ']
    exact ho
  obtain ⟨p', c', ep, rp, _⟩ := owns_reads ho' (rep_bytes _ _)
  simp at ep
  obtain ⟨rfl, rfl⟩ := ep
  have ty : ∀ t (cs : Array Value) k, t ≠ 5 → W1.heap[k]? = some (.cells cs t (0, 0)) → ¬ blockOf e.a = some k := fun t cs k ht hk z => by
    obtain ⟨c1, h1⟩ := own_type oi k z
    rw [hk] at h1
    simp at h1
    exact ht h1.2
  refine ⟨s1.kept.trans K12 (fun k _ z => ⟨i, e, hi, z⟩), K12.owns s1.row (fun k hk z => ?_), fun k f hk hf => K12.owns (s1.own k f (by omega) hf) (fun b hb z => ha.ne hi hf (by omega) b z (by rw [← hb]; exact (blockOf_own ..).symm)), fun k f hk hf => ?_, K12.owns s1.more (fun k hk z => ?_), s.lo, fun k f g hf hgk => ?_⟩
  · obtain ⟨cs, hc⟩ := own_type s1.row k (by rw [← hk]; exact (blockOf_own ..).symm)
    exact ty 39 cs k (by decide) hc z
  · rcases Nat.lt_or_ge k i with hlt | hge
    · exact (s1.rd k f hlt hf).off K12 (fun b hb z => ha.ne hi hf (by omega) b z hb)
    · have hk2 : k = i := by omega
      subst hk2
      rw [hi] at hf
      cases hf
      rcases hn with hs | ⟨_, hgn⟩
      · obtain ⟨b, off, e1, hc⟩ := rp.cells (by omega)
        rcases oi.2 with ⟨e0, _⟩ | ⟨g, cap', cur, e0, _, hg0, h1, h2, _⟩
        · simp at e0
          rw [e0.1, e1] at hs
          simp [blockOf] at hs
        · simp at e0
          obtain ⟨ea, rfl⟩ := e0
          rcases ho'.2 with ⟨e3, _⟩ | ⟨g3, cap3, cur3, e3, _⟩
          · simp at e3
          · simp at e3
            rw [e3.1] at e1 hs
            rw [ea] at hs
            simp [blockOf] at hs e1
            obtain ⟨rfl, rfl⟩ := e1
            subst hs
            refine ⟨by simp, h1, h2, rep_bytes _ _, fun _ => ⟨g3, 0, ea, fun j hj => ?_⟩⟩
            have := hc j (by omega)
            rw [this]
            simp [List.getD_eq_getElem?_getD, hj, Nat.lt_succ_of_lt hj]
      · have K0 : Kept (fun _ => False) W1 w2 := (Kept.refl _ _).grown hgn (fun k _ z => by simp at z)
        obtain ⟨a4, c4, e4, r4, _⟩ := owns_reads (K0.owns oi (fun _ _ z => z)) (rep_bytes _ _)
        simp at e4
        obtain ⟨h4, h5⟩ := e4
        rw [h4, h5]
        exact r4
  · obtain ⟨cs, hc⟩ := own_type s1.more k (by rw [← hk]; exact (blockOf_own ..).symm)
    exact ty 30 cs k (by decide) hc z
  · rcases Nat.lt_or_ge k G.length with hlt | hge
    · rw [List.getElem?_append_left hlt] at hgk
      obtain ⟨a, b, d⟩ := s1.grd k f g hf hgk
      have ne : ∀ x, blockOf g.a = some x → ¬ blockOf e.a = some x := fun x hx z => by
        rcases (d x hx).1 with q1 | q1
        · exact ha.ne hi hf (by omega) x z q1
        · have := s.lo i e hi x z
          omega
      exact ⟨a, b.off K12 ne, fun x hx => ⟨(d x hx).1, by obtain ⟨cs, hc⟩ := (d x hx).2; exact ⟨cs, K12.get hc (ne x hx)⟩⟩⟩
    · have hk2 : k = i := by
        have := (List.getElem?_eq_some_iff.1 hgk).1
        rw [List.length_append] at this
        simp at this
        omega
      subst hk2
      rw [List.getElem?_append_right hge, gl, Nat.sub_self] at hgk
      simp at hgk
      subst hgk
      rw [hi] at hf
      cases hf
      refine ⟨rfl, rp, fun b hb => ⟨?_, own_type ho' b hb⟩⟩
      rcases hn with hs | ⟨hs, _⟩
      · exact .inl (by rw [← hs]; exact hb)
      · simp only at hb
        rw [hs] at hb
        simp at hb
        exact .inr (by have := s1.kept.size; omega)
theorem MI.done {base : Nat} {w w2 W2 w3 : World} {q : Option Addr} {len cap : Nat} {R : List Ent} {i : Nat} {pm : Option Addr} {cm : Nat} {G : List Sli} {p : Option Addr} {n c : Nat} (s : MI base w w2 q len cap R i pm cm G p n c) (K : Kept (fun _ => False) w2 W2) {p3 : Option Addr} {c3 : Nat}
    (ho : w3.ownsRow w.heap.size 30 1 (.slice p3 (i + 1) c3) (i + 1) (dcells G ++ [.slice p n c])) (hg : W2.grownBy w3 (Value.slice pm i cm).ownBlock) : MO base w w3 q len cap R (i + 1) p3 c3 (G ++ [⟨p, n, c, List.replicate n (i % 256)⟩]) := by
  rw [blockOf_own] at hg
  have mo := K.owns s.more (fun _ _ z => z)
  have K2 : Kept (fun k => blockOf pm = some k) W2 w3 := (Kept.refl _ _).grown hg (fun k _ z => z.symm ▸ rfl)
  have ty : ∀ t (cs : Array Value) k, t ≠ 30 → W2.heap[k]? = some (.cells cs t (0, 0)) → ¬ blockOf pm = some k := fun t cs k ht hk z => by
    obtain ⟨c1, h1⟩ := own_type mo k z
    rw [hk] at h1
    simp at h1
    exact ht h1.2
  refine ⟨(s.kept.trans K (fun _ _ z => z.elim)).trans K2 (fun k hk z => absurd (own_lt mo k z).1 (by omega)), K2.owns (K.owns s.row (fun _ _ z => z)) (fun k hk z => ?_), fun k f hk hf => K2.owns (K.owns (s.own k f hk hf) (fun _ _ z => z)) (fun b hb z => ?_), fun k f hk hf => ((s.rd k f hk hf).kept' K (fun _ _ z => z)).off K2 (fun b hb z => ?_), ?_, s.lo, fun k f g hf hgk => ?_⟩
  · obtain ⟨cs, hc⟩ := own_type s.row k (by rw [← hk]; exact (blockOf_own ..).symm)
    exact ty 39 cs k (by decide) (K.get hc (fun z => z)) z
  · obtain ⟨cs, hc⟩ := own_type (s.own k f hk hf) b (by rw [← hb]; exact (blockOf_own ..).symm)
    exact ty 5 cs b (by decide) (K.get hc (fun z => z)) z
  · have := (own_lt mo b z).1
    have := s.lo k f hf b hb
    omega
  · unfold dcells at ho ⊢
    rw [List.map_append]
    exact ho
  · obtain ⟨a, b, d⟩ := s.grd k f g hf hgk
    have ne : ∀ x, blockOf g.a = some x → ¬ blockOf pm = some x := fun x hx => by
      obtain ⟨cs, hc⟩ := (d x hx).2
      exact ty 5 cs x (by decide) (K.get hc (fun z => z))
    exact ⟨a, (b.kept' K (fun _ _ z => z)).off K2 ne, fun x hx => ⟨(d x hx).1, by obtain ⟨cs, hc⟩ := (d x hx).2; exact ⟨cs, K2.get (K.get hc (fun z => z)) (ne x hx)⟩⟩⟩
theorem src_byte (w : World) (v : Nat) (hv : v < 256) : Src Try.prog 1 30 (.slice (some ⟨w.heap.size, 0, none⟩) 1 1) 1 (cellsOf [v]) (w.alloc (.cells #[.int .u8 (v : Int)] 5)) := by
  have o := made_bytes (Nat.le_refl w.heap.size) [v] (by simp) #[.int .u8 (v : Int)] rfl (alloc_new w (.cells #[.int .u8 (v : Int)] 5))
  obtain ⟨a, c, e, r, _⟩ := owns_reads o (fun c hc => by rw [List.mem_singleton.1 hc]; exact hv)
  simp at e
  obtain ⟨rfl, rfl⟩ := e
  exact r.src
theorem src_slice1 (w : World) (v : Value) (hv : v.oneCell' = true) : Src Try.prog 1 22 (.slice (some ⟨w.heap.size, 0, none⟩) 1 1) 1 [v] (w.alloc (.cells #[v] 30)) := by
  refine Src.ofSlice _ Try.underlying22 _ 1 1 _ rfl (fun j u hj => ?_) (fun u hu => by rw [List.mem_singleton.1 hu]; exact hv)
  have hlt := (List.getElem?_eq_some_iff.1 hj).1
  have e0 : j = 0 := by simp at hlt; omega
  subst e0
  simp at hj
  subst hj
  exact cell_blk (alloc_new w (.cells #[v] 30)) 0 rfl
theorem MO.at {base : Nat} {w wr : World} {q : Option Addr} {len cap : Nat} {R : List Ent} {i : Nat} {pm : Option Addr} {cm : Nat} {G : List Sli} (s : MO base w wr q len cap R i pm cm G) {k : Nat} (hk : k < i) : ∃ gm g, pm = some ⟨gm, 0, none⟩ ∧ G[k]? = some g ∧ wr.cell? ⟨gm, k, none⟩ = some (.slice g.a g.len g.cap) := by
  have gl := s.glen
  have h := s.more
  rcases h.2 with ⟨e0, e1⟩ | ⟨g, cap', cur, e0, _, hg, _⟩
  · omega
  · simp at e0
    obtain ⟨rfl, rfl⟩ := e0
    have hkG : k < G.length := by omega
    refine ⟨g, G[k], rfl, List.getElem?_eq_getElem hkG, ?_⟩
    have := h.cells (g := g) rfl k (.slice G[k].a G[k].len G[k].cap) (by simp [dcells, hkG])
    rw [Addr.add_none, Nat.zero_add] at this
    exact this
end Go.Proofs.Ytojfnehdanhgiaa
