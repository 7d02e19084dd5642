import Derived.Test.YtojepeefphbekaaGreatTurn0J
import Derived.Test.YtojepeefphbekaaGreatApartW
import Derived.Test.YtojepeefphbekaaGreatTCopy
namespace Go.Proofs.YtojepeefphbekaaGreat
open Go.RowKit 

def encM (m : Mv) : List Value := [.int .i64 m.key, .bool m.fin, .bool m.both, .int .i64 m.c, .int .i64 m.k]
def mcells (l : List Mv) : List Value := l.flatMap encM
theorem mcells_cons (e : Mv) (l : List Mv) : mcells (e :: l) = encM e ++ mcells l := by simp [mcells]
theorem mcells_append (l m : List Mv) : mcells (l ++ m) = mcells l ++ mcells m := by simp [mcells]
theorem mcells_length (l : List Mv) : (mcells l).length = l.length * 5 := by
  induction l with
  | nil => rfl
  | cons t r ih => rw [mcells_cons, List.length_append, ih, List.length_cons]; show 5 + _ = _; omega
theorem mcells_get (l : List Mv) : ∀ i (h : i < l.length) j, j < 5 → (mcells l)[i * 5 + j]? = (encM l[i])[j]? := by
  induction l with
  | nil => intro i h; simp at h
  | cons t r ih =>
    intro i h j hj
    rw [mcells_cons]
    have e2 : (encM t).length = 5 := rfl
    cases i with
    | zero => rw [List.getElem?_append_left (by rw [e2]; omega)]; simp
    | succ i =>
      rw [List.getElem?_append_right (by rw [e2]; omega), e2, show (i + 1) * 5 + j - 5 = i * 5 + j by omega, ih i (by simpa using h) j hj]
      rfl
theorem mcells_set : ∀ (L : List Mv) (j : Nat) (_ : j < L.length) (m : Mv), mcells (L.set j m) = (((((mcells L).set (j * 5) (.int .i64 m.key)).set (j * 5 + 1) (.bool m.fin)).set (j * 5 + 2) (.bool m.both)).set (j * 5 + 3) (.int .i64 m.c)).set (j * 5 + 4) (.int .i64 m.k)
  | [], j, h, m => by simp at h
  | a :: L, 0, _, m => by
    rw [List.set_cons_zero, mcells_cons, mcells_cons]
    rfl
  | a :: L, j + 1, h, m => by
    rw [List.set_cons_succ, mcells_cons, mcells_set L j (by simpa using h) m, mcells_cons]
    have e : ∀ i, (j + 1) * 5 + i = j * 5 + i + 5 := fun i => by omega
    have e0 : (j + 1) * 5 = j * 5 + 5 := by omega
    rw [e 1, e 2, e 3, e 4, e0]
    rfl
theorem mreads_of {w : World} {b0 : Nat} {p : Option Addr} {n c : Nat} {L : List Mv} (ow : w.ownsRow b0 28 5 (.slice p n c) n (mcells L)) (hl : L.length = n) : MReads w p n c L := by
  have rm := own_room ow
  refine ⟨hl, rm.1, rm.2, fun h0 => ?_⟩
  rcases ow.2 with ⟨_, hn⟩ | ⟨b, cap, cur, z, _⟩
  · omega
  · have z : Value.slice p n c = .slice (some ⟨b, 0, none⟩) n cap := z
    injection z with z1 _ z3
    subst z1
    subst z3
    have hc := ow.cells (g := b) rfl
    refine ⟨b, 0, rfl, fun i hi => ?_⟩
    have h1 : i < L.length := by omega
    have eg : L.getD i Mv.zero = L[i] := by rw [List.getD_eq_getElem?_getD, List.getElem?_eq_getElem h1]; rfl
    have cell : ∀ j v, j < 5 → (encM L[i])[j]? = some v → w.cell? ⟨b, 0 + i * 5 + j, none⟩ = some v := fun j v hj hv => by
      have := hc (i * 5 + j) v (by rw [mcells_get L i h1 j hj]; exact hv)
      rw [Addr.add_none, ← Nat.add_assoc] at this
      exact this
    rw [eg]
    exact ⟨cell 0 _ (by omega) rfl, cell 1 _ (by omega) rfl, cell 2 _ (by omega) rfl, cell 3 _ (by omega) rfl, cell 4 _ (by omega) rfl⟩
theorem src_moves {w : World} {a : Option Addr} {len cap : Nat} {l : List Mv} (r : MReads w a len cap l) : Src Tryz.prog 5 22 (.slice a len cap) len (mcells l) w := by
  have some_case : ∀ ad : Addr, (∀ j u, (mcells l)[j]? = some u → w.cell? (ad.add j) = some u) → Src Tryz.prog 5 22 (.slice (some ad) len cap) len (mcells l) w := fun ad hn =>
    Src.ofSlice w Tryz.underlying22 ad len cap (mcells l) (by rw [mcells_length, r.length]) hn (fun v hv => by
      unfold mcells at hv
      obtain ⟨m, _, hm⟩ := List.mem_flatMap.1 hv
      simp [encM] at hm
      rcases hm with rfl | rfl | rfl | rfl | rfl <;> rfl)
  by_cases hm : 0 < len
  · obtain ⟨b, off, e, hc⟩ := r.cells hm
    subst e
    refine some_case _ fun j u hj => ?_
    have hjl : j < l.length * 5 := by
      rw [← mcells_length]
      exact (List.getElem?_eq_some_iff.1 hj).1
    have h5 : j / 5 < l.length := by omega
    have ej : j = j / 5 * 5 + j % 5 := by omega
    have eg : l.getD (j / 5) Mv.zero = l[j / 5] := by rw [List.getD_eq_getElem?_getD, List.getElem?_eq_getElem h5]; rfl
    have hc5 := hc (j / 5) (by rw [← r.length]; exact h5)
    rw [eg] at hc5
    rw [ej, mcells_get l (j / 5) h5 (j % 5) (by omega)] at hj
    rw [Addr.add_none, ej, ← Nat.add_assoc]
    have hlt : j % 5 < 5 := by omega
    revert hj
    generalize j % 5 = q at hlt ⊢
    intro hj
    match q, hlt with
    | 0, _ => exact hc5.1.trans hj
    | 1, _ => exact hc5.2.1.trans hj
    | 2, _ => exact hc5.2.2.1.trans hj
    | 3, _ => exact hc5.2.2.2.1.trans hj
    | 4, _ => exact hc5.2.2.2.2.trans hj
  · have h0 : len = 0 := by omega
    subst h0
    have hl : l = [] := List.eq_nil_of_length_eq_zero r.length
    subst hl
    cases a with
    | some ad => exact some_case ad (fun j u hj => by simp [mcells] at hj)
    | none => exact Src.ofNil w Tryz.underlying22 cap
theorem Tryz.info28c : (Tryz.prog.info? 28).map (fun i => (i.zero, i.size, i.bytes)) = some (some (.agg #[.int .i64 0, .bool false, .bool false, .int .i64 0, .int .i64 0]), 5, 32) := by kernel_rfl
/-- The other list of moves. -/
structure OS (w wr : World) (p : Option Addr) (n c : Nat) (l L : List Mv) : Prop where
  len : L.length = n
  row : wr.ownsRow w.heap.size 28 5 (.slice p n c) n (mcells L)
  mem : ∀ m, m ∈ l ↔ m ∈ L
  kept : Kept (fun _ => False) w wr
theorem OS.k0 {w wr w' : World} {p : Option Addr} {n c : Nat} {l L : List Mv} (h : OS w wr p n c l L) (K : Kept (fun _ => False) wr w') : OS w w' p n c l L := ⟨h.len, K.owns h.row (fun _ _ z => z), h.mem, h.kept.and0 K⟩
/-- One of its moves is written over. -/
theorem row_set {wr : World} {b0 g n c : Nat} {L : List Mv} (h : wr.ownsRow b0 28 5 (.slice (some ⟨g, 0, none⟩) n c) n (mcells L)) (j : Nat) (hj : j < L.length) (m : Mv) :
    (((((wr.setCell ⟨g, j * 5, none⟩ (.int .i64 m.key)).setCell ⟨g, j * 5 + 1, none⟩ (.bool m.fin)).setCell ⟨g, j * 5 + 2, none⟩ (.bool m.both)).setCell ⟨g, j * 5 + 3, none⟩ (.int .i64 m.c)).setCell ⟨g, j * 5 + 4, none⟩ (.int .i64 m.k)).ownsRow b0 28 5 (.slice (some ⟨g, 0, none⟩) n c) n (mcells (L.set j m)) := by
  rw [mcells_set L j hj m]
  exact ((((h.stored _ _).1.stored _ _).1.stored _ _).1.stored _ _).1.stored _ _ |>.1
end Go.Proofs.YtojepeefphbekaaGreat

namespace Go.Proofs.YtojepeefphbekaaGreat
open Go.RowKit 

theorem OL.perm {b0 : Nat} {w : World} {T T' : List B3} (h : OL b0 w T) (P : T'.Perm T) : OL b0 w T' :=
  ⟨fun e he => h.own e (P.mem_iff.1 he), (P.pairwise_iff (fun {_ _} hab k hk z => hab k z hk)).2 h.apart⟩
/-- What was told so far, and what is told next. -/
structure Tld (w6 wr : World) (p : Option Addr) (n c : Nat) (T R : List B3) : Prop where
  ol : OL w6.heap.size wr (T ++ R)
  row : wr.ownsRow w6.heap.size 38 1 (.slice p n c) n (bcells T)
  kept : Kept (fun _ => False) w6 wr
theorem Tld.len {w6 wr : World} {p : Option Addr} {n c : Nat} {T R : List B3} (h : Tld w6 wr p n c T R) : T.length = n := by
  have := own_len1 h.row
  unfold bcells at this
  rw [List.length_map] at this
  exact this
theorem Tld.nil (w : World) : Tld w w none 0 0 [] [] := ⟨OL.nil _ _, ⟨rfl, .inl ⟨rfl, rfl⟩⟩, Kept.refl _ _⟩
theorem Tld.k {S : Nat → Prop} {w6 wr w' : World} {p : Option Addr} {n c : Nat} {T R : List B3} (h : Tld w6 wr p n c T R) (K : Kept S wr w') (hn : ∀ k cs ty, ty = 5 ∨ ty = 38 → wr.heap[k]? = some (.cells cs ty (0, 0)) → ¬ S k) (hs : ∀ k, S k → w6.heap.size ≤ k) : Tld w6 w' p n c T R := by
  refine ⟨h.ol.off K (fun k cs hc => hn k cs 5 (.inl rfl) hc), K.owns h.row (fun k hk => ?_), h.kept.trans K (fun j hj z => ?_)⟩
  · obtain ⟨cs, hc⟩ := own_typ h.row (by rw [← blockOf_own]; exact hk)
    exact hn k cs 38 (.inr rfl) hc
  · have := hs j z
    omega
theorem Tld.k0 {w6 wr w' : World} {p : Option Addr} {n c : Nat} {T R : List B3} (h : Tld w6 wr p n c T R) (K : Kept (fun _ => False) wr w') : Tld w6 w' p n c T R := h.k K (fun _ _ _ _ _ z => z) (fun _ z => z.elim)
/-- New ones are told next. -/
theorem Tld.add {w6 wr w' : World} {p : Option Addr} {n c : Nat} {T R R' : List B3} (h : Tld w6 wr p n c T R) (K : Kept (fun _ => False) wr w') (o : OL wr.heap.size w' R') : Tld w6 w' p n c T (R ++ R') := by
  have h' := h.k0 K
  refine ⟨?_, h'.row, h'.kept⟩
  rw [← List.append_assoc]
  exact h'.ol.app o h.kept.size (fun f hf k hk => (h.ol.lt hf hk).2)
/-- One of them is told. -/
theorem Tld.push {w6 wr wi w' : World} {p p9 : Option Addr} {n c c9 : Nat} {T R : List B3} {r : B3} {o : Obj} (h : Tld w6 wr p n c T (r :: R)) (K : Kept (fun _ => False) wr wi) (ho : w'.ownsRow w6.heap.size 38 1 (.slice p9 (n + 1) c9) (n + 1) (bcells T ++ [sl3 r])) (hg : (wi.alloc o).grownBy w' (Value.slice p n c).ownBlock) : Tld w6 w' p9 (n + 1) c9 (T ++ [r]) R ∧ Kept (fun k => blockOf p = some k) wi w' := by
  have KG : Kept (fun k => blockOf p = some k) wi w' := ((Kept.refl (fun k => blockOf p = some k) wi).alloc _).grown hg (fun k _ z => by rw [blockOf_own] at z; exact z)
  have h' := h.k0 K
  refine ⟨⟨?_, ?_, h'.kept.trans KG (fun j hj z => ?_)⟩, KG⟩
  · have := h'.ol.off KG (fun k cs hc z => by
      obtain ⟨c2, h2⟩ := own_typ h'.row z
      rw [h2] at hc
      simp at hc)
    rw [List.append_assoc]
    exact this
  · rw [bcells_append]
    exact ho
  · have := (own_lt h'.row j z).1
    omega
/-- Two of them. -/
theorem Tld.push2 {w6 wr wi w' : World} {p p9 : Option Addr} {n c c9 : Nat} {T R : List B3} {r s : B3} {o : Obj} (h : Tld w6 wr p n c T (r :: s :: R)) (K : Kept (fun _ => False) wr wi) (ho : w'.ownsRow w6.heap.size 38 1 (.slice p9 (n + 2) c9) (n + 2) (bcells T ++ [sl3 r, sl3 s])) (hg : (wi.alloc o).grownBy w' (Value.slice p n c).ownBlock) : Tld w6 w' p9 (n + 2) c9 (T ++ [r, s]) R ∧ Kept (fun k => blockOf p = some k) wi w' := by
  have KG : Kept (fun k => blockOf p = some k) wi w' := ((Kept.refl (fun k => blockOf p = some k) wi).alloc _).grown hg (fun k _ z => by rw [blockOf_own] at z; exact z)
  have h' := h.k0 K
  refine ⟨⟨?_, ?_, h'.kept.trans KG (fun j hj z => ?_)⟩, KG⟩
  · have := h'.ol.off KG (fun k cs hc z => by
      obtain ⟨c2, h2⟩ := own_typ h'.row z
      rw [h2] at hc
      simp at hc)
    rw [List.append_assoc]
    exact this
  · rw [bcells_append]
    exact ho
  · have := (own_lt h'.row j z).1
    omega
theorem Tld.swap {w6 wr : World} {p : Option Addr} {n c : Nat} {T R : List B3} {r s : B3} (h : Tld w6 wr p n c T (r :: (R ++ [s]))) : Tld w6 wr p n c T (r :: s :: R) := by
  refine ⟨h.ol.perm ?_, h.row, h.kept⟩
  refine List.Perm.append_left T (List.Perm.cons r ?_)
  exact List.perm_append_comm (l₁ := [s]) (l₂ := R)
theorem OL.one {b1 : Nat} {w : World} {p : Option Addr} {n c : Nat} {xs : List Value} (h1 : n ≤ 140737488355328) (ow : w.ownsRow b1 5 1 (.slice p n c) n xs) : OL b1 w [(p, n, c)] := ⟨fun f hf => by rw [List.mem_singleton.1 hf]; exact ⟨h1, xs, ow⟩, List.pairwise_singleton _ _⟩
/-- Rows of entries, some of which were written over. -/
structure AX (b1 : Nat) (w : World) (p : Option Addr) (n c : Nat) (hs : List (Hl × List Et6)) (i : Nat) : Prop where
  len : hs.length = n
  row : w.ownsRow b1 35 2 (.slice p n c) n (hcells (hs.map fun h => h.1))
  ents : ∀ j (h : j < hs.length), i ≤ j → hs[j].2.length = hs[j].1.2.2.1 ∧ w.ownsRow b1 40 5 (.slice hs[j].1.2.1 hs[j].1.2.2.1 hs[j].1.2.2.2) hs[j].1.2.2.1 (ecells hs[j].2)
  apart : ∀ j j' (h : j < hs.length) (h' : j' < hs.length), j ≠ j' → ∀ k, blockOf hs[j].1.2.1 = some k → blockOf hs[j'].1.2.1 ≠ some k
theorem AllX.ax {b1 : Nat} {w : World} {p : Option Addr} {n c : Nat} {hs : List (Hl × List Et6)} (x : AllX b1 w p n c hs) : AX b1 w p n c hs 0 := by
  refine ⟨x.len, x.row, fun j hj _ => x.ents _ (List.getElem_mem hj), fun j j' hj hj' hne k hk z => ?_⟩
  have pw := List.pairwise_iff_getElem.1 x.apart
  rcases Nat.lt_or_gt_of_ne hne with q | q
  · exact pw j j' hj hj' q k hk z
  · exact pw j' j hj' hj q k z hk
theorem AX.k {S : Nat → Prop} {b1 : Nat} {w w' : World} {p : Option Addr} {n c : Nat} {hs : List (Hl × List Et6)} {i : Nat} (x : AX b1 w p n c hs i) (K : Kept S w w') (hn : ∀ k cs ty, ty = 40 ∨ ty = 35 → w.heap[k]? = some (.cells cs ty (0, 0)) → ¬ S k) : AX b1 w' p n c hs i := by
  refine ⟨x.len, K.owns x.row (fun k hk => ?_), fun j hj z => ⟨(x.ents j hj z).1, K.owns (x.ents j hj z).2 (fun k hk => ?_)⟩, x.apart⟩
  · obtain ⟨cs, hc⟩ := own_typ x.row (by rw [← blockOf_own]; exact hk)
    exact hn k cs 35 (.inr rfl) hc
  · obtain ⟨cs, hc⟩ := own_typ (x.ents j hj z).2 (by rw [← blockOf_own]; exact hk)
    exact hn k cs 40 (.inl rfl) hc
theorem AX.at {b1 : Nat} {w : World} {p : Option Addr} {n c : Nat} {hs : List (Hl × List Et6)} {i0 : Nat} (x : AX b1 w p n c hs i0) {i : Nat} (hi : i < n) : ∃ b key a m q L, p = some ⟨b, 0, none⟩ ∧ hs[i]? = some ((key, a, m, q), L) ∧ w.cell? ⟨b, i * 2, none⟩ = some (.string key) ∧ w.cell? ⟨b, i * 2 + 1, none⟩ = some (.slice a m q) := by
  rcases x.row.2 with ⟨_, hn⟩ | ⟨b, cap, cur, z, _⟩
  · omega
  · have z : Value.slice p n c = .slice (some ⟨b, 0, none⟩) n cap := z
    injection z with z1 _ z3
    subst z1
    subst z3
    have hc := x.row.cells (g := b) rfl
    have h2 : i < hs.length := by rw [x.len]; exact hi
    have h1 : i < (hs.map fun h => h.1).length := by rw [List.length_map]; exact h2
    obtain ⟨⟨⟨key, a, m, q⟩, L⟩, hL⟩ : ∃ e, hs[i] = e := ⟨_, rfl⟩
    have cell : ∀ j v, j < 2 → (encH (key, a, m, q))[j]? = some v → w.cell? ⟨b, i * 2 + j, none⟩ = some v := fun j v hj hv => by
      have := hc (i * 2 + j) v (by rw [hcells_get _ i h1 j hj, List.getElem_map, hL]; exact hv)
      rw [Addr.add_none, Nat.zero_add] at this
      exact this
    exact ⟨b, key, a, m, q, L, rfl, by rw [List.getElem?_eq_getElem h2, hL], cell 0 _ (by omega) rfl, cell 1 _ (by omega) rfl⟩
/-- The zero entry. -/
def E0 : Et6 := ((0, 0), false, false, none, 0, 0)
theorem ecells_set : ∀ (L : List Et6) (j : Nat) (_ : j < L.length) (e : Et6), ecells (L.set j e) = (((((ecells L).set (j * 5) (.int .i64 e.1.1)).set (j * 5 + 1) (.int .i64 e.1.2)).set (j * 5 + 2) (.bool e.2.1)).set (j * 5 + 3) (.bool e.2.2.1)).set (j * 5 + 4) (.slice e.2.2.2.1 e.2.2.2.2.1 e.2.2.2.2.2)
  | [], j, h, e => by simp at h
  | a :: L, 0, _, e => by
    rw [List.set_cons_zero, ecells_cons, ecells_cons]
    rfl
  | a :: L, j + 1, h, e => by
    rw [List.set_cons_succ, ecells_cons, ecells_set L j (by simpa using h) e, ecells_cons]
    have e' : ∀ i, (j + 1) * 5 + i = j * 5 + i + 5 := fun i => by omega
    have e0 : (j + 1) * 5 = j * 5 + 5 := by omega
    rw [e' 1, e' 2, e' 3, e' 4, e0]
    rfl
theorem set_zero (L : List Et6) (j : Nat) (hj : j < L.length) : (List.replicate j E0 ++ L.drop j).set j E0 = List.replicate (j + 1) E0 ++ L.drop (j + 1) := by
  rw [List.set_append_right _ _ (by simp), List.length_replicate, Nat.sub_self, List.drop_eq_getElem_cons hj, List.set_cons_zero, List.replicate_succ']
  simp
theorem zero_at (L : List Et6) (j : Nat) (hj : j < L.length) : (List.replicate j E0 ++ L.drop j)[j]? = some L[j] := by
  rw [List.getElem?_append_right (by simp), List.length_replicate, Nat.sub_self, List.drop_eq_getElem_cons hj]
  rfl
theorem zero_len (L : List Et6) (j : Nat) (hj : j ≤ L.length) : (List.replicate j E0 ++ L.drop j).length = L.length := by
  rw [List.length_append, List.length_replicate, List.length_drop]
  omega
theorem row_zero {wr : World} {b0 g n c : Nat} {L : List Et6} (h : wr.ownsRow b0 40 5 (.slice (some ⟨g, 0, none⟩) n c) n (ecells L)) (j : Nat) (hj : j < L.length) :
    (((((wr.setCell ⟨g, j * 5, none⟩ (.int .i64 0)).setCell ⟨g, j * 5 + 1, none⟩ (.int .i64 0)).setCell ⟨g, j * 5 + 2, none⟩ (.bool false)).setCell ⟨g, j * 5 + 3, none⟩ (.bool false)).setCell ⟨g, j * 5 + 4, none⟩ (.slice none 0 0)).ownsRow b0 40 5 (.slice (some ⟨g, 0, none⟩) n c) n (ecells (L.set j E0)) := by
  rw [ecells_set L j hj E0]
  exact ((((h.stored _ _).1.stored _ _).1.stored _ _).1.stored _ _).1.stored _ _ |>.1
theorem keys3 {w wr : World} {d : Int} {t : TK} {l : List Mv} (h : Dst w wr d t l) {ks : List ByteArray} (e : KE t.rv (fun _ => False) ks) : ks.length ≤ 3 := by
  have := nodup_leG ks [(⟨#[97]⟩ : ByteArray), ⟨#[97, 98]⟩, ⟨#[98]⟩] e.one (fun k hk => by
    have hr := (e.each k hk).2
    have : t.R k ≠ none := fun z => hr (by unfold TK.rv; rw [z]; rfl)
    obtain ⟨m, _, rfl⟩ := (h.keys k).1 this
    exact key3_in _)
  simpa using this
theorem ents60 {w wr : World} {d : Int} {t : TK} {l : List Mv} (h : Dst w wr d t l) {key : ByteArray} {L : List Et6} (g : GE (TMp t key) (fun _ => False) L) (srt : L.Pairwise fun x y => ¬ tc y.1 x.1 < 0) : L.length ≤ 60 := by
  have := ents_few h (entsOf (dat := datOf t key) g srt)
  rw [List.length_map] at this
  exact this
theorem keys_same {w wr w' wr' : World} {d : Int} {t t' : TK} {l : List Mv} (h : Dst w wr d t l) (h' : Dst w' wr' d t' l) {ks ks' : List ByteArray} (e : KE t.rv (fun _ => False) ks) (s : SortedS ks) (e' : KE t'.rv (fun _ => False) ks') (s' : SortedS ks') : ks = ks' := by
  have ek : ∀ k, t.rv k ≠ none ↔ t'.rv k ≠ none := by
    intro k
    rw [Ne, Ne, rv_none, rv_none]
    exact (h.keys k).trans (h'.keys k).symm
  refine pairwise_one strict_asym _ _ (sorted_strict s e.one) (sorted_strict s' e'.one) (fun k => ⟨fun z => ?_, fun z => ?_⟩)
  · exact (e'.all k ((ek k).1 (e.each k z).2)).resolve_left (fun q => q)
  · exact (e.all k ((ek k).2 (e'.each k z).2)).resolve_left (fun q => q)
end Go.Proofs.YtojepeefphbekaaGreat
