import Derived.Test.YtonfefhegghapaaDoorTBk
import Derived.Test.YtonfefhegghapaaDoorTLwJ
namespace Go.Proofs.YtonfefhegghapaaDoor
open Go.RowKit 

/-- A text's lines. -/
def linF : Nat → List UInt8 → List (List UInt8)
  | 0, _ => []
  | f + 1, l => if l = [] then [] else (cutE 10 l).1 :: linF f (cutE 10 l).2
def linL (l : List UInt8) : List (List UInt8) := linF l.length l
theorem linF_more : ∀ (f g : Nat) (l : List UInt8), l.length ≤ f → l.length ≤ g → linF f l = linF g l
  | 0, g, l, h, _ => by
    have : l = [] := List.eq_nil_of_length_eq_zero (by omega)
    subst this
    cases g with
    | zero => rfl
    | succ g => unfold linF; rw [if_pos rfl]
  | f + 1, 0, l, _, h => by
    have : l = [] := List.eq_nil_of_length_eq_zero (by omega)
    subst this
    unfold linF
    rw [if_pos rfl]
  | f + 1, g + 1, l, h1, h2 => by
    unfold linF
    by_cases h : l = []
    · rw [if_pos h, if_pos h]
    · have := (cutE_len 10 l).2.2 h
      rw [if_neg h, if_neg h, linF_more f g (cutE 10 l).2 (by omega) (by omega)]
theorem linL_nil : linL [] = [] := rfl
theorem linL_step {l : List UInt8} (h : l ≠ []) : linL l = (cutE 10 l).1 :: linL (cutE 10 l).2 := by
  unfold linL
  have hl := (cutE_len 10 l).2.2 h
  obtain ⟨n, hn⟩ : ∃ n, l.length = n + 1 := ⟨l.length - 1, by omega⟩
  rw [hn]
  conv => lhs; unfold linF
  rw [if_neg h, linF_more n (cutE 10 l).2.length (cutE 10 l).2 (by omega) (Nat.le_refl _)]
theorem linL_at {t r : List UInt8} (h : 10 ∉ t) : linL (t ++ 10 :: r) = t :: linL r := by
  rw [linL_step (by simp), cut_at t r h]
theorem linL_last {t : List UInt8} (h : 10 ∉ t) (h0 : t ≠ []) : linL t = [t] := by
  rw [linL_step h0, cut10_last h]
  rfl
theorem linL_len : ∀ (f : Nat) (l : List UInt8), l.length ≤ f → (linL l).length = linesN l
  | 0, l, h => by
    have : l = [] := List.eq_nil_of_length_eq_zero (by omega)
    subst this
    decide
  | f + 1, l, h => by
    by_cases h0 : l = []
    · subst h0
      decide
    · have hl := (cutE_len 10 l).2.2 h0
      obtain ⟨n1, sp⟩ := cut_spec 10 l
      rw [linL_step h0, List.length_cons]
      have ih := linL_len f (cutE 10 l).2 (by omega)
      rcases sp with sp | ⟨sp, sr⟩
      · conv => rhs; rw [sp, lines_at _ _ n1]
        omega
      · rw [sr]
        have h2 := lines_last n1 (by rw [← sp]; exact h0)
        rw [← sp] at h2
        rw [h2]
        rfl
theorem linL_no : ∀ (f : Nat) (l : List UInt8), l.length ≤ f → ∀ t ∈ linL l, 10 ∉ t
  | 0, l, h, t, ht => by
    have : l = [] := List.eq_nil_of_length_eq_zero (by omega)
    subst this
    cases ht
  | f + 1, l, h, t, ht => by
    by_cases h0 : l = []
    · subst h0
      cases ht
    · have hl := (cutE_len 10 l).2.2 h0
      rw [linL_step h0] at ht
      rcases List.mem_cons.1 ht with rfl | ht
      · exact (cut_spec 10 l).1
      · exact linL_no f _ (by omega) t ht
/-- The lines go up to a bad one. -/
theorem parF_lin : ∀ (f : Nat) (l : List UInt8) (acc : List St), l.length ≤ f → (parF l.length l acc).2.2 = 82 → ∃ (i : Nat) (t : List UInt8), parF l.length l acc = ([], acc.length + i, 82) ∧ (linL l)[i]? = some t ∧ ¬ okL t ∧ ∀ u ∈ (linL l).take i, okL u
  | 0, l, acc, h, he => by
    have : l = [] := List.eq_nil_of_length_eq_zero (by omega)
    subst this
    rw [parF_end] at he
    exact absurd he (show ¬ (0 : Int) = 82 by decide)
  | f + 1, l, acc, h, he => by
    by_cases h0 : l = []
    · subst h0
      rw [parF_end] at he
      exact absurd he (show ¬ (0 : Int) = 82 by decide)
    · have hl := (cutE_len 10 l).2.2 h0
      by_cases ok : okL (cutE 10 l).1
      · rw [parF_step h0 ok] at he ⊢
        obtain ⟨i, t, h1, h2, h3, h4⟩ := parF_lin f (cutE 10 l).2 _ (by omega) he
        refine ⟨i + 1, t, ?_, ?_, h3, ?_⟩
        · rw [h1, List.length_append, List.length_singleton]
          congr 2
          omega
        · rw [linL_step h0]
          exact h2
        · rw [linL_step h0, List.take_succ_cons]
          intro u hu
          rcases List.mem_cons.1 hu with rfl | hu
          · exact ok
          · exact h4 u hu
      · exact ⟨0, _, parF_bad h0 ok, by rw [linL_step h0]; rfl, ok, fun u hu => (by cases hu)⟩
/-- What is told of a text that is none. -/
theorem par_told (l : List UInt8) : (∃ ss x, parL l = (ss, 0, 0) ∧ txtL ss = (ofL x, 0) ∧ lnsL ss = x ∧ (x = l ∨ x = l ++ [10])) ∨ (parL l = ([], 0, 2) ∧ 4096 < (linL l).length) ∨ ∃ n t, parL l = ([], n, 82) ∧ (linL l).length ≤ 4096 ∧ (linL l)[n]? = some t ∧ (parL (t ++ [10])).2.2 = 82 ∧ (parL (tex ((linL l).take n))).2.2 = 0 := by
  have hn := linL_len l.length l (Nat.le_refl _)
  rcases par_inv l with h | h | ⟨n, h⟩
  · exact .inl h
  · refine .inr (.inl ⟨h, ?_⟩)
    rw [hn]
    unfold parL at h
    by_cases q : 4096 < linesN l
    · exact q
    · rw [if_neg q] at h
      rcases parF_inv l.length l [] (Nat.le_refl _) with ⟨new, e, _⟩ | ⟨m, e⟩
      · rw [e] at h
        have := congrArg (fun z => z.2.2) h
        exact absurd this (show ¬ (0 : Int) = 2 by decide)
      · rw [e] at h
        have := congrArg (fun z => z.2.2) h
        exact absurd this (show ¬ (82 : Int) = 2 by decide)
  · refine .inr (.inr ?_)
    have h1 := h
    unfold parL at h
    by_cases q : 4096 < linesN l
    · rw [if_pos q] at h
      have := congrArg (fun z => z.2.2) h
      exact absurd this (show ¬ (2 : Int) = 82 by decide)
    · rw [if_neg q] at h
      obtain ⟨i, t, e, h2, h3, h4⟩ := parF_lin l.length l [] (Nat.le_refl _) (by rw [h])
      rw [h] at e
      have e2 : n = 0 + i := congrArg (fun z => z.2.1) e
      rw [Nat.zero_add] at e2
      subst e2
      have no : ∀ u ∈ linL l, 10 ∉ u := linL_no l.length l (Nat.le_refl _)
      refine ⟨n, t, h1, by omega, h2, ?_, ?_⟩
      · rw [(par_one t (no t (List.mem_of_getElem? h2))).2 h3]
      · rw [par_all _ (fun u hu => no u (List.mem_of_mem_take hu)) (by rw [List.length_take]; omega) h4]
def strC (ts : List (List UInt8)) : List Value := ts.map fun t => Value.string (ofL t)
theorem Tryd.info9 : (Tryd.prog.info? 9).map (fun i => (i.zero, i.size, i.bytes)) = some (some (.string ⟨#[]⟩), 1, 16) := by kernel_rfl
theorem Tryd.underlying43d : Tryd.prog.underlying 43 = some (.slice 9) := by kernel_rfl
theorem src_text (w : World) (t : ByteArray) : Src Tryd.prog 1 43 (.slice (some ⟨w.heap.size, 0, none⟩) 1 1) 1 [.string t] (w.alloc (.cells #[.string t] 9)) :=
  Src.ofSlice _ Tryd.underlying43d ⟨w.heap.size, 0, none⟩ 1 1 [.string t] rfl (fun j u hj => by
    have : j = 0 := by
      have := (List.getElem?_eq_some_iff.1 hj).1
      simpa using this
    subst this
    have e : u = .string t := by simpa using hj.symm
    rw [e, Addr.add_none]
    exact cell_blk (alloc_new w _) 0 rfl) (fun v hv => by
    rw [List.mem_singleton.1 hv]
    rfl)
/-- Lines of one's own. -/
structure LX (w wr : World) (p : Option Addr) (k c : Nat) (ts : List (List UInt8)) : Prop where
  len : ts.length = k
  row : wr.ownsRow w.heap.size 9 1 (.slice p k c) k (strC ts)
  kept : Kept (fun _ => False) w wr
theorem LX.k0 {w wr W : World} {p : Option Addr} {k c : Nat} {ts : List (List UInt8)} (h : LX w wr p k c ts) (K : Kept (fun _ => False) wr W) : LX w W p k c ts := ⟨h.len, K.owns h.row (fun _ _ z => z), h.kept.trans K (fun _ _ z => z)⟩
theorem LX.more {w wr w9 : World} {p p9 : Option Addr} {k c c9 : Nat} {ts : List (List UInt8)} {t : List UInt8} (h : LX w wr p k c ts) (ho : w9.ownsRow w.heap.size 9 1 (.slice p9 (k + 1) c9) (k + 1) (strC ts ++ [.string (ofL t)])) (hg : wr.grownBy w9 (Value.slice p k c).ownBlock) : LX w w9 p9 (k + 1) c9 (ts ++ [t]) := by
  have KG : Kept (fun j => blockOf p = some j) wr w9 := (Kept.refl (fun j => blockOf p = some j) wr).grown hg (fun j _ z => by rw [blockOf_own] at z; exact z)
  refine ⟨by rw [List.length_append, h.len]; rfl, ?_, h.kept.trans KG (fun j hj z => by have := (own_lt h.row j z).1; omega)⟩
  unfold strC at ho ⊢
  rw [List.map_append]
  exact ho
theorem mid_list (t : ByteArray) (a b : Nat) : t.extract a b = ofL ((t.data.toList.take b).drop a) := by
  apply ByteArray.ext
  apply Array.toList_inj.1
  simp [ofL, List.drop_take]
/-- Where linesOf is. -/
structure LQ2 (l : List UInt8) (i fr : Nat) (done : List (List UInt8)) : Prop where
  le : fr ≤ i
  il : i ≤ l.length
  dn : done.length ≤ fr
  no : 10 ∉ (l.take i).drop fr
  eq : linL l = done ++ linL (l.drop fr)
theorem LQ2.skip {l : List UInt8} {i fr : Nat} {done : List (List UInt8)} {x : UInt8} (h : LQ2 l i fr done) (hx : l[i]? = some x) (hn : x ≠ 10) : LQ2 l (i + 1) fr done := by
  have hl := (List.getElem?_eq_some_iff.1 hx).1
  refine ⟨by have := h.le; omega, hl, h.dn, ?_, h.eq⟩
  have h1 := h.le
  rw [List.take_add_one, hx, List.drop_append_of_le_length (by rw [List.length_take]; omega)]
  intro z
  rcases List.mem_append.1 z with z | z
  · exact h.no z
  · simp at z
    exact hn z.symm
theorem drop_split {l : List UInt8} {i fr : Nat} (h : fr ≤ i) (hl : i ≤ l.length) : l.drop fr = (l.take i).drop fr ++ l.drop i := by
  conv => lhs; rw [← List.take_append_drop i l]
  rw [List.drop_append_of_le_length (by rw [List.length_take]; omega)]
theorem LQ2.hit {l : List UInt8} {i fr : Nat} {done : List (List UInt8)} (h : LQ2 l i fr done) (hx : l[i]? = some 10) : LQ2 l (i + 1) (i + 1) (done ++ [(l.take i).drop fr]) := by
  obtain ⟨hl, he⟩ := List.getElem?_eq_some_iff.1 hx
  refine ⟨Nat.le_refl _, hl, by have := h.dn; have := h.le; rw [List.length_append, List.length_singleton]; omega, by rw [List.drop_eq_nil_of_le (by rw [List.length_take]; omega)]; simp, ?_⟩
  rw [h.eq, drop_split h.le h.il, List.drop_eq_getElem_cons hl, he, linL_at h.no, List.append_assoc]
  rfl
theorem LQ2.fin {l : List UInt8} {i fr : Nat} {done : List (List UInt8)} (h : LQ2 l i fr done) (hi : ¬ i < l.length) : (fr < l.length → linL l = done ++ [l.drop fr]) ∧ (¬ fr < l.length → linL l = done) := by
  have hi2 : i = l.length := by have := h.il; omega
  have hn := h.no
  rw [hi2, List.take_length] at hn
  refine ⟨fun z => ?_, fun z => ?_⟩
  · rw [h.eq, linL_last hn]
    intro y
    have := congrArg List.length y
    rw [List.length_drop, List.length_nil] at this
    omega
  · rw [h.eq, List.drop_eq_nil_of_le (by omega), linL_nil, List.append_nil]
end Go.Proofs.YtonfefhegghapaaDoor
