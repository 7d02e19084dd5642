import Derived.Test.YtonfefhegghapaaDoorTBk
import Derived.Test.YtonfefhegghapaaDoorTLxJ
namespace Go.Proofs.YtonfefhegghapaaDoor
open Go.RowKit 

/-- A text's lines. -/
def linF : Nat → List UInt8 → List (List UInt8)
  | 0, _ => []
  | f + 1, l => if l = [] then [] else (cutE 10 l).1 :: linF f (cutE 10 l).2
def linL (l : List UInt8) : List (List UInt8) := linF l.length l
theorem linF_more : ∀ (f g : Nat) (l : List UInt8), l.length ≤ f → l.length ≤ g → linF f l = linF g l
  | 0, g, l, h, _ => by
    have : l = [] := List.eq_nil_of_length_eq_zero (by omega)
    subst this
    cases g with
    | zero => rfl
    | succ g => unfold linF; rw [if_pos rfl]
  | f + 1, 0, l, _, h => by
    have : l = [] := List.eq_nil_of_length_eq_zero (by omega)
    subst this
    unfold linF
    rw [if_pos rfl]
  | f + 1, g + 1, l, h1, h2 => by
    unfold linF
    by_cases h : l = []
    · rw [if_pos h, if_pos h]
    · have := (cutE_len 10 l).2.2 h
      rw [if_neg h, if_neg h, linF_more f g (cutE 10 l).2 (by omega) (by omega)]
theorem linL_nil : linL [] = [] := rfl
theorem linL_step {l : List UInt8} (h : l ≠ []) : linL l = (cutE 10 l).1 :: linL (cutE 10 l).2 := by
  unfold linL
  have hl := (cutE_len 10 l).2.2 h
  obtain ⟨n, hn⟩ : ∃ n, l.length = n + 1 := ⟨l.length - 1, by omega⟩
  rw [hn]
  conv => lhs; unfold linF
  rw [if_neg h, linF_more n (cutE 10 l).2.length (cutE 10 l).2 (by omega) (Nat.le_refl _)]
theorem linL_at {t r : List UInt8} (h : 10 ∉ t) : linL (t ++ 10 :: r) = t :: linL r := by
  rw [linL_step (by simp), cut_at t r h]
theorem linL_last {t : List UInt8} (h : 10 ∉ t) (h0 : t ≠ []) : linL t = [t] := by
  rw [linL_step h0, cut10_last h]
  rfl
theorem linL_len : ∀ (f : Nat) (l : List UInt8), l.length ≤ f → (linL l).length = linesN l
  | 0, l, h => by
    have : l = [] := List.eq_nil_of_length_eq_zero (by omega)
    subst this
    decide
  | f + 1, l, h => by
    by_cases h0 : l = []
    · subst h0
      decide
    · have hl := (cutE_len 10 l).2.2 h0
      obtain ⟨n1, sp⟩ := cut_spec 10 l
      rw [linL_step h0, List.length_cons]
      have ih := linL_len f (cutE 10 l).2 (by omega)
      rcases sp with sp | ⟨sp, sr⟩
      · conv => rhs; rw [sp, lines_at _ _ n1]
        omega
      · rw [sr]
        have h2 := lines_last n1 (by rw [← sp]; exact h0)
        rw [← sp] at h2
        rw [h2]
        rfl
theorem linL_no : ∀ (f : Nat) (l : List UInt8), l.length ≤ f → ∀ t ∈ linL l, 10 ∉ t
  | 0, l, h, t, ht => by
    have : l = [] := List.eq_nil_of_length_eq_zero (by omega)
    subst this
    cases ht
  | f + 1, l, h, t, ht => by
    by_cases h0 : l = []
    · subst h0
      cases ht
    · have hl := (cutE_len 10 l).2.2 h0
      rw [linL_step h0] at ht
      rcases List.mem_cons.1 ht with rfl | ht
      · exact (cut_spec 10 l).1
      · exact linL_no f _ (by omega) t ht
/-- The lines go up to a bad one. -/
theorem parF_lin : ∀ (f : Nat) (l : List UInt8) (acc : List St), l.length ≤ f → (parF l.length l acc).2.2 = 82 → ∃ (i : Nat) (t : List UInt8), parF l.length l acc = ([], acc.length + i, 82) ∧ (linL l)[i]? = some t ∧ ¬ okL t ∧ ∀ u ∈ (linL l).take i, okL u
  | 0, l, acc, h, he => by
    have : l = [] := List.eq_nil_of_length_eq_zero (by omega)
    subst this
    rw [parF_end] at he
    exact absurd he (show ¬ (0 : Int) = 82 by decide)
  | f + 1, l, acc, h, he => by
    by_cases h0 : l = []
    · subst h0
      rw [parF_end] at he
      exact absurd he (show ¬ (0 : Int) = 82 by decide)
    · have hl := (cutE_len 10 l).2.2 h0
      by_cases ok : okL (cutE 10 l).1
      · rw [parF_step h0 ok] at he ⊢
        obtain ⟨i, t, h1, h2, h3, h4⟩ := parF_lin f (cutE 10 l).2 _ (by omega) he
        refine ⟨i + 1, t, ?_, ?_, h3, ?_⟩
        · rw [h1, List.length_append, List.length_singleton]
          congr 2
          omega
        · rw [linL_step h0]
          exact h2
        · rw [linL_step h0, List.take_succ_cons]
          intro u hu
          rcases List.mem_cons.1 hu with rfl | hu
          · exact ok
          · exact h4 u hu
      · exact ⟨0, _, parF_bad h0 ok, by rw [linL_step h0]; rfl, ok, fun u hu => (by cases hu)⟩
/-- What is told of a text that is none. -/
theorem par_told (l : List UInt8) : (∃ ss x, parL l = (ss, 0, 0) ∧ txtL ss = (ofL x, 0) ∧ lnsL ss = x ∧ (x = l ∨ x = l ++ [10])) ∨ (parL l = ([], 0, 2) ∧ 4096 < (linL l).length) ∨ ∃ n t, parL l = ([], n, 82) ∧ (linL l).length ≤ 4096 ∧ (linL l)[n]? = some t ∧ (parL (t ++ [10])).2.2 = 82 ∧ (parL (tex ((linL l).take n))).2.2 = 0 := by
  have hn := linL_len l.length l (Nat.le_refl _)
  rcases par_inv l with h | h | ⟨n, h⟩
  · exact .inl h
  · refine .inr (.inl ⟨h, ?_⟩)
    rw [hn]
    unfold parL at h
    by_cases q : 4096 < linesN l
    · exact q
    · rw [if_neg q] at h
      rcases parF_inv l.length l [] (Nat.le_refl _) with ⟨new, e, _⟩ | ⟨m, e⟩
      · rw [e] at h
        have := congrArg (fun z => z.2.2) h
        exact absurd this (show ¬ (0 : Int) = 2 by decide)
      · rw [e] at h
        have := congrArg (fun z => z.2.2) h
        exact absurd this (show ¬ (82 : Int) = 2 by decide)
  · refine .inr (.inr ?_)
    have h1 := h
    unfold parL at h
    by_cases q : 4096 < linesN l
    · rw [if_pos q] at h
      have := congrArg (fun z => z.2.2) h
      exact absurd this (show ¬ (2 : Int) = 82 by decide)
    · rw [if_neg q] at h
      obtain ⟨i, t, e, h2, h3, h4⟩ := parF_lin l.length l [] (Nat.le_refl _) (by rw [h])
      rw [h] at e
      have e2 : n = 0 + i := congrArg (fun z => z.2.1) e
      rw [Nat.zero_add] at e2
      subst e2
      have no : ∀ u ∈ linL l, 10 ∉ u := linL_no l.length l (Nat.le_refl _)
      refine ⟨n, t, h1, by omega, h2, ?_, ?_⟩
      · rw [(par_one t (no t (List.mem_of_getElem? h2))).2 h3]
      · rw [par_all _ (fun u hu => no u (List.mem_of_mem_take hu)) (by rw [List.length_take]; omega) h4]
def strC (ts : List (List UInt8)) : List Value := ts.map fun t => Value.string (ofL t)
theorem Tryd.info9 : (Tryd.prog.info? 9).map (fun i => (i.zero, i.size, i.bytes)) = some (some (.string ⟨#[]⟩), 1, 16) := by kernel_rfl
theorem Tryd.underlying43d : Tryd.prog.underlying 43 = some (.slice 9) := by kernel_rfl
theorem src_text (w : World) (t : ByteArray) : Src Tryd.prog 1 43 (.slice (some ⟨w.heap.size, 0, none⟩) 1 1) 1 [.string t] (w.alloc (.cells #[.string t] 9)) :=
  Src.ofSlice _ Tryd.underlying43d ⟨w.heap.size, 0, none⟩ 1 1 [.string t] rfl (fun j u hj => by
    have : j = 0 := by
      have := (List.getElem?_eq_some_iff.1 hj).1
      simpa using this
    subst this
    have e : u = .string t := by simpa using hj.symm
    rw [e, Addr.add_none]
    exact cell_blk (alloc_new w _) 0 rfl) (fun v hv => by
    rw [List.mem_singleton.1 hv]
    rfl)
/-- Lines of one's own. -/
structure LX (w wr : World) (p : Option Addr) (k c : Nat) (ts : List (List UInt8)) : Prop where
  len : ts.length = k
  row : wr.ownsRow w.heap.size 9 1 (.slice p k c) k (strC ts)
  kept : Kept (fun _ => False) w wr
theorem LX.k0 {w wr W : World} {p : Option Addr} {k c : Nat} {ts : List (List UInt8)} (h : LX w wr p k c ts) (K : Kept (fun _ => False) wr W) : LX w W p k c ts := ⟨h.len, K.owns h.row (fun _ _ z => z), h.kept.trans K (fun _ _ z => z)⟩
theorem LX.more {w wr w9 : World} {p p9 : Option Addr} {k c c9 : Nat} {ts : List (List UInt8)} {t : List UInt8} (h : LX w wr p k c ts) (ho : w9.ownsRow w.heap.size 9 1 (.slice p9 (k + 1) c9) (k + 1) (strC ts ++ [.string (ofL t)])) (hg : wr.grownBy w9 (Value.slice p k c).ownBlock) : LX w w9 p9 (k + 1) c9 (ts ++ [t]) := by
  have KG : Kept (fun j => blockOf p = some j) wr w9 := (Kept.refl (fun j => blockOf p = some j) wr).grown hg (fun j _ z => by rw [blockOf_own] at z; exact z)
  refine ⟨by rw [List.length_append, h.len]; rfl, ?_, h.kept.trans KG (fun j hj z => by have := (own_lt h.row j z).1; omega)⟩
  unfold strC at ho ⊢
  rw [List.map_append]
  exact ho
theorem mid_list (t : ByteArray) (a b : Nat) : t.extract a b = ofL ((t.data.toList.take b).drop a) := by
  apply ByteArray.ext
  apply Array.toList_inj.1
  simp [ofL, List.drop_take]
/-- Where linesOf is. -/
structure LQ2 (l : List UInt8) (i fr : Nat) (done : List (List UInt8)) : Prop where
  le : fr ≤ i
  il : i ≤ l.length
  dn : done.length ≤ fr
  no : 10 ∉ (l.take i).drop fr
  eq : linL l = done ++ linL (l.drop fr)
theorem LQ2.skip {l : List UInt8} {i fr : Nat} {done : List (List UInt8)} {x : UInt8} (h : LQ2 l i fr done) (hx : l[i]? = some x) (hn : x ≠ 10) : LQ2 l (i + 1) fr done := by
  have hl := (List.getElem?_eq_some_iff.1 hx).1
  refine ⟨by have := h.le; omega, hl, h.dn, ?_, h.eq⟩
  have h1 := h.le
  rw [List.take_add_one, hx, List.drop_append_of_le_length (by rw [List.length_take]; omega)]
  intro z
  rcases List.mem_append.1 z with z | z
  · exact h.no z
  · simp at z
    exact hn z.symm
theorem drop_split {l : List UInt8} {i fr : Nat} (h : fr ≤ i) (hl : i ≤ l.length) : l.drop fr = (l.take i).drop fr ++ l.drop i := by
  conv => lhs; rw [← List.take_append_drop i l]
  rw [List.drop_append_of_le_length (by rw [List.length_take]; omega)]
theorem LQ2.hit {l : List UInt8} {i fr : Nat} {done : List (List UInt8)} (h : LQ2 l i fr done) (hx : l[i]? = some 10) : LQ2 l (i + 1) (i + 1) (done ++ [(l.take i).drop fr]) := by
  obtain ⟨hl, he⟩ := List.getElem?_eq_some_iff.1 hx
  refine ⟨Nat.le_refl _, hl, by have := h.dn; have := h.le; rw [List.length_append, List.length_singleton]; omega, by rw [List.drop_eq_nil_of_le (by rw [List.length_take]; omega)]; simp, ?_⟩
  rw [h.eq, drop_split h.le h.il, List.drop_eq_getElem_cons hl, he, linL_at h.no, List.append_assoc]
  rfl
theorem LQ2.fin {l : List UInt8} {i fr : Nat} {done : List (List UInt8)} (h : LQ2 l i fr done) (hi : ¬ i < l.length) : (fr < l.length → linL l = done ++ [l.drop fr]) ∧ (¬ fr < l.length → linL l = done) := by
  have hi2 : i = l.length := by have := h.il; omega
  have hn := h.no
  rw [hi2, List.take_length] at hn
  refine ⟨fun z => ?_, fun z => ?_⟩
  · rw [h.eq, linL_last hn]
    intro y
    have := congrArg List.length y
    rw [List.length_drop, List.length_nil] at this
    omega
  · rw [h.eq, List.drop_eq_nil_of_le (by omega), linL_nil, List.append_nil]
end Go.Proofs.YtonfefhegghapaaDoor

namespace Go.Proofs.YtonfefhegghapaaDoor
open Go.RowKit 

set_option maxRecDepth 100000 in
set_option maxHeartbeats 4000000 in
/-- linesOf. -/
theorem hLinesOf {w : World} {t : ByteArray} (ht : t.size ≤ 33554430) : Calls Tryd.prog 28 #[.string t] w fun o w' => ∃ (p : Option Addr) (k c : Nat), o = .returned (.slice p k c) ∧ LX w w' p k c (linL t.data.toList) := by
  have S0 : Hid (LQ2 t.data.toList 0 0 [] ∧ LX w w none 0 0 []) := ⟨⟨Nat.le_refl _, Nat.zero_le _, Nat.le_refl _, by simp, rfl⟩, ⟨rfl, own_none _ _ _ _, Kept.refl _ _⟩⟩
  go_enter Tryd.func28, Tryd.ntmps28
  go_upto_region 4 with fail
  go_loopw [3, 4, 5] (fun u3 u4 u5 wr => ∃ (i fr : Nat) (p : Option Addr) (k c : Nat) (ts : List (List UInt8)), u3 = .slice p k c ∧ u4 = .int .i64 (fr : Int) ∧ u5 = .int .i64 (i : Int) ∧ fr ≤ i ∧ i ≤ t.size ∧ Hid (LQ2 t.data.toList i fr ts ∧ LX w wr p k c ts)) (fun _ _ u5 _ => t.size - (intOf u5).toNat)
  case atStart => exact ⟨0, 0, none, 0, 0, [], rfl, rfl, rfl, Nat.zero_le _, Nat.zero_le _, S0⟩
  case round =>
    clear S0
    obtain ⟨i, fr, p, k, c, ts, rfl, rfl, rfl, hf, hi, S⟩ := hrel
    obtain ⟨wo, hwo⟩ : ∃ wo, wo = wr := ⟨_, rfl⟩
    rw [← hwo] at S ⊢
    clear hwo
    have tl : t.data.toList.length = t.size := Array.length_toList
    have HK : Hid (k ≤ 33554430) := by
      have h1 := S.out.1.dn
      have h2 := S.out.2.len
      show k ≤ 33554430
      omega
    by_cases hlt : i < t.size
    · have i1 : (i : Int) < (t.size : Int) := by omega
      obtain ⟨x, hx⟩ : ∃ x, t.data.toList[i]? = some x := ⟨_, List.getElem?_eq_getElem (by rw [tl]; exact hlt)⟩
      have ri := run_at hx wo
      obtain ⟨y, hy⟩ : ∃ y, x.toNat = y := ⟨_, rfl⟩
      have yl : y < 256 := by rw [← hy]; exact x.toNat_lt
      rw [hy] at ri
      have HX : Hid (t.data.toList[i]? = some x ∧ x.toNat = y) := ⟨hx, hy⟩
      clear hx hy tl
      by_cases h10 : y = 10
      · have e10 : x = 10 := UInt8.toNat_inj.1 (HX.out.2.trans h10)
        subst h10
        have fi : (fr : Int) ≤ (i : Int) := by omega
        have A1 : Hid (LX w (wo.alloc (.cells #[.string (t.extract fr i)] 9)) p k c ts) := S.out.2.k0 ((Kept.refl _ _).alloc _)
        have SR : Hid (Src Tryd.prog 1 43 (.slice (some ⟨wo.heap.size, 0, none⟩) 1 1) 1 [.string (t.extract fr i)] (wo.alloc (.cells #[.string (t.extract fr i)] 9))) := src_text wo _
        have LN : Hid (k + 1 ≤ maxLen ∧ ((k + 1) + (k + 1) / 4 + 192) * 16 ≤ 281474976710656) := by have := HK.out; unfold maxLen; exact ⟨by omega, by omega⟩
        go_wp2_with
          (first
            | (at_builtin; refine wpList_append_all _ rfl (.tmp 16) (.tmp 21) 43 9 43 _ 1 16 rfl Tryd.underlying43d Tryd.info9 rfl w.heap.size (.slice p k c) k (strC ts) rfl A1.out.row _ 1 [.string (t.extract fr i)] rfl SR.out LN.out.1 LN.out.2 A1.out.kept.size ?_; intro p9 c9 w9 ho hg hn9)
            | fail)
        have N : Hid (LQ2 t.data.toList (i + 1) (i + 1) (ts ++ [(t.data.toList.take i).drop fr]) ∧ LX w w9 p9 (k + 1) c9 (ts ++ [(t.data.toList.take i).drop fr])) := ⟨S.out.1.hit (by rw [HX.out.1, e10]), A1.out.more (by rw [← mid_list]; exact ho.out) hg.out⟩
        clear ho hg hn9 A1 SR LN S HX
        go_roundw
        case rel => exact ⟨i + 1, i + 1, p9, k + 1, c9, _, rfl, by go_num, by go_num, Nat.le_refl _, by omega, N⟩
        case measure => simp [intOf] <;> omega
      · have y1 : ¬ (y : Int) = 10 := by omega
        have N : Hid (LQ2 t.data.toList (i + 1) fr ts ∧ LX w wo p k c ts) := ⟨S.out.1.skip HX.out.1 (fun z => h10 (by rw [← HX.out.2, z]; rfl)), S.out.2⟩
        clear S
        go_wp2_with fail
        go_roundw
        case rel => exact ⟨i + 1, fr, p, k, c, ts, rfl, rfl, by go_num, by omega, by omega, N⟩
        case measure => simp [intOf] <;> omega
    · have i1 : ¬ (i : Int) < (t.size : Int) := by omega
      have FN := S.out.1.fin (by omega)
      rw [tl] at FN
      clear tl
      by_cases hfl : fr < t.size
      · have f1 : (fr : Int) < (t.size : Int) := by omega
        have F1 : Hid (linL t.data.toList = ts ++ [t.data.toList.drop fr]) := FN.1 hfl
        have A1 : Hid (LX w (wo.alloc (.cells #[.string (t.extract fr t.size)] 9)) p k c ts) := S.out.2.k0 ((Kept.refl _ _).alloc _)
        have SR : Hid (Src Tryd.prog 1 43 (.slice (some ⟨wo.heap.size, 0, none⟩) 1 1) 1 [.string (t.extract fr t.size)] (wo.alloc (.cells #[.string (t.extract fr t.size)] 9))) := src_text wo _
        have LN : Hid (k + 1 ≤ maxLen ∧ ((k + 1) + (k + 1) / 4 + 192) * 16 ≤ 281474976710656) := by have := HK.out; unfold maxLen; exact ⟨by omega, by omega⟩
        clear FN S
        go_wp2_with
          (first
            | (at_builtin; refine wpList_append_all _ rfl (.tmp 29) (.tmp 33) 43 9 43 _ 1 16 rfl Tryd.underlying43d Tryd.info9 rfl w.heap.size (.slice p k c) k (strC ts) rfl A1.out.row _ 1 [.string (t.extract fr t.size)] rfl SR.out LN.out.1 LN.out.2 A1.out.kept.size ?_; intro p9 c9 w9 ho hg hn9)
            | fail)
        go_ret
        refine ⟨p9, k + 1, c9, by first | rfl | simp, ?_⟩
        rw [F1.out]
        refine A1.out.more ?_ hg.out
        have e : ofL (t.data.toList.drop fr) = t.extract fr t.size := by
          rw [mid_list, List.take_of_length_le (by rw [Array.length_toList]; exact Nat.le_refl _)]
        rw [e]
        exact ho.out
      · have f1 : ¬ (fr : Int) < (t.size : Int) := by omega
        have F2 : Hid (linL t.data.toList = ts ∧ LX w wo p k c ts) := ⟨FN.2 hfl, S.out.2⟩
        clear FN S
        go_wp2_with fail
        go_ret
        exact ⟨p, k, c, by first | rfl | simp, by rw [F2.out.1]; exact F2.out.2⟩
end Go.Proofs.YtonfefhegghapaaDoor

namespace Go.Proofs.YtonfefhegghapaaDoor
open Go.RowKit 

/-- A text cut at a byte. -/
def prtL (c : UInt8) : List UInt8 → List (List UInt8)
  | [] => [[]]
  | x :: r => if x = c then [] :: prtL c r else match prtL c r with | [] => [[x]] | h :: t => (x :: h) :: t
theorem prt_last {c : UInt8} : ∀ {t : List UInt8}, c ∉ t → prtL c t = [t]
  | [], _ => rfl
  | x :: r, h => by
    have h1 : ¬ x = c := fun z => h (by rw [z]; simp)
    unfold prtL
    rw [if_neg h1, prt_last (c := c) (t := r) (fun z => h (List.mem_cons_of_mem _ z))]
theorem prt_at {c : UInt8} : ∀ {t : List UInt8} (r : List UInt8), c ∉ t → prtL c (t ++ c :: r) = t :: prtL c r
  | [], r, _ => by
    show prtL c (c :: r) = _
    unfold prtL
    rw [if_pos rfl]
    cases r <;> rfl
  | x :: t, r, h => by
    have h1 : ¬ x = c := fun z => h (by rw [z]; simp)
    have ht : c ∉ t := fun z => h (List.mem_cons_of_mem _ z)
    have ih := prt_at (c := c) (t := t) r ht
    show prtL c (x :: (t ++ c :: r)) = _
    rw [prtL, if_neg h1, ih]
/-- Where parts is. -/
structure LQ3 (c : UInt8) (l : List UInt8) (i fr : Nat) (done : List (List UInt8)) : Prop where
  le : fr ≤ i
  il : i ≤ l.length
  dn : done.length ≤ fr
  no : c ∉ (l.take i).drop fr
  eq : prtL c l = done ++ prtL c (l.drop fr)
theorem LQ3.skip {c : UInt8} {l : List UInt8} {i fr : Nat} {done : List (List UInt8)} {x : UInt8} (h : LQ3 c l i fr done) (hx : l[i]? = some x) (hn : x ≠ c) : LQ3 c l (i + 1) fr done := by
  have hl := (List.getElem?_eq_some_iff.1 hx).1
  refine ⟨by have := h.le; omega, hl, h.dn, ?_, h.eq⟩
  have h1 := h.le
  rw [List.take_add_one, hx, List.drop_append_of_le_length (by rw [List.length_take]; omega)]
  intro z
  rcases List.mem_append.1 z with z | z
  · exact h.no z
  · simp at z
    exact hn z.symm
theorem LQ3.hit {c : UInt8} {l : List UInt8} {i fr : Nat} {done : List (List UInt8)} (h : LQ3 c l i fr done) (hx : l[i]? = some c) : LQ3 c l (i + 1) (i + 1) (done ++ [(l.take i).drop fr]) := by
  obtain ⟨hl, he⟩ := List.getElem?_eq_some_iff.1 hx
  refine ⟨Nat.le_refl _, hl, by have := h.dn; have := h.le; rw [List.length_append, List.length_singleton]; omega, by rw [List.drop_eq_nil_of_le (by rw [List.length_take]; omega)]; simp, ?_⟩
  rw [h.eq, drop_split h.le h.il, List.drop_eq_getElem_cons hl, he, prt_at _ h.no, List.append_assoc]
  rfl
theorem LQ3.fin {c : UInt8} {l : List UInt8} {i fr : Nat} {done : List (List UInt8)} (h : LQ3 c l i fr done) (hi : ¬ i < l.length) : prtL c l = done ++ [l.drop fr] := by
  have hi2 : i = l.length := by have := h.il; omega
  have hn := h.no
  rw [hi2, List.take_length] at hn
  rw [h.eq, prt_last hn]
set_option maxRecDepth 100000 in
set_option maxHeartbeats 4000000 in
/-- parts. -/
theorem hParts {w : World} {t : ByteArray} {e : UInt8} {cy : Nat} (he : e.toNat = cy) (ht : t.size ≤ 33554432) : Calls Tryd.prog 45 #[.string t, .int .u8 (cy : Int)] w fun o w' => ∃ (p : Option Addr) (k c : Nat), o = .returned (.slice p k c) ∧ LX w w' p k c (prtL e t.data.toList) := by
  have S0 : Hid (LQ3 e t.data.toList 0 0 [] ∧ LX w w none 0 0 []) := ⟨⟨Nat.le_refl _, Nat.zero_le _, Nat.le_refl _, by simp, rfl⟩, ⟨rfl, own_none _ _ _ _, Kept.refl _ _⟩⟩
  have HE : Hid (e.toNat = cy) := he
  clear he
  go_enter Tryd.func45, Tryd.ntmps45
  go_upto_region 4 with fail
  go_loopw [5, 6, 7] (fun u3 u4 u5 wr => ∃ (i fr : Nat) (p : Option Addr) (k c : Nat) (ts : List (List UInt8)), u3 = .slice p k c ∧ u4 = .int .i64 (fr : Int) ∧ u5 = .int .i64 (i : Int) ∧ fr ≤ i ∧ i ≤ t.size ∧ Hid (LQ3 e t.data.toList i fr ts ∧ LX w wr p k c ts)) (fun _ _ u5 _ => t.size - (intOf u5).toNat)
  case atStart => exact ⟨0, 0, none, 0, 0, [], rfl, rfl, rfl, Nat.zero_le _, Nat.zero_le _, S0⟩
  case round =>
    clear S0
    obtain ⟨i, fr, p, k, c, ts, rfl, rfl, rfl, hf, hi, S⟩ := hrel
    obtain ⟨wo, hwo⟩ : ∃ wo, wo = wr := ⟨_, rfl⟩
    rw [← hwo] at S ⊢
    clear hwo
    have tl : t.data.toList.length = t.size := Array.length_toList
    have HK : Hid (k ≤ 33554432) := by
      have h1 := S.out.1.dn
      have h2 := S.out.2.len
      show k ≤ 33554432
      omega
    by_cases hlt : i < t.size
    · have i1 : (i : Int) < (t.size : Int) := by omega
      obtain ⟨x, hx⟩ : ∃ x, t.data.toList[i]? = some x := ⟨_, List.getElem?_eq_getElem (by rw [tl]; exact hlt)⟩
      have ri := run_at hx wo
      obtain ⟨y, hy⟩ : ∃ y, x.toNat = y := ⟨_, rfl⟩
      have yl : y < 256 := by rw [← hy]; exact x.toNat_lt
      rw [hy] at ri
      have HX : Hid (t.data.toList[i]? = some x ∧ x.toNat = y) := ⟨hx, hy⟩
      clear hx hy tl
      by_cases h10 : y = cy
      · have e10 : x = e := UInt8.toNat_inj.1 (by rw [HX.out.2, HE.out]; exact h10)
        subst h10
        have fi : (fr : Int) ≤ (i : Int) := by omega
        have A1 : Hid (LX w (wo.alloc (.cells #[.string (t.extract fr i)] 9)) p k c ts) := S.out.2.k0 ((Kept.refl _ _).alloc _)
        have SR : Hid (Src Tryd.prog 1 43 (.slice (some ⟨wo.heap.size, 0, none⟩) 1 1) 1 [.string (t.extract fr i)] (wo.alloc (.cells #[.string (t.extract fr i)] 9))) := src_text wo _
        have LN : Hid (k + 1 ≤ maxLen ∧ ((k + 1) + (k + 1) / 4 + 192) * 16 ≤ 281474976710656) := by have := HK.out; unfold maxLen; exact ⟨by omega, by omega⟩
        go_wp2_with
          (first
            | (at_builtin; refine wpList_append_all _ rfl (.tmp 19) (.tmp 24) 43 9 43 _ 1 16 rfl Tryd.underlying43d Tryd.info9 rfl w.heap.size (.slice p k c) k (strC ts) rfl A1.out.row _ 1 [.string (t.extract fr i)] rfl SR.out LN.out.1 LN.out.2 A1.out.kept.size ?_; intro p9 c9 w9 ho hg hn9)
            | fail)
        have N : Hid (LQ3 e t.data.toList (i + 1) (i + 1) (ts ++ [(t.data.toList.take i).drop fr]) ∧ LX w w9 p9 (k + 1) c9 (ts ++ [(t.data.toList.take i).drop fr])) := ⟨S.out.1.hit (by rw [HX.out.1, e10]), A1.out.more (by rw [← mid_list]; exact ho.out) hg.out⟩
        clear ho hg hn9 A1 SR LN S HX
        go_roundw
        case rel => exact ⟨i + 1, i + 1, p9, k + 1, c9, _, rfl, by go_num, by go_num, Nat.le_refl _, by omega, N⟩
        case measure => simp [intOf] <;> omega
      · have y1 : ¬ (y : Int) = (cy : Int) := by omega
        have N : Hid (LQ3 e t.data.toList (i + 1) fr ts ∧ LX w wo p k c ts) := ⟨S.out.1.skip HX.out.1 (fun z => h10 (by rw [← HX.out.2, z, HE.out])), S.out.2⟩
        clear S
        go_wp2_with fail
        go_roundw
        case rel => exact ⟨i + 1, fr, p, k, c, ts, rfl, rfl, by go_num, by omega, by omega, N⟩
        case measure => simp [intOf] <;> omega
    · have i1 : ¬ (i : Int) < (t.size : Int) := by omega
      have F1 : Hid (prtL e t.data.toList = ts ++ [t.data.toList.drop fr]) := S.out.1.fin (by omega)
      have f1 : (fr : Int) ≤ (t.size : Int) := by omega
      clear tl
      have A1 : Hid (LX w (wo.alloc (.cells #[.string (t.extract fr t.size)] 9)) p k c ts) := S.out.2.k0 ((Kept.refl _ _).alloc _)
      have SR : Hid (Src Tryd.prog 1 43 (.slice (some ⟨wo.heap.size, 0, none⟩) 1 1) 1 [.string (t.extract fr t.size)] (wo.alloc (.cells #[.string (t.extract fr t.size)] 9))) := src_text wo _
      have LN : Hid (k + 1 ≤ maxLen ∧ ((k + 1) + (k + 1) / 4 + 192) * 16 ≤ 281474976710656) := by have := HK.out; unfold maxLen; exact ⟨by omega, by omega⟩
      clear S
      go_wp2_with
        (first
          | (at_builtin; refine wpList_append_all _ rfl (.tmp 28) (.tmp 32) 43 9 43 _ 1 16 rfl Tryd.underlying43d Tryd.info9 rfl w.heap.size (.slice p k c) k (strC ts) rfl A1.out.row _ 1 [.string (t.extract fr t.size)] rfl SR.out LN.out.1 LN.out.2 A1.out.kept.size ?_; intro p9 c9 w9 ho hg hn9)
          | fail)
      go_ret
      refine ⟨p9, k + 1, c9, by first | rfl | simp, ?_⟩
      rw [F1.out]
      refine A1.out.more ?_ hg.out
      have e : ofL (t.data.toList.drop fr) = t.extract fr t.size := by
        rw [mid_list, List.take_of_length_le (by rw [Array.length_toList]; exact Nat.le_refl _)]
      rw [e]
      exact ho.out
end Go.Proofs.YtonfefhegghapaaDoor
