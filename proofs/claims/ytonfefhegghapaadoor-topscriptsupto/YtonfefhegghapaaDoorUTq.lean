import Derived.Test.YtonfefhegghapaaDoorUOw
import Derived.Test.YtonfefhegghapaaDoorUFi
import Derived.Test.YtonfefhegghapaaDoorUSm
import Derived.Test.YtonfefhegghapaaDoorULw
import Derived.Test.YtonfefhegghapaaDoorTBl
namespace Go.Proofs.YtonfefhegghapaaDoor
open Go.RowKit 

theorem tex_lin : ∀ (f : Nat) (l : List UInt8), l.length ≤ f → (tex (linL l)).length ≤ l.length + 1
  | 0, l, h => by
    have : l = [] := List.eq_nil_of_length_eq_zero (by omega)
    subst this
    simp [linL_nil, tex]
  | f + 1, l, h => by
    by_cases h0 : l = []
    · subst h0
      simp [linL_nil, tex]
    · have hl := (cutE_len 10 l).2.2 h0
      obtain ⟨_, sp⟩ := cut_spec 10 l
      have ih := tex_lin f (cutE 10 l).2 (by omega)
      rw [linL_step h0, tex_cons, List.length_append, List.length_cons]
      rcases sp with sp | ⟨sp, sr⟩
      · have e := congrArg List.length sp
        rw [List.length_append, List.length_cons] at e
        omega
      · have e := congrArg List.length sp
        rw [sr]
        rw [linL_nil]
        simp [tex]
        omega
theorem tex_take (ts : List (List UInt8)) (i : Nat) : (tex (ts.take i)).length ≤ (tex ts).length := by
  conv => rhs; rw [← List.take_append_drop i ts]
  unfold tex
  rw [List.flatMap_append, List.length_append]
  omega
theorem lin_get {l : List UInt8} {i : Nat} {t : List UInt8} (h : (linL l)[i]? = some t) : t.length ≤ l.length := by
  have h1 := one_len h
  have h2 := tex_lin l.length l (Nat.le_refl _)
  omega
theorem lns_len (ss : List St) : ss.length ≤ (lnsL ss).length := by
  induction ss with
  | nil => simp
  | cons s r ih =>
    rw [lnsL_cons, List.length_append, List.length_cons, List.length_cons]
    omega
/-- Steps of one's own, of any kind, can be read. -/
theorem PX.any {w wr : World} {p : Option Addr} {k c : Nat} {L : List Sm} {ss : List St} (h : PX w wr p k c L ss) (g : ∀ s ∈ ss, KS s ∧ KI s.kind ∧ s.key.length + s.val.length + s.l.length ≤ 134217728) : SLs wr p k c L ss := by
  obtain ⟨r1, r2⟩ := own_room h.row
  refine ⟨h.len, h.slen, r1, r2, fun h0 => ?_, fun i x s hx hs => ?_⟩
  · rcases h.row.2 with ⟨_, hn⟩ | ⟨g, cap, cur, z, _⟩
    · omega
    · have z : Value.slice p k c = .slice (some ⟨g, 0, none⟩) k cap := z
      injection z with z1 _ z3
      subst z1
      subst z3
      have hc := h.row.cells (g := g) rfl
      refine ⟨g, 0, rfl, fun i hi j v hv => ?_⟩
      have hj : j < 6 := by
        obtain ⟨h1, _⟩ := Array.getElem?_eq_some_iff.1 hv
        have : L[i].cs.size = 6 := rfl
        omega
      have := hc (i * 6 + j) v (by rw [scs_get L i hi j hj]; exact hv)
      rw [Addr.add_none, Nat.zero_add] at this
      rw [Nat.zero_add]
      exact this
  · obtain ⟨ks, ki, sm⟩ := g s (List.mem_of_getElem? hs)
    have so := h.so i x s hx hs
    exact ⟨⟨so.kind, so.a, so.b, so.key, ks.a, ks.b, (owns_bytes so.vr so.vl).1, (owns_ints so.lr so.ll ks.l).1, sm⟩, ki⟩
theorem SLs.all {w : World} {p : Option Addr} {k c : Nat} {L : List Sm} {ss : List St} (R : SLs w p k c L ss) : ∀ s ∈ ss, KS s ∧ KI s.kind ∧ s.key.length + s.val.length + s.l.length ≤ 134217728 := fun s hs => by
  obtain ⟨i, hi⟩ := List.mem_iff_getElem?.1 hs
  have hl := (List.getElem?_eq_some_iff.1 hi).1
  obtain ⟨x, hx⟩ : ∃ x, L[i]? = some x := ⟨_, List.getElem?_eq_getElem (by rw [R.len, ← R.slen]; exact hl)⟩
  have q := R.rd i x s hx hi
  exact ⟨⟨q.1.ka, q.1.kb, q.1.l.ki⟩, q.2, q.1.sm⟩
theorem txt_ok {ss : List St} : (txtL ss).2 = 0 ↔ ss.length ≤ 4096 ∧ ∀ s ∈ ss, chkS s = 0 := by
  unfold txtL
  by_cases h4 : 4096 < ss.length
  · rw [if_pos h4]
    exact ⟨fun z => absurd z (show ¬ (2 : Int) = 0 by decide), fun z => absurd z.1 (by omega)⟩
  · rw [if_neg h4]
    by_cases hf : fstE ss = 0
    · rw [if_pos hf]
      exact ⟨fun _ => ⟨by omega, fst_all hf⟩, fun _ => rfl⟩
    · rw [if_neg hf]
      exact ⟨fun z => absurd z hf, fun z => absurd (fst_none ss (fun j t ht => z.2 t (List.mem_of_getElem? ht))) hf⟩
/-- Parse, where its text is that of steps that can be read. -/
theorem hBackT {w V : World} {p : Option Addr} {k c : Nat} {L : List Sm} {ss : List St} {T : ByteArray} (R : SLs w p k c L ss) (K : Kept (fun _ => False) w V) (Va : Vars w) (F : FM w) (hT : parL T.data.toList = (ss, 0, 0)) (hz : T.size ≤ 33554432) : Calls Tryd.prog 14 #[.string T] V fun o w' => ∃ (p5 : Option Addr) (c5 : Nat), o = .returned (.tuple #[.slice p5 k c5, .int .i64 0, .int .i64 0]) ∧ Kept (fun _ => False) V w' ∧ Hid (Calls Tryd.prog 27 #[.slice p5 k c5, .slice p k c] w' fun o w'' => o = .returned (.bool true) ∧ Kept (fun _ => False) w' w'') := by
  refine (hParse T V hz (Va.kept K) (F.kept K)).mono ?_
  rintro o w5 ⟨p5, k5, c5, L5, r, rfl, hr, P5⟩
  rw [hT] at hr
  subst hr
  have P5 : PX V w5 p5 k5 c5 L5 ss := P5
  have e5 : k5 = k := P5.slen.symm.trans R.slen
  subst e5
  exact ⟨p5, c5, rfl, P5.kept, hSS (P5.any R.all) (R.kept (K.trans P5.kept (fun _ _ z => z)))⟩
/-- Parse, whose error alone is asked. -/
theorem hParE {w V : World} {T : ByteArray} {e : Int} (K : Kept (fun _ => False) w V) (Va : Vars w) (F : FM w) (hT : (parL T.data.toList).2.2 = e) (hz : T.size ≤ 33554432) : Calls Tryd.prog 14 #[.string T] V fun o w' => ∃ (p5 : Option Addr) (k5 c5 n : Nat), o = .returned (.tuple #[.slice p5 k5 c5, .int .i64 (n : Int), .int .i64 e]) ∧ Kept (fun _ => False) V w' := by
  refine (hParse T V hz (Va.kept K) (F.kept K)).mono ?_
  rintro o w5 ⟨p5, k5, c5, L5, r, rfl, hr, P5⟩
  subst hr
  exact ⟨p5, k5, c5, _, by rw [hT], P5.kept⟩
/-- Parse of any text, what it tells, and the text of what it answers. -/
theorem hTold {w V : World} {t : ByteArray} (K : Kept (fun _ => False) w V) (Va : Vars w) (F : FM w) (hz : t.size ≤ 33554430) : Calls Tryd.prog 14 #[.string t] V fun o w' => ∃ (p5 : Option Addr) (k5 c5 n : Nat) (e : Int), o = .returned (.tuple #[.slice p5 k5 c5, .int .i64 (n : Int), .int .i64 e]) ∧ Kept (fun _ => False) V w' ∧ ((e = 0 ∧ n = 0 ∧ ∃ X : ByteArray, (X = t ∨ (X ≠ t ∧ X = t ++ { data := #[10] })) ∧ Hid (Calls Tryd.prog 12 #[.slice p5 k5 c5] w' fun o w'' => o = .returned (.tuple #[.string X, .int .i64 0]) ∧ Kept (fun _ => False) w' w'')) ∨ (k5 = 0 ∧ e = 2 ∧ n = 0 ∧ Hid (4096 < (linL t.data.toList).length)) ∨ (k5 = 0 ∧ e = 82 ∧ ∃ u, Hid ((linL t.data.toList).length ≤ 4096 ∧ (linL t.data.toList)[n]? = some u ∧ (parL (u ++ [10])).2.2 = 82 ∧ (parL (tex ((linL t.data.toList).take n))).2.2 = 0))) := by
  have tz : t.data.toList.length = t.size := Array.length_toList
  refine (hParse t V (by omega) (Va.kept K) (F.kept K)).mono ?_
  rintro o w5 ⟨p5, k5, c5, L5, r, rfl, hr, P5⟩
  refine ⟨p5, k5, c5, r.2.1, r.2.2, rfl, P5.kept, ?_⟩
  have g := par_gsm t.data.toList
  rcases par_told t.data.toList with ⟨ss, x, h1, h2, h3, h4⟩ | ⟨h1, h2⟩ | ⟨n, u, h1, h2⟩
  · rw [h1] at hr g
    subst hr
    have P5 : PX V w5 p5 k5 c5 L5 ss := P5
    refine .inl ⟨rfl, rfl, ofL x, ?_, ?_⟩
    · rcases h4 with rfl | rfl
      · exact .inl (ofL_self t)
      · refine .inr ⟨fun z => ?_, ?_⟩
        · have q := congrArg (fun b : ByteArray => b.data.toList.length) z
          rw [ofL_listE, List.length_append, List.length_singleton] at q
          omega
        · rw [← ofL_self (t ++ { data := #[10] }), app_list]
    · have q := hText (P5.sls g (by omega)) ((Va.kept K).kept P5.kept) ((F.kept K).kept P5.kept) (by
        rw [h3]
        rcases h4 with rfl | rfl
        · omega
        · rw [List.length_append, List.length_singleton]
          omega)
      rw [h2] at q
      exact q
  · rw [h1] at hr
    subst hr
    exact .inr (.inl ⟨P5.slen.symm, rfl, rfl, h2⟩)
  · rw [h1] at hr
    subst hr
    exact .inr (.inr ⟨P5.slen.symm, rfl, u, h2⟩)
/-- The step of the law's first line. -/
theorem hFirst {w : World} (V : Vars w) (F : FM w) : Calls Tryd.prog 17 #[.agg #[.int .i64 1, .int .i64 1, .int .i64 0, .string ⟨#[107]⟩, .slice (some ⟨w.heap.size, 0, none⟩) 1 1, .slice none 0 0]] (w.alloc (.cells #[.int .u8 120] 5 (1, 2))) fun o w' => o = .returned (.tuple #[.string ⟨#[112, 117, 116, 32, 49, 32, 54, 98, 32, 55, 56]⟩, .int .i64 0]) ∧ Kept (fun _ => False) (w.alloc (.cells #[.int .u8 120] 5 (1, 2))) w' := by
  have K := (Kept.refl (fun _ => False) w).alloc (.cells #[.int .u8 120] 5 (1, 2))
  have q := hLine (x := ⟨1, 1, 0, ⟨#[107]⟩, some ⟨w.heap.size, 0, none⟩, 1, 1, none, 0, 0⟩) (s := ⟨1, 1, 0, [107], [120], []⟩) (w := w.alloc (.cells #[.int .u8 120] 5 (1, 2))) ⟨rfl, rfl, rfl, rfl, ⟨by decide, by decide⟩, ⟨by decide, by decide⟩, ⟨rfl, Nat.le_refl _, (show 1 ≤ maxLen by unfold maxLen; decide), fun _ => ⟨w.heap.size, 0, rfl, fun i x hx => by
    have : i = 0 := by
      have := (List.getElem?_eq_some_iff.1 hx).1
      simpa using this
    subst this
    have e : x = 120 := by simpa using hx.symm
    rw [e]
    rw [cell_of_row _ w.heap.size (0 + 0) _ 5 _ (heap_alloc_new w _)]
    rfl⟩⟩, ⟨rfl, Nat.le_refl _, Nat.zero_le _, fun z hz => (by cases hz), fun h => absurd h (show ¬ 0 < 0 by decide)⟩, by decide⟩ ⟨by decide, by decide⟩ (V.kept K) (F.kept K)
  have e1 : lineS ⟨1, 1, 0, [107], [120], []⟩ = ⟨#[112, 117, 116, 32, 49, 32, 54, 98, 32, 55, 56]⟩ := by kernel_rfl
  have e2 : chkS ⟨1, 1, 0, [107], [120], []⟩ = 0 := by kernel_rfl
  rw [e1, e2] at q
  exact q
end Go.Proofs.YtonfefhegghapaaDoor
