import Derived.Test.YtonfefhegghapaaDoorTSsJ
import Derived.Test.YtonfefhegghapaaDoorTCutJ
namespace Go.Proofs.YtonfefhegghapaaDoor
open Go.RowKit 

/-- The text of the example. -/
def awT : List UInt8 := [112, 117, 116, 32, 49, 32, 54, 98, 32, 55, 56, 10, 103, 101, 116, 32, 45, 51, 32, 45, 10, 99, 114, 97, 115, 104, 32, 48, 32, 49, 32, 45, 49, 10, 114, 111, 117, 110, 100, 32, 57, 32, 53, 10, 98, 117, 114, 115, 116, 32, 50, 32, 55, 32, 52, 50, 57, 52, 57, 54, 55, 50, 57, 53, 10]
def awS : List St := [⟨1, 1, 0, [107], [120], []⟩, ⟨2, -3, 0, [], [], []⟩, ⟨12, 0, 0, [], [], [1, -1]⟩, ⟨16, 0, 9, [], [], [5]⟩, ⟨9, 2, 7, [], [], [4294967295]⟩]
theorem aw_lines : linesN awT = 5 := by decide
theorem aw_par : parL awT = (awS, 0, 0) := by kernel_rfl
theorem aw_lns : lnsL awS = awT := by kernel_rfl
theorem aw_fst : fstE awS = 0 := by kernel_rfl
theorem aw_gsm : ∀ s ∈ awS, GSm 100 s := by
  intro s hs
  simp [awS] at hs
  rcases hs with rfl | rfl | rfl | rfl | rfl
  all_goals refine ⟨⟨by decide, by decide⟩, ⟨by decide, by decide⟩, ⟨by decide, by decide⟩, by decide, by decide, by decide, ?_⟩
  all_goals intro z hz
  all_goals simp at hz
  all_goals first | (rcases hz with rfl | rfl <;> exact ⟨by decide, by decide⟩) | (subst hz; exact ⟨by decide, by decide⟩)
set_option maxRecDepth 100000 in
set_option maxHeartbeats 4000000 in
theorem hAwake (w : World) (V : Vars w) (F : FM w) : Calls Tryd.prog 11 #[] w fun o w' => o = .returned (.bool true) ∧ Kept (fun _ => False) w w' := by
  have H : Hid (Vars w ∧ FM w) := ⟨V, F⟩
  clear V F
  go_enter Tryd.func11, Tryd.ntmps11
  go_upto_region 2 with fail
  generalize hT : (ByteArray.mk _) = T
  have HT : Hid (T.data.toList = awT) := by rw [← hT]; rfl
  clear hT
  have C1 : Hid (Calls Tryd.prog 14 #[.string T] w (RetP fun p k c L r w' => r = (awS, 0, 0) ∧ PX w w' p k c L r.1)) := by
    have ts : T.size ≤ 33554432 := by
      have e : T.data.toList.length = T.size := Array.length_toList
      rw [← e, HT.out]
      decide
    have q := hParse T w ts H.out.1 H.out.2
    rw [HT.out, aw_par] at q
    exact q
  go_wp2_with fail
  refine C1.out.mono ?_
  rintro o w1 ⟨p, k, c, L, r, rfl, hr, P1⟩
  subst hr
  have P1 : PX w w1 p k c L awS := P1
  have k5 : k = 5 := P1.slen.symm
  subst k5
  have S1 : Hid (SLs w1 p 5 c L awS ∧ Kept (fun _ => False) w w1) := ⟨P1.sls aw_gsm (by omega), P1.kept⟩
  obtain ⟨g, e⟩ : ∃ g, p = some ⟨g, 0, none⟩ := by
    rcases P1.row.2 with ⟨_, hn⟩ | ⟨g, cap, cur, z, _⟩
    · cases hn
    · have z : Value.slice p 5 c = .slice (some ⟨g, 0, none⟩) 5 cap := z
      injection z with z1 _ z3
      exact ⟨g, z1⟩
  subst e
  have AT : Hid (∀ (i : Nat) (s : St), awS[i]? = some s → ∃ x : Sm, SRd w1 x s ∧ ∀ (j : Nat) (v : Value), x.cs[j]? = some v → w1.cell? ⟨g, i * 6 + j, none⟩ = some v) := fun i s hs => by
    have hi : i < 5 := (List.getElem?_eq_some_iff.1 hs).1
    obtain ⟨b, off, x, t, e, ht, X, _, hx⟩ := S1.out.1.at hi
    have e2 : s = t := by rw [hs] at ht; simpa using ht
    subst e2
    injection e with e
    injection e with e3 e4
    subst e3
    subst e4
    exact ⟨x, X, fun j v hv => by have := hx j v hv; rw [Nat.zero_add] at this; exact this⟩
  clear P1 C1
  obtain ⟨x0, X0, h0⟩ := AT.out 0 _ rfl
  obtain ⟨x1, X1, h1⟩ := AT.out 1 _ rfl
  obtain ⟨x2, X2, h2⟩ := AT.out 2 _ rfl
  obtain ⟨x3, X3, h3⟩ := AT.out 3 _ rfl
  have c03 := h0 3 (.string x0.key) rfl
  have c04 := h0 4 (.slice x0.va x0.vn x0.vc) rfl
  have c11 := h1 1 (.int .i64 x1.a) rfl
  have c25 := h2 5 (.slice x2.la x2.ln x2.lc) rfl
  have c32 := h3 2 (.int .i64 x3.b) rfl
  rw [X0.key] at c03
  rw [X1.a] at c11
  rw [X3.b] at c32
  rw [show x2.ln = 2 from X2.l.len.symm] at c25
  have cv := X0.v.string
  replace c03 : w1.cell? ⟨g, 3, none⟩ = some (.string ⟨#[107]⟩) := c03
  replace c04 : w1.cell? ⟨g, 4, none⟩ = some (.slice x0.va x0.vn x0.vc) := c04
  replace c11 : w1.cell? ⟨g, 7, none⟩ = some (.int .i64 (-3)) := c11
  replace c25 : w1.cell? ⟨g, 17, none⟩ = some (.slice x2.la 2 x2.lc) := c25
  replace c32 : w1.cell? ⟨g, 20, none⟩ = some (.int .i64 9) := c32
  replace cv : (convert 35 9 (.slice x0.va x0.vn x0.vc)).run Tryd.prog w1 = .ok (.string ⟨#[120]⟩) w1 := cv
  clear h0 h1 h2 h3 X0 X1 X2 X3 AT
  have C2 : Hid (Calls Tryd.prog 12 #[.slice (some ⟨g, 0, none⟩) 5 c] w1 fun o w' => o = .returned (.tuple #[.string T, .int .i64 0]) ∧ Kept (fun _ => False) w1 w') := by
    have q := hText S1.out.1 (H.out.1.kept S1.out.2) (H.out.2.kept S1.out.2) (by rw [aw_lns]; decide)
    have e : txtL awS = (T, 0) := by
      unfold txtL
      rw [if_neg (by decide), aw_fst, if_pos rfl, aw_lns, ← HT.out, ofL_self]
    rw [e] at q
    exact q
  have S2 : Hid (Kept (fun _ => False) w w1) := S1.out.2
  clear S1 HT
  go_wp2_with fail
  refine C2.out.mono ?_
  rintro o w2 ⟨rfl, K2⟩
  go_wp2_with fail
  go_ret
  exact ⟨by first | rfl | simp, S2.out.trans K2 (fun _ _ z => z)⟩
end Go.Proofs.YtonfefhegghapaaDoor

namespace Go.Proofs.YtonfefhegghapaaDoor
open Go.RowKit 

/-- Whether a line is a step's. -/
def okL (t : List UInt8) : Prop := chkS (gs t) = 0 ∧ lineL (gs t) = t
/-- Lines, each with its end. -/
def tex (ts : List (List UInt8)) : List UInt8 := ts.flatMap fun t => t ++ [10]
theorem tex_cons (t : List UInt8) (r : List (List UInt8)) : tex (t :: r) = t ++ 10 :: tex r := by
  unfold tex
  simp
theorem tex_snoc (ts : List (List UInt8)) (t : List UInt8) : tex (ts ++ [t]) = tex ts ++ t ++ [10] := by
  unfold tex
  rw [List.flatMap_append]
  simp
theorem cut_at : ∀ (t r : List UInt8), 10 ∉ t → cutE 10 (t ++ 10 :: r) = (t, r)
  | [], r, _ => by
    show cutE 10 (10 :: r) = ([], r)
    unfold cutE
    simp
  | c :: t, r, h => by
    have hc : c ≠ 10 := fun z => h (by rw [z]; simp)
    have ht : 10 ∉ t := fun z => h (by simp [z])
    have ih := cut_at t r ht
    show cutE 10 (c :: (t ++ 10 :: r)) = (c :: t, r)
    unfold cutE
    rw [ih]
    simp [hc]
theorem lines_at : ∀ (t r : List UInt8), 10 ∉ t → linesN (t ++ 10 :: r) = 1 + linesN r
  | t, r, h => by
    unfold linesN
    have h0 : t.count 10 = 0 := List.count_eq_zero.2 h
    rw [List.count_append, h0, List.count_cons]
    have hl : (t ++ 10 :: r).getLast? = (10 :: r).getLast? := by rw [List.getLast?_append]; cases e : (10 :: r).getLast? with | none => simp at e | some a => rfl
    rw [hl]
    cases r with
    | nil => simp
    | cons a r =>
      have e : ((10 : UInt8) :: a :: r).getLast? = (a :: r).getLast? := by simp [List.getLast?_cons]
      rw [e]
      simp
      omega
theorem lines_tex : ∀ ts : List (List UInt8), (∀ t ∈ ts, 10 ∉ t) → linesN (tex ts) = ts.length
  | [], _ => by decide
  | t :: r, h => by
    rw [tex_cons, lines_at t _ (h t (by simp)), lines_tex r (fun x hx => h x (by simp [hx])), List.length_cons]
    omega
theorem parF_good {t r : List UInt8} {acc : List St} (h : 10 ∉ t) (ok : okL t) : parF (t ++ 10 :: r).length (t ++ 10 :: r) acc = parF r.length r (acc ++ [gs t]) := by
  have c := cut_at t r h
  have q := parF_step (l := t ++ 10 :: r) (acc := acc) (by simp) (by rw [c]; exact ok)
  rw [c] at q
  exact q
theorem parF_none {t r : List UInt8} {acc : List St} (h : 10 ∉ t) (no : ¬ okL t) : parF (t ++ 10 :: r).length (t ++ 10 :: r) acc = ([], acc.length, 82) := by
  have c := cut_at t r h
  exact parF_bad (l := t ++ 10 :: r) (acc := acc) (by simp) (by rw [c]; exact no)
/-- One line's Parse. -/
theorem par_one (t : List UInt8) (h : 10 ∉ t) : (okL t → parL (t ++ [10]) = ([gs t], 0, 0)) ∧ (¬ okL t → parL (t ++ [10]) = ([], 0, 82)) := by
  have e : linesN (t ++ [10]) = 1 := by
    have := lines_at t [] h
    rw [this]
    decide
  unfold parL
  rw [e, if_neg (by decide)]
  refine ⟨fun ok => ?_, fun no => ?_⟩
  · rw [parF_good h ok, parF_end]
    rfl
  · rw [parF_none h no]
    rfl
/-- All lines' Parse, where all are steps'. -/
theorem parF_all : ∀ (ts : List (List UInt8)) (acc : List St), (∀ t ∈ ts, 10 ∉ t) → (∀ t ∈ ts, okL t) → parF (tex ts).length (tex ts) acc = (acc ++ ts.map gs, 0, 0)
  | [], acc, _, _ => by
    show parF _ [] acc = _
    rw [parF_end]
    simp
  | t :: r, acc, h, ok => by
    rw [tex_cons, parF_good (h t (by simp)) (ok t (by simp)), parF_all r _ (fun x hx => h x (by simp [hx])) (fun x hx => ok x (by simp [hx]))]
    simp
/-- All lines' Parse, where one is none. -/
theorem parF_first : ∀ (ts : List (List UInt8)) (acc : List St) (i : Nat) (t : List UInt8), (∀ t ∈ ts, 10 ∉ t) → ts[i]? = some t → ¬ okL t → (∀ (j : Nat) (u : List UInt8), j < i → ts[j]? = some u → okL u) → parF (tex ts).length (tex ts) acc = ([], acc.length + i, 82)
  | [], _, _, _, _, h, _, _ => by cases h
  | a :: r, acc, 0, t, h, ht, no, _ => by
    have e : a = t := by simpa using ht
    subst e
    rw [tex_cons, parF_none (h a (by simp)) no]
    rfl
  | a :: r, acc, i + 1, t, h, ht, no, ok => by
    rw [tex_cons, parF_good (h a (by simp)) (ok 0 a (by omega) rfl), parF_first r _ i t (fun x hx => h x (by simp [hx])) (by simpa using ht) no (fun j u hj hu => ok (j + 1) u (by omega) (by simpa using hu)), List.length_append]
    simp
    omega
theorem par_all (ts : List (List UInt8)) (h : ∀ t ∈ ts, 10 ∉ t) (hl : ts.length ≤ 4096) (ok : ∀ t ∈ ts, okL t) : parL (tex ts) = (ts.map gs, 0, 0) := by
  unfold parL
  rw [lines_tex ts h, if_neg (by omega), parF_all ts [] h ok]
  rfl
theorem par_first (ts : List (List UInt8)) (h : ∀ t ∈ ts, 10 ∉ t) (hl : ts.length ≤ 4096) {i : Nat} {t : List UInt8} (ht : ts[i]? = some t) (no : ¬ okL t) (ok : ∀ (j : Nat) (u : List UInt8), j < i → ts[j]? = some u → okL u) : parL (tex ts) = ([], i, 82) := by
  unfold parL
  rw [lines_tex ts h, if_neg (by omega), parF_first ts [] i t h ht no ok]
  simp
end Go.Proofs.YtonfefhegghapaaDoor

namespace Go.Proofs.YtonfefhegghapaaDoor
open Go.RowKit 

def cfgL (n k d c : Int) : List UInt8 := [99, 111, 110, 102, 105, 103] ++ numL [n, k, d, c]
set_option maxRecDepth 100000 in
theorem hApp (w : World) (tab : Lib.TabIs Tryd.prog w "internal/strconv.uint64pow10" .u64 Lib.pow10Tab) (n k d c : Int) (hk : KI n ∧ KI k ∧ KI d ∧ KI c) : Calls Tryd.prog 30 #[.slice none 0 0, .agg #[.int .i64 n, .int .i64 k, .int .i64 d], .int .i64 c] w (RetT fun p' k' c' w' => TX w w' p' k' c' (cfgL n k d c)) := by
  have H : Hid (Lib.TabIs Tryd.prog w "internal/strconv.uint64pow10" .u64 Lib.pow10Tab ∧ KI n ∧ KI k ∧ KI d ∧ KI c) := ⟨tab, hk⟩
  clear tab hk
  have T1 : Hid (TX w (w.alloc (.cells #[.int .i64 n, .int .i64 k, .int .i64 d] 23)) none 0 0 []) := (TX.nil w).k0 ((Kept.refl _ _).alloc _)
  have B1 : Hid ((w.alloc (.cells #[.int .i64 n, .int .i64 k, .int .i64 d] 23)).heap[w.heap.size]? = some (.cells #[.int .i64 n, .int .i64 k, .int .i64 d] 23 (0, 0))) := alloc_new _ _
  have SR : Hid (Src Tryd.prog 1 9 (.string ⟨#[99, 111, 110, 102, 105, 103]⟩) 6 (Lib.byteCells [99, 111, 110, 102, 105, 103]) (w.alloc (.cells #[.int .i64 n, .int .i64 k, .int .i64 d] 23))) := Src.ofString _ Tryd.underlying9 _
  go_enter Tryd.func30, Tryd.ntmps30
  go_upto_region 2 with
    (first
      | (at_builtin; refine wpList_append_all _ rfl (.tmp 7) (.const (.string ⟨#[99, 111, 110, 102, 105, 103]⟩)) 35 5 9 _ 1 1 rfl Tryd.underlying35 Tryd.info5 rfl w.heap.size (.slice none 0 0) 0 (Lib.byteCells []) rfl T1.out.row _ 6 (Lib.byteCells [99, 111, 110, 102, 105, 103]) rfl SR.out (by unfold maxLen; omega) (by omega) T1.out.kept.size ?_; intro p9 c9 w9 ho hg hn9)
      | fail)
  have T9 : Hid (TX w w9 p9 6 c9 [99, 111, 110, 102, 105, 103] ∧ w9.heap[w.heap.size]? = some (.cells #[.int .i64 n, .int .i64 k, .int .i64 d] 23 (0, 0))) := ⟨T1.out.more (x := [99, 111, 110, 102, 105, 103]) rfl ho.out hg.out, grown_keep T1.out.row hg.out (by decide) B1.out⟩
  clear ho hg hn9 T1 B1 SR
  have c0 := cell_blk T9.out.2 0 (v := .int .i64 n) rfl
  have c1 := cell_blk T9.out.2 1 (v := .int .i64 k) rfl
  have c2 := cell_blk T9.out.2 2 (v := .int .i64 d) rfl
  have CN : Hid (Calls Tryd.prog 54 #[.slice p9 6 c9, .slice (some ⟨w9.heap.size, 0, none⟩) 4 4] (w9.alloc (.cells #[.int .i64 n, .int .i64 k, .int .i64 d, .int .i64 c] 3)) (RetT fun p' k' c' w' => TX w w' p' k' c' (cfgL n k d c))) := hNums (zs := [n, k, d, c]) (T9.out.1.k0 ((Kept.refl _ _).alloc _)) H.out.1 (alloc_new _ _) (by simp) (fun z hz => by
    simp at hz
    rcases hz with rfl | rfl | rfl | rfl
    · exact H.out.2.1
    · exact H.out.2.2.1
    · exact H.out.2.2.2.1
    · exact H.out.2.2.2.2) (by simp)
  clear T9
  go_wp2_with fail
  refine CN.out.mono ?_
  rintro o w10 ⟨p', k', c', rfl, T'⟩
  have T : Hid (TX w w10 p' k' c' (cfgL n k d c)) := T'
  clear T' CN
  go_wp2_with fail
  go_ret
  exact ⟨p', k', c', by first | rfl | simp, T.out⟩
end Go.Proofs.YtonfefhegghapaaDoor
