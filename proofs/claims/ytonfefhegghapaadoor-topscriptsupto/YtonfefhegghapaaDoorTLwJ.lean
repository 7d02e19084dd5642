import Derived.Test.YtonfefhegghapaaDoorTSs
import Derived.Deep.Cut
namespace Go.Proofs.YtonfefhegghapaaDoor
open Go.RowKit 

/-- The text of the example. -/
def awT : List UInt8 := [112, 117, 116, 32, 49, 32, 54, 98, 32, 55, 56, 10, 103, 101, 116, 32, 45, 51, 32, 45, 10, 99, 114, 97, 115, 104, 32, 48, 32, 49, 32, 45, 49, 10, 114, 111, 117, 110, 100, 32, 57, 32, 53, 10, 98, 117, 114, 115, 116, 32, 50, 32, 55, 32, 52, 50, 57, 52, 57, 54, 55, 50, 57, 53, 10]
def awS : List St := [⟨1, 1, 0, [107], [120], []⟩, ⟨2, -3, 0, [], [], []⟩, ⟨12, 0, 0, [], [], [1, -1]⟩, ⟨16, 0, 9, [], [], [5]⟩, ⟨9, 2, 7, [], [], [4294967295]⟩]
theorem aw_lines : linesN awT = 5 := by decide
theorem aw_par : parL awT = (awS, 0, 0) := by kernel_rfl
theorem aw_lns : lnsL awS = awT := by kernel_rfl
theorem aw_fst : fstE awS = 0 := by kernel_rfl
theorem aw_gsm : ∀ s ∈ awS, GSm 100 s := by
  intro s hs
  simp [awS] at hs
  rcases hs with rfl | rfl | rfl | rfl | rfl
  all_goals refine ⟨⟨by decide, by decide⟩, ⟨by decide, by decide⟩, ⟨by decide, by decide⟩, by decide, by decide, by decide, ?_⟩
  all_goals intro z hz
  all_goals simp at hz
  all_goals first | (rcases hz with rfl | rfl <;> exact ⟨by decide, by decide⟩) | (subst hz; exact ⟨by decide, by decide⟩)
set_option maxRecDepth 100000 in
set_option maxHeartbeats 4000000 in
theorem hAwake (w : World) (V : Vars w) (F : FM w) : Calls Tryd.prog 11 #[] w fun o w' => o = .returned (.bool true) ∧ Kept (fun _ => False) w w' := by
  have H : Hid (Vars w ∧ FM w) := ⟨V, F⟩
  clear V F
  go_enter Tryd.func11, Tryd.ntmps11
  go_upto_region 2 with fail
  generalize hT : (ByteArray.mk _) = T
  have HT : Hid (T.data.toList = awT) := by rw [← hT]; rfl
  clear hT
  have C1 : Hid (Calls Tryd.prog 14 #[.string T] w (RetP fun p k c L r w' => r = (awS, 0, 0) ∧ PX w w' p k c L r.1)) := by
    have ts : T.size ≤ 33554432 := by
      have e : T.data.toList.length = T.size := Array.length_toList
      rw [← e, HT.out]
      decide
    have q := hParse T w ts H.out.1 H.out.2
    rw [HT.out, aw_par] at q
    exact q
  go_wp2_with fail
  refine C1.out.mono ?_
  rintro o w1 ⟨p, k, c, L, r, rfl, hr, P1⟩
  subst hr
  have P1 : PX w w1 p k c L awS := P1
  have k5 : k = 5 := P1.slen.symm
  subst k5
  have S1 : Hid (SLs w1 p 5 c L awS ∧ Kept (fun _ => False) w w1) := ⟨P1.sls aw_gsm (by omega), P1.kept⟩
  obtain ⟨g, e⟩ : ∃ g, p = some ⟨g, 0, none⟩ := by
    rcases P1.row.2 with ⟨_, hn⟩ | ⟨g, cap, cur, z, _⟩
    · cases hn
    · have z : Value.slice p 5 c = .slice (some ⟨g, 0, none⟩) 5 cap := z
      injection z with z1 _ z3
      exact ⟨g, z1⟩
  subst e
  have AT : Hid (∀ (i : Nat) (s : St), awS[i]? = some s → ∃ x : Sm, SRd w1 x s ∧ ∀ (j : Nat) (v : Value), x.cs[j]? = some v → w1.cell? ⟨g, i * 6 + j, none⟩ = some v) := fun i s hs => by
    have hi : i < 5 := (List.getElem?_eq_some_iff.1 hs).1
    obtain ⟨b, off, x, t, e, ht, X, _, hx⟩ := S1.out.1.at hi
    have e2 : s = t := by rw [hs] at ht; simpa using ht
    subst e2
    injection e with e
    injection e with e3 e4
    subst e3
    subst e4
    exact ⟨x, X, fun j v hv => by have := hx j v hv; rw [Nat.zero_add] at this; exact this⟩
  clear P1 C1
  obtain ⟨x0, X0, h0⟩ := AT.out 0 _ rfl
  obtain ⟨x1, X1, h1⟩ := AT.out 1 _ rfl
  obtain ⟨x2, X2, h2⟩ := AT.out 2 _ rfl
  obtain ⟨x3, X3, h3⟩ := AT.out 3 _ rfl
  have c03 := h0 3 (.string x0.key) rfl
  have c04 := h0 4 (.slice x0.va x0.vn x0.vc) rfl
  have c11 := h1 1 (.int .i64 x1.a) rfl
  have c25 := h2 5 (.slice x2.la x2.ln x2.lc) rfl
  have c32 := h3 2 (.int .i64 x3.b) rfl
  rw [X0.key] at c03
  rw [X1.a] at c11
  rw [X3.b] at c32
  rw [show x2.ln = 2 from X2.l.len.symm] at c25
  have cv := X0.v.string
  replace c03 : w1.cell? ⟨g, 3, none⟩ = some (.string ⟨#[107]⟩) := c03
  replace c04 : w1.cell? ⟨g, 4, none⟩ = some (.slice x0.va x0.vn x0.vc) := c04
  replace c11 : w1.cell? ⟨g, 7, none⟩ = some (.int .i64 (-3)) := c11
  replace c25 : w1.cell? ⟨g, 17, none⟩ = some (.slice x2.la 2 x2.lc) := c25
  replace c32 : w1.cell? ⟨g, 20, none⟩ = some (.int .i64 9) := c32
  replace cv : (convert 35 9 (.slice x0.va x0.vn x0.vc)).run Tryd.prog w1 = .ok (.string ⟨#[120]⟩) w1 := cv
  clear h0 h1 h2 h3 X0 X1 X2 X3 AT
  have C2 : Hid (Calls Tryd.prog 12 #[.slice (some ⟨g, 0, none⟩) 5 c] w1 fun o w' => o = .returned (.tuple #[.string T, .int .i64 0]) ∧ Kept (fun _ => False) w1 w') := by
    have q := hText S1.out.1 (H.out.1.kept S1.out.2) (H.out.2.kept S1.out.2) (by rw [aw_lns]; decide)
    have e : txtL awS = (T, 0) := by
      unfold txtL
      rw [if_neg (by decide), aw_fst, if_pos rfl, aw_lns, ← HT.out, ofL_self]
    rw [e] at q
    exact q
  have S2 : Hid (Kept (fun _ => False) w w1) := S1.out.2
  clear S1 HT
  go_wp2_with fail
  refine C2.out.mono ?_
  rintro o w2 ⟨rfl, K2⟩
  go_wp2_with fail
  go_ret
  exact ⟨by first | rfl | simp, S2.out.trans K2 (fun _ _ z => z)⟩
end Go.Proofs.YtonfefhegghapaaDoor

namespace Go.Proofs.YtonfefhegghapaaDoor
open Go.RowKit 

/-- Whether a line is a step's. -/
def okL (t : List UInt8) : Prop := chkS (gs t) = 0 ∧ lineL (gs t) = t
/-- Lines, each with its end. -/
def tex (ts : List (List UInt8)) : List UInt8 := ts.flatMap fun t => t ++ [10]
theorem tex_cons (t : List UInt8) (r : List (List UInt8)) : tex (t :: r) = t ++ 10 :: tex r := by
  unfold tex
  simp
theorem tex_snoc (ts : List (List UInt8)) (t : List UInt8) : tex (ts ++ [t]) = tex ts ++ t ++ [10] := by
  unfold tex
  rw [List.flatMap_append]
  simp
theorem cut_at : ∀ (t r : List UInt8), 10 ∉ t → cutE 10 (t ++ 10 :: r) = (t, r)
  | [], r, _ => by
    show cutE 10 (10 :: r) = ([], r)
    unfold cutE
    simp
  | c :: t, r, h => by
    have hc : c ≠ 10 := fun z => h (by rw [z]; simp)
    have ht : 10 ∉ t := fun z => h (by simp [z])
    have ih := cut_at t r ht
    show cutE 10 (c :: (t ++ 10 :: r)) = (c :: t, r)
    unfold cutE
    rw [ih]
    simp [hc]
theorem lines_at : ∀ (t r : List UInt8), 10 ∉ t → linesN (t ++ 10 :: r) = 1 + linesN r
  | t, r, h => by
    unfold linesN
    have h0 : t.count 10 = 0 := List.count_eq_zero.2 h
    rw [List.count_append, h0, List.count_cons]
    have hl : (t ++ 10 :: r).getLast? = (10 :: r).getLast? := by rw [List.getLast?_append]; cases e : (10 :: r).getLast? with | none => simp at e | some a => rfl
    rw [hl]
    cases r with
    | nil => simp
    | cons a r =>
      have e : ((10 : UInt8) :: a :: r).getLast? = (a :: r).getLast? := by simp [List.getLast?_cons]
      rw [e]
      simp
      omega
theorem lines_tex : ∀ ts : List (List UInt8), (∀ t ∈ ts, 10 ∉ t) → linesN (tex ts) = ts.length
  | [], _ => by decide
  | t :: r, h => by
    rw [tex_cons, lines_at t _ (h t (by simp)), lines_tex r (fun x hx => h x (by simp [hx])), List.length_cons]
    omega
theorem parF_good {t r : List UInt8} {acc : List St} (h : 10 ∉ t) (ok : okL t) : parF (t ++ 10 :: r).length (t ++ 10 :: r) acc = parF r.length r (acc ++ [gs t]) := by
  have c := cut_at t r h
  have q := parF_step (l := t ++ 10 :: r) (acc := acc) (by simp) (by rw [c]; exact ok)
  rw [c] at q
  exact q
theorem parF_none {t r : List UInt8} {acc : List St} (h : 10 ∉ t) (no : ¬ okL t) : parF (t ++ 10 :: r).length (t ++ 10 :: r) acc = ([], acc.length, 82) := by
  have c := cut_at t r h
  exact parF_bad (l := t ++ 10 :: r) (acc := acc) (by simp) (by rw [c]; exact no)
/-- One line's Parse. -/
theorem par_one (t : List UInt8) (h : 10 ∉ t) : (okL t → parL (t ++ [10]) = ([gs t], 0, 0)) ∧ (¬ okL t → parL (t ++ [10]) = ([], 0, 82)) := by
  have e : linesN (t ++ [10]) = 1 := by
    have := lines_at t [] h
    rw [this]
    decide
  unfold parL
  rw [e, if_neg (by decide)]
  refine ⟨fun ok => ?_, fun no => ?_⟩
  · rw [parF_good h ok, parF_end]
    rfl
  · rw [parF_none h no]
    rfl
/-- All lines' Parse, where all are steps'. -/
theorem parF_all : ∀ (ts : List (List UInt8)) (acc : List St), (∀ t ∈ ts, 10 ∉ t) → (∀ t ∈ ts, okL t) → parF (tex ts).length (tex ts) acc = (acc ++ ts.map gs, 0, 0)
  | [], acc, _, _ => by
    show parF _ [] acc = _
    rw [parF_end]
    simp
  | t :: r, acc, h, ok => by
    rw [tex_cons, parF_good (h t (by simp)) (ok t (by simp)), parF_all r _ (fun x hx => h x (by simp [hx])) (fun x hx => ok x (by simp [hx]))]
    simp
/-- All lines' Parse, where one is none. -/
theorem parF_first : ∀ (ts : List (List UInt8)) (acc : List St) (i : Nat) (t : List UInt8), (∀ t ∈ ts, 10 ∉ t) → ts[i]? = some t → ¬ okL t → (∀ (j : Nat) (u : List UInt8), j < i → ts[j]? = some u → okL u) → parF (tex ts).length (tex ts) acc = ([], acc.length + i, 82)
  | [], _, _, _, _, h, _, _ => by cases h
  | a :: r, acc, 0, t, h, ht, no, _ => by
    have e : a = t := by simpa using ht
    subst e
    rw [tex_cons, parF_none (h a (by simp)) no]
    rfl
  | a :: r, acc, i + 1, t, h, ht, no, ok => by
    rw [tex_cons, parF_good (h a (by simp)) (ok 0 a (by omega) rfl), parF_first r _ i t (fun x hx => h x (by simp [hx])) (by simpa using ht) no (fun j u hj hu => ok (j + 1) u (by omega) (by simpa using hu)), List.length_append]
    simp
    omega
theorem par_all (ts : List (List UInt8)) (h : ∀ t ∈ ts, 10 ∉ t) (hl : ts.length ≤ 4096) (ok : ∀ t ∈ ts, okL t) : parL (tex ts) = (ts.map gs, 0, 0) := by
  unfold parL
  rw [lines_tex ts h, if_neg (by omega), parF_all ts [] h ok]
  rfl
theorem par_first (ts : List (List UInt8)) (h : ∀ t ∈ ts, 10 ∉ t) (hl : ts.length ≤ 4096) {i : Nat} {t : List UInt8} (ht : ts[i]? = some t) (no : ¬ okL t) (ok : ∀ (j : Nat) (u : List UInt8), j < i → ts[j]? = some u → okL u) : parL (tex ts) = ([], i, 82) := by
  unfold parL
  rw [lines_tex ts h, if_neg (by omega), parF_first ts [] i t h ht no ok]
  simp
end Go.Proofs.YtonfefhegghapaaDoor

namespace Go.Proofs.YtonfefhegghapaaDoor
open Go.RowKit 

/-- Texts that can be read. -/
structure TRs (w : World) (p : Option Addr) (k c : Nat) (ts : List ByteArray) : Prop where
  len : ts.length = k
  room : k ≤ c
  small : c ≤ maxLen
  cells : 0 < k → ∃ b off, p = some ⟨b, off, none⟩ ∧ ∀ (i : Nat) (t : ByteArray), ts[i]? = some t → w.cell? ⟨b, off + i, none⟩ = some (.string t)
theorem app_list (a b : ByteArray) : (a ++ b).data.toList = a.data.toList ++ b.data.toList := by simp
def bsL (ts : List ByteArray) : List (List UInt8) := ts.map (·.data.toList)
theorem bsL_get {ts : List ByteArray} {i : Nat} {t : ByteArray} (h : ts[i]? = some t) : (bsL ts)[i]? = some t.data.toList := by
  unfold bsL
  rw [List.getElem?_map, h]
  rfl
/-- What first and steps tell. -/
def FST (bs : List (List UInt8)) (i : Nat) (f : Int) (ss : List St) : Prop := (f = -1 ∧ (∀ (j : Nat) (u : List UInt8), j < i → bs[j]? = some u → okL u) ∧ ss = (bs.take i).map gs) ∨ (∃ (m : Nat) (t : List UInt8), f = (m : Int) ∧ m < i ∧ bs[m]? = some t ∧ ¬ okL t ∧ ∀ (j : Nat) (u : List UInt8), j < m → bs[j]? = some u → okL u)
/-- Where the law is. -/
structure LS5 (w wr : World) (bs : List (List UInt8)) (i : Nat) (T : ByteArray) (f : Int) (q : Option Addr) (n d : Nat) (L : List Sm) (ss : List St) : Prop where
  tx : T.data.toList = tex (bs.take i)
  no : ∀ t ∈ bs.take i, 10 ∉ t
  px : PX w wr q n d L ss
  gm : ∀ s ∈ ss, GSm 33554432 s
  ni : n ≤ i
  fs : FST bs i f ss
theorem LS5.k0 {w wr W : World} {bs : List (List UInt8)} {i : Nat} {T : ByteArray} {f : Int} {q : Option Addr} {n d : Nat} {L : List Sm} {ss : List St} (h : LS5 w wr bs i T f q n d L ss) (K : Kept (fun _ => False) wr W) : LS5 w W bs i T f q n d L ss := ⟨h.tx, h.no, h.px.k0 K, h.gm, h.ni, h.fs⟩
theorem take_one {bs : List (List UInt8)} {i : Nat} {t : List UInt8} (h : bs[i]? = some t) : bs.take (i + 1) = bs.take i ++ [t] := by
  rw [List.take_add_one, h]
  rfl
theorem LS5.text {w wr W : World} {bs : List (List UInt8)} {i : Nat} {T T' : ByteArray} {f f' : Int} {q q' : Option Addr} {n d n' d' : Nat} {L L' : List Sm} {ss ss' : List St} {t : List UInt8} (h : LS5 w wr bs i T f q n d L ss) (ht : bs[i]? = some t) (hn : 10 ∉ t) (hT : T'.data.toList = T.data.toList ++ t ++ [10]) (px : PX w W q' n' d' L' ss') (gm : ∀ s ∈ ss', GSm 33554432 s) (ni : n' ≤ i + 1) (fs : FST bs (i + 1) f' ss') : LS5 w W bs (i + 1) T' f' q' n' d' L' ss' :=
  ⟨by rw [take_one ht, tex_snoc, hT, h.tx], fun u hu => by
    rw [take_one ht] at hu
    rcases List.mem_append.1 hu with z | z
    · exact h.no u z
    · rw [List.mem_singleton] at z
      rw [z]
      exact hn, px, gm, ni, fs⟩
theorem FST.bad {bs : List (List UInt8)} {i : Nat} {f : Int} {ss : List St} {t : List UInt8} (h : FST bs i f ss) (ht : bs[i]? = some t) (no : ¬ okL t) (hf : f < 0) (ss' : List St) : FST bs (i + 1) (i : Int) ss' := by
  rcases h with ⟨_, ok, _⟩ | ⟨m, u, e, _⟩
  · exact .inr ⟨i, t, rfl, by omega, ht, no, ok⟩
  · omega
theorem FST.old {bs : List (List UInt8)} {i : Nat} {f : Int} {ss : List St} (h : FST bs i f ss) (hf : ¬ f < 0) (ss' : List St) : FST bs (i + 1) f ss' := by
  rcases h with ⟨e, _⟩ | ⟨m, u, e, lt, r⟩
  · omega
  · exact .inr ⟨m, u, e, by omega, r⟩
theorem FST.good {bs : List (List UInt8)} {i : Nat} {f : Int} {ss : List St} {t : List UInt8} (h : FST bs i f ss) (ht : bs[i]? = some t) (ok : okL t) : FST bs (i + 1) f (ss ++ [gs t]) := by
  rcases h with ⟨e, o, r⟩ | ⟨m, u, e, lt, r⟩
  · refine .inl ⟨e, fun j u hj hu => ?_, by rw [take_one ht, List.map_append, r]; rfl⟩
    by_cases z : j < i
    · exact o j u z hu
    · have : j = i := by omega
      subst this
      rw [ht] at hu
      have e2 : t = u := by simpa using hu
      rw [← e2]
      exact ok
  · exact .inr ⟨m, u, e, by omega, r⟩
theorem FST.fk {bs : List (List UInt8)} {i : Nat} {f : Int} {ss : List St} (h : FST bs i f ss) : -1 ≤ f ∧ f ≤ i := by
  rcases h with ⟨e, _⟩ | ⟨m, u, e, lt, _⟩ <;> omega
theorem one_len {bs : List (List UInt8)} {i : Nat} {t : List UInt8} (h : bs[i]? = some t) : (tex (bs.take i)).length + t.length + 1 ≤ (tex bs).length := by
  have e : bs = bs.take i ++ (t :: bs.drop (i + 1)) := by
    have hi := (List.getElem?_eq_some_iff.1 h).1
    have h2 := (List.getElem?_eq_some_iff.1 h).2
    conv => lhs; rw [← List.take_append_drop i bs, List.drop_eq_getElem_cons hi]
    rw [h2]
  conv => rhs; rw [e]
  unfold tex
  rw [List.flatMap_append, List.flatMap_cons]
  simp
  omega
end Go.Proofs.YtonfefhegghapaaDoor
