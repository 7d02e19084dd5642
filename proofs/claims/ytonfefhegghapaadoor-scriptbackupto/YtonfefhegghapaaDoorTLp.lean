import Derived.Test.YtonfefhegghapaaDoorTAw
namespace Go.Proofs.YtonfefhegghapaaDoor
open Go.RowKit 

/-- Whether a line is a step's. -/
def okL (t : List UInt8) : Prop := chkS (gs t) = 0 ∧ lineL (gs t) = t
/-- Lines, each with its end. -/
def tex (ts : List (List UInt8)) : List UInt8 := ts.flatMap fun t => t ++ [10]
theorem tex_cons (t : List UInt8) (r : List (List UInt8)) : tex (t :: r) = t ++ 10 :: tex r := by
  unfold tex
  simp
theorem tex_snoc (ts : List (List UInt8)) (t : List UInt8) : tex (ts ++ [t]) = tex ts ++ t ++ [10] := by
  unfold tex
  rw [List.flatMap_append]
  simp
theorem cut_at : ∀ (t r : List UInt8), 10 ∉ t → cutE 10 (t ++ 10 :: r) = (t, r)
  | [], r, _ => by
    show cutE 10 (10 :: r) = ([], r)
    unfold cutE
    simp
  | c :: t, r, h => by
    have hc : c ≠ 10 := fun z => h (by rw [z]; simp)
    have ht : 10 ∉ t := fun z => h (by simp [z])
    have ih := cut_at t r ht
    show cutE 10 (c :: (t ++ 10 :: r)) = (c :: t, r)
    unfold cutE
    rw [ih]
    simp [hc]
theorem lines_at : ∀ (t r : List UInt8), 10 ∉ t → linesN (t ++ 10 :: r) = 1 + linesN r
  | t, r, h => by
    unfold linesN
    have h0 : t.count 10 = 0 := List.count_eq_zero.2 h
    rw [List.count_append, h0, List.count_cons]
    have hl : (t ++ 10 :: r).getLast? = (10 :: r).getLast? := by rw [List.getLast?_append]; cases e : (10 :: r).getLast? with | none => simp at e | some a => rfl
    rw [hl]
    cases r with
    | nil => simp
    | cons a r =>
      have e : ((10 : UInt8) :: a :: r).getLast? = (a :: r).getLast? := by simp [List.getLast?_cons]
      rw [e]
      simp
      omega
theorem lines_tex : ∀ ts : List (List UInt8), (∀ t ∈ ts, 10 ∉ t) → linesN (tex ts) = ts.length
  | [], _ => by decide
  | t :: r, h => by
    rw [tex_cons, lines_at t _ (h t (by simp)), lines_tex r (fun x hx => h x (by simp [hx])), List.length_cons]
    omega
theorem parF_good {t r : List UInt8} {acc : List St} (h : 10 ∉ t) (ok : okL t) : parF (t ++ 10 :: r).length (t ++ 10 :: r) acc = parF r.length r (acc ++ [gs t]) := by
  have c := cut_at t r h
  have q := parF_step (l := t ++ 10 :: r) (acc := acc) (by simp) (by rw [c]; exact ok)
  rw [c] at q
  exact q
theorem parF_none {t r : List UInt8} {acc : List St} (h : 10 ∉ t) (no : ¬ okL t) : parF (t ++ 10 :: r).length (t ++ 10 :: r) acc = ([], acc.length, 82) := by
  have c := cut_at t r h
  exact parF_bad (l := t ++ 10 :: r) (acc := acc) (by simp) (by rw [c]; exact no)
/-- One line's Parse. -/
theorem par_one (t : List UInt8) (h : 10 ∉ t) : (okL t → parL (t ++ [10]) = ([gs t], 0, 0)) ∧ (¬ okL t → parL (t ++ [10]) = ([], 0, 82)) := by
  have e : linesN (t ++ [10]) = 1 := by
    have := lines_at t [] h
    rw [this]
    decide
  unfold parL
  rw [e, if_neg (by decide)]
  refine ⟨fun ok => ?_, fun no => ?_⟩
  · rw [parF_good h ok, parF_end]
    rfl
  · rw [parF_none h no]
    rfl
/-- All lines' Parse, where all are steps'. -/
theorem parF_all : ∀ (ts : List (List UInt8)) (acc : List St), (∀ t ∈ ts, 10 ∉ t) → (∀ t ∈ ts, okL t) → parF (tex ts).length (tex ts) acc = (acc ++ ts.map gs, 0, 0)
  | [], acc, _, _ => by
    show parF _ [] acc = _
    rw [parF_end]
    simp
  | t :: r, acc, h, ok => by
    rw [tex_cons, parF_good (h t (by simp)) (ok t (by simp)), parF_all r _ (fun x hx => h x (by simp [hx])) (fun x hx => ok x (by simp [hx]))]
    simp
/-- All lines' Parse, where one is none. -/
theorem parF_first : ∀ (ts : List (List UInt8)) (acc : List St) (i : Nat) (t : List UInt8), (∀ t ∈ ts, 10 ∉ t) → ts[i]? = some t → ¬ okL t → (∀ (j : Nat) (u : List UInt8), j < i → ts[j]? = some u → okL u) → parF (tex ts).length (tex ts) acc = ([], acc.length + i, 82)
  | [], _, _, _, _, h, _, _ => by cases h
  | a :: r, acc, 0, t, h, ht, no, _ => by
    have e : a = t := by simpa using ht
    subst e
    rw [tex_cons, parF_none (h a (by simp)) no]
    rfl
  | a :: r, acc, i + 1, t, h, ht, no, ok => by
    rw [tex_cons, parF_good (h a (by simp)) (ok 0 a (by omega) rfl), parF_first r _ i t (fun x hx => h x (by simp [hx])) (by simpa using ht) no (fun j u hj hu => ok (j + 1) u (by omega) (by simpa using hu)), List.length_append]
    simp
    omega
theorem par_all (ts : List (List UInt8)) (h : ∀ t ∈ ts, 10 ∉ t) (hl : ts.length ≤ 4096) (ok : ∀ t ∈ ts, okL t) : parL (tex ts) = (ts.map gs, 0, 0) := by
  unfold parL
  rw [lines_tex ts h, if_neg (by omega), parF_all ts [] h ok]
  rfl
theorem par_first (ts : List (List UInt8)) (h : ∀ t ∈ ts, 10 ∉ t) (hl : ts.length ≤ 4096) {i : Nat} {t : List UInt8} (ht : ts[i]? = some t) (no : ¬ okL t) (ok : ∀ (j : Nat) (u : List UInt8), j < i → ts[j]? = some u → okL u) : parL (tex ts) = ([], i, 82) := by
  unfold parL
  rw [lines_tex ts h, if_neg (by omega), parF_first ts [] i t h ht no ok]
  simp
end Go.Proofs.YtonfefhegghapaaDoor
