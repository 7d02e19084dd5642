import Derived.Test.YtginpoofeliimaaEMath
namespace Go.Proofs.Ytginpoofeliimaa
open Go.RowKit 

theorem Cl.part_iff (c : Cl) : c.part = (c.must || c.open_) := by
  obtain ⟨pu, op, f, t, s, v⟩ := c
  unfold Cl.must Cl.part Cl.open_
  cases pu <;> cases op <;> simp
theorem vrow_same {g h : Nat → Value} {n : Nat} (e : ∀ j, j < n → g j = h j) : vrow g n = vrow h n := by
  unfold vrow
  congr 1
  refine List.map_congr_left (fun j hj => e j (List.mem_range.1 hj))
/-- The list of places. -/
structure EW (w wr : World) (ab n : Nat) (A : Nat → Int) : Prop where
  blk : wr.heap[ab]? = some (.cells (vrow (i64v A) n) 3 (0, 0))
  kept : Kept (fun _ => False) w wr
  ge : w.heap.size ≤ ab
theorem EW.set {w wr : World} {ab n : Nat} {A : Nat → Int} (h : EW w wr ab n A) (i : Nat) (x : Int) : EW w (wr.setCell ⟨ab, i, none⟩ (.int .i64 x)) ab n (put1 A i x) := by
  refine ⟨?_, kept_set h.kept h.ge _ _, h.ge⟩
  rw [← i64v_put]
  exact set_heap h.blk _ _
theorem EW.k0 {w wr w' : World} {ab n : Nat} {A : Nat → Int} (h : EW w wr ab n A) (K : Kept (fun _ => False) wr w') : EW w w' ab n A := ⟨K.get h.blk (fun z => z), h.kept.trans K (fun _ _ z => z), h.ge⟩
theorem EW.at {w wr : World} {ab n : Nat} {A : Nat → Int} (h : EW w wr ab n A) {i : Nat} (hi : i < n) : wr.cell? ⟨ab, i, none⟩ = some (.int .i64 (A i)) := cell_blk h.blk i (vrow_get (i64v A) hi)
/-- What is asked. -/
structure EH (cs : List Cl) (R : List Nat) (v : Bool) : Prop where
  iff : v = true ↔ ExA cs R R.length ∧ ExB cs R cs.length ∧ ExC cs R cs.length ∧ ExD cs R R.length
  lt : ∀ r ∈ R, r < cs.length
theorem EH.noA {cs : List Cl} {R : List Nat} {v : Bool} (h : EH cs R v) (z : ¬ ExA cs R R.length) : v = false := by
  cases v
  · rfl
  · exact absurd (h.iff.1 rfl).1 z
theorem EH.noB {cs : List Cl} {R : List Nat} {v : Bool} (h : EH cs R v) (z : ¬ ExB cs R cs.length) : v = false := by
  cases v
  · rfl
  · exact absurd (h.iff.1 rfl).2.1 z
theorem EH.noC {cs : List Cl} {R : List Nat} {v : Bool} (h : EH cs R v) (z : ¬ ExC cs R cs.length) : v = false := by
  cases v
  · rfl
  · exact absurd (h.iff.1 rfl).2.2.1 z
theorem EH.noD {cs : List Cl} {R : List Nat} {v : Bool} (h : EH cs R v) (z : ¬ ExD cs R R.length) : v = false := by
  cases v
  · rfl
  · exact absurd (h.iff.1 rfl).2.2.2 z
theorem ExA.step {cs : List Cl} {R : List Nat} {m r : Nat} {c : Cl} (h : ExA cs R m) (hr : R[m]? = some r) (h1 : r ∉ R.take m) (hc : cs[r]? = some c) (hp : c.part = true) : ExA cs R (m + 1) := by
  intro n hn s hs
  rcases Nat.lt_succ_iff_lt_or_eq.1 hn with z | z
  · exact h n z s hs
  · subst z
    rw [hr] at hs
    have := Option.some.inj hs
    subst this
    exact ⟨h1, c, hc, hp⟩
theorem take_add {R : List Nat} {m r : Nat} (hr : R[m]? = some r) : R.take (m + 1) = R.take m ++ [r] := by rw [List.take_add_one, hr]; rfl
theorem take_len {R : List Nat} {m r : Nat} (hr : R[m]? = some r) : (R.take m).length = m := by
  have := (List.getElem?_eq_some_iff.1 hr).1
  rw [List.length_take]; omega
theorem ExB.step {cs : List Cl} {R : List Nat} {m : Nat} {c : Cl} (h : ExB cs R m) (hc : cs[m]? = some c) (hp : c.must = true → m ∈ R) : ExB cs R (m + 1) := by
  intro i hi d hd hm
  rcases Nat.lt_succ_iff_lt_or_eq.1 hi with z | z
  · exact h i z d hd hm
  · subst z
    rw [hc] at hd
    have := Option.some.inj hd
    subst this
    exact hp hm
theorem ExC1.step {cs : List Cl} {R : List Nat} {i m : Nat} {a b : Cl} (h : ExC1 cs R i m) (ha : cs[i]? = some a) (hb : cs[m]? = some b) (hp : a.ahead b = true → ∀ x y : Nat, R[x]? = some m → R[y]? = some i → y ≤ x) : ExC1 cs R i (m + 1) := by
  intro j hj a' b' ha' hb' hab
  rcases Nat.lt_succ_iff_lt_or_eq.1 hj with z | z
  · exact h j z a' b' ha' hb' hab
  · subst z
    rw [ha] at ha'
    rw [hb] at hb'
    have e1 := Option.some.inj ha'
    have e2 := Option.some.inj hb'
    subst e1
    subst e2
    exact hp hab
theorem ExC.step {cs : List Cl} {R : List Nat} {i : Nat} (h : ExC cs R i) (h1 : ExC1 cs R i cs.length) : ExC cs R (i + 1) := by
  intro j hj
  rcases Nat.lt_succ_iff_lt_or_eq.1 hj with z | z
  · exact h j z
  · subst z
    exact h1
theorem ExD.step {cs : List Cl} {R : List Nat} {n r : Nat} {c : Cl} (h : ExD cs R n) (hr : R[n]? = some r) (hc : cs[r]? = some c) (h1 : ExD1 cs R n c) : ExD cs R (n + 1) := by
  intro m hm s d hs hd
  rcases Nat.lt_succ_iff_lt_or_eq.1 hm with z | z
  · exact h m z s d hs hd
  · subst z
    rw [hr] at hs
    have e1 := Option.some.inj hs
    subst e1
    rw [hc] at hd
    have e2 := Option.some.inj hd
    subst e2
    exact h1
theorem lastF_take {cs : List Cl} {R : List Nat} {n r : Nat} {c : Cl} (hr : R[n]? = some r) (hc : cs[r]? = some c) : lastF cs (R.take (n + 1)) (-1) = if c.put = true then (r : Int) else lastF cs (R.take n) (-1) := by
  rw [take_add hr, lastF_add, hc]
end Go.Proofs.Ytginpoofeliimaa
