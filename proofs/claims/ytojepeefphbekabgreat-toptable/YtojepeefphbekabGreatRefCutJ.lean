import Derived.Test.YtojepeefphbekabGreatRefAddJ
namespace Go.Proofs.YtojepeefphbekabGreat
open Go.RowKit

/-- The closure over the tag that is looked for. -/
structure Clo (w : World) (P2 P3 B : Nat) (q : Option Addr) (len cap : Nat) (S : List (Int × Int)) (x y : Int) : Prop where
  p : w.heap[P2]? = some (.cells #[.pointer (some ⟨B, 0, none⟩)] 58 (0, 0))
  t : TagAt w P3 x y
  s : SV w B 105 q len cap S
theorem Clo.by {w w' : World} {P2 P3 B : Nat} {q : Option Addr} {len cap : Nat} {S : List (Int × Int)} {x y : Int} (h : Clo w P2 P3 B q len cap S x y) (b : Below w.heap.size w w') : Clo w' P2 P3 B q len cap S x y :=
  ⟨(b.block P2 (Array.getElem?_eq_some_iff.1 h.p).1).trans h.p, h.t.by b, h.s.by b⟩
theorem Clo.cell {w : World} {P2 P3 B : Nat} {q : Option Addr} {len cap : Nat} {S : List (Int × Int)} {x y : Int} (h : Clo w P2 P3 B q len cap S x y) : w.cell? ⟨P2, 0, none⟩ = some (.pointer (some ⟨B, 0, none⟩)) ∧ P2 < w.heap.size := by
  refine ⟨?_, (Array.getElem?_eq_some_iff.1 h.p).1⟩
  rw [cell_of_row w P2 0 _ 58 (0, 0) h.p]; rfl
set_option maxRecDepth 100000 in
theorem closure (P2 P3 B : Nat) (q : Option Addr) (len cap : Nat) (S : List (Int × Int)) (x y : Int) (i : Nat) (w : World) (h : Clo w P2 P3 B q len cap S x y) (hi : i < len) :
    Calls Tryz.prog 71 #[.int .i64 (i : Int), .pointer (some ⟨P2, 0, none⟩), .pointer (some ⟨P3, 0, none⟩)] w fun o w' => o = .returned (.bool (decide (0 ≤ tc (S.getD i (0, 0)) (x, y)))) ∧ Below w.heap.size w w' := by
  obtain ⟨hl, hr, hs⟩ := h.s.nums
  obtain ⟨b, off, rfl, hc⟩ := h.s.r.cells (by omega)
  obtain ⟨e0, e1⟩ := hc i hi
  obtain ⟨⟨u, v⟩, huv⟩ : ∃ t, S.getD i (0, 0) = t := ⟨_, rfl⟩
  rw [huv] at e0 e1 ⊢
  have lb : b < w.heap.size := World.block_lt_of_cell? w _ e0
  obtain ⟨p0, lp⟩ := h.cell
  have sc := h.s.cell
  have ls := h.s.lt
  obtain ⟨t0, t1, _, _⟩ := h.t.facts
  have lt := h.t.lt
  have i1 : (i : Int) < (len : Int) := by omega
  show Calls Tryz.prog 71 _ w fun o w' => o = .returned (.bool (decide (0 ≤ tcmp u v x y))) ∧ Below w.heap.size w w'
  have KP : Hid (∀ w2, Below w.drew.heap.size w.drew w2 → (w2.cell? ⟨P2, 0, none⟩ = some (.pointer (some ⟨B, 0, none⟩)) ∧ w2.cell? ⟨B, 0, none⟩ = some (.slice (some ⟨b, off, none⟩) len cap) ∧ w2.cell? ⟨b, off + i * 2, none⟩ = some (.int .i64 u) ∧ w2.cell? ⟨b, off + i * 2 + 1, none⟩ = some (.int .i64 v) ∧ w2.cell? ⟨P3, 0, none⟩ = some (.int .i64 x) ∧ w2.cell? ⟨P3, 1, none⟩ = some (.int .i64 y)) ∧ Below w.heap.size w w2) :=
    fun w2 B2 => ⟨⟨(B2.cell lp).trans p0, (B2.cell ls).trans sc, (B2.cell lb).trans e0, (B2.cell lb).trans e1, (B2.cell lt).trans t0, (B2.cell lt).trans t1⟩, ((Below.refl _ _).drew).trans B2⟩
  clear hc huv h
  go_enter Tryz.func71, Tryz.ntmps71
  go_upto_region 1 with fail
  go_region_held3 (fun w' => w'.cell? ⟨P2, 0, none⟩ = some (.pointer (some ⟨B, 0, none⟩)) ∧ w'.cell? ⟨B, 0, none⟩ = some (.slice (some ⟨b, off, none⟩) len cap) ∧ w'.cell? ⟨b, off + i * 2, none⟩ = some (.int .i64 u) ∧ w'.cell? ⟨b, off + i * 2 + 1, none⟩ = some (.int .i64 v) ∧ w'.cell? ⟨P3, 0, none⟩ = some (.int .i64 x) ∧ w'.cell? ⟨P3, 1, none⟩ = some (.int .i64 y)) (go_keep)
    (first | (go_at_call 39; refine (compare u v x y _).mono ?_; rintro e w2 ⟨rfl, B2⟩; obtain ⟨⟨q0, q1, q2, q3, q4, q5⟩, SS⟩ := KP.out w2 B2; have SH : Hid (Below w.heap.size w w2) := SS; clear SS B2) | fail)
  go_wp2_with fail
  go_ret
  exact ⟨by simp, SH.out⟩
theorem mid_eq (i j : Nat) (h : i + j < 2 ^ 63) : wrap64 (IntKind.u64.wrap (wrap64 ((i : Int) + (j : Int))) / 2) = (((i + j) / 2 : Nat) : Int) := by
  have e : wrap64 ((i : Int) + (j : Int)) = ((i + j : Nat) : Int) := by unfold wrap64; omega
  rw [e]
  have e2 : IntKind.u64.wrap ((i + j : Nat) : Int) = ((i + j : Nat) : Int) := by
    rw [show IntKind.u64.wrap ((i + j : Nat) : Int) = ((i + j : Nat) : Int) % 18446744073709551616 by simp [IntKind.wrap, IntKind.bits, IntKind.signed]]; omega
  rw [e2]; unfold wrap64; omega
theorem alloc_size (w : World) (o : Obj) : (w.alloc o).heap.size = w.heap.size + 1 := Array.size_push ..
theorem getD_eq (S : List (Int × Int)) (k : Nat) (h : k < S.length) : S.getD k (0, 0) = S[k] := by simp [List.getD, h]
set_option maxRecDepth 100000 in
set_option maxHeartbeats 1000000 in
theorem search (P2 P3 B : Nat) (q : Option Addr) (len cap : Nat) (S : List (Int × Int)) (x y : Int) (w : World) (h : Clo w P2 P3 B q len cap S x y) (hS : Rising S) (hb : len * 16 ≤ 211106232532992) :
    Calls Tryz.prog 70 #[.int .i64 (len : Int), .func (.func 71) #[] #[.pointer (some ⟨P2, 0, none⟩), .pointer (some ⟨P3, 0, none⟩)]] w fun o w' => o = .returned (.int .i64 ((ahead S (x, y) : Nat) : Int)) ∧ Below w.heap.size w w' := by
  obtain ⟨hl, hr, hs⟩ := h.s.nums
  have HH : Hid (Clo w P2 P3 B q len cap S x y ∧ Rising S) := ⟨h, hS⟩
  clear h hS
  go_enter Tryz.func70, Tryz.ntmps70
  go_wp2_with fail
  go_loopw [5, 6, 7] (fun a b _ wr => ∃ (i j : Nat), a = .int .i64 (i : Int) ∧ b = .int .i64 (j : Int) ∧ i ≤ j ∧ j ≤ len ∧ Hid ((∀ k (_ : k < S.length), k < i → tc S[k] (x, y) < 0) ∧ (∀ k (_ : k < S.length), j ≤ k → ¬ tc S[k] (x, y) < 0) ∧ Below w.heap.size w wr)) (fun a b _ _ => (intOf b).toNat - (intOf a).toNat)
  case atStart => exact ⟨0, len, rfl, rfl, Nat.zero_le _, Nat.le_refl _, fun _ _ q => absurd q (by omega), fun _ _ q => absurd q (by omega), Below.refl _ _⟩
  case round =>
    obtain ⟨i, j, rfl, rfl, hij, hj, H⟩ := hrel
    by_cases hlt : i < j
    · have i1 : (i : Int) < (j : Int) := by omega
      obtain ⟨m, hm0⟩ : ∃ m, m = (i + j) / 2 := ⟨_, rfl⟩
      have hm := mid_eq i j (by omega)
      rw [← hm0] at hm
      have m1 : wrap64 ((m : Int) + 1) = ((m + 1 : Nat) : Int) := by unfold wrap64; omega
      have hmt : (m : Int).toNat = m := by omega
      have hmt1 : ((m + 1 : Nat) : Int).toNat = m + 1 := by omega
      have hml : m < len := by omega
      go_wp2_with fail
      rw [show ((i : Int) + (j : Int)) / 2 = (m : Int) by omega]
      refine (closure P2 P3 B q len cap S x y m _ ?_ hml).mono ?_
      · exact (HH.out.1.by (H.out.2.2))
      rintro e w2 ⟨rfl, B2⟩
      have HB : Hid (Below w.heap.size w w2) := H.out.2.2.trans (B2.mono H.out.2.2.size)
      clear B2
      by_cases hd : 0 ≤ tc (S.getD m (0, 0)) (x, y)
      · have hd' : decide (0 ≤ tc (S.getD m (0, 0)) (x, y)) = true := by simpa using hd
        rw [hd']
        go_wp2_with fail
        refine ⟨?_, ?_⟩
        · refine ⟨i, m, rfl, congrArg (Value.int .i64) (by omega), by omega, by omega, H.out.1, ?_, HB.out⟩
          intro k hk hmk
          rw [getD_eq S m (by omega)] at hd
          rcases Nat.lt_or_eq_of_le hmk with g | rfl
          · intro hc
            have := rising_get S HH.out.2 m k (by omega) hk g
            have := tc_trans _ _ _ this hc
            omega
          · omega
        · simp only [intOf]; omega
      · have hd' : decide (0 ≤ tc (S.getD m (0, 0)) (x, y)) = false := by simpa using hd
        rw [hd']
        go_wp2_with fail
        refine ⟨?_, ?_⟩
        · refine ⟨m + 1, j, congrArg (Value.int .i64) (by omega), rfl, by omega, by omega, ?_, fun k hk hh => by have := H.out.2.1 k hk hh; omega, HB.out⟩
          intro k hk hmk
          rw [getD_eq S m (by omega)] at hd
          rcases Nat.lt_or_eq_of_le (Nat.le_of_lt_succ hmk) with g | rfl
          · exact tc_trans _ _ _ (rising_get S HH.out.2 k m hk (by omega) g) (by omega)
          · omega
        · simp only [intOf]; omega
    · have i1 : ¬ (i : Int) < (j : Int) := by omega
      go_wp2_with fail
      go_ret
      obtain rfl : i = j := by omega
      refine ⟨?_, H.out.2.2⟩
      rw [ahead_unique S (x, y) HH.out.2 i (by omega) H.out.1 (fun k hk hh => by have := H.out.2.1 k hk hh; omega)]
      rfl
set_option maxRecDepth 100000 in
set_option maxHeartbeats 1000000 in
/-- place: how many of the set's tags lie under a tag. -/
theorem place (B : Nat) (q : Option Addr) (len cap : Nat) (S : List (Int × Int)) (x y : Int) (w : World) (h : SV w B 105 q len cap S) (hS : Rising S) (hb : len * 16 ≤ 211106232532992) :
    Calls Tryz.prog 59 #[.pointer (some ⟨B, 0, none⟩), .agg #[.int .i64 x, .int .i64 y]] w fun o w' => o = .returned (.int .i64 ((ahead S (x, y) : Nat) : Int)) ∧ Below w.heap.size w w' := by
  have sc := h.cell
  have ls := h.lt
  obtain ⟨hl, hr, hs⟩ := h.nums
  have HH : Hid (SV w B 105 q len cap S ∧ Rising S) := ⟨h, hS⟩
  clear h hS
  go_enter Tryz.func59, Tryz.ntmps59
  go_wp2_with fail
  have B1 : Below w.heap.size w ((w.alloc (Obj.cells #[.pointer (some ⟨B, 0, none⟩)] 58)).alloc (Obj.cells #[.int .i64 x, .int .i64 y] 31)) :=
    ((Below.refl w.heap.size w).alloc (Nat.le_refl _) _).alloc (by rw [alloc_size]; omega) _
  refine (search w.heap.size (w.heap.size + 1) B q len cap S x y _ ⟨?_, ?_, HH.out.1.by B1⟩ HH.out.2 hb).mono ?_
  · exact (Below.heap_alloc _ _ _ (by rw [alloc_size]; omega)).trans (heap_alloc_new w _)
  · have := TagAt.new (w.alloc (Obj.cells #[.pointer (some ⟨B, 0, none⟩)] 58)) x y
    rw [alloc_size] at this
    exact this
  rintro e w2 ⟨rfl, B2⟩
  have BH : Hid (Below w.heap.size w w2) := B1.trans (B2.mono B1.size)
  clear B1 B2
  go_wp2_with fail
  go_ret
  exact ⟨rfl, BH.out⟩
set_option maxRecDepth 100000 in
set_option maxHeartbeats 1000000 in
/-- at: whether the tag stands at a place. -/
theorem sAt (B : Nat) (q : Option Addr) (len cap : Nat) (S : List (Int × Int)) (x y : Int) (k : Nat) (w : World) (h : SV w B 105 q len cap S) (hk : k ≤ len) (hb : len * 16 ≤ 211106232532992) :
    Calls Tryz.prog 60 #[.pointer (some ⟨B, 0, none⟩), .int .i64 (k : Int), .agg #[.int .i64 x, .int .i64 y]] w fun o w' => o = .returned (.bool (decide (S[k]? = some (x, y)))) ∧ Below w.heap.size w w' := by
  have sc := h.cell
  have ls := h.lt
  obtain ⟨hl, hr, hs⟩ := h.nums
  have B1 : Below w.heap.size w (w.alloc (Obj.cells #[.int .i64 x, .int .i64 y] 31)) := (Below.refl w.heap.size w).alloc (Nat.le_refl _) _
  have BH : Hid (∀ n, Below w.heap.size w ((w.alloc (Obj.cells #[.int .i64 x, .int .i64 y] 31)).drewN n)) := fun n => below_dN B1 n
  by_cases hlt : k < len
  · obtain ⟨b, off, rfl, hc⟩ := h.r.cells (by omega)
    obtain ⟨e0, e1⟩ := hc k hlt
    obtain ⟨⟨u, v⟩, huv⟩ : ∃ t, S.getD k (0, 0) = t := ⟨_, rfl⟩
    rw [huv] at e0 e1
    have lb : b < w.heap.size := World.block_lt_of_cell? w _ e0
    have hg : S[k]? = some (u, v) := by rw [List.getElem?_eq_getElem (by omega), ← getD_eq S k (by omega), huv]
    rw [hg]
    have i1 : (k : Int) < (len : Int) := by omega
    clear hc h huv B1 hg
    by_cases h1 : u = x
    · by_cases h2 : v = y
      · subst h1 h2
        have fin : Hid (decide ((some (u, v) : Option (Int × Int)) = some (u, v)) = true) := decide_eq_true rfl
        go_enter Tryz.func60, Tryz.ntmps60
        go_wp2_with fail
        go_quiet (fail)
        go_wp2_with fail
        go_ret
        exact ⟨by rw [fin.out]; rfl, BH.out _⟩
      · subst h1
        have fin : Hid (decide ((some (u, v) : Option (Int × Int)) = some (u, y)) = false) := decide_eq_false (by simpa using h2)
        go_enter Tryz.func60, Tryz.ntmps60
        go_wp2_with fail
        go_quiet (fail)
        go_wp2_with fail
        go_ret
        exact ⟨by rw [fin.out]; rfl, BH.out _⟩
    · have fin : Hid (decide ((some (u, v) : Option (Int × Int)) = some (x, y)) = false) := decide_eq_false (by intro e; apply h1; simp at e; exact e.1)
      go_enter Tryz.func60, Tryz.ntmps60
      go_wp2_with fail
      go_quiet (fail)
      go_wp2_with fail
      go_ret
      exact ⟨by rw [fin.out]; rfl, BH.out _⟩
  · obtain rfl : k = len := by omega
    have hg : S[k]? = none := by rw [List.getElem?_eq_none]; omega
    have fin : Hid (decide (S[k]? = some (x, y)) = false) := decide_eq_false (by rw [hg]; simp)
    clear h B1 hg
    go_enter Tryz.func60, Tryz.ntmps60
    go_wp2_with fail
    go_quiet (fail)
    go_wp2_with fail
    go_ret
    exact ⟨by rw [fin.out]; rfl, BH.out _⟩
end Go.Proofs.YtojepeefphbekabGreat

namespace Go.Proofs.YtojepeefphbekabGreat
open Go.RowKit

theorem fit_perm {R S : List (Int × Int)} (h : Fit R) (p : R.Perm S) : Fit S := fun t ht => h t (p.symm.subset ht)
theorem fit_drop {S : List (Int × Int)} (h : Fit S) (k : Nat) : Fit (S.drop k) := fun t ht => h t (List.mem_of_mem_drop ht)
/-- All that is the set's lies from N on. -/
def From (N : Nat) (q : Option Addr) : Prop := ∀ k, blockOf q = some k → N ≤ k
theorem Moved.below {N : Nat} {w0 w w' : World} {C : Nat} {q q' : Option Addr} (B : Below N w0 w) (h : Moved w w' C q q') (hN : N ≤ w.heap.size) (hC : N ≤ C) (hq : From N q) : Below N w0 w' ∧ From N q' := by
  refine ⟨⟨h.kept.os.trans B.os, h.kept.tape.trans B.tape, h.kept.output.trans B.output, Nat.le_trans B.size h.kept.size, fun k hk => ?_⟩, fun k hk => ?_⟩
  · refine (h.kept.block k (by omega) (fun e => ?_)).trans (B.block k hk)
    rcases e with rfl | e
    · omega
    · have := hq k e; omega
  · rcases h.near k hk with e | e
    · exact hq k e
    · omega
/-- The document's list of some tags. -/
def addR (R : List (Int × Int)) (t : Int × Int) : List (Int × Int) := if t ∈ R then R else R ++ [t]
def newR (l : List (Int × Int)) : List (Int × Int) := l.foldl addR []
theorem newR_take (l : List (Int × Int)) (i : Nat) (h : i < l.length) : newR (l.take (i + 1)) = addR (newR (l.take i)) (l.getD i (0, 0)) := by
  rw [List.take_succ_eq_append_getElem h, getD_at l i h]
  unfold newR
  rw [List.foldl_append]
  rfl
theorem addR_length (R : List (Int × Int)) (t : Int × Int) : (addR R t).length ≤ R.length + 1 := by
  unfold addR
  split <;> simp
theorem newR_length (l : List (Int × Int)) (i : Nat) : (newR (l.take i)).length ≤ i := by
  induction i with
  | zero => simp [newR]
  | succ i ih =>
    by_cases h : i < l.length
    · rw [newR_take l i h]
      have := addR_length (newR (l.take i)) (l.getD i (0, 0))
      omega
    · rw [List.take_of_length_le (by omega)]
      rw [List.take_of_length_le (by omega)] at ih
      omega
/-- What the document's NewSet answers. -/
def NewR (w : World) (l : List (Int × Int)) (o : Ending) (w' : World) : Prop := ((∀ t ∈ l, isProper t.1 t.2 = true) ∧ ∃ q m c, o = .returned (.tuple #[.pointer (some ⟨w.heap.size, 0, none⟩), .int .i64 0]) ∧ IsSet 25 w' w.heap.size q m c (newR l) ∧ From w.heap.size q ∧ Below w.heap.size w w') ∨ ((∃ t ∈ l, isProper t.1 t.2 = false) ∧ o = .returned (.tuple #[.pointer none, .int .i64 41]) ∧ Below w.heap.size w w')
end Go.Proofs.YtojepeefphbekabGreat
