import Derived.Test.YtpgfmoddhjhlkaaMax
import Derived.Laws.AppendOwn
import Derived.Deep.DeepAppendWide
import Derived.OwnWalk
namespace Go.Proofs.Ytpgfmoddhjhlkaa
open Go.RowKit

/-- Three halves of 2^47 bytes: what grows for them stays under 2^48. -/
theorem wide16 {n : Nat} (h : n * 16 ≤ 211106232532992) : (n + n / 4 + 192) * 16 ≤ 281474976710656 := by omega
def tcells (l : List (Int × Int)) : List Value := l.flatMap fun t => [.int .i64 t.1, .int .i64 t.2]
theorem tcells_append (l m : List (Int × Int)) : tcells (l ++ m) = tcells l ++ tcells m := by simp [tcells]
theorem tcells_length (l : List (Int × Int)) : (tcells l).length = l.length * 2 := by
  induction l with
  | nil => rfl
  | cons t r ih => simp only [tcells, List.flatMap_cons, List.length_append, List.length_cons, List.length_nil] at ih ⊢; omega
theorem tcells_one (l : List (Int × Int)) : ∀ u ∈ tcells l, u.oneCell' = true := fun u hu => by
  obtain ⟨t, _, h⟩ := List.mem_flatMap.1 hu
  simp at h
  rcases h with rfl | rfl <;> rfl
theorem tcells_get (l : List (Int × Int)) : ∀ i, i < l.length → (tcells l)[i * 2]? = some (.int .i64 (l.getD i (0, 0)).1) ∧ (tcells l)[i * 2 + 1]? = some (.int .i64 (l.getD i (0, 0)).2) := by
  induction l with
  | nil => intro i h; simp at h
  | cons t r ih =>
    intro i h
    have e : tcells (t :: r) = .int .i64 t.1 :: .int .i64 t.2 :: tcells r := rfl
    rw [e]
    cases i with
    | zero => exact ⟨rfl, rfl⟩
    | succ i =>
      obtain ⟨h1, h2⟩ := ih i (by simpa using h)
      have e1 : (i + 1) * 2 = i * 2 + 1 + 1 := by omega
      rw [e1]
      exact ⟨h1, h2⟩
/-- All numbers are of their kind. -/
def Fit (l : List (Int × Int)) : Prop := ∀ t ∈ l, (-9223372036854775808 ≤ t.1 ∧ t.1 < 9223372036854775808) ∧ (-9223372036854775808 ≤ t.2 ∧ t.2 < 9223372036854775808)
theorem owns_treads {w : World} {base k : Nat} {v : Value} {l : List (Int × Int)} (h : w.ownsRow base 24 2 v k (tcells l)) (hf : Fit l) :
    ∃ a cap, v = .slice a k cap ∧ TReads w a k cap l ∧ ∀ p, a = some p → base ≤ p.block := by
  have hl : l.length = k := by have := h.1; rw [tcells_length] at this; omega
  rcases h.2 with ⟨rfl, rfl⟩ | ⟨g, cap, cur, rfl, hb, hg, hk, hm, hs, ht⟩
  · exact ⟨none, 0, rfl, ⟨hl, Nat.le_refl _, by unfold maxLen; omega, hf, fun h0 => absurd h0 (by omega)⟩, fun _ q => by cases q⟩
  · refine ⟨_, cap, rfl, ⟨hl, hk, hm, hf, fun _ => ⟨g, 0, rfl, fun i hi => ?_⟩⟩, fun p q => by cases q; exact hb⟩
    obtain ⟨e0, e1⟩ := tcells_get l i (by omega)
    rw [← ht, List.getElem?_take_of_lt (by omega)] at e0 e1
    refine ⟨?_, ?_⟩
    · rw [cell_of_row w g _ cur 24 (0, 0) hg, Nat.zero_add]
      simpa using e0
    · rw [cell_of_row w g _ cur 24 (0, 0) hg, Nat.zero_add]
      simpa using e1
theorem TReads.by {w w' : World} {a : Option Addr} {len cap : Nat} {l : List (Int × Int)} (r : TReads w a len cap l) (B : Below w.heap.size w w') : TReads w' a len cap l := ⟨r.length, r.room, r.small, r.fit, fun h => by
  obtain ⟨b, off, e, hc⟩ := r.cells h
  refine ⟨b, off, e, fun i hi => ?_⟩
  obtain ⟨q0, q1⟩ := hc i hi
  have lb : b < w.heap.size := World.block_lt_of_cell? w _ q0
  exact ⟨(B.cell lb).trans q0, (B.cell lb).trans q1⟩⟩
theorem Try.info24b : (Try.prog.info? 24).map (fun i => (i.zero, i.size, i.bytes)) = some (some (.agg #[.int .i64 0, .int .i64 0]), 2, 16) := by kernel_rfl
/-- append of one tag, at the operation. -/
theorem wpList_append_tag {ops : Array Oper} {rest : List Oper} {o : Oper} {a : Act} {Q : Exit → Act → World → Prop} (w : World) (hgd : o.guard = none) (s x : Operand)
    (ho : o.op = .call { callee := .builtin .append, args := #[s, x], argTypes := #[22, 22] })
    (base : Nat) (v : Value) (n : Nat) (l : List (Int × Int)) (hs : a.eval s = v) (hown : w.ownsRow base 24 2 v n (tcells l))
    (b : Nat) (t : Int × Int) (hx : a.eval x = .slice (some ⟨b, 0, none⟩) 1 1) (h0 : w.cell? ⟨b, 0, none⟩ = some (.int .i64 t.1)) (h1 : w.cell? ⟨b, 1, none⟩ = some (.int .i64 t.2))
    (hbytes : (n + 1) * 16 ≤ 211106232532992) (hbase : base ≤ w.heap.size)
    (h : ∀ g c w', Hid (w'.ownsRow base 24 2 (.slice (some ⟨g, 0, none⟩) (n + 1) c) (n + 1) (tcells (l ++ [t]))) → Hid (w.grownBy w' v.ownBlock) → Hid (base ≤ g ∧ n + 1 ≤ c ∧ c ≤ maxLen) → wpList Try.prog ops Q rest (a.put o.dst (.slice (some ⟨g, 0, none⟩) (n + 1) c)) w') : wpList Try.prog ops Q (o :: rest) a w := by
  obtain ⟨i, hi, hz, hsize, hby⟩ := info_parts Try.info24b
  have add0 : ∀ j, (⟨b, 0, none⟩ : Addr).add j = ⟨b, j, none⟩ := fun j => by unfold Addr.add; split <;> simp_all
  refine wpList_append_own_wide w hgd s x 22 ho base 24 i (.agg #[.int .i64 0, .int .i64 0]) 2 16 Try.underlying22 hi hz hsize hby rfl (by omega) v n (tcells l) hs hown ⟨b, 0, none⟩ 1 1 (tcells [t]) hx rfl (fun j u hj => ?_) (tcells_one _) (by unfold maxLen; omega) (wide16 hbytes) hbase (fun v' w' h2 h3 _ => ?_)
  · rw [add0]
    have : tcells [t] = [.int .i64 t.1, .int .i64 t.2] := rfl
    rw [this] at hj
    match j, hj with
    | 0, hj => simp at hj; subst hj; exact h0
    | 1, hj => simp at hj; subst hj; exact h1
    | j + 2, hj => simp at hj
  · rw [← tcells_append] at h2
    obtain ⟨g, c, rfl, hh⟩ : ∃ g c, v' = .slice (some ⟨g, 0, none⟩) (n + 1) c ∧ base ≤ g ∧ n + 1 ≤ c ∧ c ≤ maxLen := by
      rcases h2.2 with ⟨rfl, e⟩ | ⟨g, cap, cur, rfl, hb, _, hc, hm, _⟩
      · omega
      · exact ⟨_, _, rfl, hb, hc, hm⟩
    exact h g c w' h2 h3 hh
theorem Below.grew {w wr w' : World} {v : Value} {n : Nat} {xs : List Value} (B : Below w.heap.size w wr) (o : wr.ownsRow w.heap.size 24 2 v n xs) (g : wr.grownBy w' v.ownBlock) : Below w.heap.size w w' :=
  B.grown g B.size (fun k e => (o.lt k e).1)
set_option maxRecDepth 100000 in
set_option maxHeartbeats 1000000 in
theorem tags (a : Option Addr) (len cap : Nat) (l : List (Int × Int)) (w : World) (r : TReads w a len cap l) (hb : (len + 1) * 16 ≤ 211106232532992) :
    Calls Try.prog 17 #[.slice a len cap] w fun x w' => ∃ g c, x = .returned (.slice (some ⟨g, 0, none⟩) len c) ∧ w.heap.size ≤ g ∧ w'.ownsRow w.heap.size 24 2 (.slice (some ⟨g, 0, none⟩) (len + 1) c) (len + 1) (tcells (l ++ [(-77, 0)])) ∧ Below w.heap.size w w' := by
  have hl := r.length
  have hr := r.room
  have hs := r.small
  unfold maxLen at hs
  have R : Hid (TReads w a len cap l) := r
  clear r
  go_enter Try.func17, Try.ntmps17
  go_wp2_with fail
  go_loopw [3, 4] (fun y x wr => ∃ (i : Nat) (p : Option Addr) (c : Nat), x = .int .i64 (i : Int) ∧ y = .slice p i c ∧ i ≤ len ∧ Hid (wr.ownsRow w.heap.size 24 2 (.slice p i c) i (tcells (l.take i)) ∧ Below w.heap.size w wr)) (fun _ x _ => len - (intOf x).toNat)
  case atStart => exact ⟨0, none, 0, rfl, rfl, Nat.zero_le _, World.ownsRow_nil _ _ _ _, Below.refl _ _⟩
  case round =>
    obtain ⟨i, p, c, rfl, rfl, hi, S⟩ := hrel
    by_cases hlt : i < len
    · obtain ⟨b, off, rfl, hc⟩ := R.out.cells (by omega)
      obtain ⟨e0, e1⟩ := hc i hlt
      have lb : b < w.heap.size := World.block_lt_of_cell? w _ e0
      obtain ⟨⟨x, y⟩, hxy⟩ : ∃ t, l.getD i (0, 0) = t := ⟨_, rfl⟩
      rw [hxy] at e0 e1
      have d0 : wr.cell? ⟨b, off + i * 2, none⟩ = some (.int .i64 x) := (S.out.2.cell lb).trans e0
      have d1 : wr.cell? ⟨b, off + i * 2 + 1, none⟩ = some (.int .i64 y) := (S.out.2.cell lb).trans e1
      have TK : Hid (l.take i ++ [(x, y)] = l.take (i + 1)) := by
        show l.take i ++ [(x, y)] = l.take (i + 1)
        rw [List.take_succ_eq_append_getElem (by omega)]
        congr 2
        rw [← hxy, List.getD_eq_getElem?_getD, List.getElem?_eq_getElem (by omega)]
        rfl
      have i1 : (i : Int) < (len : Int) := by omega
      have HCC : Hid (∀ i, i < len → w.cell? ⟨b, off + i * 2, none⟩ = some (.int .i64 (l.getD i (0, 0)).1) ∧ w.cell? ⟨b, off + i * 2 + 1, none⟩ = some (.int .i64 (l.getD i (0, 0)).2)) := hc
      clear e0 e1 hxy hc HCC
      go_wp2_with (first | (at_builtin; refine wpList_append_tag _ rfl (.tmp 11) (.tmp 16) rfl w.heap.size (.slice p i c) i (l.take i) rfl (S.out.1.alloc _) wr.heap.size (x, y) rfl (by simp) (by simp) (by omega) (by have := S.out.2.size; simp; omega) ?_; intro g2 c2 w2 ho hg hh) | fail)
      go_roundw
      case rel => exact ⟨i + 1, _, c2, by go_num, rfl, by omega, by rw [← TK.out]; exact ho.out, Below.grew (S.out.2.alloc S.out.2.size _) (S.out.1.alloc _) hg.out⟩
      case measure => simp [intOf]; omega
    · have he : len = i := by omega
      subst he
      have O1 : Hid (wr.ownsRow w.heap.size 24 2 (.slice p len c) len (tcells l)) := by
        have := S.out.1
        rw [List.take_of_length_le (by omega)] at this
        exact this
      have B1 : Hid (Below w.heap.size w wr) := S.out.2
      clear hlt hi S
      go_wp2_with (first | (at_builtin; refine wpList_append_tag _ rfl (.tmp 18) (.tmp 20) rfl w.heap.size (.slice p len c) len l rfl (O1.out.alloc _) wr.heap.size (-77, 0) rfl (by simp) (by simp) hb (by have := B1.out.size; simp; omega) ?_; intro g2 c2 w2 ho hg hh; have k1 := hh.out.2.1; have k2 := hh.out.2.2; unfold maxLen at k2) | fail)
      go_ret
      exact ⟨g2, c2, rfl, hh.out.1, ho.out, Below.grew (B1.out.alloc B1.out.size _) (O1.out.alloc _) hg.out⟩
theorem below_drewN (w : World) (k : Nat) : Below w.heap.size w (w.drewN k) := ⟨rfl, rfl, rfl, Nat.le_refl _, fun _ _ => rfl⟩
theorem getD_at (l : List (Int × Int)) (i : Nat) (h : i < l.length) : l.getD i (0, 0) = l[i] := by
  rw [List.getD_eq_getElem?_getD, List.getElem?_eq_getElem h]; rfl
theorem take_next (l m : List (Int × Int)) (i : Nat) (h1 : i < l.length) (h2 : i < m.length) (h : l.take i = m.take i) (he : l.getD i (0, 0) = m.getD i (0, 0)) : l.take (i + 1) = m.take (i + 1) := by
  rw [List.take_succ_eq_append_getElem h1, List.take_succ_eq_append_getElem h2, h, ← getD_at l i h1, ← getD_at m i h2, he]
set_option maxRecDepth 100000 in
set_option maxHeartbeats 1000000 in
theorem same (a1 a2 : Option Addr) (len1 cap1 len2 cap2 : Nat) (l m : List (Int × Int)) (w : World) (r1 : TReads w a1 len1 cap1 l) (r2 : TReads w a2 len2 cap2 m) :
    Calls Try.prog 36 #[.slice a1 len1 cap1, .slice a2 len2 cap2] w fun x w' => x = .returned (.bool (decide (l = m))) ∧ Below w.heap.size w w' := by
  have l1 := r1.length
  have l2 := r2.length
  have k1 := r1.room
  have k2 := r2.room
  have s1 := r1.small
  have s2 := r2.small
  unfold maxLen at s1 s2
  have R1 : Hid (TReads w a1 len1 cap1 l) := r1
  have R2 : Hid (TReads w a2 len2 cap2 m) := r2
  clear r1 r2
  by_cases hl : len1 = len2
  · subst hl
    go_enter Try.func36, Try.ntmps36
    go_wp2_with fail
    go_loopw [5] (fun x wr => ∃ (i k : Nat), x = .int .i64 (i : Int) ∧ i ≤ len1 ∧ wr = w.drewN k ∧ Hid (l.take i = m.take i)) (fun x _ => len1 - (intOf x).toNat)
    case atStart => exact ⟨0, 0, rfl, Nat.zero_le _, rfl, rfl⟩
    case round =>
      obtain ⟨i, k, rfl, hi, rfl, H⟩ := hrel
      by_cases hlt : i < len1
      · obtain ⟨b1, off1, rfl, hc1⟩ := R1.out.cells (by omega)
        obtain ⟨b2, off2, rfl, hc2⟩ := R2.out.cells (by omega)
        obtain ⟨e0, e1⟩ := hc1 i hlt
        obtain ⟨g0, g1⟩ := hc2 i hlt
        obtain ⟨⟨x, y⟩, hxy⟩ : ∃ t, l.getD i (0, 0) = t := ⟨_, rfl⟩
        obtain ⟨⟨u, v⟩, huv⟩ : ∃ t, m.getD i (0, 0) = t := ⟨_, rfl⟩
        rw [hxy] at e0 e1
        rw [huv] at g0 g1
        have i1 : (i : Int) < (len1 : Int) := by omega
        have HX : Hid (l.getD i (0, 0) = (x, y)) := hxy
        have HU : Hid (m.getD i (0, 0) = (u, v)) := huv
        clear hxy huv hc1 hc2
        by_cases h1 : x = u
        · by_cases h2 : y = v
          · subst h1 h2
            have TN : Hid (l.take (i + 1) = m.take (i + 1)) := take_next l m i (by omega) (by omega) H.out (by rw [HX.out, HU.out])
            go_upto_region 6 with fail
            go_quiet (fail)
            go_wp2_with fail
            go_roundw
            case rel => exact ⟨i + 1, k + nq, by go_num, by omega, rfl, TN.out⟩
            case measure => simp [intOf]; omega
          · subst h1
            have NE : Hid (l ≠ m) := fun e => h2 (by
              have := HU.out
              rw [← e, HX.out] at this
              simpa using this)
            go_upto_region 6 with fail
            go_quiet (fail)
            go_wp2_with fail
            go_ret
            exact ⟨by rw [decide_eq_false NE.out]; rfl, below_drewN _ _⟩
        · have NE : Hid (l ≠ m) := fun e => h1 (by
            have := HU.out
            rw [← e, HX.out] at this
            simp at this
            exact this.1)
          go_upto_region 6 with fail
          go_quiet (fail)
          go_wp2_with fail
          go_ret
          exact ⟨by rw [decide_eq_false NE.out]; rfl, below_drewN _ _⟩
      · have EQ : Hid (l = m) := by
          have h := H.out
          rw [List.take_of_length_le (by omega), List.take_of_length_le (by omega)] at h
          exact h
        have i2 : ¬ (i : Int) < (len1 : Int) := by omega
        go_wp2_with fail
        go_ret
        exact ⟨by rw [decide_eq_true EQ.out]; rfl, below_drewN _ _⟩
  · have NE : Hid (l ≠ m) := fun e => hl (by rw [← l1, ← l2, e])
    have n1 : ((len1 : Int) == (len2 : Int)) = false := by simp; omega
    go_enter Try.func36, Try.ntmps36
    go_wp2_with fail
    go_ret
    exact ⟨by rw [decide_eq_false NE.out]; rfl, Below.refl _ _⟩
set_option maxRecDepth 100000 in
theorem kept (g c : Nat) (a : Option Addr) (len cap : Nat) (l : List (Int × Int)) (w : World) (r1 : TReads w (some ⟨g, 0, none⟩) (len + 1) c (l ++ [(-77, 0)])) (r2 : TReads w a len cap l) :
    Calls Try.prog 20 #[.slice (some ⟨g, 0, none⟩) len c, .slice a len cap] w fun x w' => x = .returned (.bool true) ∧ Below w.heap.size w w' := by
  have hl := r2.length
  have k1 := r1.room
  have s1 := r1.small
  have k2 := r2.room
  have s2 := r2.small
  have R0 : TReads w (some ⟨g, 0, none⟩) len c l := ⟨hl, by omega, s1, r2.fit, fun h => by
    obtain ⟨b, off, e, hc⟩ := r1.cells (by omega)
    refine ⟨b, off, e, fun i hi => ?_⟩
    have := hc i (by omega)
    have e2 : (l ++ [((-77 : Int), (0 : Int))]).getD i (0, 0) = l.getD i (0, 0) := by
      rw [List.getD_eq_getElem?_getD, List.getD_eq_getElem?_getD, List.getElem?_append_left (by omega)]
    rw [e2] at this
    exact this⟩
  obtain ⟨b, off, e, hc⟩ := r1.cells (by omega)
  simp at e
  obtain ⟨rfl, rfl⟩ := e
  obtain ⟨q0, _⟩ := hc len (by omega)
  have e3 : (l ++ [((-77 : Int), (0 : Int))]).getD len (0, 0) = (-77, 0) := by
    rw [List.getD_eq_getElem?_getD, List.getElem?_append_right (by omega)]
    simp [hl]
  rw [e3, Nat.zero_add] at q0
  have lg : g < w.heap.size := World.block_lt_of_cell? w _ q0
  have Q0 : Hid (w.cell? ⟨g, len * 2, none⟩ = some (.int .i64 (-77))) := q0
  have RR : Hid (_ ∧ _) := And.intro R0 r2
  unfold maxLen at s1 s2
  clear hc q0 R0 r1 r2 e3
  go_enter Try.func20, Try.ntmps20
  go_wp2_with fail
  refine (same _ _ _ _ _ _ l l w RR.out.1 RR.out.2).mono ?_
  rw [decide_eq_true rfl]
  rintro x w1 ⟨rfl, B1⟩
  have q1 : w1.cell? ⟨g, len * 2, none⟩ = some (.int .i64 (-77)) := (B1.cell lg).trans Q0.out
  have BH : Hid (Below w.heap.size w w1) := B1
  clear B1
  go_wp2_with fail
  go_ret
  exact ⟨by simp, BH.out⟩
end Go.Proofs.Ytpgfmoddhjhlkaa
