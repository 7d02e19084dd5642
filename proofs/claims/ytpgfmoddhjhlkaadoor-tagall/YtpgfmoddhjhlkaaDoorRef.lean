import Derived.Test.YtpgfmoddhjhlkaaDoorNext
import Derived.Test.YtpgfmoddhjhlkaaDoorMax
namespace Go.Proofs.YtpgfmoddhjhlkaaDoor
open Go.RowKit

theorem icmp_three (a b : Int) : (a < b ∧ icmp a b = -1) ∨ (a = b ∧ icmp a b = 0) ∨ (b < a ∧ icmp a b = 1) := by
  unfold icmp
  by_cases h : a < b
  · exact .inl ⟨h, by simp [h]⟩
  · by_cases h2 : b < a
    · exact .inr (.inr ⟨h2, by simp [h, h2]⟩)
    · exact .inr (.inl ⟨by omega, by simp [h, h2]⟩)
theorem tcmp_three (a b c d : Int) : ((a < c ∨ a = c ∧ b < d) ∧ tcmp a b c d = -1) ∨ (a = c ∧ b = d ∧ tcmp a b c d = 0) ∨ ((c < a ∨ a = c ∧ d < b) ∧ tcmp a b c d = 1) := by
  unfold tcmp orI
  rcases icmp_three a c with ⟨h, e⟩ | ⟨h, e⟩ | ⟨h, e⟩
  · rw [e]; exact .inl ⟨.inl h, rfl⟩
  · rw [e]
    rcases icmp_three b d with ⟨h', e'⟩ | ⟨h', e'⟩ | ⟨h', e'⟩
    · rw [e']; exact .inl ⟨.inr ⟨h, h'⟩, rfl⟩
    · rw [e']; exact .inr (.inl ⟨h, h', rfl⟩)
    · rw [e']; exact .inr (.inr ⟨.inr ⟨h, h'⟩, rfl⟩)
  · rw [e]; exact .inr (.inr ⟨.inl h, rfl⟩)

/-- Five ways in which two tags lie. -/
theorem tcmp_five (a b c d : Int) : (a < c ∧ tcmp a b c d = -1 ∧ tcmp c d a b = 1) ∨ (a = c ∧ b < d ∧ tcmp a b c d = -1 ∧ tcmp c d a b = 1) ∨ (a = c ∧ b = d ∧ tcmp a b c d = 0 ∧ tcmp c d a b = 0) ∨ (c < a ∧ tcmp a b c d = 1 ∧ tcmp c d a b = -1) ∨ (a = c ∧ d < b ∧ tcmp a b c d = 1 ∧ tcmp c d a b = -1) := by
  have h1 := tcmp_three a b c d
  have h2 := tcmp_three c d a b
  omega
theorem tcmp_self (a b : Int) : tcmp a b a b = 0 := by have := tcmp_three a b a b; omega

theorem rZero (a b : Int) (w : World) : Calls Tryd.prog 10 #[.agg #[.int .i64 a, .int .i64 b]] w fun x w' => x = .returned (.bool (isZero a b)) ∧ Below w.heap.size w w' := by
  unfold isZero
  go_enter Tryd.func10, Tryd.ntmps10
  by_cases h : a = 0
  · by_cases h2 : b = 0
    · go_wp2_with fail
      go_ret
      exact ⟨by simp [h, h2], (Below.refl _ _).alloc (Nat.le_refl _) _⟩
    · go_wp2_with fail
      go_ret
      exact ⟨by simp [h, h2], (Below.refl _ _).alloc (Nat.le_refl _) _⟩
  · go_wp2_with fail
    go_ret
    exact ⟨by simp [h], (Below.refl _ _).alloc (Nat.le_refl _) _⟩
theorem rProper (a b : Int) (w : World) : Calls Tryd.prog 27 #[.agg #[.int .i64 a, .int .i64 b]] w fun x w' => x = .returned (.bool (isProper a b)) ∧ Below w.heap.size w w' := by
  have bel := (Below.refl w.heap.size w).alloc (Nat.le_refl _) (Obj.cells #[.int .i64 a, .int .i64 b] 23)
  have BH : Hid (Below w.heap.size w (w.alloc (Obj.cells #[.int .i64 a, .int .i64 b] 23))) := bel
  clear bel
  unfold isProper
  go_enter Tryd.func27, Tryd.ntmps27
  by_cases h : 1 ≤ a
  · by_cases h2 : a ≤ 4611686018427387903
    · by_cases h3 : 1 ≤ b
      · by_cases h4 : b ≤ 65535
        · go_wp2_with fail
          go_ret
          exact ⟨by simp [h, h2, h3, h4], BH.out⟩
        · go_wp2_with fail
          go_ret
          exact ⟨by simp; omega, BH.out⟩
      · go_wp2_with fail
        go_ret
        exact ⟨by simp; omega, BH.out⟩
    · go_wp2_with fail
      go_ret
      exact ⟨by simp; omega, BH.out⟩
  · go_wp2_with fail
    go_ret
    exact ⟨by simp; omega, BH.out⟩
theorem rValid (a b : Int) (w : World) : Calls Tryd.prog 11 #[.agg #[.int .i64 a, .int .i64 b]] w fun x w' => x = .returned (.bool (isZero a b || isProper a b)) ∧ Below w.heap.size w w' := by
  have B0 : Hid (Below w.heap.size w (w.alloc (Obj.cells #[.int .i64 a, .int .i64 b] 23))) := (Below.refl w.heap.size w).alloc (Nat.le_refl _) _
  go_enter Tryd.func11, Tryd.ntmps11
  go_wp2_with fail
  refine (rZero a b _).mono ?_
  rintro x w1 ⟨rfl, B1'⟩
  have B1 : Hid (Below _ _ _) := B1'
  clear B1'
  have c0 : w1.cell? ⟨w.heap.size, 0, none⟩ = some (.int .i64 a) := (B1.out.cell (by simp)).trans (by simp)
  have c1 : w1.cell? ⟨w.heap.size, 1, none⟩ = some (.int .i64 b) := (B1.out.cell (by simp)).trans (by simp)
  have B1 : Hid (Below w.heap.size w w1) := B0.out.trans (B1.out.mono (by simp))
  cases h : isZero a b
  · go_wp2_with fail
    refine (rProper a b _).mono ?_
    rintro x w2 ⟨rfl, B2⟩
    have B2 : Hid (Below w.heap.size w w2) := B1.out.trans (B2.mono B1.out.size)
    go_wp2_with fail
    go_ret
    exact ⟨by simp [h], B2.out⟩
  · go_wp2_with fail
    go_ret
    exact ⟨by simp [h], B1.out⟩
theorem rCompare (a b c d : Int) (w : World) : Calls Tryd.prog 13 #[.agg #[.int .i64 a, .int .i64 b], .agg #[.int .i64 c, .int .i64 d]] w fun x w' => x = .returned (.int .i64 (tcmp a b c d)) ∧ Below w.heap.size w w' := by
  rcases tcmp_five a b c d with ⟨h1, h2, _⟩ | ⟨rfl, h1, h2, _⟩ | ⟨rfl, rfl, h2, _⟩ | ⟨h1, h2, _⟩ | ⟨rfl, h1, h2, _⟩
  · rw [h2]
    clear h2
    go_enter Tryd.func13, Tryd.ntmps13
    go_wp2_with fail
    go_ret
    exact ⟨rfl, ((Below.refl _ _).alloc (Nat.le_refl _) _).alloc (by simp) _⟩
  · rw [h2]
    clear h2
    go_enter Tryd.func13, Tryd.ntmps13
    go_wp2_with fail
    go_ret
    exact ⟨rfl, ((Below.refl _ _).alloc (Nat.le_refl _) _).alloc (by simp) _⟩
  · rw [h2]
    clear h2
    go_enter Tryd.func13, Tryd.ntmps13
    go_wp2_with fail
    go_ret
    exact ⟨rfl, ((Below.refl _ _).alloc (Nat.le_refl _) _).alloc (by simp) _⟩
  · rw [h2]
    clear h2
    have n1 : ¬ a = c := by omega
    have n2 : ¬ a < c := by omega
    go_enter Tryd.func13, Tryd.ntmps13
    go_wp2_with fail
    go_ret
    exact ⟨rfl, ((Below.refl _ _).alloc (Nat.le_refl _) _).alloc (by simp) _⟩
  · rw [h2]
    clear h2
    have n1 : ¬ b = d := by omega
    have n2 : ¬ b < d := by omega
    go_enter Tryd.func13, Tryd.ntmps13
    go_wp2_with fail
    go_ret
    exact ⟨rfl, ((Below.refl _ _).alloc (Nat.le_refl _) _).alloc (by simp) _⟩
set_option maxRecDepth 100000 in
set_option maxHeartbeats 1000000 in
theorem rMax_some (a : Option Addr) (len cap : Nat) (l : List (Int × Int)) (w : World) (r : TReads w a len cap l) (h0 : 0 < len) :
    Calls Tryd.prog 15 #[.slice a len cap] w fun x w' => x = .returned (.agg #[.int .i64 (maxT l).1, .int .i64 (maxT l).2]) ∧ Below w.heap.size w w' := by
  obtain ⟨b, off, rfl, hc⟩ := r.cells h0
  have hl := r.length
  have hr := r.room
  have hs := r.small
  unfold maxLen at hs
  have CH : Hid (∀ i, i < len → w.cell? ⟨b, off + i * 2, none⟩ = some (.int .i64 (l.getD i (0, 0)).1) ∧ w.cell? ⟨b, off + i * 2 + 1, none⟩ = some (.int .i64 (l.getD i (0, 0)).2)) := hc
  obtain ⟨c0, c1⟩ := hc 0 h0
  have lb := World.block_lt_of_cell? w _ c0
  simp only [Nat.zero_mul, Nat.add_zero] at c0 c1
  simp only [] at lb
  have m1 : maxT (l.take 1) = l.getD 0 (0, 0) := by
    cases l with
    | nil => simp at hl; omega
    | cons t q => rfl
  obtain ⟨t0, ht0⟩ : ∃ t, l.getD 0 (0, 0) = t := ⟨_, rfl⟩
  rw [ht0] at c0 c1 m1
  have M1 : Hid (maxT (l.take 1) = t0) := m1
  clear hc r m1 ht0
  have S0 : Below w.heap.size w ((w.alloc (Obj.cells #[.int .i64 0, .int .i64 0] 23)).alloc (Obj.cells #[.int .i64 t0.1, .int .i64 t0.2] 23)) ∧ TagAt ((w.alloc (Obj.cells #[.int .i64 0, .int .i64 0] 23)).alloc (Obj.cells #[.int .i64 t0.1, .int .i64 t0.2] 23)) w.heap.size 0 0 ∧ TagAt ((w.alloc (Obj.cells #[.int .i64 0, .int .i64 0] 23)).alloc (Obj.cells #[.int .i64 t0.1, .int .i64 t0.2] 23)) (w.heap.size + 1) t0.1 t0.2 :=
    ⟨((Below.refl _ _).alloc (Nat.le_refl _) _).alloc (by simp) _, (TagAt.new w 0 0).alloc _, by simpa using TagAt.new (w.alloc (Obj.cells #[.int .i64 0, .int .i64 0] 23)) t0.1 t0.2⟩
  have S0' : Hid (_ ∧ _ ∧ _) := S0
  clear S0
  have z0 : ((len : Int) == 0) = false := by simp; omega
  go_enter Tryd.func15, Tryd.ntmps15
  go_wp2_with fail
  clear c0 c1 z0
  go_loopw [4] (fun x wr => ∃ (i : Nat) (m : Int × Int), x = .int .i64 (i : Int) ∧ 1 ≤ i ∧ i ≤ len ∧ Hid (maxT (l.take i) = m ∧ Below w.heap.size w wr ∧ TagAt wr w.heap.size 0 0 ∧ TagAt wr (w.heap.size + 1) m.1 m.2)) (fun x _ => len - (intOf x).toNat)
  case atStart => exact ⟨1, t0, rfl, by omega, by omega, M1.out, S0'.out⟩
  case round =>
    clear S0' M1
    obtain ⟨i, ⟨m1, m2⟩, rfl, hi1, hi, S⟩ := hrel
    obtain ⟨z0, z1, fz0, fz1⟩ := S.out.2.2.1.facts
    obtain ⟨g0, g1, fg0, fg1⟩ := S.out.2.2.2.facts
    simp only [] at g0 g1
    have lm := S.out.2.2.2.lt
    by_cases hlt : i < len
    · obtain ⟨e0, e1⟩ := CH.out i hlt
      obtain ⟨⟨x, y⟩, hxy⟩ : ∃ t, l.getD i (0, 0) = t := ⟨_, rfl⟩
      rw [hxy] at e0 e1
      have d0 : wr.cell? ⟨b, off + i * 2, none⟩ = some (.int .i64 x) := (S.out.2.1.cell lb).trans e0
      have d1 : wr.cell? ⟨b, off + i * 2 + 1, none⟩ = some (.int .i64 y) := (S.out.2.1.cell lb).trans e1
      have MX : Hid (maxT (l.take (i + 1)) = if 0 < tcmp x y m1 m2 then (x, y) else (m1, m2)) := by
        have q := maxT_take l i hi1 (by omega)
        rw [hxy, S.out.1] at q
        exact q
      have E : Hid (w.cell? ⟨b, off + i * 2, none⟩ = some (.int .i64 x) ∧ w.cell? ⟨b, off + i * 2 + 1, none⟩ = some (.int .i64 y)) := ⟨e0, e1⟩
      clear e0 e1 hxy
      have lr : b < wr.heap.size := by have := S.out.2.1.size; omega
      have i1 : (i : Int) < (len : Int) := by omega
      have KP : Hid (∀ w2, Below wr.drew.heap.size wr.drew w2 → w2.cell? ⟨b, off + i * 2, none⟩ = some (.int .i64 x) ∧ w2.cell? ⟨b, off + i * 2 + 1, none⟩ = some (.int .i64 y) ∧ w2.cell? ⟨w.heap.size + 1, 0, none⟩ = some (.int .i64 m1) ∧ w2.cell? ⟨w.heap.size + 1, 1, none⟩ = some (.int .i64 m2)) :=
        fun w2 B2 => ⟨(B2.cell lr).trans d0, (B2.cell lr).trans d1, (B2.cell lm).trans g0, (B2.cell lm).trans g1⟩
      have SB : Hid (∀ w2, Below wr.drew.heap.size wr.drew w2 → Below w.heap.size w w2 ∧ TagAt w2 w.heap.size 0 0 ∧ TagAt w2 (w.heap.size + 1) m1 m2) :=
        fun w2 B2 => ⟨S.out.2.1.drew.trans (B2.mono S.out.2.1.size), S.out.2.2.1.drew.by B2, S.out.2.2.2.drew.by B2⟩
      go_upto_region 7 with fail
      go_cut [24] (fun s wc => s = .bool (decide (0 < tcmp x y m1 m2)) ∧ Hid (Below w.heap.size w wc ∧ TagAt wc w.heap.size 0 0 ∧ TagAt wc (w.heap.size + 1) m1 m2))
      case first =>
        go_region_held3 (fun w' => w'.cell? ⟨b, off + i * 2, none⟩ = some (.int .i64 x) ∧ w'.cell? ⟨b, off + i * 2 + 1, none⟩ = some (.int .i64 y) ∧ w'.cell? ⟨w.heap.size + 1, 0, none⟩ = some (.int .i64 m1) ∧ w'.cell? ⟨w.heap.size + 1, 1, none⟩ = some (.int .i64 m2)) (go_keep)
          (first | (go_at_call 13; refine (rCompare x y m1 m2 _).mono ?_; rintro e w2 ⟨rfl, B2⟩; obtain ⟨q0, q1, q2, q3⟩ := KP.out w2 B2; have SS := SB.out w2 B2; have SH : Hid (_ ∧ _ ∧ _) := SS; clear SS B2) | fail)
        go_wp2_with fail
        go_meet
        case rel => exact ⟨by simp, SH.out⟩
      case rest =>
      clear KP SB S z0 z1 fz0 fz1 g0 g1 fg0 fg1 lm d0 d1 lr
      obtain ⟨rfl, S⟩ := hcut
      obtain ⟨g0, g1, fg0, fg1⟩ := S.out.2.2.facts
      have d0 : wc.cell? ⟨b, off + i * 2, none⟩ = some (.int .i64 x) := (S.out.1.cell lb).trans E.out.1
      have d1 : wc.cell? ⟨b, off + i * 2 + 1, none⟩ = some (.int .i64 y) := (S.out.1.cell lb).trans E.out.2
      by_cases ht : 0 < tcmp x y m1 m2
      · have MY := MX.out
        rw [if_pos ht] at MY
        have MY' : Hid (maxT (l.take (i + 1)) = (x, y)) := MY
        clear MY MX
        go_wp2_with fail
        go_roundw
        case rel =>
          refine ⟨i + 1, (x, y), by go_num, by omega, by omega, MY'.out, (S.out.1.setCell (by simp) _).setCell (by simp) _, (S.out.2.1.other _ (by omega)).other _ (by omega), (S.out.2.2.set0 x).set1 y⟩
        case measure => simp [intOf]; omega
      · have MY := MX.out
        rw [if_neg ht] at MY
        have MY' : Hid (maxT (l.take (i + 1)) = (m1, m2)) := MY
        clear MY MX
        go_wp2_with fail
        go_roundw
        case rel => exact ⟨i + 1, (m1, m2), by go_num, by omega, by omega, MY'.out, S.out⟩
        case measure => simp [intOf]; omega
    · have hn : len = i := by omega
      subst hn
      have fin := S.out.1
      rw [List.take_of_length_le (by omega)] at fin
      clear hlt hi
      go_wp2_with fail
      (try simp only [Exit.inBlock, Exit.then])
      refine bodyPost_ret (results_tag rfl _ _ _ m1 m2 rfl ((S.out.2.2.1.set0 m1).set1 m2)) rfl ⟨rfl, (S.out.2.1.setCell (by simp) _).setCell (by simp) _⟩
theorem rMax_none (w : World) (a : Option Addr) (cap : Nat) : Calls Tryd.prog 15 #[.slice a 0 cap] w fun x w' => x = .returned (.agg #[.int .i64 0, .int .i64 0]) ∧ Below w.heap.size w w' := by
  go_enter Tryd.func15, Tryd.ntmps15
  go_wp2_with fail
  (try simp only [Exit.inBlock, Exit.then])
  refine bodyPost_ret (results_tag rfl _ _ w.heap.size 0 0 rfl ?_) rfl ⟨rfl, ?_⟩
  · exact TagAt.new w 0 0
  · exact (Below.refl _ _).alloc (Nat.le_refl _) _
theorem max_zero (w : World) (a : Option Addr) (cap : Nat) : Calls Tryd.prog 14 #[.slice a 0 cap] w fun x w' => x = .returned (.agg #[.int .i64 0, .int .i64 0]) ∧ Below w.heap.size w w' := by
  go_enter Tryd.func14, Tryd.ntmps14
  go_wp2_with fail
  (try simp only [Exit.inBlock, Exit.then])
  refine bodyPost_ret (results_tag rfl _ _ w.heap.size 0 0 rfl ?_) rfl ⟨rfl, ?_⟩
  · exact TagAt.new w 0 0
  · exact (Below.refl _ _).alloc (Nat.le_refl _) _
/-- The document's counter is the same. -/
theorem nextCount_ref (a b u k : Int) : nextCount a b u k = if (if k ≤ b then a + 1 else a) ≤ u then u + 1 else (if k ≤ b then a + 1 else a) := by
  have t := tcmp_three (nextFirst a u) k a b
  unfold nextCount
  have f : nextFirst a u = u + 1 ∧ a ≤ u + 1 ∨ nextFirst a u = a ∧ u + 1 < a := by
    unfold nextFirst; split
    · exact .inl ⟨rfl, by omega⟩
    · exact .inr ⟨rfl, by omega⟩
  by_cases h : k ≤ b
  · rw [if_pos h]
    by_cases h2 : tcmp (nextFirst a u) k a b ≤ 0
    · rw [if_pos h2]; split <;> omega
    · rw [if_neg h2]; split <;> omega
  · rw [if_neg h]
    by_cases h2 : tcmp (nextFirst a u) k a b ≤ 0
    · rw [if_pos h2]; split <;> omega
    · rw [if_neg h2]; split <;> omega
end Go.Proofs.YtpgfmoddhjhlkaaDoor
