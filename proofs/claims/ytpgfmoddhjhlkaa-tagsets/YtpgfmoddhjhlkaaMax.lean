import Derived.Test.YtpgfmoddhjhlkaaCalls
import Derived.Deep.DeepCutAuto
namespace Go.Proofs.Ytpgfmoddhjhlkaa
open Go.RowKit

/-- The slice reads as these tags. -/
structure TReads (w : World) (a : Option Addr) (len cap : Nat) (l : List (Int × Int)) : Prop where
  length : l.length = len
  room : len ≤ cap
  small : cap ≤ maxLen
  fit : ∀ t ∈ l, (-9223372036854775808 ≤ t.1 ∧ t.1 < 9223372036854775808) ∧ (-9223372036854775808 ≤ t.2 ∧ t.2 < 9223372036854775808)
  cells : 0 < len → ∃ b off, a = some ⟨b, off, none⟩ ∧ ∀ i, i < len → w.cell? ⟨b, off + i * 2, none⟩ = some (.int .i64 (l.getD i (0, 0)).1) ∧ w.cell? ⟨b, off + i * 2 + 1, none⟩ = some (.int .i64 (l.getD i (0, 0)).2)
/-- The greatest. -/
def maxFrom (m : Int × Int) : List (Int × Int) → Int × Int
  | [] => m
  | t :: r => maxFrom (if 0 < tcmp t.1 t.2 m.1 m.2 then t else m) r
def maxT : List (Int × Int) → Int × Int
  | [] => (0, 0)
  | t :: r => maxFrom t r
theorem maxFrom_snoc (r : List (Int × Int)) : ∀ (m x : Int × Int), maxFrom m (r ++ [x]) = if 0 < tcmp x.1 x.2 (maxFrom m r).1 (maxFrom m r).2 then x else maxFrom m r := by
  induction r with
  | nil => intro m x; rfl
  | cons t r ih => intro m x; exact ih _ x
theorem maxT_take (l : List (Int × Int)) (i : Nat) (h1 : 1 ≤ i) (hi : i < l.length) : maxT (l.take (i + 1)) = if 0 < tcmp (l.getD i (0, 0)).1 (l.getD i (0, 0)).2 (maxT (l.take i)).1 (maxT (l.take i)).2 then l.getD i (0, 0) else maxT (l.take i) := by
  rw [List.take_succ_eq_append_getElem hi]
  have e : l.getD i (0, 0) = l[i] := by rw [List.getD_eq_getElem?_getD, List.getElem?_eq_getElem hi]; rfl
  rw [e]
  cases l with
  | nil => simp at hi
  | cons t r =>
    obtain ⟨j, rfl⟩ : ∃ j, i = j + 1 := ⟨i - 1, by omega⟩
    rw [List.take_succ_cons, List.cons_append]
    exact maxFrom_snoc _ _ _
set_option maxRecDepth 100000 in
set_option maxHeartbeats 1000000 in
theorem maxFunc (a : Option Addr) (len cap : Nat) (l : List (Int × Int)) (w : World) (r : TReads w a len cap l) (h0 : 0 < len) :
    Calls Try.prog 28 #[.slice a len cap, .func (.func 9) #[] #[]] w fun x w' => x = .returned (.agg #[.int .i64 (maxT l).1, .int .i64 (maxT l).2]) ∧ Below w.heap.size w w' := by
  obtain ⟨b, off, rfl, hc⟩ := r.cells h0
  have hl := r.length
  have hr := r.room
  have hs := r.small
  unfold maxLen at hs
  have CH : Hid (∀ i, i < len → w.cell? ⟨b, off + i * 2, none⟩ = some (.int .i64 (l.getD i (0, 0)).1) ∧ w.cell? ⟨b, off + i * 2 + 1, none⟩ = some (.int .i64 (l.getD i (0, 0)).2)) := hc
  obtain ⟨c0, c1⟩ := hc 0 h0
  have lb := World.block_lt_of_cell? w _ c0
  simp only [Nat.zero_mul, Nat.add_zero] at c0 c1
  simp only [] at lb
  have m1 : maxT (l.take 1) = l.getD 0 (0, 0) := by
    cases l with
    | nil => simp at hl; omega
    | cons t q => rfl
  obtain ⟨t0, ht0⟩ : ∃ t, l.getD 0 (0, 0) = t := ⟨_, rfl⟩
  rw [ht0] at c0 c1 m1
  have M1 : Hid (maxT (l.take 1) = t0) := m1
  clear hc r m1 ht0
  have S0 : Below w.heap.size w ((w.alloc (Obj.cells #[.int .i64 0, .int .i64 0] 24)).alloc (Obj.cells #[.int .i64 t0.1, .int .i64 t0.2] 24)) ∧ TagAt ((w.alloc (Obj.cells #[.int .i64 0, .int .i64 0] 24)).alloc (Obj.cells #[.int .i64 t0.1, .int .i64 t0.2] 24)) w.heap.size 0 0 ∧ TagAt ((w.alloc (Obj.cells #[.int .i64 0, .int .i64 0] 24)).alloc (Obj.cells #[.int .i64 t0.1, .int .i64 t0.2] 24)) (w.heap.size + 1) t0.1 t0.2 :=
    ⟨((Below.refl _ _).alloc (Nat.le_refl _) _).alloc (by simp) _, (TagAt.new w 0 0).alloc _, by simpa using TagAt.new (w.alloc (Obj.cells #[.int .i64 0, .int .i64 0] 24)) t0.1 t0.2⟩
  have S0' : Hid (_ ∧ _ ∧ _) := S0
  clear S0
  go_enter Try.func28, Try.ntmps28
  go_wp2_with fail
  clear c0 c1
  go_loopw [6] (fun x wr => ∃ (i : Nat) (m : Int × Int), x = .int .i64 (i : Int) ∧ 1 ≤ i ∧ i ≤ len ∧ Hid (maxT (l.take i) = m ∧ Below w.heap.size w wr ∧ TagAt wr w.heap.size 0 0 ∧ TagAt wr (w.heap.size + 1) m.1 m.2)) (fun x _ => len - (intOf x).toNat)
  case atStart => exact ⟨1, t0, rfl, by omega, by omega, M1.out, S0'.out⟩
  case round =>
    clear S0' M1
    obtain ⟨i, ⟨m1, m2⟩, rfl, hi1, hi, S⟩ := hrel
    obtain ⟨z0, z1, fz0, fz1⟩ := S.out.2.2.1.facts
    obtain ⟨g0, g1, fg0, fg1⟩ := S.out.2.2.2.facts
    simp only [] at g0 g1
    have lm := S.out.2.2.2.lt
    by_cases hlt : i < len
    · obtain ⟨e0, e1⟩ := CH.out i hlt
      obtain ⟨⟨x, y⟩, hxy⟩ : ∃ t, l.getD i (0, 0) = t := ⟨_, rfl⟩
      rw [hxy] at e0 e1
      have d0 : wr.cell? ⟨b, off + i * 2, none⟩ = some (.int .i64 x) := (S.out.2.1.cell lb).trans e0
      have d1 : wr.cell? ⟨b, off + i * 2 + 1, none⟩ = some (.int .i64 y) := (S.out.2.1.cell lb).trans e1
      have MX : Hid (maxT (l.take (i + 1)) = if 0 < tcmp x y m1 m2 then (x, y) else (m1, m2)) := by
        have q := maxT_take l i hi1 (by omega)
        rw [hxy, S.out.1] at q
        exact q
      have E : Hid (w.cell? ⟨b, off + i * 2, none⟩ = some (.int .i64 x) ∧ w.cell? ⟨b, off + i * 2 + 1, none⟩ = some (.int .i64 y)) := ⟨e0, e1⟩
      clear e0 e1 hxy
      have lr : b < wr.heap.size := by have := S.out.2.1.size; omega
      have i1 : (i : Int) < (len : Int) := by omega
      have KP : Hid (∀ w2, Below wr.drew.heap.size wr.drew w2 → w2.cell? ⟨b, off + i * 2, none⟩ = some (.int .i64 x) ∧ w2.cell? ⟨b, off + i * 2 + 1, none⟩ = some (.int .i64 y) ∧ w2.cell? ⟨w.heap.size + 1, 0, none⟩ = some (.int .i64 m1) ∧ w2.cell? ⟨w.heap.size + 1, 1, none⟩ = some (.int .i64 m2)) :=
        fun w2 B2 => ⟨(B2.cell lr).trans d0, (B2.cell lr).trans d1, (B2.cell lm).trans g0, (B2.cell lm).trans g1⟩
      have SB : Hid (∀ w2, Below wr.drew.heap.size wr.drew w2 → Below w.heap.size w w2 ∧ TagAt w2 w.heap.size 0 0 ∧ TagAt w2 (w.heap.size + 1) m1 m2) :=
        fun w2 B2 => ⟨S.out.2.1.drew.trans (B2.mono S.out.2.1.size), S.out.2.2.1.drew.by B2, S.out.2.2.2.drew.by B2⟩
      go_upto_region 7 with fail
      go_cut [27] (fun s wc => s = .bool (decide (0 < tcmp x y m1 m2)) ∧ Hid (Below w.heap.size w wc ∧ TagAt wc w.heap.size 0 0 ∧ TagAt wc (w.heap.size + 1) m1 m2))
      case first =>
        go_region_held3 (fun w' => w'.cell? ⟨b, off + i * 2, none⟩ = some (.int .i64 x) ∧ w'.cell? ⟨b, off + i * 2 + 1, none⟩ = some (.int .i64 y) ∧ w'.cell? ⟨w.heap.size + 1, 0, none⟩ = some (.int .i64 m1) ∧ w'.cell? ⟨w.heap.size + 1, 1, none⟩ = some (.int .i64 m2)) (go_keep)
          (first | (go_at_call 9; refine (compare x y m1 m2 _).mono ?_; rintro e w2 ⟨rfl, B2⟩; obtain ⟨q0, q1, q2, q3⟩ := KP.out w2 B2; have SS := SB.out w2 B2; have SH : Hid (_ ∧ _ ∧ _) := SS; clear SS B2) | fail)
        go_wp2_with fail
        go_meet
        case rel => exact ⟨by simp, SH.out⟩
      case rest =>
      clear KP SB S z0 z1 fz0 fz1 g0 g1 fg0 fg1 lm d0 d1 lr
      obtain ⟨rfl, S⟩ := hcut
      obtain ⟨g0, g1, fg0, fg1⟩ := S.out.2.2.facts
      have d0 : wc.cell? ⟨b, off + i * 2, none⟩ = some (.int .i64 x) := (S.out.1.cell lb).trans E.out.1
      have d1 : wc.cell? ⟨b, off + i * 2 + 1, none⟩ = some (.int .i64 y) := (S.out.1.cell lb).trans E.out.2
      by_cases ht : 0 < tcmp x y m1 m2
      · have MY := MX.out
        rw [if_pos ht] at MY
        have MY' : Hid (maxT (l.take (i + 1)) = (x, y)) := MY
        clear MY MX
        go_wp2_with fail
        go_roundw
        case rel =>
          refine ⟨i + 1, (x, y), by go_num, by omega, by omega, MY'.out, (S.out.1.setCell (by simp) _).setCell (by simp) _, (S.out.2.1.other _ (by omega)).other _ (by omega), (S.out.2.2.set0 x).set1 y⟩
        case measure => simp [intOf]; omega
      · have MY := MX.out
        rw [if_neg ht] at MY
        have MY' : Hid (maxT (l.take (i + 1)) = (m1, m2)) := MY
        clear MY MX
        go_wp2_with fail
        go_roundw
        case rel => exact ⟨i + 1, (m1, m2), by go_num, by omega, by omega, MY'.out, S.out⟩
        case measure => simp [intOf]; omega
    · have hn : len = i := by omega
      subst hn
      have fin := S.out.1
      rw [List.take_of_length_le (by omega)] at fin
      clear hlt hi
      go_wp2_with fail
      (try simp only [Exit.inBlock, Exit.then])
      refine bodyPost_ret (results_tag rfl _ _ _ m1 m2 rfl ((S.out.2.2.1.set0 m1).set1 m2)) rfl ⟨rfl, (S.out.2.1.setCell (by simp) _).setCell (by simp) _⟩
theorem max_none (w : World) : Calls Try.prog 10 #[.slice none 0 0] w fun x w' => x = .returned (.agg #[.int .i64 0, .int .i64 0]) ∧ Below w.heap.size w w' := by
  go_enter Try.func10, Try.ntmps10
  go_wp2_with fail
  (try simp only [Exit.inBlock, Exit.then])
  refine bodyPost_ret (results_tag rfl _ _ w.heap.size 0 0 rfl ?_) rfl ⟨rfl, ?_⟩
  · exact TagAt.new w 0 0
  · exact (Below.refl _ _).alloc (Nat.le_refl _) _
theorem max_some (a : Option Addr) (len cap : Nat) (l : List (Int × Int)) (w : World) (r : TReads w a len cap l) (h0 : 0 < len) :
    Calls Try.prog 10 #[.slice a len cap] w fun x w' => x = .returned (.agg #[.int .i64 (maxT l).1, .int .i64 (maxT l).2]) ∧ Below w.heap.size w w' := by
  have r1 : TReads (w.alloc (Obj.cells #[.int .i64 0, .int .i64 0] 24)) a len cap l := ⟨r.length, r.room, r.small, r.fit, fun h => by
    obtain ⟨b, off, e, hc⟩ := r.cells h
    refine ⟨b, off, e, fun i hi => ?_⟩
    obtain ⟨q0, q1⟩ := hc i hi
    have lb : b < w.heap.size := World.block_lt_of_cell? w _ q0
    have B : Below w.heap.size w (w.alloc (Obj.cells #[.int .i64 0, .int .i64 0] 24)) := (Below.refl _ _).alloc (Nat.le_refl _) _
    exact ⟨(B.cell lb).trans q0, (B.cell lb).trans q1⟩⟩
  have R1 : Hid (TReads _ _ _ _ _) := r1
  have T1 : TagAt (w.alloc (Obj.cells #[.int .i64 0, .int .i64 0] 24)) w.heap.size 0 0 := TagAt.new w 0 0
  have T1' : Hid (TagAt _ _ _ _) := T1
  have hs := r.small
  have hr := r.room
  unfold maxLen at hs
  clear r1 T1 r
  go_enter Try.func10, Try.ntmps10
  go_wp2_with fail
  refine (maxFunc a len cap l _ R1.out h0).mono ?_
  rintro x w1 ⟨rfl, B1⟩
  have T2 : Hid (TagAt w1 w.heap.size 0 0) := T1'.out.by B1
  have B2 : Below w.heap.size w w1 := ((Below.refl _ _).alloc (Nat.le_refl _) _).trans (B1.mono (by simp))
  have B2' : Hid (Below _ _ _) := B2
  obtain ⟨g0, g1, fg0, fg1⟩ := T2.out.facts
  clear B1 B2
  go_wp2_with fail
  (try simp only [Exit.inBlock, Exit.then])
  refine bodyPost_ret (results_tag rfl _ _ _ _ _ rfl ((T2.out.set0 _).set1 _)) rfl ⟨rfl, (B2'.out.setCell (by simp) _).setCell (by simp) _⟩
end Go.Proofs.Ytpgfmoddhjhlkaa
