import Derived.Test.YtodmakcklacbfaaPSmallJ
import Derived.Test.YtodmakcklacbfaaPByJ
import Derived.BigQuiet
import Derived.Test.YtodmakcklacbfaaVOwnJ
import Derived.Test.YtodmakcklacbfaaVTopM
namespace Go.Proofs.Ytodmakcklacbfaa
open Go.RowKit 

set_option maxRecDepth 100000 in
theorem dRead (m : Cm) (w : World) : Calls Try.prog 52 #[m.agg] w fun o w' => o = .returned (.bool (!m.put && decide (0 ≤ m.to) && decide (m.st = 0))) ∧ Kept (fun _ => False) w w' := by
  obtain ⟨cl, op, pu, ke, va, vn, vc, st, fr, too, on, tx, ty, vl⟩ := m
  unfold Cm.agg
  dsimp only
  obtain ⟨b2, h2⟩ : ∃ b, (st == 0) = b := ⟨_, rfl⟩
  have e2 : decide (st = 0) = b2 := h2
  rw [e2]
  clear e2
  go_enter Try.func52, Try.ntmps52
  cases pu
  · by_cases h1 : 0 ≤ too
    · have h1' : decide (0 ≤ too) = true := decide_eq_true h1
      go_wp2_with fail
      go_ret
      exact ⟨by simp [h1], (Kept.refl _ _).alloc _⟩
    · have h1' : decide (0 ≤ too) = false := decide_eq_false h1
      go_wp2_with fail
      go_ret
      exact ⟨by simp, (Kept.refl _ _).alloc _⟩
  · go_wp2_with fail
    go_ret
    exact ⟨by simp, (Kept.refl _ _).alloc _⟩
set_option maxRecDepth 100000 in
theorem dAbsent (m : Cm) (w : World) : Calls Try.prog 51 #[m.agg] w fun o w' => o = .returned (.bool (!m.put && decide (0 ≤ m.to) && decide (m.st = 76))) ∧ Kept (fun _ => False) w w' := by
  obtain ⟨cl, op, pu, ke, va, vn, vc, st, fr, too, on, tx, ty, vl⟩ := m
  unfold Cm.agg
  dsimp only
  obtain ⟨b2, h2⟩ : ∃ b, (st == 76) = b := ⟨_, rfl⟩
  have e2 : decide (st = 76) = b2 := h2
  rw [e2]
  clear e2
  go_enter Try.func51, Try.ntmps51
  cases pu
  · by_cases h1 : 0 ≤ too
    · have h1' : decide (0 ≤ too) = true := decide_eq_true h1
      go_wp2_with fail
      go_ret
      exact ⟨by simp [h1], (Kept.refl _ _).alloc _⟩
    · have h1' : decide (0 ≤ too) = false := decide_eq_false h1
      go_wp2_with fail
      go_ret
      exact ⟨by simp, (Kept.refl _ _).alloc _⟩
  · go_wp2_with fail
    go_ret
    exact ⟨by simp, (Kept.refl _ _).alloc _⟩
theorem must_of (m : Cm) : m.cl.must = ((m.put && !m.opn) || (!m.put && decide (0 ≤ m.to) && decide (m.st = 0)) || (!m.put && decide (0 ≤ m.to) && decide (m.st = 76))) := by
  unfold Cl.must Cl.part Cl.open_ Cm.cl
  dsimp only
  cases m.put <;> cases m.opn <;> cases decide (0 ≤ m.to) <;> cases decide (m.st = 0) <;> cases decide (m.st = 76) <;> rfl
set_option maxRecDepth 100000 in
theorem dDue (m : Cm) (w : World) : Calls Try.prog 78 #[m.agg] w fun o w' => o = .returned (.bool m.cl.must) ∧ Kept (fun _ => False) w w' := by
  obtain ⟨v, hv⟩ : ∃ v, v = m.cl.must := ⟨_, rfl⟩
  rw [← hv]
  obtain ⟨pu, hpu⟩ : ∃ pu, m.put = pu := ⟨_, rfl⟩
  obtain ⟨op, hop⟩ : ∃ op, m.opn = op := ⟨_, rfl⟩
  obtain ⟨rb, hrb⟩ : ∃ rb, rb = (!m.put && decide (0 ≤ m.to) && decide (m.st = 0)) := ⟨_, rfl⟩
  obtain ⟨ab, hab⟩ : ∃ ab, ab = (!m.put && decide (0 ≤ m.to) && decide (m.st = 76)) := ⟨_, rfl⟩
  have RR : Hid (∀ V, Calls Try.prog 52 #[m.agg] V fun o w' => o = .returned (.bool rb) ∧ Kept (fun _ => False) V w') := fun V => by rw [hrb]; exact dRead m V
  have RA : Hid (∀ V, Calls Try.prog 51 #[m.agg] V fun o w' => o = .returned (.bool ab) ∧ Kept (fun _ => False) V w') := fun V => by rw [hab]; exact dAbsent m V
  have HV : Hid (v = ((pu && !op) || rb || ab)) := by
    show v = ((pu && !op) || rb || ab)
    rw [hv, must_of, ← hrb, ← hab, hpu, hop]
  have HP : Hid (m.put = pu ∧ m.opn = op) := ⟨hpu, hop⟩
  clear hv hpu hrb hab hop
  unfold Cm.agg at RR RA ⊢
  rw [HP.out.1, HP.out.2] at RR RA ⊢
  go_enter Try.func78, Try.ntmps78
  cases pu
  · go_wp2_with fail
    refine (RR.out _).mono ?_
    rintro o w1 ⟨rfl, K1⟩
    have b1 : w1.heap[w.heap.size]? = some (.cells #[.int .i64 m.client, .int .i64 m.op, .bool false, .string m.key, .slice m.va m.vn m.vc, .int .i64 m.st, .int .i64 m.frm, .int .i64 m.to, .bool op, .int .i64 m.tx, .int .i64 m.ty] 38 (0, 0)) := K1.get (alloc_new _ _) (fun z => z)
    have K2 : Hid (Kept (fun _ => False) w w1) := ((Kept.refl _ _).alloc _).trans K1 (fun _ _ z => z)
    cases rb
    · have d0 := cell_blk b1 0 (v := .int .i64 m.client) rfl
      have d1 := cell_blk b1 1 (v := .int .i64 m.op) rfl
      have d2 := cell_blk b1 2 (v := .bool false) rfl
      have d3 := cell_blk b1 3 (v := .string m.key) rfl
      have d4 := cell_blk b1 4 (v := .slice m.va m.vn m.vc) rfl
      have d5 := cell_blk b1 5 (v := .int .i64 m.st) rfl
      have d6 := cell_blk b1 6 (v := .int .i64 m.frm) rfl
      have d7 := cell_blk b1 7 (v := .int .i64 m.to) rfl
      have d8 := cell_blk b1 8 (v := .bool op) rfl
      have d9 := cell_blk b1 9 (v := .int .i64 m.tx) rfl
      have d10 := cell_blk b1 10 (v := .int .i64 m.ty) rfl
      clear b1 K1 RR
      go_wp2_with fail
      refine (RA.out _).mono ?_
      rintro o w2 ⟨rfl, K3⟩
      have K4 : Hid (Kept (fun _ => False) w w2) := K2.out.trans K3 (fun _ _ z => z)
      clear K3
      go_wp2_with fail
      go_ret
      exact ⟨by rw [HV.out]; first | rfl | simp, K4.out⟩
    · clear b1 K1 RR
      go_wp2_with fail
      go_ret
      exact ⟨by rw [HV.out]; first | rfl | simp, K2.out⟩
  · cases op
    · go_wp2_with fail
      go_ret
      exact ⟨by rw [HV.out]; first | rfl | simp, (Kept.refl _ _).alloc _⟩
    · go_wp2_with fail
      refine (RR.out _).mono ?_
      rintro o w1 ⟨rfl, K1⟩
      have b1 : w1.heap[w.heap.size]? = some (.cells #[.int .i64 m.client, .int .i64 m.op, .bool true, .string m.key, .slice m.va m.vn m.vc, .int .i64 m.st, .int .i64 m.frm, .int .i64 m.to, .bool true, .int .i64 m.tx, .int .i64 m.ty] 38 (0, 0)) := K1.get (alloc_new _ _) (fun z => z)
      have K2 : Hid (Kept (fun _ => False) w w1) := ((Kept.refl _ _).alloc _).trans K1 (fun _ _ z => z)
      cases rb
      · have d0 := cell_blk b1 0 (v := .int .i64 m.client) rfl
        have d1 := cell_blk b1 1 (v := .int .i64 m.op) rfl
        have d2 := cell_blk b1 2 (v := .bool true) rfl
        have d3 := cell_blk b1 3 (v := .string m.key) rfl
        have d4 := cell_blk b1 4 (v := .slice m.va m.vn m.vc) rfl
        have d5 := cell_blk b1 5 (v := .int .i64 m.st) rfl
        have d6 := cell_blk b1 6 (v := .int .i64 m.frm) rfl
        have d7 := cell_blk b1 7 (v := .int .i64 m.to) rfl
        have d8 := cell_blk b1 8 (v := .bool true) rfl
        have d9 := cell_blk b1 9 (v := .int .i64 m.tx) rfl
        have d10 := cell_blk b1 10 (v := .int .i64 m.ty) rfl
        clear b1 K1 RR
        go_wp2_with fail
        refine (RA.out _).mono ?_
        rintro o w2 ⟨rfl, K3⟩
        have K4 : Hid (Kept (fun _ => False) w w2) := K2.out.trans K3 (fun _ _ z => z)
        clear K3
        go_wp2_with fail
        go_ret
        exact ⟨by rw [HV.out]; first | rfl | simp, K4.out⟩
      · clear b1 K1 RR
        go_wp2_with fail
        go_ret
        exact ⟨by rw [HV.out]; first | rfl | simp, K2.out⟩
end Go.Proofs.Ytodmakcklacbfaa

namespace Go.Proofs.Ytodmakcklacbfaa
open Go.RowKit 

def propB (a b : Int) : Bool := decide (1 ≤ a) && decide (a ≤ 4611686018427387903) && decide (1 ≤ b) && decide (b ≤ 65535)
theorem dProp (a b : Int) (w : World) : Calls Try.prog 82 #[.agg #[.int .i64 a, .int .i64 b]] w fun o w' => o = .returned (.bool (propB a b)) ∧ Kept (fun _ => False) w w' := by
  have K : Hid (Kept (fun _ => False) w (w.alloc (Obj.cells #[.int .i64 a, .int .i64 b] 35))) := (Kept.refl _ _).alloc _
  unfold propB
  obtain ⟨t1, e1⟩ : ∃ t, decide (1 ≤ a) = t := ⟨_, rfl⟩
  obtain ⟨t2, e2⟩ : ∃ t, decide (a ≤ 4611686018427387903) = t := ⟨_, rfl⟩
  obtain ⟨t3, e3⟩ : ∃ t, decide (1 ≤ b) = t := ⟨_, rfl⟩
  obtain ⟨t4, e4⟩ : ∃ t, decide (b ≤ 65535) = t := ⟨_, rfl⟩
  rw [e1, e2, e3, e4]
  go_enter Try.func82, Try.ntmps82
  cases t1
  · go_wp2_with fail
    go_ret
    exact ⟨rfl, K.out⟩
  · cases t2
    · go_wp2_with fail
      go_ret
      exact ⟨rfl, K.out⟩
    · cases t3
      · go_wp2_with fail
        go_ret
        exact ⟨rfl, K.out⟩
      · cases t4
        · go_wp2_with fail
          go_ret
          exact ⟨by first | rfl | simp, K.out⟩
        · go_wp2_with fail
          go_ret
          exact ⟨by first | rfl | simp, K.out⟩
theorem dProper (a b : Int) (w : World) : Calls Try.prog 54 #[.agg #[.int .i64 a, .int .i64 b]] w fun o w' => o = .returned (.bool (propB a b)) ∧ Kept (fun _ => False) w w' := by
  have K : Hid (Kept (fun _ => False) w (w.alloc (Obj.cells #[.int .i64 a, .int .i64 b] 35))) := (Kept.refl _ _).alloc _
  have C : Hid (∀ V, Calls Try.prog 82 #[.agg #[.int .i64 a, .int .i64 b]] V fun o w' => o = .returned (.bool (propB a b)) ∧ Kept (fun _ => False) V w') := fun V => dProp a b V
  obtain ⟨t, ht⟩ : ∃ t, propB a b = t := ⟨_, rfl⟩
  rw [ht] at C ⊢
  clear ht
  go_enter Try.func54, Try.ntmps54
  go_wp2_with fail
  refine (C.out _).mono ?_
  rintro o w1 ⟨rfl, K1⟩
  have KE := K.out.trans K1 (fun _ _ z => z)
  clear K1
  go_wp2_with fail
  go_ret
  exact ⟨rfl, KE⟩
/-- What a comparison of two tags says. -/
structure CmpR (a b c d r : Int) : Prop where
  lt : r < 0 ↔ (a < c ∨ (a = c ∧ b < d))
  eq : r = 0 ↔ (a = c ∧ b = d)
theorem dCompare (a b c d : Int) (w : World) : Calls Try.prog 56 #[.agg #[.int .i64 a, .int .i64 b], .agg #[.int .i64 c, .int .i64 d]] w (RetC fun r w' => CmpR a b c d r ∧ Kept (fun _ => False) w w') := by
  have K : Hid (Kept (fun _ => False) w ((w.alloc (Obj.cells #[.int .i64 a, .int .i64 b] 35)).alloc (Obj.cells #[.int .i64 c, .int .i64 d] 35))) := ((Kept.refl _ _).alloc _).alloc _
  by_cases h1 : a < c
  · go_enter Try.func56, Try.ntmps56
    go_wp2_with fail
    go_ret
    exact RetC.mk (-1) rfl ⟨⟨by omega, by omega⟩, K.out⟩
  · by_cases h2 : a = c
    · subst h2
      by_cases h3 : b < d
      · go_enter Try.func56, Try.ntmps56
        go_wp2_with fail
        go_ret
        exact RetC.mk (-1) rfl ⟨⟨by omega, by omega⟩, K.out⟩
      · by_cases h4 : b = d
        · subst h4
          go_enter Try.func56, Try.ntmps56
          go_wp2_with fail
          go_ret
          exact RetC.mk (0) rfl ⟨⟨by omega, by omega⟩, K.out⟩
        · have h5 : (b == d) = false := by simp [h4]
          go_enter Try.func56, Try.ntmps56
          go_wp2_with fail
          go_ret
          exact RetC.mk (1) rfl ⟨⟨by omega, by omega⟩, K.out⟩
    · have h4 : (a == c) = false := by simp [h2]
      go_enter Try.func56, Try.ntmps56
      go_wp2_with fail
      go_ret
      exact RetC.mk (1) rfl ⟨⟨by omega, by omega⟩, K.out⟩
set_option maxRecDepth 100000 in
theorem dAhead {w : World} {p0 : Option Addr} {n c0 : Nat} {ms : List Cm} (cr : CRd w p0 n c0 ms) {i j : Nat} {a b : Cm} (ha : ms[i]? = some a) (hb : ms[j]? = some b) : Calls Try.prog 83 #[.slice p0 n c0, .int .i64 (i : Int), .int .i64 (j : Int)] w fun o w' => o = .returned (.bool (decide (a.frm < b.frm ∨ (a.frm = b.frm ∧ i < j)))) ∧ Kept (fun _ => False) w w' := by
  have il : i < n := by rw [← cr.len]; exact (List.getElem?_eq_some_iff.1 ha).1
  have jl : j < n := by rw [← cr.len]; exact (List.getElem?_eq_some_iff.1 hb).1
  have rm := cr.room
  have sm := cr.small
  unfold maxLen at sm
  obtain ⟨b8, off8, m, rfl, hm, _, _, _, _, _, _, y6, _⟩ := cr.at il
  obtain ⟨b9, off9, m9, e9, hm9, _, _, _, _, _, _, z6, _⟩ := cr.at jl
  have e9 : b8 = b9 ∧ off8 = off9 := by simpa using e9
  obtain ⟨rfl, rfl⟩ := e9
  rw [ha] at hm
  have em := Option.some.inj hm
  subst em
  rw [hb] at hm9
  have em := Option.some.inj hm9
  subst em
  have i1 : (i : Int) < (n : Int) := by omega
  have j1 : (j : Int) < (n : Int) := by omega
  obtain ⟨fa, hfa⟩ : ∃ fa, a.frm = fa := ⟨_, rfl⟩
  obtain ⟨fb, hfb⟩ : ∃ fb, b.frm = fb := ⟨_, rfl⟩
  rw [hfa] at y6 ⊢
  rw [hfb] at z6 ⊢
  clear cr ha hb hm hm9 hfa hfb
  go_enter Try.func83, Try.ntmps83
  by_cases h1 : fa < fb
  · have t1 : decide (fa < fb) = true := decide_eq_true h1
    go_upto_region 1 with fail
    go_quiet (fail)
    go_wp2_with fail
    go_ret
    exact ⟨by first | rfl | simp, (Kept.refl _ _).drewN _⟩
  · have t1 : decide (fa < fb) = false := decide_eq_false h1
    by_cases h2 : fa = fb
    · subst h2
      by_cases h3 : i < j
      · have t3 : decide ((i : Int) < (j : Int)) = true := decide_eq_true (by omega)
        go_upto_region 1 with fail
        go_quiet (fail)
        go_wp2_with fail
        go_ret
        exact ⟨by first | rfl | simp, (Kept.refl _ _).drewN _⟩
      · have t3 : decide ((i : Int) < (j : Int)) = false := decide_eq_false (by omega)
        go_upto_region 1 with fail
        go_quiet (fail)
        go_wp2_with fail
        go_ret
        exact ⟨by first | rfl | simp, (Kept.refl _ _).drewN _⟩
    · have t2 : (fa == fb) = false := by simp [h2]
      go_upto_region 1 with fail
      go_quiet (fail)
      go_wp2_with fail
      go_ret
      exact ⟨by first | rfl | simp, (Kept.refl _ _).drewN _⟩
end Go.Proofs.Ytodmakcklacbfaa

namespace Go.Proofs.Ytodmakcklacbfaa
open Go.RowKit 

theorem reads_two {W : World} {b : Nat} {x y : Nat} (h : W.heap[b]? = some (.cells #[.int .u8 (x : Int), .int .u8 (y : Int)] 5 (0, 0))) (hx : x < 256) (hy : y < 256) : Reads W (some ⟨b, 0, none⟩) 2 2 [x, y] := by
  refine ⟨rfl, Nat.le_refl _, by unfold maxLen; omega, fun c hc => ?_, fun _ => ⟨b, 0, rfl, fun i hi => ?_⟩⟩
  · rcases List.mem_cons.1 hc with rfl | hc
    · exact hx
    · have : c = y := by simpa using hc
      omega
  · rw [Nat.zero_add]
    refine cell_blk h i ?_
    obtain rfl | rfl : i = 0 ∨ i = 1 := by omega
    · rfl
    · rfl
set_option maxRecDepth 100000 in
theorem lWide {w : World} {a : Option Addr} {n c : Nat} {l : List Nat} (r : Reads w a n c l) (hn : n + 8 ≤ 140737488355328) : Calls Try.prog 48 #[.slice a n c] w (RetW (fun p c' w' => Reads w' p (n + 2) c' (l ++ [193, 194]) ∧ Kept (fun _ => False) w w' ∧ ∀ ad, p = some ad → ∃ C fr, w'.heap[ad.block]? = some (.cells C 5 fr)) n) := by
  have H : Hid (Reads w a n c l) := r
  clear r
  go_enter Try.func48, Try.ntmps48
  go_upto_region 3 with
    (first
      | (at_builtin; refine wpList_append_bytes _ rfl (.tmp 4) (.tmp 5) rfl w.heap.size (.slice none 0 0) 0 [] rfl (own_none5 _ _) _ n l rfl H.out.src (by omega) (Nat.le_refl _) ?_; intro p9 c9 w9 ho hg hn9)
      | fail)
  have O : Hid (w9.ownsRow w.heap.size 5 1 (.slice p9 n c9) n (cellsOf l) ∧ Kept (fun _ => False) w w9) := by
    have := ho.out
    rw [Nat.zero_add, List.nil_append] at this
    exact ⟨this, (Kept.refl (fun _ => False) w).grown hg.out (fun k _ z => by cases z)⟩
  clear ho hg hn9
  obtain ⟨W, hW⟩ : ∃ W, W = w9.alloc (.cells #[.int .u8 193, .int .u8 194] 5) := ⟨_, rfl⟩
  obtain ⟨B, hB⟩ : ∃ B, B = w9.heap.size := ⟨_, rfl⟩
  have S : Hid (W.ownsRow w.heap.size 5 1 (.slice p9 n c9) n (cellsOf l) ∧ Kept (fun _ => False) w W ∧ Reads W (some ⟨B, 0, none⟩) 2 2 [193, 194]) := by
    have K : Kept (fun _ => False) w9 W := by rw [hW]; exact (Kept.refl _ _).alloc _
    refine ⟨K.owns O.out.1 (fun _ _ z => z), O.out.2.trans K (fun _ _ z => z), ?_⟩
    rw [hW, hB]
    exact reads_two (alloc_new _ _) (by omega) (by omega)
  have E : Hid (W = w9.alloc (.cells #[.int .u8 193, .int .u8 194] 5) ∧ B = w9.heap.size) := ⟨hW, hB⟩
  clear hW hB O
  go_upto_region 4 with
    (first
      | (at_builtin; rw [← E.out.1, ← E.out.2]; refine wpList_append_bytes _ rfl (.tmp 7) (.tmp 8) rfl w.heap.size (.slice p9 n c9) n l rfl S.out.1 _ 2 [193, 194] rfl S.out.2.2.src (by omega) S.out.2.1.size ?_; intro p7 c7 w7 ho hg hn9)
      | fail)
  have G : Hid (w7.ownsRow w.heap.size 5 1 (.slice p7 (n + 2) c7) (n + 2) (cellsOf (l ++ [193, 194])) ∧ Kept (fun _ => False) w w7) := by
    refine ⟨ho.out, ?_⟩
    exact Kept.own S.out.2.1 ((Kept.refl (fun j => blockOf p9 = some j) W).grown hg.out (fun j _ z => by rw [blockOf_own] at z; exact z)) (fun j z => by have := (own_lt S.out.1 j z).1; omega)
  clear ho hg hn9 S E
  have rm := own_room G.out.1
  have rm1 := rm.1
  have rm2 := rm.2
  unfold maxLen at rm2
  have n1 : (n : Int) ≤ (c7 : Int) := by omega
  have F : Hid (Reads w7 p7 (n + 2) c7 (l ++ [193, 194]) ∧ Kept (fun _ => False) w w7 ∧ ∀ ad, p7 = some ad → ∃ C fr, w7.heap[ad.block]? = some (.cells C 5 fr)) := by
    obtain ⟨a', cap', e', rd, _⟩ := owns_reads G.out.1 (fun c hc => by
      rcases List.mem_append.1 hc with z | z
      · exact H.out.bytes c z
      · rcases List.mem_cons.1 z with rfl | z
        · omega
        · have : c = 194 := by simpa using z
          omega)
    simp at e'
    rw [← e'.1, ← e'.2] at rd
    refine ⟨rd, G.out.2, fun ad had => ?_⟩
    obtain ⟨cs, hc⟩ := own_type G.out.1 ad.block (by rw [had]; rfl)
    exact ⟨cs, _, hc⟩
  obtain ⟨g7, hg7⟩ : ∃ g, p7 = some ⟨g, 0, none⟩ := by
    rcases G.out.1.2 with ⟨_, e1⟩ | ⟨g, cap, cur, e0, _⟩
    · omega
    · simp at e0
      exact ⟨g, e0.1⟩
  subst hg7
  clear G rm
  go_wp2_with fail
  go_ret
  exact RetW.mk (some ⟨g7, 0, none⟩) c7 (by first | rfl | simp) F.out
end Go.Proofs.Ytodmakcklacbfaa

namespace Go.Proofs.Ytodmakcklacbfaa
open Go.RowKit Go.Shelf Go.Lib Go.Sort

theorem src_mark (W : World) (b : Nat) (x : Int) (h : W.heap[b]? = some (.cells #[.int .i64 x] 3 (0, 0))) : Src Try.prog 1 22 (.slice (some ⟨b, 0, none⟩) 1 1) 1 (intsI [x]) W := (ird_one h).srcI
theorem ints_got {w W w7 : World} {p9 p7 : Option Addr} {k c9 c7 : Nat} {R : List Int} (hl : R.length = k) (o9 : W.ownsRow w.heap.size 3 1 (.slice p9 k c9) k (intsI R)) (K : Kept (fun _ => False) w W) (ho : w7.ownsRow w.heap.size 3 1 (.slice p7 (k + 1) c7) (k + 1) (intsI R ++ intsI [-77])) (hg : W.grownBy w7 (Value.slice p9 k c9).ownBlock) : ∃ g, p7 = some ⟨g, 0, none⟩ ∧ (k : Int) ≤ (c7 : Int) ∧ c7 ≤ 2 ^ 63 - 1 ∧ Hid (IRd w7 (some ⟨g, 0, none⟩) (k + 1) c7 (R ++ [-77]) ∧ Kept (fun _ => False) w w7) := by
  have o7 : w7.ownsRow w.heap.size 3 1 (.slice p7 (k + 1) c7) (k + 1) (intsI (R ++ [-77])) := by
    have e : intsI (R ++ [-77]) = intsI R ++ intsI [-77] := by unfold intsI; rw [List.map_append]
    rw [e]
    exact ho
  have K7 : Kept (fun _ => False) w w7 := Kept.own K ((Kept.refl (fun j => blockOf p9 = some j) W).grown hg (fun j _ z => by rw [blockOf_own] at z; exact z)) (fun j z => by have := (own_lt o9 j z).1; omega)
  have rm1 := (own_room o7).1
  have rm2 := (own_room o7).2
  unfold maxLen at rm2
  rcases o7.2 with ⟨_, e1⟩ | ⟨g, cap, cur, e0, _⟩
  · omega
  · simp at e0
    obtain ⟨rfl, _⟩ := e0
    exact ⟨g, rfl, by omega, rm2, own_irdI (by rw [List.length_append, hl]; rfl) o7, K7⟩
set_option maxRecDepth 100000 in
theorem lInts {w : World} {q : Option Addr} {k kc : Nat} {R : List Int} (r : IRd w q k kc R) (hk : k ≤ 17592186044416) : Calls Try.prog 17 #[.slice q k kc] w (RetW (fun p c' w' => IRd w' p (k + 1) c' (R ++ [-77]) ∧ Kept (fun _ => False) w w') k) := by
  have H : Hid (IRd w q k kc R) := r
  clear r
  have BL : Hid ((0 + k ≤ maxLen ∧ ((0 + k) + (0 + k) / 4 + 192) * 8 ≤ 281474976710656) ∧ (k + 1 ≤ maxLen ∧ ((k + 1) + (k + 1) / 4 + 192) * 8 ≤ 281474976710656)) := by
    unfold maxLen
    exact ⟨⟨by omega, by omega⟩, by omega, by omega⟩
  go_enter Try.func17, Try.ntmps17
  go_upto_region 3 with
    (first
      | (at_builtin; refine wpList_append_all _ rfl (.tmp 4) (.tmp 5) 22 3 22 _ 1 8 rfl Try.underlying22 Try.info3c rfl w.heap.size (.slice none 0 0) 0 (intsI []) rfl (own_none3 _ _) _ k (intsI R) rfl H.out.srcI BL.out.1.1 BL.out.1.2 (Nat.le_refl _) ?_; intro p9 c9 w9 ho hg hn9)
      | fail)
  have O : Hid (w9.ownsRow w.heap.size 3 1 (.slice p9 k c9) k (intsI R) ∧ Kept (fun _ => False) w w9) := by
    have := ho.out
    rw [Nat.zero_add] at this
    exact ⟨this, (Kept.refl (fun _ => False) w).grown hg.out (fun k _ z => by cases z)⟩
  clear ho hg hn9
  obtain ⟨W, hW⟩ : ∃ W, W = w9.alloc (.cells #[.int .i64 (-77)] 3) := ⟨_, rfl⟩
  obtain ⟨B, hB⟩ : ∃ B, B = w9.heap.size := ⟨_, rfl⟩
  have S : Hid (W.ownsRow w.heap.size 3 1 (.slice p9 k c9) k (intsI R) ∧ Kept (fun _ => False) w W ∧ Src Try.prog 1 22 (.slice (some ⟨B, 0, none⟩) 1 1) 1 (intsI [-77]) W) := by
    have K : Kept (fun _ => False) w9 W := by rw [hW]; exact (Kept.refl _ _).alloc _
    refine ⟨K.owns O.out.1 (fun _ _ z => z), O.out.2.trans K (fun _ _ z => z), ?_⟩
    rw [hW, hB]
    exact src_mark _ _ _ (alloc_new _ _)
  have E : Hid (W = w9.alloc (.cells #[.int .i64 (-77)] 3) ∧ B = w9.heap.size) := ⟨hW, hB⟩
  clear hW hB O
  go_wp2_with
    (first
      | (at_builtin; rw [← E.out.1, ← E.out.2]; refine wpList_append_all _ rfl (.tmp 7) (.tmp 8) 22 3 22 _ 1 8 rfl Try.underlying22 Try.info3c rfl w.heap.size (.slice p9 k c9) k (intsI R) rfl S.out.1 _ 1 (intsI [-77]) rfl S.out.2.2 BL.out.2.1 BL.out.2.2 S.out.2.1.size ?_; intro p7 c7 w7 ho hg hn9; obtain ⟨g7, hg7, n1, n2, F⟩ := ints_got H.out.len S.out.1 S.out.2.1 ho.out hg.out; subst hg7; clear ho hg hn9 S E)
      | fail)
  go_ret
  exact RetW.mk (some ⟨g7, 0, none⟩) c7 (by first | rfl | simp) F.out
end Go.Proofs.Ytodmakcklacbfaa
