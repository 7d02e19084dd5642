import Derived.Test.YtodmakcklacbfaaPSrtJ
namespace Go.Proofs.Ytodmakcklacbfaa
open Go.RowKit Go.Shelf Go.Lib Go.Sort

/-- The numbers of the calls of a kind, of the first i. -/
def numsK (P : Cm → Bool) (ms : List Cm) (i : Nat) : List Nat := (List.range i).filter fun j => match ms[j]? with | some m => P m | none => false
theorem numsK_add {P : Cm → Bool} {ms : List Cm} {i : Nat} {m : Cm} (h : ms[i]? = some m) : numsK P ms (i + 1) = if P m = true then numsK P ms i ++ [i] else numsK P ms i := by
  unfold numsK
  rw [List.range_succ, List.filter_append]
  by_cases q : P m = true
  · rw [if_pos q, List.filter_cons_of_pos (by rw [h]; exact q)]
    rfl
  · rw [if_neg q, List.filter_cons_of_neg (by rw [h]; exact q)]
    simp
theorem numsK_lt {P : Cm → Bool} {ms : List Cm} {i : Nat} : ∀ x ∈ numsK P ms i, x < i := fun _ hx => List.mem_range.1 (List.mem_filter.1 hx).1
theorem numsK_len {P : Cm → Bool} {ms : List Cm} {i : Nat} : (numsK P ms i).length ≤ i := by
  have := List.length_filter_le (fun j => match ms[j]? with | some m => P m | none => false) (List.range i)
  rw [List.length_range] at this
  exact this
/-- What a sort by a comparison does. -/
def SortsBy (w : World) (cv : Value) (n : Nat) (Lt : Nat → Nat → Prop) : Prop := ∀ (V : World) (q : Option Addr) (k c : Nat) (R : List Nat), NRow w.heap.size V q k c R → Kept (fun _ => False) w V → (∀ x ∈ R, x < n) → k ≤ 1300000000000 → Calls Try.prog 62 #[.slice q k c, cv] V fun o w' => o = .returned (.tuple #[]) ∧ ∃ R', R'.Perm R ∧ R'.Pairwise (fun x y => ¬ Lt y x) ∧ NRow w.heap.size w' q k c R' ∧ Kept (fun _ => False) w w'
structure SortQ (w : World) (ms : List Cm) (P : Cm → Bool) (Lt : Nat → Nat → Prop) (q : Option Addr) (k c : Nat) (w' : World) : Prop where
  ans : ∃ R, R.Perm (numsK P ms ms.length) ∧ R.Pairwise (fun x y => ¬ Lt y x) ∧ NRow w.heap.size w' q k c R
  kept : Kept (fun _ => False) w w'
def RetS (Q : Option Addr → Nat → Nat → World → Prop) (o : Ending) (w : World) : Prop := ∃ (q : Option Addr) (k c : Nat), o = .returned (.slice q k c) ∧ Q q k c w
theorem RetS.mk {Q : Option Addr → Nat → Nat → World → Prop} {o : Ending} {w : World} (q : Option Addr) (k c : Nat) (h : o = .returned (.slice q k c)) (hq : Q q k c w) : RetS Q o w := ⟨q, k, c, h, hq⟩
set_option maxRecDepth 100000 in
set_option maxHeartbeats 8000000 in
theorem sortedA {w : World} {p0 : Option Addr} {n c0 : Nat} {ms : List Cm} (cr : CRd w p0 n c0 ms) (hb : n ≤ 1300000000000) {cv : Value} {Lt : Nat → Nat → Prop} (so : SortsBy w cv n Lt) :
    Calls Try.prog 33 #[.slice p0 n c0, .func (.func 34) #[] #[], cv] w (RetS (SortQ w ms (fun m : Cm => !m.put && decide (0 ≤ m.to) && decide (m.st = 76)) Lt)) := by
  have rm := cr.room
  have sm := cr.small
  unfold maxLen at sm
  obtain ⟨P, hP⟩ : ∃ P : Cm → Bool, P = (fun m : Cm => !m.put && decide (0 ≤ m.to) && decide (m.st = 76)) := ⟨_, rfl⟩
  have CK : Hid (∀ (m : Cm) (V : World), Calls Try.prog 34 #[m.agg] V fun o w' => o = .returned (.bool (P m)) ∧ Kept (fun _ => False) V w') := fun m V => by rw [hP]; exact oAbsent m V
  rw [← hP]
  have H : Hid (CRd w p0 n c0 ms ∧ n ≤ 1300000000000 ∧ SortsBy w cv n Lt) := ⟨cr, hb, so⟩
  have S0 : Hid (NRow w.heap.size w none 0 0 (numsK P ms 0) ∧ Kept (fun _ => False) w w) := ⟨NRow.nil _ _, Kept.refl _ _⟩
  clear cr hb so hP
  go_enter Try.func33, Try.ntmps33
  go_wp2_with fail
  go_loopw [7, 8, 9, 12] (fun u7 _ _ u12 wr => ∃ (i k c : Nat) (p : Option Addr), u7 = .slice p k c ∧ u12 = .int .i64 (i : Int) ∧ i ≤ n ∧ Hid (NRow w.heap.size wr p k c (numsK P ms i) ∧ Kept (fun _ => False) w wr)) (fun _ _ _ u12 _ => n - (intOf u12).toNat)
  case atStart => exact ⟨0, 0, 0, none, rfl, rfl, Nat.zero_le _, S0⟩
  case round =>
    obtain ⟨i, k, c, p, rfl, rfl, hi, S⟩ := hrel
    clear S0
    obtain ⟨wo, hwo⟩ : ∃ wo, wo = wr := ⟨_, rfl⟩
    rw [← hwo] at S ⊢
    clear hwo
    by_cases hlt : i < n
    · have i1 : (i : Int) < (n : Int) := by omega
      have cr := H.out.1.k0 S.out.2
      obtain ⟨b, off, m, rfl, hm, c0', c1, c2, c3, c4, c5, c6, c7, c8, c9, c10, _⟩ := cr.at hlt
      obtain ⟨W, hW⟩ : ∃ W, W = wo.alloc (.cells #[.int .i64 m.client, .int .i64 m.op, .bool m.put, .string m.key, .slice m.va m.vn m.vc, .int .i64 m.st, .int .i64 m.frm, .int .i64 m.to, .bool m.opn, .int .i64 m.tx, .int .i64 m.ty] 38) := ⟨_, rfl⟩
      obtain ⟨B, hB⟩ : ∃ B, B = wo.heap.size := ⟨_, rfl⟩
      have J : Hid (W.heap[B]? = some (.cells m.cs 38 (0, 0)) ∧ Kept (fun _ => False) wo W ∧ ms[i]? = some m) := by
        have K : Kept (fun _ => False) wo W := by rw [hW]; exact (Kept.refl _ _).alloc _
        refine ⟨?_, K, hm⟩
        rw [hW, hB]
        exact alloc_new _ _
      have EW : Hid (W = wo.alloc (.cells #[.int .i64 m.client, .int .i64 m.op, .bool m.put, .string m.key, .slice m.va m.vn m.vc, .int .i64 m.st, .int .i64 m.frm, .int .i64 m.to, .bool m.opn, .int .i64 m.tx, .int .i64 m.ty] 38) ∧ B = wo.heap.size) := ⟨hW, hB⟩
      clear hW hB cr hm
      go_upto_region 5 with fail
      rw [← EW.out.1, ← EW.out.2]
      clear c0' c1 c2 c3 c4 c5 c6 c7 c8 c9 c10 EW
      have c0' := cell_blk J.out.1 0 (v := .int .i64 m.client) rfl
      have c1 := cell_blk J.out.1 1 (v := .int .i64 m.op) rfl
      have c2 := cell_blk J.out.1 2 (v := .bool m.put) rfl
      have c3 := cell_blk J.out.1 3 (v := .string m.key) rfl
      have c4 := cell_blk J.out.1 4 (v := .slice m.va m.vn m.vc) rfl
      have c5 := cell_blk J.out.1 5 (v := .int .i64 m.st) rfl
      have c6 := cell_blk J.out.1 6 (v := .int .i64 m.frm) rfl
      have c7 := cell_blk J.out.1 7 (v := .int .i64 m.to) rfl
      have c8 := cell_blk J.out.1 8 (v := .bool m.opn) rfl
      have c9 := cell_blk J.out.1 9 (v := .int .i64 m.tx) rfl
      have c10 := cell_blk J.out.1 10 (v := .int .i64 m.ty) rfl
      obtain ⟨pt, hpt⟩ : ∃ pt, P m = pt := ⟨_, rfl⟩
      have CP : Hid (Calls Try.prog 34 #[.agg #[.int .i64 m.client, .int .i64 m.op, .bool m.put, .string m.key, .slice m.va m.vn m.vc, .int .i64 m.st, .int .i64 m.frm, .int .i64 m.to, .bool m.opn, .int .i64 m.tx, .int .i64 m.ty]] W fun o w' => o = .returned (.bool pt) ∧ Kept (fun _ => False) W w') := by
        rw [← hpt]
        exact CK.out m W
      have HP : Hid (P m = pt) := hpt
      clear hpt
      go_wp2_with fail
      refine CP.out.mono ?_
      rintro o w2 ⟨rfl, K2⟩
      have T : Hid (NRow w.heap.size w2 p k c (numsK P ms i) ∧ Kept (fun _ => False) w w2) := ⟨(S.out.1.k0 J.out.2.1).k0 K2, (S.out.2.trans J.out.2.1 (fun _ _ z => z)).trans K2 (fun _ _ z => z)⟩
      clear K2 CP c0' c1 c2 c3 c4 c5 c6 c7 c8 c9 c10
      cases pt
      · have T2 : Hid (NRow w.heap.size w2 p k c (numsK P ms (i + 1)) ∧ Kept (fun _ => False) w w2) := by
          rw [numsK_add J.out.2.2, HP.out]
          exact T.out
        go_wp2_with fail
        go_roundw
        case rel => exact ⟨i + 1, k, c, p, rfl, by go_num, by omega, T2⟩
        case measure => simp [intOf] <;> omega
      · have BL : Hid (k + 1 ≤ maxLen ∧ ((k + 1) + (k + 1) / 4 + 192) * 8 ≤ 281474976710656) := by
          have h1 := @numsK_len P ms i
          have h3 := T.out.1.len
          have h5 := H.out.2.1
          unfold maxLen
          exact ⟨by omega, by omega⟩
        go_upto_region 7 with
          (first
            | (at_builtin; refine wpList_append_all _ rfl (.tmp 20) (.tmp 22) 22 3 22 _ 1 8 rfl Try.underlying22 Try.info3c rfl w.heap.size (.slice p k c) k (intsN (numsK P ms i)) rfl (((Kept.refl (fun _ => False) w2).alloc _).owns T.out.1.row (fun _ _ z => z)) _ 1 (intsN [i]) rfl (src_one (heap_alloc_new w2 _)) BL.out.1 BL.out.2 (Nat.le_trans T.out.2.size ((Kept.refl (fun _ => False) w2).alloc _).size) ?_; intro p9 c9' w9 ho hg hn)
            | fail)
        have T9 : Hid (NRow w.heap.size w9 p9 (k + 1) c9' (numsK P ms (i + 1)) ∧ Kept (fun _ => False) w w9) := by
          rw [numsK_add J.out.2.2, if_pos HP.out]
          exact T.out.1.more ho.out rfl hg.out T.out.2 (Nat.le_refl _)
        clear ho hg hn
        go_wp2_with fail
        go_roundw
        case rel => exact ⟨i + 1, k + 1, c9', p9, rfl, by go_num, by omega, T9⟩
        case measure => simp [intOf] <;> omega
    · have i1 : ¬ (i : Int) < (n : Int) := by omega
      have ei : i = n := by omega
      subst ei
      have CS : Hid (Calls Try.prog 62 #[.slice p k c, cv] wo fun o w' => o = .returned (.tuple #[]) ∧ ∃ R', R'.Perm (numsK P ms i) ∧ R'.Pairwise (fun x y => ¬ Lt y x) ∧ NRow w.heap.size w' p k c R' ∧ Kept (fun _ => False) w w') := H.out.2.2 wo p k c _ S.out.1 S.out.2 numsK_lt (by have h1 := @numsK_len P ms i; have h2 := S.out.1.len; have h3 := H.out.2.1; omega)
      go_wp2_with fail
      refine CS.out.mono ?_
      rintro o w3 ⟨rfl, R', h1, h2, h3, h4⟩
      have F : Hid (SortQ w ms P Lt p k c w3) := ⟨⟨R', by rw [H.out.1.len]; exact h1, h2, h3⟩, h4⟩
      clear h1 h2 h3 h4 CS
      go_wp2_with fail
      go_ret
      exact RetS.mk p k c rfl F.out
set_option maxRecDepth 100000 in
set_option maxHeartbeats 8000000 in
theorem sortedT {w : World} {p0 : Option Addr} {n c0 : Nat} {ms : List Cm} (cr : CRd w p0 n c0 ms) (hb : n ≤ 1300000000000) {cv : Value} {Lt : Nat → Nat → Prop} (so : SortsBy w cv n Lt) :
    Calls Try.prog 33 #[.slice p0 n c0, .func (.func 36) #[] #[], cv] w (RetS (SortQ w ms (Cm.tells) Lt)) := by
  have rm := cr.room
  have sm := cr.small
  unfold maxLen at sm
  obtain ⟨P, hP⟩ : ∃ P : Cm → Bool, P = (Cm.tells) := ⟨_, rfl⟩
  have CK : Hid (∀ (m : Cm) (V : World), Calls Try.prog 36 #[m.agg] V fun o w' => o = .returned (.bool (P m)) ∧ Kept (fun _ => False) V w') := fun m V => by rw [hP]; exact oTells m V
  rw [← hP]
  have H : Hid (CRd w p0 n c0 ms ∧ n ≤ 1300000000000 ∧ SortsBy w cv n Lt) := ⟨cr, hb, so⟩
  have S0 : Hid (NRow w.heap.size w none 0 0 (numsK P ms 0) ∧ Kept (fun _ => False) w w) := ⟨NRow.nil _ _, Kept.refl _ _⟩
  clear cr hb so hP
  go_enter Try.func33, Try.ntmps33
  go_wp2_with fail
  go_loopw [7, 8, 9, 12] (fun u7 _ _ u12 wr => ∃ (i k c : Nat) (p : Option Addr), u7 = .slice p k c ∧ u12 = .int .i64 (i : Int) ∧ i ≤ n ∧ Hid (NRow w.heap.size wr p k c (numsK P ms i) ∧ Kept (fun _ => False) w wr)) (fun _ _ _ u12 _ => n - (intOf u12).toNat)
  case atStart => exact ⟨0, 0, 0, none, rfl, rfl, Nat.zero_le _, S0⟩
  case round =>
    obtain ⟨i, k, c, p, rfl, rfl, hi, S⟩ := hrel
    clear S0
    obtain ⟨wo, hwo⟩ : ∃ wo, wo = wr := ⟨_, rfl⟩
    rw [← hwo] at S ⊢
    clear hwo
    by_cases hlt : i < n
    · have i1 : (i : Int) < (n : Int) := by omega
      have cr := H.out.1.k0 S.out.2
      obtain ⟨b, off, m, rfl, hm, c0', c1, c2, c3, c4, c5, c6, c7, c8, c9, c10, _⟩ := cr.at hlt
      obtain ⟨W, hW⟩ : ∃ W, W = wo.alloc (.cells #[.int .i64 m.client, .int .i64 m.op, .bool m.put, .string m.key, .slice m.va m.vn m.vc, .int .i64 m.st, .int .i64 m.frm, .int .i64 m.to, .bool m.opn, .int .i64 m.tx, .int .i64 m.ty] 38) := ⟨_, rfl⟩
      obtain ⟨B, hB⟩ : ∃ B, B = wo.heap.size := ⟨_, rfl⟩
      have J : Hid (W.heap[B]? = some (.cells m.cs 38 (0, 0)) ∧ Kept (fun _ => False) wo W ∧ ms[i]? = some m) := by
        have K : Kept (fun _ => False) wo W := by rw [hW]; exact (Kept.refl _ _).alloc _
        refine ⟨?_, K, hm⟩
        rw [hW, hB]
        exact alloc_new _ _
      have EW : Hid (W = wo.alloc (.cells #[.int .i64 m.client, .int .i64 m.op, .bool m.put, .string m.key, .slice m.va m.vn m.vc, .int .i64 m.st, .int .i64 m.frm, .int .i64 m.to, .bool m.opn, .int .i64 m.tx, .int .i64 m.ty] 38) ∧ B = wo.heap.size) := ⟨hW, hB⟩
      clear hW hB cr hm
      go_upto_region 5 with fail
      rw [← EW.out.1, ← EW.out.2]
      clear c0' c1 c2 c3 c4 c5 c6 c7 c8 c9 c10 EW
      have c0' := cell_blk J.out.1 0 (v := .int .i64 m.client) rfl
      have c1 := cell_blk J.out.1 1 (v := .int .i64 m.op) rfl
      have c2 := cell_blk J.out.1 2 (v := .bool m.put) rfl
      have c3 := cell_blk J.out.1 3 (v := .string m.key) rfl
      have c4 := cell_blk J.out.1 4 (v := .slice m.va m.vn m.vc) rfl
      have c5 := cell_blk J.out.1 5 (v := .int .i64 m.st) rfl
      have c6 := cell_blk J.out.1 6 (v := .int .i64 m.frm) rfl
      have c7 := cell_blk J.out.1 7 (v := .int .i64 m.to) rfl
      have c8 := cell_blk J.out.1 8 (v := .bool m.opn) rfl
      have c9 := cell_blk J.out.1 9 (v := .int .i64 m.tx) rfl
      have c10 := cell_blk J.out.1 10 (v := .int .i64 m.ty) rfl
      obtain ⟨pt, hpt⟩ : ∃ pt, P m = pt := ⟨_, rfl⟩
      have CP : Hid (Calls Try.prog 36 #[.agg #[.int .i64 m.client, .int .i64 m.op, .bool m.put, .string m.key, .slice m.va m.vn m.vc, .int .i64 m.st, .int .i64 m.frm, .int .i64 m.to, .bool m.opn, .int .i64 m.tx, .int .i64 m.ty]] W fun o w' => o = .returned (.bool pt) ∧ Kept (fun _ => False) W w') := by
        rw [← hpt]
        exact CK.out m W
      have HP : Hid (P m = pt) := hpt
      clear hpt
      go_wp2_with fail
      refine CP.out.mono ?_
      rintro o w2 ⟨rfl, K2⟩
      have T : Hid (NRow w.heap.size w2 p k c (numsK P ms i) ∧ Kept (fun _ => False) w w2) := ⟨(S.out.1.k0 J.out.2.1).k0 K2, (S.out.2.trans J.out.2.1 (fun _ _ z => z)).trans K2 (fun _ _ z => z)⟩
      clear K2 CP c0' c1 c2 c3 c4 c5 c6 c7 c8 c9 c10
      cases pt
      · have T2 : Hid (NRow w.heap.size w2 p k c (numsK P ms (i + 1)) ∧ Kept (fun _ => False) w w2) := by
          rw [numsK_add J.out.2.2, HP.out]
          exact T.out
        go_wp2_with fail
        go_roundw
        case rel => exact ⟨i + 1, k, c, p, rfl, by go_num, by omega, T2⟩
        case measure => simp [intOf] <;> omega
      · have BL : Hid (k + 1 ≤ maxLen ∧ ((k + 1) + (k + 1) / 4 + 192) * 8 ≤ 281474976710656) := by
          have h1 := @numsK_len P ms i
          have h3 := T.out.1.len
          have h5 := H.out.2.1
          unfold maxLen
          exact ⟨by omega, by omega⟩
        go_upto_region 7 with
          (first
            | (at_builtin; refine wpList_append_all _ rfl (.tmp 20) (.tmp 22) 22 3 22 _ 1 8 rfl Try.underlying22 Try.info3c rfl w.heap.size (.slice p k c) k (intsN (numsK P ms i)) rfl (((Kept.refl (fun _ => False) w2).alloc _).owns T.out.1.row (fun _ _ z => z)) _ 1 (intsN [i]) rfl (src_one (heap_alloc_new w2 _)) BL.out.1 BL.out.2 (Nat.le_trans T.out.2.size ((Kept.refl (fun _ => False) w2).alloc _).size) ?_; intro p9 c9' w9 ho hg hn)
            | fail)
        have T9 : Hid (NRow w.heap.size w9 p9 (k + 1) c9' (numsK P ms (i + 1)) ∧ Kept (fun _ => False) w w9) := by
          rw [numsK_add J.out.2.2, if_pos HP.out]
          exact T.out.1.more ho.out rfl hg.out T.out.2 (Nat.le_refl _)
        clear ho hg hn
        go_wp2_with fail
        go_roundw
        case rel => exact ⟨i + 1, k + 1, c9', p9, rfl, by go_num, by omega, T9⟩
        case measure => simp [intOf] <;> omega
    · have i1 : ¬ (i : Int) < (n : Int) := by omega
      have ei : i = n := by omega
      subst ei
      have CS : Hid (Calls Try.prog 62 #[.slice p k c, cv] wo fun o w' => o = .returned (.tuple #[]) ∧ ∃ R', R'.Perm (numsK P ms i) ∧ R'.Pairwise (fun x y => ¬ Lt y x) ∧ NRow w.heap.size w' p k c R' ∧ Kept (fun _ => False) w w') := H.out.2.2 wo p k c _ S.out.1 S.out.2 numsK_lt (by have h1 := @numsK_len P ms i; have h2 := S.out.1.len; have h3 := H.out.2.1; omega)
      go_wp2_with fail
      refine CS.out.mono ?_
      rintro o w3 ⟨rfl, R', h1, h2, h3, h4⟩
      have F : Hid (SortQ w ms P Lt p k c w3) := ⟨⟨R', by rw [H.out.1.len]; exact h1, h2, h3⟩, h4⟩
      clear h1 h2 h3 h4 CS
      go_wp2_with fail
      go_ret
      exact RetS.mk p k c rfl F.out
end Go.Proofs.Ytodmakcklacbfaa
