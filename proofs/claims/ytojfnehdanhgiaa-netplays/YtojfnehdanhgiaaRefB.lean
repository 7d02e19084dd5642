import Derived.Test.YtojfnehdanhgiaaRefA
namespace Go.Proofs.Ytojfnehdanhgiaa
open Go.RowKit

set_option maxRecDepth 100000 in
set_option maxHeartbeats 1000000 in
theorem rdouble_ok (base C : Nat) (q : Option Addr) (len cap : Nat) (R : List Ent) (w : World) (h : IsNet 71 base w C q len cap R) (hbase : base ≤ w.heap.size) (hb : len + 1 ≤ Big) (i : Nat) (hi : i < len) :
    Calls Try.prog 36 #[.pointer (some ⟨C, 0, none⟩), .int .i64 (i : Int)] w fun x w' => ∃ p c e, x = .returned (.int .i64 0) ∧ (∃ hl : i < R.length, e.p = R[i].p) ∧ IsNet 71 base w' C p (len + 1) c (R ++ [e]) ∧ Moved w w' C q p := by
  have H : Hid (IsNet 71 base w C q len cap R ∧ base ≤ w.heap.size ∧ len + 1 ≤ Big) := ⟨h, hbase, hb⟩
  have hm := big_max hb
  obtain ⟨hr1, hr2⟩ := own_room h.list.own
  unfold maxLen at hm hr2
  have lC := h.lt
  have D2 : Hid (Kept (fun _ => False) w w.drew) := (Kept.refl _ w).drew
  have cC := h.cell
  obtain ⟨g, rfl, hlR, d0, d1, d2, d3, d4, d5⟩ := h.list.cells i hi
  obtain ⟨⟨⟨fk, fi, tk, ti, l, lost⟩, a, dl, dc⟩, he⟩ : ∃ e, R[i] = e := ⟨_, rfl⟩
  rw [he] at d0 d1 d2 d3 d4 d5
  have GE : Hid (Good base w.drew ⟨⟨fk, fi, tk, ti, l, lost⟩, a, dl, dc⟩ ∧ R[i] = ⟨⟨fk, fi, tk, ti, l, lost⟩, a, dl, dc⟩) := ⟨(h.kept0 D2.out).list.good _ (by rw [← he]; exact List.getElem_mem _), he⟩
  have i1 : (i : Int) < (len : Int) := by omega
  have HI : Hid (hasI (i : Int) len = true) := hasI_of hi
  simp only [] at d0 d1 d2 d3 d4 d5
  clear h hb hbase he
  go_enter Try.func36, Try.ntmps36
  go_wp2_with fail
  refine (there C (some ⟨g, 0, none⟩) len cap i w cC).mono ?_
  rw [HI.out]
  rintro x w1 ⟨rfl, rfl⟩
  go_upto_region 5 with fail
  go_region_law
    (first
      | (refine step_call _ (by rfl) 41 [.tmp 22] _ (by rfl) [.agg #[.int .i64 fk, .int .i64 fi, .int .i64 tk, .int .i64 ti, .slice a dl dc, .bool lost]] (by rfl) (enter41 _ _) ((copied fk fi tk ti a dl dc lost l _ GE.out.1.reads (Nat.le_trans GE.out.1.short (by omega))).mono ?_); rintro x w3 ⟨p3, c3, rfl, o3, K3⟩; refine ⟨_, rfl, ?_⟩; have k3 := K3.cell cC (fun q => q); have lt3 : C < w3.heap.size := World.block_lt_of_cell? w3 _ k3
         have Z3 : Hid (Kept (fun _ => False) w1 (w3.alloc (.cells #[.int .i64 fk, .int .i64 fi, .int .i64 tk, .int .i64 ti, .slice p3 dl c3, .bool lost] 39)) ∧ (w3.alloc (.cells #[.int .i64 fk, .int .i64 fi, .int .i64 tk, .int .i64 ti, .slice p3 dl c3, .bool lost] 39)).heap[w3.heap.size]? = some (.cells #[.int .i64 fk, .int .i64 fi, .int .i64 tk, .int .i64 ti, .slice p3 dl c3, .bool lost] 39 (0, 0)) ∧ Good w1.heap.size (w3.alloc (.cells #[.int .i64 fk, .int .i64 fi, .int .i64 tk, .int .i64 ti, .slice p3 dl c3, .bool lost] 39)) ⟨⟨fk, fi, tk, ti, l, lost⟩, p3, dl, c3⟩) := ⟨(D2.out.trans K3 (fun _ _ q => q)).alloc _, alloc_new _ _, Good.kept0 ⟨owns_mono o3 D2.out.size, GE.out.1.bytes, GE.out.1.short⟩ (alloc_kept0 _ _)⟩
         clear o3 K3)
      | (refine step_append_all _ (by rfl) (.tmp 15) (.tmp 24) 27 39 27 _ 6 64 (by rfl) Try.underlying27 Try.info39 rfl base (.slice (some ⟨g, 0, none⟩) len cap) len (rcells R) (by rfl) (H.out.1.kept0 Z3.out.1).list.own _ 1 (Ent.cells ⟨⟨fk, fi, tk, ti, l, lost⟩, p3, dl, c3⟩) (by rfl) (src_one Z3.out.2.1) (big_max H.out.2.2) (big_wide H.out.2.2) (Nat.le_trans H.out.2.1 Z3.out.1.size) ?_; intro p4 c4 w4 ho hg hn
         obtain ⟨b4, n4, m4⟩ := H.out.1.more Z3.out.1 Z3.out.2.2 H.out.2.1 ho.out hg.out hn.out
         have F4 : Hid (IsNet 71 base (w4.setCell ⟨C, 0, none⟩ (.slice p4 (len + 1) c4)) C p4 (len + 1) c4 (R ++ [⟨⟨fk, fi, tk, ti, l, lost⟩, p3, dl, c3⟩]) ∧ Moved w1 (w4.setCell ⟨C, 0, none⟩ (.slice p4 (len + 1) c4)) C (some ⟨g, 0, none⟩) p4) := ⟨n4, m4⟩
         have k4 := cell_blk b4 0 (v := .slice (some ⟨g, 0, none⟩) len cap) rfl
         have k5 := soft_blk b4 0
         clear b4 n4 m4 ho hg hn)
      | fail)
  all_goals (go_wp2_with fail; go_ret)
  all_goals exact ⟨p4, c4, _, rfl, ⟨hlR, by rw [GE.out.2]⟩, F4.out⟩
set_option maxRecDepth 100000 in
theorem rdouble_none (C : Nat) (q : Option Addr) (len cap : Nat) (i : Int) (w : World) (c0 : w.cell? ⟨C, 0, none⟩ = some (.slice q len cap)) (hi : hasI i len = false) :
    Calls Try.prog 36 #[.pointer (some ⟨C, 0, none⟩), .int .i64 i] w fun x w' => x = .returned (.int .i64 50) ∧ w' = w := by
  go_enter Try.func36, Try.ntmps36
  go_wp2_with fail
  refine (there C q len cap i w c0).mono ?_
  rw [hi]
  rintro x w1 ⟨rfl, rfl⟩
  go_wp2_with fail
  go_ret
  exact ⟨rfl, rfl⟩
theorem rDouble (base C : Nat) (g : Option Nat) (ps : List Pk) (i : Int) (w : World) (h : NetOf 71 base w C g ps) (hbase : base ≤ w.heap.size) (hb : ps.length + 1 ≤ Big) :
    Calls Try.prog 36 #[.pointer (some ⟨C, 0, none⟩), .int .i64 i] w fun x w' => ∃ v, x = .returned v ∧ Did 71 base w C g (aDouble ps i) v w' := by
  obtain ⟨q, len, cap, R, h, rfl, e⟩ := h
  have hl := len_eq h.list.length e
  cases hh : hasI i ps.length with
  | false =>
    rw [aDouble, if_neg (by simp [hh])]
    rw [hl] at hh
    refine (rdouble_none C q len cap i w h.cell hh).mono ?_
    rintro x w' ⟨rfl, rfl⟩
    exact ⟨_, rfl, Did.same ⟨q, len, cap, R, h, rfl, e⟩ (Kept.refl _ _) 50⟩
  | true =>
    rw [aDouble, if_pos hh]
    rw [hl] at hh hb
    obtain ⟨k, rfl, hk⟩ := hasI_nat hh
    refine (rdouble_ok base C q len cap R w h hbase hb k hk).mono ?_
    rintro x w' ⟨p, c, en, rfl, ⟨hkR, hen⟩, n, m⟩
    refine ⟨_, rfl, ⟨rfl, blockOf p, ⟨p, len + 1, c, _, n, rfl, ?_⟩, m.mv⟩⟩
    rw [← e, List.map_append, Int.toNat_natCast, List.getElem?_map, List.getElem?_eq_getElem hkR]
    simp [hen]
set_option maxRecDepth 100000 in
theorem rlose_ok (base C : Nat) (q : Option Addr) (len cap : Nat) (R : List Ent) (w : World) (h : IsNet 71 base w C q len cap R) (i : Nat) (hi : i < len) :
    Calls Try.prog 39 #[.pointer (some ⟨C, 0, none⟩), .int .i64 (i : Int)] w fun x w' => ∃ hl : i < R.length, x = .returned (.int .i64 0) ∧ IsNet 71 base w' C q len cap (R.set i R[i].marked) ∧ Moved w w' C q q := by
  obtain ⟨hr1, hr2⟩ := own_room h.list.own
  have cC := h.cell
  obtain ⟨g, rfl, hlR, _, _, _, _, _, d5⟩ := h.list.cells i hi
  have fr : w.frozen? ⟨g, i * 6 + 5, none⟩ = false := by
    obtain ⟨cs, hc⟩ := own_type h.list.own g rfl
    exact soft_blk hc _
  have i1 : (i : Int) < (len : Int) := by omega
  have HI : Hid (hasI (i : Int) len = true) := hasI_of hi
  have FIN : Hid (IsNet 71 base (w.setCell ⟨g, i * 6 + 5, none⟩ (.bool true)) C (some ⟨g, 0, none⟩) len cap (R.set i R[i].marked) ∧ Moved w (w.setCell ⟨g, i * 6 + 5, none⟩ (.bool true)) C (some ⟨g, 0, none⟩) (some ⟨g, 0, none⟩)) :=
    h.stored (Kept.refl _ w) i 5 hlR (by omega) R[i].marked (.bool true) rfl (.inl ⟨(h.list.good _ (List.getElem_mem hlR)).own, (h.list.good _ (List.getElem_mem hlR)).bytes, (h.list.good _ (List.getElem_mem hlR)).short⟩)
  unfold maxLen at hr2
  clear h
  go_enter Try.func39, Try.ntmps39
  go_wp2_with fail
  refine (there C (some ⟨g, 0, none⟩) len cap i w cC).mono ?_
  rw [HI.out]
  rintro x w1 ⟨rfl, rfl⟩
  go_wp2_with fail
  go_ret
  exact ⟨hlR, rfl, FIN.out⟩
set_option maxRecDepth 100000 in
theorem rlose_none (C : Nat) (q : Option Addr) (len cap : Nat) (i : Int) (w : World) (c0 : w.cell? ⟨C, 0, none⟩ = some (.slice q len cap)) (hi : hasI i len = false) :
    Calls Try.prog 39 #[.pointer (some ⟨C, 0, none⟩), .int .i64 i] w fun x w' => x = .returned (.int .i64 50) ∧ w' = w := by
  go_enter Try.func39, Try.ntmps39
  go_wp2_with fail
  refine (there C q len cap i w c0).mono ?_
  rw [hi]
  rintro x w1 ⟨rfl, rfl⟩
  go_wp2_with fail
  go_ret
  exact ⟨rfl, rfl⟩
theorem rLose (base C : Nat) (g : Option Nat) (ps : List Pk) (i : Int) (w : World) (h : NetOf 71 base w C g ps) :
    Calls Try.prog 39 #[.pointer (some ⟨C, 0, none⟩), .int .i64 i] w fun x w' => ∃ v, x = .returned v ∧ Did 71 base w C g (aLose ps i) v w' := by
  obtain ⟨q, len, cap, R, h, rfl, e⟩ := h
  have hl := len_eq h.list.length e
  cases hh : hasI i ps.length with
  | false =>
    rw [aLose, if_neg (by simp [hh])]
    rw [hl] at hh
    refine (rlose_none C q len cap i w h.cell hh).mono ?_
    rintro x w' ⟨rfl, rfl⟩
    exact ⟨_, rfl, Did.same ⟨q, len, cap, R, h, rfl, e⟩ (Kept.refl _ _) 50⟩
  | true =>
    rw [aLose, if_pos hh]
    rw [hl] at hh
    obtain ⟨k, rfl, hk⟩ := hasI_nat hh
    refine (rlose_ok base C q len cap R w h k hk).mono ?_
    rintro x w' ⟨hkR, rfl, n, m⟩
    refine ⟨_, rfl, ⟨rfl, blockOf q, ⟨q, len, cap, _, n, rfl, ?_⟩, m.mv⟩⟩
    rw [map_upd hkR (fun p => { p with lost := true }) rfl, ← e, Int.toNat_natCast]
/-- All but number i of the first j. -/
def woN (R : List Ent) (i j : Nat) : List Ent := if j ≤ i then R.take j else R.take i ++ (R.drop (i + 1)).take (j - (i + 1))
theorem woN_skip (R : List Ent) (i : Nat) : woN R i (i + 1) = woN R i i := by
  unfold woN
  rw [if_neg (by omega), if_pos (Nat.le_refl _)]
  simp
theorem woN_step (R : List Ent) (i j : Nat) (h : j < R.length) (hne : j ≠ i) : woN R i (j + 1) = woN R i j ++ [R[j]] := by
  unfold woN
  by_cases h1 : j < i
  · rw [if_pos (by omega), if_pos (by omega), List.take_succ_eq_append_getElem h]
  · rw [if_neg (by omega), if_neg (by omega), show j + 1 - (i + 1) = (j - (i + 1)) + 1 by omega, List.take_succ_eq_append_getElem (by rw [List.length_drop]; omega), List.getElem_drop, List.append_assoc]
    congr 3
    simp only [show i + 1 + (j - (i + 1)) = j by omega]
theorem woN_all (R : List Ent) (i : Nat) (h : i < R.length) : woN R i R.length = R.take i ++ R.drop (i + 1) := by
  unfold woN
  rw [if_neg (by omega), List.take_of_length_le (l := R.drop (i + 1)) (by rw [List.length_drop]; omega)]
theorem woN_length (R : List Ent) (i j : Nat) (h : i < R.length) (hj : j ≤ R.length) : (woN R i j).length = if j ≤ i then j else j - 1 := by
  unfold woN
  split
  · rw [List.length_take]; omega
  · rw [List.length_append, List.length_take, List.length_take, List.length_drop]; omega
theorem woN_mem (R : List Ent) (i j : Nat) : ∀ e ∈ woN R i j, e ∈ R := fun e he => by
  unfold woN at he
  split at he
  · exact List.mem_of_mem_take he
  · rcases List.mem_append.1 he with q | q
    · exact List.mem_of_mem_take q
    · exact List.mem_of_mem_drop (List.mem_of_mem_take q)
set_option maxRecDepth 100000 in
set_option maxHeartbeats 1000000 in
theorem without (base C : Nat) (q : Option Addr) (len cap : Nat) (R : List Ent) (w : World) (h : IsNet 71 base w C q len cap R) (hb : len ≤ Big) (i : Nat) (hi : i < len) :
    Calls Try.prog 47 #[.pointer (some ⟨C, 0, none⟩), .int .i64 (i : Int)] w fun x w' => ∃ p c, x = .returned (.slice p (len - 1) c) ∧ w'.ownsRow w.heap.size 39 6 (.slice p (len - 1) c) (len - 1) (rcells (R.take i ++ R.drop (i + 1))) ∧ Kept (fun _ => False) w w' := by
  have H : Hid (IsNet 71 base w C q len cap R) := h
  have BB : Hid (len ≤ Big) := hb
  have c0 := h.cell
  have hl := h.list.length
  obtain ⟨hr1, hr2⟩ := own_room h.list.own
  unfold maxLen at hr2
  clear h hb
  go_enter Try.func47, Try.ntmps47
  go_wp2_with fail
  go_loopw [5, 6, 7, 13] (fun y _ _ x wr => ∃ (j : Nat) (p : Option Addr) (m c : Nat), x = .int .i64 (j : Int) ∧ y = .slice p m c ∧ j ≤ len ∧ Hid (wr.ownsRow w.heap.size 39 6 (.slice p m c) m (rcells (woN R i j)) ∧ Kept (fun _ => False) w wr ∧ m = (woN R i j).length)) (fun _ _ _ x _ => len - (intOf x).toNat)
  case atStart => exact ⟨0, none, 0, 0, rfl, rfl, Nat.zero_le _, by unfold woN; rw [if_pos (Nat.zero_le _), List.take_zero]; exact World.ownsRow_nil _ _ _ _, Kept.refl _ _, by unfold woN; rw [if_pos (Nat.zero_le _), List.take_zero]; rfl⟩
  case round =>
    obtain ⟨j, p, m, c, rfl, rfl, hj, S⟩ := hrel
    by_cases hlt : j < len
    · obtain ⟨g, rfl, hlR, d0, d1, d2, d3, d4, d5⟩ := (H.out.list.kept0 S.out.2.1).cells j hlt
      obtain ⟨e, he⟩ : ∃ e, R[j] = e := ⟨_, rfl⟩
      rw [he] at d0 d1 d2 d3 d4 d5
      have HE : Hid (R[j] = e) := he
      have i1 : (j : Int) < (len : Int) := by omega
      have mB : Hid (m + 1 ≤ Big) := by
        have a1 := S.out.2.2
        rw [woN_length R i j (by omega) (by omega)] at a1
        have a2 := BB.out
        show m + 1 ≤ Big
        split at a1 <;> omega
      clear he
      by_cases hne : j = i
      · subst hne
        have S2 : Hid (wr.ownsRow w.heap.size 39 6 (.slice p m c) m (rcells (woN R j (j + 1))) ∧ Kept (fun _ => False) w wr ∧ m = (woN R j (j + 1)).length) := by
          rw [woN_skip]; exact S
        have KA : Hid (∀ o, Kept (fun _ => False) wr (wr.alloc o)) := fun o => alloc_kept0 wr o
        go_wp2_with fail
        go_roundw
        case rel => exact ⟨j + 1, p, m, c, by go_num, rfl, by omega, (KA.out _).owns S2.out.1 (fun _ _ q => q), S2.out.2.1.trans (KA.out _) (fun _ _ q => q), S2.out.2.2⟩
        case measure => simp [intOf]; omega
      · have ji : ¬ ((j : Int) = (i : Int)) := by omega
        obtain ⟨W, hW⟩ : ∃ W, W = (wr.alloc (.cells #[.int .i64 e.p.fk, .int .i64 e.p.fi, .int .i64 e.p.tk, .int .i64 e.p.ti, .slice e.a e.len e.cap, .bool e.p.lost] 39)).alloc (.cells #[.int .i64 e.p.fk, .int .i64 e.p.fi, .int .i64 e.p.tk, .int .i64 e.p.ti, .slice e.a e.len e.cap, .bool e.p.lost] 39) := ⟨_, rfl⟩
        have KW : Kept (fun _ => False) wr W := by rw [hW]; exact ((Kept.refl _ _).alloc _).alloc _
        have SW : Hid (W.ownsRow w.heap.size 39 6 (.slice p m c) m (rcells (woN R i j)) ∧ Kept (fun _ => False) w W ∧ Src Try.prog 6 27 (.slice (some ⟨wr.heap.size + 1, 0, none⟩) 1 1) 1 e.cells W ∧ w.heap.size ≤ W.heap.size) := by
          have k3 := S.out.2.1.trans KW (fun _ _ q => q)
          refine ⟨KW.owns S.out.1 (fun _ _ q => q), k3, src_one ?_, k3.size⟩
          rw [hW, ← alloc_size wr (.cells #[.int .i64 e.p.fk, .int .i64 e.p.fi, .int .i64 e.p.tk, .int .i64 e.p.ti, .slice e.a e.len e.cap, .bool e.p.lost] 39)]
          exact alloc_new _ _
        have EW : Hid (W = (wr.alloc (.cells #[.int .i64 e.p.fk, .int .i64 e.p.fi, .int .i64 e.p.tk, .int .i64 e.p.ti, .slice e.a e.len e.cap, .bool e.p.lost] 39)).alloc (.cells #[.int .i64 e.p.fk, .int .i64 e.p.fi, .int .i64 e.p.tk, .int .i64 e.p.ti, .slice e.a e.len e.cap, .bool e.p.lost] 39)) := hW
        clear hW KW
        go_wp2_with (first | (at_builtin; rw [← EW.out]; refine wpList_append_all _ rfl (.tmp 21) (.tmp 23) 27 39 27 _ 6 64 rfl Try.underlying27 Try.info39 rfl w.heap.size (.slice p m c) m (rcells (woN R i j)) rfl SW.out.1 _ 1 e.cells rfl SW.out.2.2.1 (big_max mB.out) (big_wide mB.out) SW.out.2.2.2 ?_; intro p4 c4 w4 ho hg hn) | fail)
        have K4 : Hid (Kept (fun _ => False) w w4) := SW.out.2.1.grown hg.out (fun k hk z => by have := (SW.out.1.lt k z).1; omega)
        have O4 : Hid (w4.ownsRow w.heap.size 39 6 (.slice p4 (m + 1) c4) (m + 1) (rcells (woN R i (j + 1))) ∧ m + 1 = (woN R i (j + 1)).length) := by
          rw [woN_step R i j (by omega) hne, HE.out, rcells_append, rcells_one', List.length_append, ← S.out.2.2]
          exact ⟨ho.out, rfl⟩
        clear ho hg hn
        go_roundw
        case rel => exact ⟨j + 1, p4, m + 1, c4, by go_num, rfl, by omega, O4.out.1, K4.out, O4.out.2⟩
        case measure => simp [intOf]; omega
    · have he : len = j := by omega
      subst he
      have i1 : ¬ (len : Int) < (len : Int) := by omega
      have S2 : Hid (wr.ownsRow w.heap.size 39 6 (.slice p (len - 1) c) (len - 1) (rcells (R.take i ++ R.drop (i + 1))) ∧ Kept (fun _ => False) w wr ∧ m = len - 1) := by
        have ml : m = len - 1 := by rw [S.out.2.2, woN_length R i len (by omega) (by omega), if_neg (by omega)]
        have wa : woN R i len = R.take i ++ R.drop (i + 1) := by rw [← hl]; exact woN_all R i (by omega)
        refine ⟨?_, S.out.2.1, ml⟩
        rw [← ml, ← wa]
        exact S.out.1
      have e1 := S2.out.2.2
      subst e1
      clear S
      go_wp2_with fail
      go_ret
      exact ⟨p, c, rfl, S2.out.1, S2.out.2.1⟩
end Go.Proofs.Ytojfnehdanhgiaa
