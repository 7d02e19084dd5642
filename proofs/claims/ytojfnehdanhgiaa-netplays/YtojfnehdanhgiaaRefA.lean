import Derived.Test.YtojfnehdanhgiaaOrdA
namespace Go.Proofs.Ytojfnehdanhgiaa
open Go.RowKit

theorem enter41 (vs : Array Value) (w : World) : (callFunc 41 vs).run Try.prog w = .ok (.enter 41 vs) w := by kernel_rfl
set_option maxRecDepth 100000 in
set_option maxHeartbeats 1000000 in
/-- Send of one that may be sent. -/
theorem rsend_ok (base C : Nat) (q : Option Addr) (len cap : Nat) (R : List Ent) (w : World) (h : IsNet 71 base w C q len cap R) (hbase : base ≤ w.heap.size) (hb : len + 1 ≤ Big)
    (fk fi tk ti : Int) (a : Option Addr) (dl dc : Nat) (lost : Bool) (l : List Nat) (r : Reads w a dl dc l) (h1 : isN fk fi = true) (h2 : isN tk ti = true) (h3 : dl ≤ 66000) :
    Calls Try.prog 31 #[.pointer (some ⟨C, 0, none⟩), .agg #[.int .i64 fk, .int .i64 fi, .int .i64 tk, .int .i64 ti, .slice a dl dc, .bool lost]] w fun x w' => ∃ p c e, x = .returned (.int .i64 0) ∧ e.p = ⟨fk, fi, tk, ti, l, lost⟩ ∧ IsNet 71 base w' C p (len + 1) c (R ++ [e]) ∧ Moved w w' C q p := by
  have H : Hid (IsNet 71 base w C q len cap R ∧ base ≤ w.heap.size ∧ len + 1 ≤ Big ∧ Reads w a dl dc l) := ⟨h, hbase, hb, r⟩
  have hm := big_max hb
  obtain ⟨hr1, hr2⟩ := own_room h.list.own
  unfold maxLen at hm hr2
  have g3 : ¬ (66000 : Int) < (dl : Int) := by omega
  have lC := h.lt
  clear h hb hbase r
  go_enter Try.func31, Try.ntmps31
  go_wp2_with fail
  have B0 : Hid (Kept (fun _ => False) w (w.alloc (.cells #[.int .i64 fk, .int .i64 fi, .int .i64 tk, .int .i64 ti, .slice a dl dc, .bool lost] 39)) ∧ Box (w.alloc (.cells #[.int .i64 fk, .int .i64 fi, .int .i64 tk, .int .i64 ti, .slice a dl dc, .bool lost] 39)) w.heap.size (.int .i64 fk) (.int .i64 fi) (.int .i64 tk) (.int .i64 ti) (.slice a dl dc) (.bool lost)) := ⟨alloc_kept0 _ _, alloc_new _ _⟩
  refine (node fk fi _).mono ?_
  rintro x w1 ⟨rfl, K1⟩
  have B1 : Hid (Kept (fun _ => False) w w1 ∧ Box w1 w.heap.size (.int .i64 fk) (.int .i64 fi) (.int .i64 tk) (.int .i64 ti) (.slice a dl dc) (.bool lost)) := ⟨B0.out.1.trans K1 (fun _ _ q => q), B0.out.2.kept K1 (fun q => q)⟩
  obtain ⟨e1, e2, e3, e4, e5, e6, _⟩ := cell6 _ _ _ _ _ _ _ _ B1.out.2
  clear K1 B0
  go_wp2_with fail
  refine (node tk ti _).mono ?_
  rintro x w2 ⟨rfl, K2⟩
  have B2 : Hid (Kept (fun _ => False) w w2 ∧ Box w2 w.heap.size (.int .i64 fk) (.int .i64 fi) (.int .i64 tk) (.int .i64 ti) (.slice a dl dc) (.bool lost)) := ⟨B1.out.1.trans K2 (fun _ _ q => q), B1.out.2.kept K2 (fun q => q)⟩
  clear e1 e2 e3 e4 e5 e6 K2 B1
  obtain ⟨e1, e2, e3, e4, e5, e6, _⟩ := cell6 _ _ _ _ _ _ _ _ B2.out.2
  have cC := (H.out.1.kept0 B2.out.1).cell
  have D2 : Hid (Kept (fun _ => False) w w2.drew) := B2.out.1.drew
  go_upto_region 7 with fail
  go_region_law
    (first
      | (refine step_call _ (by rfl) 41 [.tmp 26] _ (by rfl) [.agg #[.int .i64 fk, .int .i64 fi, .int .i64 tk, .int .i64 ti, .slice a dl dc, .bool lost]] (by rfl) (enter41 _ _) ((copied fk fi tk ti a dl dc lost l w2.drew (H.out.2.2.2.kept' D2.out (fun _ _ q => q)) (by omega)).mono ?_); rintro x w3 ⟨p3, c3, rfl, o3, K3⟩; refine ⟨_, rfl, ?_⟩; have k3 := K3.cell cC (fun q => q); have lt3 : C < w3.heap.size := World.block_lt_of_cell? w3 _ k3
         have Z3 : Hid (Kept (fun _ => False) w (w3.alloc (.cells #[.int .i64 fk, .int .i64 fi, .int .i64 tk, .int .i64 ti, .slice p3 dl c3, .bool lost] 39)) ∧ (w3.alloc (.cells #[.int .i64 fk, .int .i64 fi, .int .i64 tk, .int .i64 ti, .slice p3 dl c3, .bool lost] 39)).heap[w3.heap.size]? = some (.cells #[.int .i64 fk, .int .i64 fi, .int .i64 tk, .int .i64 ti, .slice p3 dl c3, .bool lost] 39 (0, 0)) ∧ Good w.heap.size (w3.alloc (.cells #[.int .i64 fk, .int .i64 fi, .int .i64 tk, .int .i64 ti, .slice p3 dl c3, .bool lost] 39)) ⟨⟨fk, fi, tk, ti, l, lost⟩, p3, dl, c3⟩) := ⟨(D2.out.trans K3 (fun _ _ q => q)).alloc _, alloc_new _ _, Good.kept0 ⟨owns_mono o3 D2.out.size, H.out.2.2.2.bytes, h3⟩ (alloc_kept0 _ _)⟩
         clear o3 K3)
      | (refine step_append_all _ (by rfl) (.tmp 25) (.tmp 28) 27 39 27 _ 6 64 (by rfl) Try.underlying27 Try.info39 rfl base (.slice q len cap) len (rcells R) (by rfl) (H.out.1.kept0 Z3.out.1).list.own _ 1 (Ent.cells ⟨⟨fk, fi, tk, ti, l, lost⟩, p3, dl, c3⟩) (by rfl) (src_one Z3.out.2.1) (big_max H.out.2.2.1) (big_wide H.out.2.2.1) (Nat.le_trans H.out.2.1 Z3.out.1.size) ?_; intro p4 c4 w4 ho hg hn
         obtain ⟨b4, n4, m4⟩ := H.out.1.more Z3.out.1 Z3.out.2.2 H.out.2.1 ho.out hg.out hn.out
         have F4 : Hid (IsNet 71 base (w4.setCell ⟨C, 0, none⟩ (.slice p4 (len + 1) c4)) C p4 (len + 1) c4 (R ++ [⟨⟨fk, fi, tk, ti, l, lost⟩, p3, dl, c3⟩]) ∧ Moved w (w4.setCell ⟨C, 0, none⟩ (.slice p4 (len + 1) c4)) C q p4) := ⟨n4, m4⟩
         have k4 := cell_blk b4 0 (v := .slice q len cap) rfl
         have k5 := soft_blk b4 0
         clear b4 n4 m4 ho hg hn)
      | fail)
  all_goals (go_wp2_with fail; go_ret)
  all_goals exact ⟨p4, c4, _, rfl, rfl, F4.out⟩
set_option maxRecDepth 100000 in
/-- Send of one that may not be sent. -/
theorem rsend_bad (C : Nat) (w : World) (fk fi tk ti : Int) (a : Option Addr) (dl dc : Nat) (lost : Bool) (hd : dl ≤ maxLen) (h : ¬ (isN fk fi = true ∧ isN tk ti = true ∧ dl ≤ 66000)) :
    Calls Try.prog 31 #[.pointer (some ⟨C, 0, none⟩), .agg #[.int .i64 fk, .int .i64 fi, .int .i64 tk, .int .i64 ti, .slice a dl dc, .bool lost]] w fun x w' => x = .returned (.int .i64 (sendE fk fi tk ti dl)) ∧ Kept (fun _ => False) w w' := by
  have B0 : Hid (Kept (fun _ => False) w (w.alloc (.cells #[.int .i64 fk, .int .i64 fi, .int .i64 tk, .int .i64 ti, .slice a dl dc, .bool lost] 39)) ∧ Box (w.alloc (.cells #[.int .i64 fk, .int .i64 fi, .int .i64 tk, .int .i64 ti, .slice a dl dc, .bool lost] 39)) w.heap.size (.int .i64 fk) (.int .i64 fi) (.int .i64 tk) (.int .i64 ti) (.slice a dl dc) (.bool lost)) := ⟨alloc_kept0 _ _, alloc_new _ _⟩
  unfold maxLen at hd
  cases h1 : isN fk fi with
  | false =>
    have E : Hid (sendE fk fi tk ti dl = 51) := by show sendE fk fi tk ti dl = 51; simp [sendE, h1]
    clear h
    go_enter Try.func31, Try.ntmps31
    go_wp2_with fail
    refine (node fk fi _).mono ?_
    rw [h1]
    rintro x w1 ⟨rfl, K1⟩
    have KK : Hid (Kept (fun _ => False) w w1) := B0.out.1.trans K1 (fun _ _ q => q)
    clear K1 B0
    go_wp2_with fail
    go_ret
    exact ⟨by rw [E.out]; rfl, KK.out⟩
  | true =>
    cases h2 : isN tk ti with
    | false =>
      have E : Hid (sendE fk fi tk ti dl = 51) := by show sendE fk fi tk ti dl = 51; simp [sendE, h2]
      clear h
      go_enter Try.func31, Try.ntmps31
      go_wp2_with fail
      refine (node fk fi _).mono ?_
      rw [h1]
      rintro x w1 ⟨rfl, K1⟩
      have B1 : Hid (Kept (fun _ => False) w w1 ∧ Box w1 w.heap.size (.int .i64 fk) (.int .i64 fi) (.int .i64 tk) (.int .i64 ti) (.slice a dl dc) (.bool lost)) := ⟨B0.out.1.trans K1 (fun _ _ q => q), B0.out.2.kept K1 (fun q => q)⟩
      obtain ⟨e1, e2, e3, e4, e5, e6, _⟩ := cell6 _ _ _ _ _ _ _ _ B1.out.2
      clear K1 B0
      go_wp2_with fail
      refine (node tk ti _).mono ?_
      rw [h2]
      rintro x w2 ⟨rfl, K2⟩
      have KK : Hid (Kept (fun _ => False) w w2) := B1.out.1.trans K2 (fun _ _ q => q)
      clear K2 B1
      go_wp2_with fail
      go_ret
      exact ⟨by rw [E.out]; rfl, KK.out⟩
    | true =>
      have h3 : ¬ dl ≤ 66000 := fun q => h ⟨h1, h2, q⟩
      have E : Hid (sendE fk fi tk ti dl = 2) := by show sendE fk fi tk ti dl = 2; simp [sendE, h1, h2, h3]
      have g3 : (66000 : Int) < (dl : Int) := by omega
      clear h h3
      go_enter Try.func31, Try.ntmps31
      go_wp2_with fail
      refine (node fk fi _).mono ?_
      rw [h1]
      rintro x w1 ⟨rfl, K1⟩
      have B1 : Hid (Kept (fun _ => False) w w1 ∧ Box w1 w.heap.size (.int .i64 fk) (.int .i64 fi) (.int .i64 tk) (.int .i64 ti) (.slice a dl dc) (.bool lost)) := ⟨B0.out.1.trans K1 (fun _ _ q => q), B0.out.2.kept K1 (fun q => q)⟩
      obtain ⟨e1, e2, e3, e4, e5, e6, _⟩ := cell6 _ _ _ _ _ _ _ _ B1.out.2
      clear K1 B0
      go_wp2_with fail
      refine (node tk ti _).mono ?_
      rw [h2]
      rintro x w2 ⟨rfl, K2⟩
      have KK : Hid (Kept (fun _ => False) w w2) := B1.out.1.trans K2 (fun _ _ q => q)
      obtain ⟨f1, f2, f3, f4, f5, f6, _⟩ := cell6 _ _ _ _ _ _ _ _ (B1.out.2.kept K2 (fun q => q))
      clear K2 B1 e1 e2 e3 e4 e5 e6
      go_wp2_with fail
      go_ret
      exact ⟨by rw [E.out]; rfl, KK.out⟩
set_option maxRecDepth 100000 in
theorem rsend_nil (w : World) (fk fi tk ti : Int) (a : Option Addr) (dl dc : Nat) (lost : Bool) :
    Calls Try.prog 31 #[.pointer none, .agg #[.int .i64 fk, .int .i64 fi, .int .i64 tk, .int .i64 ti, .slice a dl dc, .bool lost]] w fun x w' => x = .returned (.int .i64 0) ∧ Kept (fun _ => False) w w' := by
  go_enter Try.func31, Try.ntmps31
  go_wp2_with fail
  go_ret
  exact ⟨rfl, alloc_kept0 _ _⟩
set_option maxRecDepth 100000 in
set_option maxHeartbeats 1000000 in
/-- The document's Flight. -/
theorem rflight (base C : Nat) (q : Option Addr) (len cap : Nat) (R : List Ent) (w : World) (h : IsNet 71 base w C q len cap R) (hb : len ≤ Big) :
    Calls Try.prog 25 #[.pointer (some ⟨C, 0, none⟩)] w fun x w' => ∃ p c R', x = .returned (.slice p len c) ∧ R'.map Ent.p = R.map Ent.p ∧ IsL w.heap.size w' p len c R' ∧ Kept (fun _ => False) w w' := by
  have H : Hid (IsNet 71 base w C q len cap R) := h
  have BB : Hid (len ≤ Big) := hb
  have c0 := h.cell
  have hl := h.list.length
  obtain ⟨hr1, hr2⟩ := own_room h.list.own
  unfold maxLen at hr2
  clear h hb
  go_enter Try.func25, Try.ntmps25
  go_wp2_with fail
  go_loopw [3, 5, 14] (fun y _ x wr => ∃ (i : Nat) (p : Option Addr) (c : Nat) (R' : List Ent), x = .int .i64 (i : Int) ∧ y = .slice p i c ∧ i ≤ len ∧ Hid (IsL w.heap.size wr p i c R' ∧ Kept (fun _ => False) w wr ∧ R'.map Ent.p = (R.map Ent.p).take i)) (fun _ _ x _ => len - (intOf x).toNat)
  case atStart => exact ⟨0, none, 0, [], rfl, rfl, Nat.zero_le _, ⟨World.ownsRow_nil _ _ _ _, fun _ h => by simp at h⟩, Kept.refl _ _, by simp⟩
  case round =>
    obtain ⟨i, p, c, R', rfl, rfl, hi, S⟩ := hrel
    by_cases hlt : i < len
    · obtain ⟨g, rfl, hlR, d0, d1, d2, d3, d4, d5⟩ := (H.out.list.kept0 S.out.2.1).cells i hlt
      obtain ⟨e, he⟩ : ∃ e, R[i] = e := ⟨_, rfl⟩
      rw [he] at d0 d1 d2 d3 d4 d5
      have GE : Hid (Good base wr e ∧ R[i] = e) := ⟨((H.out.list.kept0 S.out.2.1).good e (by rw [← he]; exact List.getElem_mem _)), he⟩
      have i1 : (i : Int) < (len : Int) := by omega
      have iB : Hid (i + 1 ≤ Big) := Nat.le_trans hlt BB.out
      clear he
      go_wp2_with fail
      refine (copied _ _ _ _ _ _ _ _ e.p.data _ ((GE.out.1.reads).kept' (alloc_kept0 wr _) (fun _ _ q => q)) (Nat.le_trans GE.out.1.short (by omega))).mono ?_
      rintro x w2 ⟨p2, c2, rfl, ho2, K2⟩
      obtain ⟨W, hW⟩ : ∃ W, W = w2.alloc (.cells #[.int .i64 e.p.fk, .int .i64 e.p.fi, .int .i64 e.p.tk, .int .i64 e.p.ti, .slice p2 e.len c2, .bool e.p.lost] 39) := ⟨_, rfl⟩
      have KW : Kept (fun _ => False) wr W := by rw [hW]; exact ((alloc_kept0 wr _).trans K2 (fun _ _ q => q)).alloc _
      have SW : Hid (IsL w.heap.size W p i c R' ∧ Kept (fun _ => False) w W ∧ Good w.heap.size W ⟨e.p, p2, e.len, c2⟩ ∧ Src Try.prog 6 27 (.slice (some ⟨w2.heap.size, 0, none⟩) 1 1) 1 (Ent.cells ⟨e.p, p2, e.len, c2⟩) W ∧ w.heap.size ≤ W.heap.size) := by
        have k3 := S.out.2.1.trans KW (fun _ _ q => q)
        refine ⟨S.out.1.kept0 KW, k3, ?_, src_one (by rw [hW]; exact alloc_new _ _), k3.size⟩
        rw [hW]
        exact Good.kept0 ⟨owns_mono ho2 (Nat.le_trans S.out.2.1.size (alloc_kept0 wr _).size), GE.out.1.bytes, GE.out.1.short⟩ (alloc_kept0 _ _)
      have EW : Hid (W = w2.alloc (.cells #[.int .i64 e.p.fk, .int .i64 e.p.fi, .int .i64 e.p.tk, .int .i64 e.p.ti, .slice p2 e.len c2, .bool e.p.lost] 39)) := hW
      clear hW KW ho2 K2
      go_wp2_with (first | (at_builtin; rw [← EW.out]; refine wpList_append_all _ rfl (.tmp 18) (.tmp 21) 27 39 27 _ 6 64 rfl Try.underlying27 Try.info39 rfl w.heap.size (.slice p i c) i (rcells R') rfl SW.out.1.own _ 1 (Ent.cells ⟨e.p, p2, e.len, c2⟩) rfl SW.out.2.2.2.1 (big_max iB.out) (big_wide iB.out) SW.out.2.2.2.2 ?_; intro p4 c4 w4 ho hg hn) | fail)
      have hL := IsL.more SW.out.1 (Kept.refl _ W) SW.out.2.2.1 ho.out hg.out hn.out
      have K4 : Hid (Kept (fun _ => False) w w4) := SW.out.2.1.trans hL.2.1 (fun j hj z => by have := (own_lt SW.out.1.own j z).1; omega)
      have L4 : Hid (IsL w.heap.size w4 p4 (i + 1) c4 (R' ++ [⟨e.p, p2, e.len, c2⟩])) := hL.1
      clear hL ho hg hn
      go_roundw
      case rel => exact ⟨i + 1, p4, c4, _, by go_num, rfl, by omega, L4.out, K4.out, map_getElem S.out.2.2 hlR _ (by rw [GE.out.2])⟩
      case measure => simp [intOf]; omega
    · have he : len = i := by omega
      subst he
      have i1 : ¬ (len : Int) < (len : Int) := by omega
      have S2 : Hid (IsL w.heap.size wr p len c R' ∧ Kept (fun _ => False) w wr ∧ R'.map Ent.p = R.map Ent.p) := ⟨S.out.1, S.out.2.1, by rw [S.out.2.2, List.take_of_length_le (by simp [hl])]⟩
      clear S
      go_wp2_with fail
      go_ret
      exact ⟨p, c, rfl, R', S2.out.2.2, S2.out.1, S2.out.2.1⟩
theorem rflight_nil (w : World) : Calls Try.prog 25 #[.pointer none] w fun x w' => x = .returned (.slice none 0 0) ∧ w' = w := by
  go_enter Try.func25, Try.ntmps25
  go_wp2_with fail
  go_ret
  exact ⟨rfl, rfl⟩
set_option maxRecDepth 100000 in
/-- The document's Copy. -/
theorem rcopy_of (base C : Nat) (g : Option Nat) (ps : List Pk) (w : World) (h : NetOf 71 base w C g ps) (hb : ps.length ≤ Big) :
    Calls Try.prog 22 #[.pointer (some ⟨C, 0, none⟩)] w fun x w' => ∃ C' g', x = .returned (.pointer (some ⟨C', 0, none⟩)) ∧ NetOf 71 w.heap.size w' C' g' ps ∧ Kept (fun _ => False) w w' := by
  obtain ⟨q, len, cap, R, n, rfl, e⟩ := h
  have hl := len_eq n.list.length e
  have H : Hid (IsNet 71 base w C q len cap R ∧ len ≤ Big) := ⟨n, by omega⟩
  have HE : Hid (R.map Ent.p = ps) := e
  clear n hb e
  go_enter Try.func22, Try.ntmps22
  go_wp2_with fail
  refine (rflight base C q len cap R w H.out.1 H.out.2).mono ?_
  rintro x w1 ⟨p, c, R', rfl, hm, hL, hK⟩
  have HH : Hid (R'.map Ent.p = ps ∧ IsL w.heap.size w1 p len c R' ∧ Kept (fun _ => False) w w1) := ⟨hm.trans HE.out, hL, hK⟩
  clear hm hL hK
  go_wp2_with fail
  go_ret
  exact ⟨w1.heap.size, blockOf p, rfl, ⟨p, len, c, R', ⟨alloc_new _ _, HH.out.2.1.kept0 (alloc_kept0 _ _), HH.out.2.2.size, by decide, by decide⟩, rfl, HH.out.1⟩, HH.out.2.2.trans (alloc_kept0 _ _) (fun _ _ q => q)⟩
end Go.Proofs.Ytojfnehdanhgiaa
