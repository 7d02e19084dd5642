import Derived.Test.YtodmakcklacbfaaRIntsJ
namespace Go.Proofs.Ytodmakcklacbfaa
open Go.RowKit Go.Shelf Go.Lib Go.Sort

theorem reads_pre {w : World} {a : Option Addr} {n c : Nat} {l x : List Nat} (h : Reads w a (n + 2) c (l ++ x)) (hl : l.length = n) : Reads w a n c l := by
  have rm := h.room
  refine ⟨hl, by omega, h.small, fun y hy => h.bytes y (List.mem_append_left _ hy), fun h0 => ?_⟩
  obtain ⟨b, off, e, hc⟩ := h.cells (by omega)
  refine ⟨b, off, e, fun i hi => ?_⟩
  have := hc i (by omega)
  rw [List.getD_eq_getElem?_getD, List.getElem?_append_left (by omega), ← List.getD_eq_getElem?_getD] at this
  exact this
/-- What lies behind the copies' values stays as it is. -/
theorem QR.wide {b0 : Nat} {w w9 : World} {p : Option Addr} {k c : Nat} {ms news : List Cm} (h : QR b0 w p k c ms) (wd : ∀ m ∈ ms ++ news, Reads w m.va (m.vn + 2) m.vc (m.val ++ [193, 194])) (tn : ∀ m ∈ news, ∀ a, m.va = some a → ∃ C fr, w.heap[a.block]? = some (.cells C 5 fr)) (hg : w.grownBy w9 (Value.slice p k c).ownBlock) : ∀ m ∈ ms ++ news, Reads w9 m.va (m.vn + 2) m.vc (m.val ++ [193, 194]) := by
  have KG : Kept (fun j => blockOf p = some j) w w9 := (Kept.refl (fun j => blockOf p = some j) w).grown hg (fun j _ z => by rw [blockOf_own] at z; exact z)
  intro m hm
  refine Reads.kept KG (wd m hm) (fun a ha => not_own h.row ?_)
  rcases List.mem_append.1 hm with z | z
  · exact h.ty m z a ha
  · exact tn m z a ha
/-- The mark behind the copies. -/
def markC : Cm := ⟨-77, 0, false, ⟨#[]⟩, none, 0, 0, 0, 0, 0, false, 0, 0, []⟩
structure OZ (w0 wr : World) (ms : List Cm) (n : Nat) (p : Option Addr) (c : Nat) : Prop where
  ok : ∃ L, QR w0.heap.size wr p (n + 1) c (L ++ [markC]) ∧ L.map er = (ms.take n).map er ∧ ∀ m ∈ L, Reads wr m.va (m.vn + 2) m.vc (m.val ++ [193, 194])
  kept : Kept (fun _ => False) w0 wr
theorem calls_got {w wo wa : World} {p pa : Option Addr} {n c ca : Nat} {L ms : List Cm} {ob : Obj} (q : QR w.heap.size wo p n c L) (eL : L.map er = (ms.take n).map er) (wL : ∀ m ∈ L, Reads wo m.va (m.vn + 2) m.vc (m.val ++ [193, 194])) (K : Kept (fun _ => False) w wo) (ho : wa.ownsRow w.heap.size 38 11 (.slice pa (n + 1) ca) (n + 1) (ccells L ++ ccells [markC])) (hg : (wo.alloc ob).grownBy wa (Value.slice p n c).ownBlock) : ∃ g, pa = some ⟨g, 0, none⟩ ∧ (n : Int) ≤ (ca : Int) ∧ ca ≤ 2 ^ 63 - 1 ∧ Hid (OZ w wa ms n (some ⟨g, 0, none⟩) ca) := by
  have A : Kept (fun _ => False) wo (wo.alloc ob) := (Kept.refl (fun _ => False) wo).alloc _
  have tn : ∀ m ∈ [markC], ∀ a, m.va = some a → ∃ C fr, (wo.alloc ob).heap[a.block]? = some (.cells C 5 fr) := fun m hm a ha => by
    rw [List.mem_singleton.1 hm] at ha
    cases ha
  have rn : ∀ m ∈ [markC], Reads (wo.alloc ob) m.va m.vn m.vc m.val := fun m hm => by
    rw [List.mem_singleton.1 hm]
    exact ⟨rfl, Nat.le_refl _, Nat.zero_le _, fun _ h => absurd h (by simp [markC]), fun h => absurd h (by simp [markC])⟩
  have Q := (q.k0 A).grow (news := [markC]) (n := 1) rfl rn tn ho hg (K.trans A (fun _ _ z => z)) (Nat.le_refl _)
  have W := (q.k0 A).wide (news := []) (fun m hm => Reads.kept A (wL m (by simpa using hm)) (fun _ _ z => z)) (fun _ h => absurd h (by simp)) hg
  have rm1 := (own_room ho).1
  have rm2 := (own_room ho).2
  unfold maxLen at rm2
  obtain ⟨g, rfl, _⟩ := Q.1.ptr (by omega)
  exact ⟨g, rfl, by omega, rm2, ⟨L, Q.1, eL, fun m hm => W m (by simpa using hm)⟩, Q.2⟩
/-- The copies on their way. -/
structure OW (w0 wr : World) (ms : List Cm) (i : Nat) (p : Option Addr) (c : Nat) : Prop where
  ok : ∃ L, QR w0.heap.size wr p i c L ∧ L.map er = (ms.take i).map er ∧ ∀ m ∈ L, Reads wr m.va (m.vn + 2) m.vc (m.val ++ [193, 194])
  kept : Kept (fun _ => False) w0 wr
theorem OW.k0 {w0 wr w' : World} {ms : List Cm} {i : Nat} {p : Option Addr} {c : Nat} (h : OW w0 wr ms i p c) (K : Kept (fun _ => False) wr w') : OW w0 w' ms i p c := by
  obtain ⟨L, h1, h2, h3⟩ := h.ok
  exact ⟨⟨L, h1.k0 K, h2, fun m hm => Reads.kept K (h3 m hm) (fun _ _ z => z)⟩, h.kept.trans K (fun _ _ z => z)⟩
set_option maxRecDepth 100000 in
set_option maxHeartbeats 4000000 in
theorem lCalls {w : World} {p0 : Option Addr} {n c0 : Nat} {ms : List Cm} (cr : CRd w p0 n c0 ms) (hb : n ≤ 1300000000000) (hv : ∀ m ∈ ms, m.vn + 8 ≤ 140737488355328) : Calls Try.prog 16 #[.slice p0 n c0] w (RetW (fun p c' w' => OZ w w' ms n p c') n) := by
  have rm := cr.room
  have sm := cr.small
  unfold maxLen at sm
  have H : Hid (CRd w p0 n c0 ms ∧ ∀ m ∈ ms, m.vn + 8 ≤ 140737488355328) := ⟨cr, hv⟩
  have S0 : Hid (OW w w ms 0 none 0) := ⟨⟨[], ⟨⟨rfl, ⟨rfl, .inl ⟨rfl, rfl⟩⟩⟩, (fun _ h => absurd h (by simp)), (fun _ h => absurd h (by simp))⟩, rfl, (fun _ h => absurd h (by simp))⟩, Kept.refl _ _⟩
  clear cr hv
  go_enter Try.func16, Try.ntmps16
  go_wp2_with fail
  go_loopw [3, 4, 5] (fun u3 u4 _ wy => ∃ (i c : Nat) (p : Option Addr), u3 = .slice p i c ∧ u4 = .int .i64 (i : Int) ∧ i ≤ n ∧ Hid (OW w wy ms i p c)) (fun _ u4 _ _ => n - (intOf u4).toNat)
  case atStart => exact ⟨0, 0, none, rfl, rfl, Nat.zero_le _, S0⟩
  case round =>
    obtain ⟨i, c, p, rfl, rfl, hi, S⟩ := hrel
    clear S0
    obtain ⟨wo, hwo⟩ : ∃ wo, wo = wr := ⟨_, rfl⟩
    rw [← hwo] at S ⊢
    clear hwo
    by_cases hlt : i < n
    · have i1 : (i : Int) < (n : Int) := by omega
      obtain ⟨b9, off9, m, rfl, hm, y0, y1, y2, y3, y4, y5, y6, y7, y8, y9, y10, rd⟩ := (H.out.1.k0 S.out.kept).at hlt
      obtain ⟨W, hW⟩ : ∃ W, W = wo.alloc (.cells m.cs 38) := ⟨_, rfl⟩
      obtain ⟨E, hE⟩ : ∃ E, E = wo.heap.size := ⟨_, rfl⟩
      have KW : Kept (fun _ => False) wo W := by rw [hW]; exact (Kept.refl _ _).alloc _
      have T : Hid (W.heap[E]? = some (.cells m.cs 38 (0, 0)) ∧ Kept (fun _ => False) wo W ∧ Reads W m.va m.vn m.vc m.val ∧ wo.heap.size ≤ E) := ⟨by rw [hW, hE]; exact alloc_new _ _, KW, Reads.kept KW rd (fun _ _ z => z), by omega⟩
      have EWH : Hid (W = wo.alloc (.cells #[.int .i64 m.client, .int .i64 m.op, .bool m.put, .string m.key, .slice m.va m.vn m.vc, .int .i64 m.st, .int .i64 m.frm, .int .i64 m.to, .bool m.opn, .int .i64 m.tx, .int .i64 m.ty] 38) ∧ E = wo.heap.size) := ⟨hW, hE⟩
      have HM : Hid (ms[i]? = some m ∧ m.vn + 8 ≤ 140737488355328) := ⟨hm, H.out.2 m (List.mem_of_getElem? hm)⟩
      clear hW hE hm KW rd
      go_upto_region 6 with fail
      rw [← EWH.out.1, ← EWH.out.2]
      clear EWH y0 y1 y2 y3 y4 y5 y6 y7 y8 y9 y10
      have d4 := cell_blk T.out.1 4 (v := .slice m.va m.vn m.vc) rfl
      go_wp2_with fail
      refine (lWide T.out.2.2.1 HM.out.2).mono ?_
      rintro o w2 ⟨p2, c2, rfl, rw2, K2, ty2⟩
      have rd2 : Reads w2 p2 m.vn c2 m.val := reads_pre rw2 T.out.2.2.1.length
      have B2 : w2.heap[E]? = some (.cells m.cs 38 (0, 0)) := K2.get T.out.1 (fun z => z)
      have e4 := cell_blk B2 4 (v := .slice m.va m.vn m.vc) rfl
      have e4f := soft_blk B2 4
      obtain ⟨X, hX⟩ : ∃ X, X = w2.setCell ⟨E, 4, none⟩ (.slice p2 m.vn c2) := ⟨_, rfl⟩
      have nE : ∀ a : Addr, p2 = some a → a.block ≠ E := fun a ha z => by
        obtain ⟨C, fr, hC⟩ := ty2 a ha
        rw [z, B2] at hC
        simp at hC
      have F : Hid (X.heap[E]? = some (.cells (Cm.cs ⟨m.client, m.op, m.put, m.key, p2, m.vn, c2, m.st, m.frm, m.to, m.opn, m.tx, m.ty, m.val⟩) 38 (0, 0)) ∧ (Reads X p2 m.vn c2 m.val ∧ Reads X p2 (m.vn + 2) c2 (m.val ++ [193, 194])) ∧ (∀ a, p2 = some a → ∃ C fr, X.heap[a.block]? = some (.cells C 5 fr)) ∧ OW w X ms i p c) := by
        rw [hX]
        refine ⟨set_heap B2 4 _, ⟨reads_set rd2 nE 4 _, reads_set rw2 nE 4 _⟩, fun a ha => ?_, S.out.k0 (kept_setv (T.out.2.1.trans K2 (fun _ _ z => z)) T.out.2.2.2 _ _)⟩
        obtain ⟨C, fr, hC⟩ := ty2 a ha
        exact ⟨C, fr, (set_other 4 _ (nE a ha)).trans hC⟩
      have EX : Hid (X = w2.setCell ⟨E, 4, none⟩ (.slice p2 m.vn c2)) := hX
      clear hX nE B2 rd2 rw2 K2 ty2 d4
      go_upto_region 7 with fail
      rw [← EX.out]
      clear EX e4 e4f
      have d0 := cell_blk F.out.1 0 (v := .int .i64 m.client) rfl
      have d1 := cell_blk F.out.1 1 (v := .int .i64 m.op) rfl
      have d2 := cell_blk F.out.1 2 (v := .bool m.put) rfl
      have d3 := cell_blk F.out.1 3 (v := .string m.key) rfl
      have d4 := cell_blk F.out.1 4 (v := .slice p2 m.vn c2) rfl
      have d5 := cell_blk F.out.1 5 (v := .int .i64 m.st) rfl
      have d6 := cell_blk F.out.1 6 (v := .int .i64 m.frm) rfl
      have d7 := cell_blk F.out.1 7 (v := .int .i64 m.to) rfl
      have d8 := cell_blk F.out.1 8 (v := .bool m.opn) rfl
      have d9 := cell_blk F.out.1 9 (v := .int .i64 m.tx) rfl
      have d10 := cell_blk F.out.1 10 (v := .int .i64 m.ty) rfl
      obtain ⟨L, q, eL, wL⟩ := F.out.2.2.2.ok
      have QL : Hid (QR w.heap.size X p i c L ∧ L.map er = (ms.take i).map er ∧ ∀ m ∈ L, Reads X m.va (m.vn + 2) m.vc (m.val ++ [193, 194])) := ⟨q, eL, wL⟩
      have vb : Hid (i + 1 ≤ maxLen ∧ ((i + 1) + (i + 1) / 4 + 192) * 112 ≤ 281474976710656) := by
        unfold maxLen
        exact ⟨by omega, by omega⟩
      clear q eL wL
      go_upto_region 4 with
        (first | (at_builtin; refine wpList_append_all _ rfl (.tmp 20) (.tmp 22) 27 38 27 _ 11 112 rfl Try.underlying27 Try.info38c rfl w.heap.size (.slice p i c) i (ccells L) rfl ((QL.out.1.k0 ((Kept.refl (fun _ => False) X).alloc _)).row.row) _ 1 (ccells [⟨m.client, m.op, m.put, m.key, p2, m.vn, c2, m.st, m.frm, m.to, m.opn, m.tx, m.ty, m.val⟩]) rfl (src_calls [⟨m.client, m.op, m.put, m.key, p2, m.vn, c2, m.st, m.frm, m.to, m.opn, m.tx, m.ty, m.val⟩] 1 rfl (heap_alloc_new X _)) vb.out.1 vb.out.2 (Nat.le_trans F.out.2.2.2.kept.size ((Kept.refl (fun _ => False) X).alloc _).size) ?_; intro pa ca wa ho hg hn9) | fail)
      have G : Hid (OW w wa ms (i + 1) pa ca) := by
        have A : Kept (fun _ => False) X _ := (Kept.refl (fun _ => False) X).alloc (.cells #[.int .i64 m.client, .int .i64 m.op, .bool m.put, .string m.key, .slice p2 m.vn c2, .int .i64 m.st, .int .i64 m.frm, .int .i64 m.to, .bool m.opn, .int .i64 m.tx, .int .i64 m.ty] 38)
        have Q := (QL.out.1.k0 A).grow (news := [⟨m.client, m.op, m.put, m.key, p2, m.vn, c2, m.st, m.frm, m.to, m.opn, m.tx, m.ty, m.val⟩]) (n := 1) rfl (fun y hy => by rw [List.mem_singleton.1 hy]; exact Reads.kept A F.out.2.1.1 (fun _ _ z => z)) (fun y hy ad had => by
          rw [List.mem_singleton.1 hy] at had
          obtain ⟨C, fr, hC⟩ := F.out.2.2.1 ad had
          exact ⟨C, fr, A.get hC (fun z => z)⟩) ho.out hg.out (F.out.2.2.2.kept.alloc _) (Nat.le_refl _)
        refine ⟨⟨_, Q.1, ?_, (QL.out.1.k0 A).wide (news := [⟨m.client, m.op, m.put, m.key, p2, m.vn, c2, m.st, m.frm, m.to, m.opn, m.tx, m.ty, m.val⟩]) (fun x hx => ?_) (fun x hx ad had => ?_) hg.out⟩, Q.2⟩
        · rw [List.map_append, QL.out.2.1, List.take_add_one, HM.out.1, List.map_append]
          rfl
        · rcases List.mem_append.1 hx with z | z
          · exact Reads.kept A (QL.out.2.2 x z) (fun _ _ z => z)
          · rw [List.mem_singleton.1 z]
            exact Reads.kept A F.out.2.1.2 (fun _ _ z => z)
        · rw [List.mem_singleton.1 hx] at had
          obtain ⟨C, fr, hC⟩ := F.out.2.2.1 ad had
          exact ⟨C, fr, A.get hC (fun z => z)⟩
      clear ho hg hn9
      go_wp2_with fail
      go_roundw
      case rel => exact ⟨i + 1, ca, pa, rfl, by go_num, by omega, G⟩
      case measure => simp [intOf] <;> omega
    · have i1 : ¬ (i : Int) < (n : Int) := by omega
      have ei : n = i := by omega
      subst ei
      obtain ⟨L, q, eL, wL⟩ := S.out.ok
      have QL : Hid (QR w.heap.size wo p n c L ∧ L.map er = (ms.take n).map er ∧ ∀ m ∈ L, Reads wo m.va (m.vn + 2) m.vc (m.val ++ [193, 194])) := ⟨q, eL, wL⟩
      have vb : Hid (n + 1 ≤ maxLen ∧ ((n + 1) + (n + 1) / 4 + 192) * 112 ≤ 281474976710656) := by
        unfold maxLen
        exact ⟨by omega, by omega⟩
      clear q eL wL
      go_wp2_with
        (first | (at_builtin; refine wpList_append_all _ rfl (.tmp 24) (.tmp 26) 27 38 27 _ 11 112 rfl Try.underlying27 Try.info38c rfl w.heap.size (.slice p n c) n (ccells L) rfl ((QL.out.1.k0 ((Kept.refl (fun _ => False) wo).alloc _)).row.row) _ 1 (ccells [markC]) rfl (src_calls [markC] 1 rfl (heap_alloc_new wo _)) vb.out.1 vb.out.2 (Nat.le_trans S.out.kept.size ((Kept.refl (fun _ => False) wo).alloc _).size) ?_; intro pa ca wa ho hg hn9; obtain ⟨ga, hga, n1, n2, G⟩ := calls_got QL.out.1 QL.out.2.1 QL.out.2.2 S.out.kept ho.out hg.out; subst hga; clear ho hg hn9) | fail)
      go_ret
      exact RetW.mk (some ⟨ga, 0, none⟩) ca (by first | rfl | simp) G.out
end Go.Proofs.Ytodmakcklacbfaa

namespace Go.Proofs.Ytodmakcklacbfaa
open Go.RowKit Go.Shelf Go.Lib Go.Sort

theorem er_ex {m1 m2 : Cm} (h : er m1 = er m2) : m1 = ⟨m2.client, m2.op, m2.put, m2.key, m1.va, m2.vn, m1.vc, m2.st, m2.frm, m2.to, m2.opn, m2.tx, m2.ty, m2.val⟩ := by
  obtain ⟨a1, a2, a3, a4, a5, a6, a7, a8, a9, a10, a11, a12, a13, a14⟩ := m1
  obtain ⟨b1, b2, b3, b4, b5, b6, b7, b8, b9, b10, b11, b12, b13, b14⟩ := m2
  unfold er at h
  simp at h
  obtain ⟨rfl, rfl, rfl, rfl, rfl, rfl, rfl, rfl, rfl, rfl, rfl, rfl⟩ := h
  rfl
theorem getD_app {l x : List Nat} {n i : Nat} (hl : l.length = n) : (l ++ x).getD (n + i) 0 = x.getD i 0 := by
  rw [List.getD_eq_getElem?_getD, List.getElem?_append_right (by omega), hl, Nat.add_sub_cancel_left, List.getD_eq_getElem?_getD]
set_option maxRecDepth 100000 in
set_option maxHeartbeats 4000000 in
theorem lKept {w : World} {g n ca : Nat} {L : List Cm} (A : CRd w (some ⟨g, 0, none⟩) (n + 1) ca (L ++ [markC])) (wd : ∀ m ∈ L, Reads w m.va (m.vn + 2) m.vc (m.val ++ [193, 194])) {pb : Option Addr} {cb : Nat} {ms : List Cm} (Bq : CRd w pb n cb ms) (eL : L.map er = ms.map er) (hv : ∀ m ∈ ms, m.vn + 8 ≤ 140737488355328) : Calls Try.prog 19 #[.slice (some ⟨g, 0, none⟩) n ca, .slice pb n cb] w fun o w' => o = .returned (.bool true) ∧ Kept (fun _ => False) w w' := by
  have ra := A.room
  have rs := A.small
  unfold maxLen at rs
  have rb := Bq.room
  have rbs := Bq.small
  unfold maxLen at rbs
  have H : Hid (CRd w (some ⟨g, 0, none⟩) (n + 1) ca (L ++ [markC]) ∧ (∀ m ∈ L, Reads w m.va (m.vn + 2) m.vc (m.val ++ [193, 194])) ∧ CRd w pb n cb ms ∧ L.map er = ms.map er ∧ (∀ m ∈ ms, m.vn + 8 ≤ 140737488355328) ∧ L.length = n) := by
    refine ⟨A, wd, Bq, eL, hv, ?_⟩
    have := A.len
    rw [List.length_append] at this
    simpa using this
  clear A wd Bq eL hv
  have wn : wrap64 ((n : Int) + 1) = (n : Int) + 1 := by unfold wrap64; omega
  have nc : (n : Int) + 1 ≤ (ca : Int) := by omega
  have mk : w.cell? ⟨g, n * 11, none⟩ = some (.int .i64 (-77)) := by
    obtain ⟨b, off, m, e, hm, y0, _⟩ := H.out.1.at (show n < n + 1 by omega)
    injection e with e
    injection e with e1 e2
    subst e1
    subst e2
    rw [List.getElem?_append_right (by rw [H.out.2.2.2.2.2]; exact Nat.le_refl _), H.out.2.2.2.2.2, Nat.sub_self] at hm
    have em : markC = m := by simpa using hm
    rw [← em, Nat.zero_add] at y0
    exact y0
  have L0 : Hid (Kept (fun _ => False) w w) := Kept.refl _ _
  go_enter Try.func19, Try.ntmps19
  go_wp2_with fail
  go_loopw [5, 6, 7, 8, 9] (fun u5 _ _ _ _ wy => ∃ i : Nat, u5 = .int .i64 (i : Int) ∧ i ≤ n ∧ Hid (Kept (fun _ => False) w wy)) (fun u5 _ _ _ _ _ => n - (intOf u5).toNat)
  case atStart => exact ⟨0, rfl, Nat.zero_le _, L0⟩
  case round =>
    obtain ⟨i, rfl, hi, K⟩ := hrel
    clear L0 mk
    obtain ⟨wo, hwo⟩ : ∃ wo, wo = wr := ⟨_, rfl⟩
    rw [← hwo] at K ⊢
    clear hwo
    by_cases hlt : i < n
    · have i1 : (i : Int) < (n : Int) := by omega
      obtain ⟨b8, off8, m, rfl, hm, y0, y1, y2, y3, y4, y5, y6, y7, y8, y9, y10, rdm⟩ := (H.out.2.2.1.k0 K.out).at hlt
      obtain ⟨m1, hm1, em⟩ := er_at H.out.2.2.2.1 hm
      obtain ⟨p1, hp1⟩ : ∃ p1, p1 = m1.va := ⟨_, rfl⟩
      obtain ⟨c1, hc1⟩ : ∃ c1, c1 = m1.vc := ⟨_, rfl⟩
      have e1 := er_ex em
      rw [← hp1, ← hc1] at e1
      have wd1 : Reads wo p1 (m.vn + 2) c1 (m.val ++ [193, 194]) := by
        have := Reads.kept K.out (H.out.2.1 m1 (List.mem_of_getElem? hm1)) (fun _ _ z => z)
        rw [e1] at this
        exact this
      obtain ⟨b, off, m9, e9, hm9, x0, x1, x2, x3, x4, x5, x6, x7, x8, x9, x10, _⟩ := (H.out.1.k0 K.out).at (show i < n + 1 by omega)
      injection e9 with e9
      injection e9 with q1 q2
      subst q1
      subst q2
      rw [List.getElem?_append_left (by rw [H.out.2.2.2.2.2]; exact hlt), hm1] at hm9
      have e2 := Option.some.inj hm9
      rw [← e2, e1] at x0 x1 x2 x3 x4 x5 x6 x7 x8 x9 x10
      dsimp only at x0 x1 x2 x3 x4 x5 x6 x7 x8 x9 x10
      rw [Nat.zero_add] at x0 x1 x2 x3 x4 x5 x6 x7 x8 x9 x10
      obtain ⟨W4, hW4⟩ : ∃ W4, W4 = wo.alloc (.cells #[.int .i64 m.client, .int .i64 m.op, .bool m.put, .string m.key, .slice p1 m.vn c1, .int .i64 m.st, .int .i64 m.frm, .int .i64 m.to, .bool m.opn, .int .i64 m.tx, .int .i64 m.ty] 38) := ⟨_, rfl⟩
      obtain ⟨D, hD⟩ : ∃ D, D = wo.heap.size := ⟨_, rfl⟩
      have S4 : Hid (Kept (fun _ => False) wo W4 ∧ W4.heap[D]? = some (.cells #[.int .i64 m.client, .int .i64 m.op, .bool m.put, .string m.key, .slice p1 m.vn c1, .int .i64 m.st, .int .i64 m.frm, .int .i64 m.to, .bool m.opn, .int .i64 m.tx, .int .i64 m.ty] 38 (0, 0)) ∧ Reads wo p1 (m.vn + 2) c1 (m.val ++ [193, 194]) ∧ Reads wo m.va m.vn m.vc m.val ∧ m.vn + 8 ≤ 140737488355328) := by
        rw [hW4, hD]
        exact ⟨(Kept.refl _ _).alloc _, alloc_new _ _, wd1, rdm, H.out.2.2.2.2.1 m (List.mem_of_getElem? hm)⟩
      have E4 : Hid (W4 = wo.alloc (.cells #[.int .i64 m.client, .int .i64 m.op, .bool m.put, .string m.key, .slice p1 m.vn c1, .int .i64 m.st, .int .i64 m.frm, .int .i64 m.to, .bool m.opn, .int .i64 m.tx, .int .i64 m.ty] 38) ∧ D = wo.heap.size) := ⟨hW4, hD⟩
      clear hW4 hD hm hm1 em hp1 hc1 e1 wd1 hm9 e2 rdm
      go_upto_region 7 with fail
      rw [← E4.out.1, ← E4.out.2]
      replace y0 := S4.out.1.cell y0 (fun z => z)
      replace y1 := S4.out.1.cell y1 (fun z => z)
      replace y2 := S4.out.1.cell y2 (fun z => z)
      replace y3 := S4.out.1.cell y3 (fun z => z)
      replace y4 := S4.out.1.cell y4 (fun z => z)
      replace y5 := S4.out.1.cell y5 (fun z => z)
      replace y6 := S4.out.1.cell y6 (fun z => z)
      replace y7 := S4.out.1.cell y7 (fun z => z)
      replace y8 := S4.out.1.cell y8 (fun z => z)
      replace y9 := S4.out.1.cell y9 (fun z => z)
      replace y10 := S4.out.1.cell y10 (fun z => z)
      obtain ⟨W5, hW5⟩ : ∃ W5, W5 = W4.alloc (.cells #[.int .i64 m.client, .int .i64 m.op, .bool m.put, .string m.key, .slice m.va m.vn m.vc, .int .i64 m.st, .int .i64 m.frm, .int .i64 m.to, .bool m.opn, .int .i64 m.tx, .int .i64 m.ty] 38) := ⟨_, rfl⟩
      obtain ⟨E, hE⟩ : ∃ E, E = W4.heap.size := ⟨_, rfl⟩
      have S5 : Hid (Kept (fun _ => False) wo W5 ∧ W5.heap[D]? = some (.cells #[.int .i64 m.client, .int .i64 m.op, .bool m.put, .string m.key, .slice p1 m.vn c1, .int .i64 m.st, .int .i64 m.frm, .int .i64 m.to, .bool m.opn, .int .i64 m.tx, .int .i64 m.ty] 38 (0, 0)) ∧ W5.heap[E]? = some (.cells #[.int .i64 m.client, .int .i64 m.op, .bool m.put, .string m.key, .slice m.va m.vn m.vc, .int .i64 m.st, .int .i64 m.frm, .int .i64 m.to, .bool m.opn, .int .i64 m.tx, .int .i64 m.ty] 38 (0, 0)) ∧ Reads W5 p1 (m.vn + 2) c1 (m.val ++ [193, 194]) ∧ Reads W5 m.va m.vn m.vc m.val ∧ m.vn + 8 ≤ 140737488355328) := by
        have K5 : Kept (fun _ => False) W4 W5 := by rw [hW5]; exact (Kept.refl _ _).alloc _
        have K6 : Kept (fun _ => False) wo W5 := S4.out.1.trans K5 (fun _ _ z => z)
        exact ⟨K6, K5.get S4.out.2.1 (fun z => z), by rw [hW5, hE]; exact alloc_new _ _, Reads.kept K6 S4.out.2.2.1 (fun _ _ z => z), Reads.kept K6 S4.out.2.2.2.1 (fun _ _ z => z), S4.out.2.2.2.2⟩
      have E5 : Hid (W5 = W4.alloc (.cells #[.int .i64 m.client, .int .i64 m.op, .bool m.put, .string m.key, .slice m.va m.vn m.vc, .int .i64 m.st, .int .i64 m.frm, .int .i64 m.to, .bool m.opn, .int .i64 m.tx, .int .i64 m.ty] 38) ∧ E = W4.heap.size) := ⟨hW5, hE⟩
      clear hW5 hE E4 S4
      go_upto_region 8 with fail
      rw [← E5.out.1, ← E5.out.2]
      clear E5 x0 x1 x2 x3 x4 x5 x6 x7 x8 x9 x10 y0 y1 y2 y3 y4 y5 y6 y7 y8 y9 y10
      have f0 := cell_blk S5.out.2.1 0 (v := .int .i64 m.client) rfl
      have f1 := cell_blk S5.out.2.1 1 (v := .int .i64 m.op) rfl
      have f2 := cell_blk S5.out.2.1 2 (v := .bool m.put) rfl
      have f3 := cell_blk S5.out.2.1 3 (v := .string m.key) rfl
      have f4 := cell_blk S5.out.2.1 4 (v := .slice p1 m.vn c1) rfl
      have f5 := cell_blk S5.out.2.1 5 (v := .int .i64 m.st) rfl
      have f6 := cell_blk S5.out.2.1 6 (v := .int .i64 m.frm) rfl
      have f7 := cell_blk S5.out.2.1 7 (v := .int .i64 m.to) rfl
      have f8 := cell_blk S5.out.2.1 8 (v := .bool m.opn) rfl
      have f9 := cell_blk S5.out.2.1 9 (v := .int .i64 m.tx) rfl
      have f10 := cell_blk S5.out.2.1 10 (v := .int .i64 m.ty) rfl
      have h0 := cell_blk S5.out.2.2.1 0 (v := .int .i64 m.client) rfl
      have h1 := cell_blk S5.out.2.2.1 1 (v := .int .i64 m.op) rfl
      have h2 := cell_blk S5.out.2.2.1 2 (v := .bool m.put) rfl
      have h3 := cell_blk S5.out.2.2.1 3 (v := .string m.key) rfl
      have h4 := cell_blk S5.out.2.2.1 4 (v := .slice m.va m.vn m.vc) rfl
      have h5 := cell_blk S5.out.2.2.1 5 (v := .int .i64 m.st) rfl
      have h6 := cell_blk S5.out.2.2.1 6 (v := .int .i64 m.frm) rfl
      have h7 := cell_blk S5.out.2.2.1 7 (v := .int .i64 m.to) rfl
      have h8 := cell_blk S5.out.2.2.1 8 (v := .bool m.opn) rfl
      have h9 := cell_blk S5.out.2.2.1 9 (v := .int .i64 m.tx) rfl
      have h10 := cell_blk S5.out.2.2.1 10 (v := .int .i64 m.ty) rfl
      have s1 := (reads_pre S5.out.2.2.2.1 S5.out.2.2.2.2.1.length).string
      have s2 := S5.out.2.2.2.2.1.string
      have vb := S5.out.2.2.2.2.2
      obtain ⟨b1, o1, hb1, hcs⟩ := S5.out.2.2.2.1.cells (by omega)
      subst hb1
      have k0 := hcs m.vn (by omega)
      have k1 := hcs (m.vn + 1) (by omega)
      rw [show m.vn = m.vn + 0 by omega, getD_app S5.out.2.2.2.2.1.length] at k0
      rw [getD_app S5.out.2.2.2.2.1.length] at k1
      have k0 : W5.cell? ⟨b1, o1 + m.vn, none⟩ = some (.int .u8 193) := k0
      have k1 : W5.cell? ⟨b1, o1 + (m.vn + 1), none⟩ = some (.int .u8 194) := k1
      have c1r := S5.out.2.2.2.1.room
      have c1s := S5.out.2.2.2.1.small
      unfold maxLen at c1s
      have wv : wrap64 ((m.vn : Int) + 2) = (m.vn : Int) + 2 := by unfold wrap64; omega
      have wv1 : wrap64 ((m.vn : Int) + 1) = (m.vn : Int) + 1 := by unfold wrap64; omega
      have KE : Hid (Kept (fun _ => False) w W5) := K.out.trans S5.out.1 (fun _ _ z => z)
      clear hcs S5
      go_wp2_with fail
      go_roundw
      case rel => exact ⟨i + 1, by go_num, by omega, KE⟩
      case measure => simp [intOf] <;> omega
    · have i1 : ¬ (i : Int) < (n : Int) := by omega
      go_wp2_with fail
      go_ret
      exact ⟨rfl, K.out⟩
end Go.Proofs.Ytodmakcklacbfaa
