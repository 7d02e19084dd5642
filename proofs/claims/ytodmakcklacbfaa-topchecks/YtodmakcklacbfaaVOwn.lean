import Derived.Test.YtodmakcklacbfaaVQ
namespace Go.Proofs.Ytodmakcklacbfaa
open Go.RowKit 

/-- A call without where its bytes lie. -/
def er (m : Cm) : Cm := { m with va := none, vc := 0 }
theorem own_none5 (b0 : Nat) (w : World) : w.ownsRow b0 5 1 (.slice none 0 0) 0 (cellsOf []) := ⟨rfl, .inl ⟨rfl, rfl⟩⟩
def RetW (Q : Option Addr → Nat → World → Prop) (n : Nat) (o : Ending) (w : World) : Prop := ∃ p c, o = .returned (.slice p n c) ∧ Q p c w
theorem RetW.mk {Q : Option Addr → Nat → World → Prop} {n : Nat} {o : Ending} {w : World} (p : Option Addr) (c : Nat) (h : o = .returned (.slice p n c)) (hq : Q p c w) : RetW Q n o w := ⟨p, c, h, hq⟩
set_option maxRecDepth 100000 in
theorem tOwn {w : World} {a : Option Addr} {n c : Nat} {l : List Nat} (r : Reads w a n c l) (hn : n + 1 ≤ 140737488355328) : Calls Try.prog 57 #[.slice a n c] w (RetW (fun p c' w' => Reads w' p n c' l ∧ Kept (fun _ => False) w w' ∧ ∀ ad, p = some ad → ∃ C fr, w'.heap[ad.block]? = some (.cells C 5 fr)) n) := by
  have H : Hid (Reads w a n c l) := r
  clear r
  go_enter Try.func57, Try.ntmps57
  go_wp2_with
    (first
      | (at_builtin; refine wpList_append_bytes _ rfl _ (.tmp 3) rfl w.heap.size (.slice none 0 0) 0 [] rfl (own_none5 _ _) _ n l rfl H.out.src (by omega) (Nat.le_refl _) ?_; intro p9 c9 w9 ho hg hn9)
      | fail)
  have O : w9.ownsRow w.heap.size 5 1 (.slice p9 n c9) n (cellsOf l) := by
    have := ho.out
    rw [Nat.zero_add, List.nil_append] at this
    exact this
  have G : Hid (Reads w9 p9 n c9 l ∧ Kept (fun _ => False) w w9 ∧ ∀ ad, p9 = some ad → ∃ C fr, w9.heap[ad.block]? = some (.cells C 5 fr)) := by
    obtain ⟨a', cap', e', rd, _⟩ := owns_reads O H.out.bytes
    simp at e'
    rw [← e'.1, ← e'.2] at rd
    refine ⟨rd, (Kept.refl (fun _ => False) w).grown hg.out (fun k _ z => by cases z), fun ad had => ?_⟩
    obtain ⟨cs, hc⟩ := own_type O ad.block (by rw [had]; rfl)
    exact ⟨cs, _, hc⟩
  clear O ho hg hn9
  go_ret
  exact RetW.mk p9 c9 (by simp) G.out
/-- The copies on their way. -/
structure OC (w0 wr : World) (ms : List Cm) (i : Nat) (p : Option Addr) (c : Nat) : Prop where
  ok : ∃ L, QR w0.heap.size wr p i c L ∧ L.map er = (ms.take i).map er
  kept : Kept (fun _ => False) w0 wr
theorem OC.k0 {w0 wr w' : World} {ms : List Cm} {i : Nat} {p : Option Addr} {c : Nat} (h : OC w0 wr ms i p c) (K : Kept (fun _ => False) wr w') : OC w0 w' ms i p c := by
  obtain ⟨L, h1, h2⟩ := h.ok
  exact ⟨⟨L, h1.k0 K, h2⟩, h.kept.trans K (fun _ _ z => z)⟩
set_option maxRecDepth 100000 in
set_option maxHeartbeats 4000000 in
theorem tOwnCalls {w : World} {p0 : Option Addr} {n c0 : Nat} {ms : List Cm} (cr : CRd w p0 n c0 ms) (hb : n ≤ 1300000000000) (hv : ∀ m ∈ ms, m.vn + 1 ≤ 140737488355328) : Calls Try.prog 22 #[.slice p0 n c0] w (RetW (fun p c' w' => OC w w' ms n p c') n) := by
  have rm := cr.room
  have sm := cr.small
  unfold maxLen at sm
  have H : Hid (CRd w p0 n c0 ms ∧ ∀ m ∈ ms, m.vn + 1 ≤ 140737488355328) := ⟨cr, hv⟩
  have S0 : Hid (OC w w ms 0 none 0) := ⟨⟨[], ⟨⟨rfl, ⟨rfl, .inl ⟨rfl, rfl⟩⟩⟩, (fun _ h => absurd h (by simp)), (fun _ h => absurd h (by simp))⟩, rfl⟩, Kept.refl _ _⟩
  clear cr hv
  go_enter Try.func22, Try.ntmps22
  go_wp2_with fail
  go_loopw [3, 5, 8] (fun u3 _ u8 wy => ∃ (i c : Nat) (p : Option Addr), u3 = .slice p i c ∧ u8 = .int .i64 (i : Int) ∧ i ≤ n ∧ Hid (OC w wy ms i p c)) (fun _ _ u8 _ => n - (intOf u8).toNat)
  case atStart => exact ⟨0, 0, none, rfl, rfl, Nat.zero_le _, S0⟩
  case round =>
    obtain ⟨i, c, p, rfl, rfl, hi, S⟩ := hrel
    clear S0
    obtain ⟨wo, hwo⟩ : ∃ wo, wo = wr := ⟨_, rfl⟩
    rw [← hwo] at S ⊢
    clear hwo
    by_cases hlt : i < n
    · have i1 : (i : Int) < (n : Int) := by omega
      obtain ⟨b9, off9, m, rfl, hm, y0, y1, y2, y3, y4, y5, y6, y7, y8, y9, y10, rd⟩ := (H.out.1.k0 S.out.kept).at hlt
      obtain ⟨W, hW⟩ : ∃ W, W = wo.alloc (.cells m.cs 38) := ⟨_, rfl⟩
      obtain ⟨E, hE⟩ : ∃ E, E = wo.heap.size := ⟨_, rfl⟩
      have KW : Kept (fun _ => False) wo W := by rw [hW]; exact (Kept.refl _ _).alloc _
      have T : Hid (W.heap[E]? = some (.cells m.cs 38 (0, 0)) ∧ Kept (fun _ => False) wo W ∧ Reads W m.va m.vn m.vc m.val ∧ wo.heap.size ≤ E) := ⟨by rw [hW, hE]; exact alloc_new _ _, KW, Reads.kept KW rd (fun _ _ z => z), by omega⟩
      have EWH : Hid (W = wo.alloc (.cells #[.int .i64 m.client, .int .i64 m.op, .bool m.put, .string m.key, .slice m.va m.vn m.vc, .int .i64 m.st, .int .i64 m.frm, .int .i64 m.to, .bool m.opn, .int .i64 m.tx, .int .i64 m.ty] 38) ∧ E = wo.heap.size) := ⟨hW, hE⟩
      have HM : Hid (ms[i]? = some m ∧ m.vn + 1 ≤ 140737488355328) := ⟨hm, H.out.2 m (List.mem_of_getElem? hm)⟩
      clear hW hE hm KW rd
      go_upto_region 5 with fail
      rw [← EWH.out.1, ← EWH.out.2]
      clear EWH y0 y1 y2 y3 y4 y5 y6 y7 y8 y9 y10
      have d4 := cell_blk T.out.1 4 (v := .slice m.va m.vn m.vc) rfl
      go_wp2_with fail
      refine (tOwn T.out.2.2.1 HM.out.2).mono ?_
      rintro o w2 ⟨p2, c2, rfl, rd2, K2, ty2⟩
      have B2 : w2.heap[E]? = some (.cells m.cs 38 (0, 0)) := K2.get T.out.1 (fun z => z)
      have e4 := cell_blk B2 4 (v := .slice m.va m.vn m.vc) rfl
      have e4f := soft_blk B2 4
      obtain ⟨X, hX⟩ : ∃ X, X = w2.setCell ⟨E, 4, none⟩ (.slice p2 m.vn c2) := ⟨_, rfl⟩
      have nE : ∀ a : Addr, p2 = some a → a.block ≠ E := fun a ha z => by
        obtain ⟨C, fr, hC⟩ := ty2 a ha
        rw [z, B2] at hC
        simp at hC
      have F : Hid (X.heap[E]? = some (.cells (Cm.cs ⟨m.client, m.op, m.put, m.key, p2, m.vn, c2, m.st, m.frm, m.to, m.opn, m.tx, m.ty, m.val⟩) 38 (0, 0)) ∧ Reads X p2 m.vn c2 m.val ∧ (∀ a, p2 = some a → ∃ C fr, X.heap[a.block]? = some (.cells C 5 fr)) ∧ OC w X ms i p c) := by
        rw [hX]
        refine ⟨set_heap B2 4 _, reads_set rd2 nE 4 _, fun a ha => ?_, S.out.k0 (kept_setv (T.out.2.1.trans K2 (fun _ _ z => z)) T.out.2.2.2 _ _)⟩
        obtain ⟨C, fr, hC⟩ := ty2 a ha
        exact ⟨C, fr, (set_other 4 _ (nE a ha)).trans hC⟩
      have EX : Hid (X = w2.setCell ⟨E, 4, none⟩ (.slice p2 m.vn c2)) := hX
      clear hX nE B2 rd2 K2 ty2 d4
      go_upto_region 6 with fail
      rw [← EX.out]
      clear EX e4 e4f
      have d0 := cell_blk F.out.1 0 (v := .int .i64 m.client) rfl
      have d1 := cell_blk F.out.1 1 (v := .int .i64 m.op) rfl
      have d2 := cell_blk F.out.1 2 (v := .bool m.put) rfl
      have d3 := cell_blk F.out.1 3 (v := .string m.key) rfl
      have d4 := cell_blk F.out.1 4 (v := .slice p2 m.vn c2) rfl
      have d5 := cell_blk F.out.1 5 (v := .int .i64 m.st) rfl
      have d6 := cell_blk F.out.1 6 (v := .int .i64 m.frm) rfl
      have d7 := cell_blk F.out.1 7 (v := .int .i64 m.to) rfl
      have d8 := cell_blk F.out.1 8 (v := .bool m.opn) rfl
      have d9 := cell_blk F.out.1 9 (v := .int .i64 m.tx) rfl
      have d10 := cell_blk F.out.1 10 (v := .int .i64 m.ty) rfl
      obtain ⟨L, q, eL⟩ := F.out.2.2.2.ok
      have QL : Hid (QR w.heap.size X p i c L ∧ L.map er = (ms.take i).map er) := ⟨q, eL⟩
      have vb : Hid (i + 1 ≤ maxLen ∧ ((i + 1) + (i + 1) / 4 + 192) * 112 ≤ 281474976710656) := by
        unfold maxLen
        exact ⟨by omega, by omega⟩
      clear q eL
      go_upto_region 7 with
        (first | (at_builtin; refine wpList_append_all _ rfl (.tmp 16) (.tmp 18) 27 38 27 _ 11 112 rfl Try.underlying27 Try.info38c rfl w.heap.size (.slice p i c) i (ccells L) rfl ((QL.out.1.k0 ((Kept.refl (fun _ => False) X).alloc _)).row.row) _ 1 (ccells [⟨m.client, m.op, m.put, m.key, p2, m.vn, c2, m.st, m.frm, m.to, m.opn, m.tx, m.ty, m.val⟩]) rfl (src_calls [⟨m.client, m.op, m.put, m.key, p2, m.vn, c2, m.st, m.frm, m.to, m.opn, m.tx, m.ty, m.val⟩] 1 rfl (heap_alloc_new X _)) vb.out.1 vb.out.2 (Nat.le_trans F.out.2.2.2.kept.size ((Kept.refl (fun _ => False) X).alloc _).size) ?_; intro pa ca wa ho hg hn9) | fail)
      have G : Hid (OC w wa ms (i + 1) pa ca) := by
        have A : Kept (fun _ => False) X _ := (Kept.refl (fun _ => False) X).alloc (.cells #[.int .i64 m.client, .int .i64 m.op, .bool m.put, .string m.key, .slice p2 m.vn c2, .int .i64 m.st, .int .i64 m.frm, .int .i64 m.to, .bool m.opn, .int .i64 m.tx, .int .i64 m.ty] 38)
        have Q := (QL.out.1.k0 A).grow (news := [⟨m.client, m.op, m.put, m.key, p2, m.vn, c2, m.st, m.frm, m.to, m.opn, m.tx, m.ty, m.val⟩]) (n := 1) rfl (fun y hy => by rw [List.mem_singleton.1 hy]; exact Reads.kept A F.out.2.1 (fun _ _ z => z)) (fun y hy ad had => by
          rw [List.mem_singleton.1 hy] at had
          obtain ⟨C, fr, hC⟩ := F.out.2.2.1 ad had
          exact ⟨C, fr, A.get hC (fun z => z)⟩) ho.out hg.out (F.out.2.2.2.kept.alloc _) (Nat.le_refl _)
        refine ⟨⟨_, Q.1, ?_⟩, Q.2⟩
        rw [List.map_append, QL.out.2, List.take_add_one, HM.out.1, List.map_append]
        rfl
      clear ho hg hn9
      go_wp2_with fail
      go_roundw
      case rel => exact ⟨i + 1, ca, pa, rfl, by go_num, by omega, G⟩
      case measure => simp [intOf] <;> omega
    · have i1 : ¬ (i : Int) < (n : Int) := by omega
      have ei : n = i := by omega
      subst ei
      go_wp2_with fail
      go_ret
      exact RetW.mk p c rfl S.out
end Go.Proofs.Ytodmakcklacbfaa
