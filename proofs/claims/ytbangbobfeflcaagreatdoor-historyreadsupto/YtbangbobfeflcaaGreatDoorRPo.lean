import Derived.Test.YtbangbobfeflcaaGreatDoorRPa
namespace Go.Proofs.YtbangbobfeflcaaGreatDoor
open Go.RowKit 

/-- The values of events lie in blocks of their own. -/
def Dst (wr : World) (L : List Ev) : Prop := L.Pairwise (fun a b => ∀ x, blockOf a.va = some x → blockOf b.va ≠ some x) ∧ ∀ e ∈ L, ∀ x, blockOf e.va = some x → x < wr.heap.size
theorem Dst.more {wr W : World} {L : List Ev} {x : Ev} (h : Dst wr L) (hx : ∀ b, blockOf x.va = some b → wr.heap.size ≤ b ∧ b < W.heap.size) (hs : wr.heap.size ≤ W.heap.size) : Dst W (L ++ [x]) := by
  refine ⟨List.pairwise_append.2 ⟨h.1, List.pairwise_singleton _ _, fun a ha b hb z hz q => ?_⟩, fun e he z hz => ?_⟩
  · rw [List.mem_singleton.1 hb] at q
    have q1 := h.2 a ha z hz
    have q2 := hx z q
    omega
  · rcases List.mem_append.1 he with m | m
    · have := h.2 e m z hz
      omega
    · rw [List.mem_singleton.1 m] at hz
      exact (hx z hz).2
def PaO (w : World) (es : List Ev) (r : List UInt8) (o : Ending) (w' : World) : Prop := (r = [] ∧ ∃ p c L, o = .returned (.tuple #[.slice p es.length c, .int .i64 0, .int .i64 0]) ∧ PS w w' p es.length c L ∧ L.map Ev.core = es.map Ev.core ∧ Dst w' L ∧ ∀ e ∈ L, ∀ x, blockOf e.va = some x → w.heap.size ≤ x) ∨ (r ≠ [] ∧ o = .returned (.tuple #[.slice none 0 0, .int .i64 ((es.length + 1 : Nat) : Int), .int .i64 80]) ∧ Kept (fun _ => False) w w')
def PO (w wr : World) (es : List Ev) (p : Option Addr) (j c : Nat) : Prop := ∃ L, PS w wr p j c L ∧ L.map Ev.core = (es.take j).map Ev.core ∧ Dst wr L
set_option maxRecDepth 100000 in
set_option maxHeartbeats 4000000 in
theorem hParseO (es : List Ev) (r : List UInt8) (w : World) (G : Glob w) (E : EVs w) (hg : ∀ e ∈ es, GoodE e) (hr : r = [] ∨ (r ≠ [] ∧ BadR r)) (hz : (txtF es ++ r).length ≤ 1000000000) : Calls Tryz.prog 13 #[.string ⟨(txtF es ++ r).toArray⟩] w (PaO w es r) := by
  obtain ⟨N, hN⟩ : ∃ N, es.length = N := ⟨_, rfl⟩
  have nz : N ≤ 1000000000 := by
    have q := es_len es
    rw [List.length_append] at hz
    omega
  have GL : Hid (Glob w ∧ EVs w) := ⟨G, E⟩
  have HG : Hid ((∀ e ∈ es, GoodE e) ∧ (r = [] ∨ (r ≠ [] ∧ BadR r)) ∧ (txtF es ++ r).length ≤ 1000000000 ∧ es.length = N) := ⟨hg, hr, hz, hN⟩
  have S0 : Hid (PO w w es none 0 0) := ⟨[], ⟨EaR.nil _ _, fun e h => (by cases h), Kept.refl _ _⟩, rfl, List.Pairwise.nil, fun e h => (by cases h)⟩
  have t0 : (⟨(txtF es ++ r).toArray⟩ : ByteArray) = tex es r 0 := rfl
  rw [t0]
  clear G E hg hr hz t0 hN
  go_enter Tryz.func13, Tryz.ntmps13
  go_wp2_with fail
  go_loopw [0, 5, 6, 7, 8, 9] (fun u0 u5 _ _ _ _ wr => ∃ (j : Nat) (p : Option Addr) (c : Nat), u0 = .string (tex es r j) ∧ u5 = .slice p j c ∧ j ≤ N ∧ Hid (PO w wr es p j c)) (fun _ u5 _ _ _ _ _ => N - lenOf u5)
  case atStart => exact ⟨0, none, 0, rfl, rfl, by omega, S0⟩
  case round =>
    obtain ⟨j, p0, c0, rfl, rfl, hj, S⟩ := hrel
    clear S0
    obtain ⟨wo, hwo⟩ : ∃ wo, wo = wr := ⟨_, rfl⟩
    rw [← hwo] at S ⊢
    clear hwo
    obtain ⟨L, S⟩ := S.out
    have S : Hid (PS w wo p0 j c0 L ∧ L.map Ev.core = (es.take j).map Ev.core ∧ Dst wo L) := S
    have GO : Hid (Glob wo ∧ EVs wo) := ⟨GL.out.1.kept S.out.1.kept, GL.out.2.by (below_of S.out.1.kept)⟩
    by_cases hlt : j < N
    · obtain ⟨e0, he⟩ : ∃ e, es[j]? = some e := ⟨_, List.getElem?_eq_getElem (by rw [HG.out.2.2.2]; exact hlt)⟩
      have g0 := HG.out.1 e0 (List.mem_of_getElem? he)
      have tz := tex_len es r j
      have ct := @cutT (lineB e0).data.toList (txtF (es.drop (j + 1)) ++ r) (line_no e0) (by
        have q := congrArg (fun b : ByteArray => b.data.toList.length) (tex_at (r := r) he)
        have q : (txtF (es.drop j) ++ r).length = ((lineB e0).data.toList ++ 10 :: (txtF (es.drop (j + 1)) ++ r)).length := by simpa [tex] using q
        have := HG.out.2.2.1
        omega)
      rw [← tex_at (r := r) he, str_T] at ct
      have ct : CutAt (tex es r j) ⟨#[10]⟩ (lineB e0) (tex es r (j + 1)) true := ct
      have n0 : (tex es r j).toList.isEmpty = false := by
        rw [tex_at (r := r) he]
        exact empty_T (by simp)
      have HE : Hid (es[j]? = some e0) := he
      have GQ : Hid (∀ U, Glob U → EVs U → Calls Tryz.prog 30 #[.string (lineB e0)] U fun o w' => Same U w' e0 o) := fun U h1 h2 => hGuessG e0 g0.1 g0.2 h2 h1.tab h1.kw h1.ne h1.gm
      have VL : Hid (e0.val.length = e0.vn ∧ (∀ c ∈ e0.val, c < 256) ∧ faultE e0 = 0) := by
        obtain ⟨w0, rv⟩ := g0.2
        exact ⟨rv.length, rv.bytes, g0.1⟩
      have LQ : Hid (∀ (p : Option Addr) (c : Nat) U, Tab U → KWs U → Reads U p e0.vn c e0.val → Calls Tryz.prog 32 #[.agg #[.int .i64 e0.kind, .int .i64 e0.client, .int .i64 e0.op, .bool e0.put, .string e0.key, .slice p e0.vn c, .int .i64 e0.st, .int .i64 e0.tx, .int .i64 e0.ty]] U fun o w' => o = .returned (.string (lineB e0)) ∧ Kept (fun _ => False) U w') := fun p c U h1 h2 h3 => hLineG ⟨e0.kind, e0.client, e0.op, e0.put, e0.key, p, e0.vn, c, e0.st, e0.tx, e0.ty, e0.val⟩ g0.1 h1 h2 h3
      have FQ : Hid (∀ (p : Option Addr) (c : Nat) U, Calls Tryz.prog 31 #[.agg #[.int .i64 e0.kind, .int .i64 e0.client, .int .i64 e0.op, .bool e0.put, .string e0.key, .slice p e0.vn c, .int .i64 e0.st, .int .i64 e0.tx, .int .i64 e0.ty]] U fun o w' => o = .returned (.int .i64 0) ∧ Kept (fun _ => False) U w') := fun p c U => by
        have q := hFault ⟨e0.kind, e0.client, e0.op, e0.put, e0.key, p, e0.vn, c, e0.st, e0.tx, e0.ty, e0.val⟩ (by
          have := val_le (fault_all g0.1).2.2.2.1
          show e0.vn ≤ _
          omega) U
        rw [show faultE ⟨e0.kind, e0.client, e0.op, e0.put, e0.key, p, e0.vn, c, e0.st, e0.tx, e0.ty, e0.val⟩ = 0 from g0.1] at q
        exact q
      obtain ⟨t, ht⟩ : ∃ t, lineB e0 = t := ⟨_, rfl⟩
      obtain ⟨A, hA⟩ : ∃ A, tex es r j = A := ⟨_, rfl⟩
      obtain ⟨B1, hB1⟩ : ∃ B, tex es r (j + 1) = B := ⟨_, rfl⟩
      have HB : Hid (tex es r (j + 1) = B1) := hB1
      rw [ht] at ct GQ LQ
      rw [hA] at ct n0 ⊢
      rw [hB1] at ct
      have CC : Hid (Calls Tryz.prog 29 #[.string A, .string ⟨#[10]⟩] wo fun o w' => o = .returned (.tuple #[.string t, .string B1, .bool true]) ∧ ∃ n, w' = wo.drewN n) := by obtain ⟨x, hx⟩ := GO.out.1.gm; exact hCut ct hx
      clear g0 tz ct he ht hA hB1
      obtain ⟨kd, cl, op, pt, ky, va, vn, vc, st, tx, ty, val⟩ := e0
      simp only [Same] at GQ LQ FQ VL
      go_wp2_with fail
      refine CC.out.mono ?_
      rintro o w2 ⟨rfl, n2, hw2⟩
      have K2 : Hid (Kept (fun _ => False) wo w2) := by rw [hw2]; exact (Kept.refl _ _).drewN n2
      clear hw2 CC
      have G2 : Hid (Glob w2 ∧ EVs w2) := ⟨GO.out.1.kept K2.out, GO.out.2.by (below_of K2.out)⟩
      have CG := GQ.out w2 G2.out.1 G2.out.2
      have CG : Hid (Calls Tryz.prog 30 #[.string t] w2 _) := CG
      clear GQ
      go_wp2_with fail
      refine CG.out.mono ?_
      rintro o w3 ⟨p, k, c, rfl, ro3, K3⟩
      have kv : k = vn := by rw [← own_len5 ro3]; exact VL.out.1
      subst kv
      have S3 : Hid (PS w w3 p0 j c0 L) := S.out.1.k0 (K2.out.trans K3 (fun _ _ z => z))
      have R3 : Hid (w3.ownsRow w.heap.size 5 1 (.slice p k c) k (cellsOf val)) := owns_mono ro3 (Nat.le_trans S.out.1.kept.size K2.out.size)
      have FB : Hid (∀ b, blockOf p = some b → wo.heap.size ≤ b ∧ b < w3.heap.size) := fun b hb => by
        have q := own_lt ro3 b hb
        have q2 := K2.out.size
        omega
      have W3 : Hid (wo.heap.size ≤ w3.heap.size) := Nat.le_trans K2.out.size K3.size
      clear ro3
      have G3 : Hid (Glob w3) := G2.out.1.kept K3
      obtain ⟨W, hW⟩ : ∃ W, W = w3.alloc (.cells #[.int .i64 kd, .int .i64 cl, .int .i64 op, .bool pt, .string ky, .slice p k c, .int .i64 st, .int .i64 tx, .int .i64 ty] 39) := ⟨_, rfl⟩
      obtain ⟨B, hB⟩ : ∃ B, B = w3.heap.size := ⟨_, rfl⟩
      have J : Hid (W.heap[B]? = some (.cells #[.int .i64 kd, .int .i64 cl, .int .i64 op, .bool pt, .string ky, .slice p k c, .int .i64 st, .int .i64 tx, .int .i64 ty] 39 (0, 0)) ∧ Kept (fun _ => False) w3 W) := ⟨by rw [hW, hB]; exact alloc_new _ _, by rw [hW]; exact (Kept.refl _ _).alloc _⟩
      have EW : Hid (W = w3.alloc (.cells #[.int .i64 kd, .int .i64 cl, .int .i64 op, .bool pt, .string ky, .slice p k c, .int .i64 st, .int .i64 tx, .int .i64 ty] 39) ∧ B = w3.heap.size) := ⟨hW, hB⟩
      clear hW hB CG K3
      go_upto_region 5 with fail
      rw [← EW.out.1, ← EW.out.2]
      clear EW
      have a0 := cell_blk J.out.1 0 (v := .int .i64 kd) rfl
      have a1 := cell_blk J.out.1 1 (v := .int .i64 cl) rfl
      have a2 := cell_blk J.out.1 2 (v := .int .i64 op) rfl
      have a3 := cell_blk J.out.1 3 (v := .bool pt) rfl
      have a4 := cell_blk J.out.1 4 (v := .string ky) rfl
      have a5 := cell_blk J.out.1 5 (v := .slice p k c) rfl
      have a6 := cell_blk J.out.1 6 (v := .int .i64 st) rfl
      have a7 := cell_blk J.out.1 7 (v := .int .i64 tx) rfl
      have a8 := cell_blk J.out.1 8 (v := .int .i64 ty) rfl
      go_wp2_with fail
      refine (FQ.out p c _).mono ?_
      rintro o w4 ⟨rfl, K4⟩
      have J4 : Hid (w4.heap[B]? = some (.cells #[.int .i64 kd, .int .i64 cl, .int .i64 op, .bool pt, .string ky, .slice p k c, .int .i64 st, .int .i64 tx, .int .i64 ty] 39 (0, 0)) ∧ Kept (fun _ => False) w3 w4) := ⟨K4.get J.out.1 (fun z => z), J.out.2.trans K4 (fun _ _ z => z)⟩
      clear K4 FQ J a0 a1 a2 a3 a4 a5 a6 a7 a8
      have d0 := cell_blk J4.out.1 0 (v := .int .i64 kd) rfl
      have d1 := cell_blk J4.out.1 1 (v := .int .i64 cl) rfl
      have d2 := cell_blk J4.out.1 2 (v := .int .i64 op) rfl
      have d3 := cell_blk J4.out.1 3 (v := .bool pt) rfl
      have d4 := cell_blk J4.out.1 4 (v := .string ky) rfl
      have d5 := cell_blk J4.out.1 5 (v := .slice p k c) rfl
      have d6 := cell_blk J4.out.1 6 (v := .int .i64 st) rfl
      have d7 := cell_blk J4.out.1 7 (v := .int .i64 tx) rfl
      have d8 := cell_blk J4.out.1 8 (v := .int .i64 ty) rfl
      have CL : Hid (Calls Tryz.prog 32 #[.agg #[.int .i64 kd, .int .i64 cl, .int .i64 op, .bool pt, .string ky, .slice p k c, .int .i64 st, .int .i64 tx, .int .i64 ty]] w4 fun o w' => o = .returned (.string t) ∧ Kept (fun _ => False) w4 w') := LQ.out p c w4 (G3.out.kept J4.out.2).tab (G3.out.kept J4.out.2).kw (reads_own (J4.out.2.owns R3.out (fun _ _ z => z)) VL.out.2.1)
      go_wp2_with fail
      refine CL.out.mono ?_
      rintro o w5 ⟨rfl, K5⟩
      have J5 : Hid (w5.heap[B]? = some (.cells #[.int .i64 kd, .int .i64 cl, .int .i64 op, .bool pt, .string ky, .slice p k c, .int .i64 st, .int .i64 tx, .int .i64 ty] 39 (0, 0)) ∧ Kept (fun _ => False) w3 w5) := ⟨K5.get J4.out.1 (fun z => z), J4.out.2.trans K5 (fun _ _ z => z)⟩
      clear K5 CL J4 LQ d0 d1 d2 d3 d4 d5 d6 d7 d8
      have f0 := cell_blk J5.out.1 0 (v := .int .i64 kd) rfl
      have f1 := cell_blk J5.out.1 1 (v := .int .i64 cl) rfl
      have f2 := cell_blk J5.out.1 2 (v := .int .i64 op) rfl
      have f3 := cell_blk J5.out.1 3 (v := .bool pt) rfl
      have f4 := cell_blk J5.out.1 4 (v := .string ky) rfl
      have f5 := cell_blk J5.out.1 5 (v := .slice p k c) rfl
      have f6 := cell_blk J5.out.1 6 (v := .int .i64 st) rfl
      have f7 := cell_blk J5.out.1 7 (v := .int .i64 tx) rfl
      have f8 := cell_blk J5.out.1 8 (v := .int .i64 ty) rfl
      have KA : Hid (Kept (fun _ => False) w5 (w5.alloc (.cells #[.int .i64 kd, .int .i64 cl, .int .i64 op, .bool pt, .string ky, .slice p k c, .int .i64 st, .int .i64 tx, .int .i64 ty] 39))) := (Kept.refl _ _).alloc _
      have S5 : Hid (PS w (w5.alloc (.cells #[.int .i64 kd, .int .i64 cl, .int .i64 op, .bool pt, .string ky, .slice p k c, .int .i64 st, .int .i64 tx, .int .i64 ty] 39)) p0 j c0 L) := S3.out.k0 (J5.out.2.trans KA.out (fun _ _ z => z))
      have R5 : Hid ((w5.alloc (.cells #[.int .i64 kd, .int .i64 cl, .int .i64 op, .bool pt, .string ky, .slice p k c, .int .i64 st, .int .i64 tx, .int .i64 ty] 39)).ownsRow w.heap.size 5 1 (.slice p k c) k (cellsOf val)) := (J5.out.2.trans KA.out (fun _ _ z => z)).owns R3.out (fun _ _ z => z)
      have SR : Hid (Src Tryz.prog 9 22 (.slice (some ⟨w5.heap.size, 0, none⟩) 1 1) 1 (ecs [⟨kd, cl, op, pt, ky, p, k, c, st, tx, ty, val⟩]) (w5.alloc (.cells #[.int .i64 kd, .int .i64 cl, .int .i64 op, .bool pt, .string ky, .slice p k c, .int .i64 st, .int .i64 tx, .int .i64 ty] 39))) := src_ev (alloc_new _ _)
      go_upto_region 8 with
        (first
          | (at_builtin; refine wpList_append_all _ rfl (.tmp 36) (.tmp 38) 22 39 22 _ 9 96 rfl Tryz.underlying22 Tryz.info39c rfl w.heap.size (.slice p0 j c0) j (ecs L) rfl S5.out.row.row _ 1 (ecs [⟨kd, cl, op, pt, ky, p, k, c, st, tx, ty, val⟩]) rfl SR.out (by unfold maxLen; omega) (by omega) S5.out.kept.size ?_; intro p9 c9 w9 ho hg hn9)
          | fail)
      have N9 : Hid (PS w w9 p9 (j + 1) c9 (L ++ [⟨kd, cl, op, pt, ky, p, k, c, st, tx, ty, val⟩])) := S5.out.more (x := ⟨kd, cl, op, pt, ky, p, k, c, st, tx, ty, val⟩) R5.out ho.out hg.out
      have NX : Hid (PO w w9 es p9 (j + 1) c9) := by
        have z1 := (J5.out.2.trans KA.out (fun _ _ z => z)).size
        have z2 := ((Kept.refl (fun j => blockOf p0 = some j) _).grown hg.out (fun j _ z => by rw [blockOf_own] at z; exact z)).size
        have z3 := W3.out
        refine ⟨_, N9.out, core_snoc S.out.2.1 HE.out rfl, S.out.2.2.more (fun b hb => ?_) (by omega)⟩
        have q := FB.out b hb
        omega
      clear ho hg hn9 N9 S5 R5 SR KA J5 f0 f1 f2 f3 f4 f5 f6 f7 f8
      go_wp2_with fail
      go_roundw
      case rel => exact ⟨j + 1, p9, c9, by rw [HB.out], rfl, by omega, NX⟩
      case measure => simp [lenOf]; omega
    · have jN : j = N := by omega
      have HD : Hid (es.drop j = []) := List.drop_eq_nil_of_le (by rw [HG.out.2.2.2]; omega)
      have TE : Hid (tex es r j = ⟨r.toArray⟩) := by
        show tex es r j = _
        unfold tex
        rw [HD.out]
        rfl
      rcases HG.out.2.1 with r0 | ⟨r0, rb⟩
      · have TN : tex es r j = ⟨#[]⟩ := by rw [TE.out, r0]
        rw [TN]
        clear TN
        go_wp2_with fail
        go_ret3
        refine .inl ⟨r0, p0, c0, L, ?_, ?_, ?_, S.out.2.2, fun e he x hx => (own_lt (S.out.1.val e he) x hx).1⟩
        · rw [HG.out.2.2.2, ← jN]; first | rfl | simp
        · rw [HG.out.2.2.2, ← jN]; exact S.out.1
        · have q := S.out.2.1
          rw [List.take_of_length_le (by rw [HG.out.2.2.2]; omega)] at q
          exact q
      · have R0 : Hid (r ≠ []) := r0
        obtain ⟨a, b, f, ct, az, hf⟩ := bad_cut rb (by have := HG.out.2.2.1; rw [List.length_append] at this; omega)
        have n0 : (tex es r j).toList.isEmpty = false := by rw [TE.out]; exact empty_T r0
        rw [← TE.out] at ct
        obtain ⟨A, hA⟩ : ∃ A, tex es r j = A := ⟨_, rfl⟩
        rw [hA] at ct n0 ⊢
        have CC : Hid (Calls Tryz.prog 29 #[.string A, .string ⟨#[10]⟩] wo fun o w' => o = .returned (.tuple #[.string a, .string b, .bool f]) ∧ ∃ n, w' = wo.drewN n) := by obtain ⟨x, hx⟩ := GO.out.1.gm; exact hCut ct hx
        have FI : Hid (PaO w es r (.returned (.tuple #[.slice none 0 0, .int .i64 ((j + 1 : Nat) : Int), .int .i64 80])) = PaO w es r (.returned (.tuple #[.slice none 0 0, .int .i64 ((es.length + 1 : Nat) : Int), .int .i64 80]))) := by
          show _ = _
          rw [HG.out.2.2.2, jN]
        have AZ : Hid (a.size ≤ 1000000000) := az
        have HL : Hid (f = true → ¬ LineOf a.data.toList) := fun z => by
          rcases hf with q | q
          · rw [q] at z; cases z
          · exact q.2
        clear ct hA az r0 rb TE HD
        go_wp2_with fail
        refine CC.out.mono ?_
        rintro o w2 ⟨rfl, n2, hw2⟩
        have K2 : Hid (Kept (fun _ => False) wo w2) := by rw [hw2]; exact (Kept.refl _ _).drewN n2
        clear hw2 CC
        have G2 : Hid (Glob w2 ∧ EVs w2) := ⟨GO.out.1.kept K2.out, GO.out.2.by (below_of K2.out)⟩
        have CG : Hid (Calls Tryz.prog 30 #[.string a] w2 (GuP w2)) := hGuessA a AZ.out w2 G2.out.2 G2.out.1.tab G2.out.1.kw G2.out.1.ne G2.out.1.gm
        go_wp2_with fail
        refine CG.out.mono ?_
        rintro o w3 ⟨⟨kd, cl, op, pt, ky, p, k, c, st, tx, ty, val⟩, rfl, ro3, hb3, K3⟩
        simp only [Ev.agg]
        have KW : Hid (Kept (fun _ => False) w w3) := S.out.1.kept.trans (K2.out.trans K3 (fun _ _ z => z)) (fun _ _ z => z)
        have R3 : Hid (w3.ownsRow w2.heap.size 5 1 (.slice p k c) k (cellsOf val) ∧ (∀ c ∈ val, c < 256)) := ⟨ro3, hb3⟩
        have G3 : Hid (Glob w3) := G2.out.1.kept K3
        clear ro3 hb3
        obtain ⟨W, hW⟩ : ∃ W, W = w3.alloc (.cells #[.int .i64 kd, .int .i64 cl, .int .i64 op, .bool pt, .string ky, .slice p k c, .int .i64 st, .int .i64 tx, .int .i64 ty] 39) := ⟨_, rfl⟩
        obtain ⟨B, hB⟩ : ∃ B, B = w3.heap.size := ⟨_, rfl⟩
        have J : Hid (W.heap[B]? = some (.cells #[.int .i64 kd, .int .i64 cl, .int .i64 op, .bool pt, .string ky, .slice p k c, .int .i64 st, .int .i64 tx, .int .i64 ty] 39 (0, 0)) ∧ Kept (fun _ => False) w3 W) := ⟨by rw [hW, hB]; exact alloc_new _ _, by rw [hW]; exact (Kept.refl _ _).alloc _⟩
        have EW : Hid (W = w3.alloc (.cells #[.int .i64 kd, .int .i64 cl, .int .i64 op, .bool pt, .string ky, .slice p k c, .int .i64 st, .int .i64 tx, .int .i64 ty] 39) ∧ B = w3.heap.size) := ⟨hW, hB⟩
        clear hW hB CG K3
        go_upto_region 5 with fail
        rw [← EW.out.1, ← EW.out.2]
        clear EW
        rcases hf with rfl | ⟨rfl, -⟩
        · go_wp2_with fail
          go_ret3
          refine .inr ⟨R0.out, ?_, KW.out.trans J.out.2 (fun _ _ z => z)⟩
          rw [HG.out.2.2.2, ← jN]
          first | rfl | simp
        · have FQ : Hid (∀ U, Calls Tryz.prog 31 #[.agg #[.int .i64 kd, .int .i64 cl, .int .i64 op, .bool pt, .string ky, .slice p k c, .int .i64 st, .int .i64 tx, .int .i64 ty]] U fun o w' => o = .returned (.int .i64 (faultE ⟨kd, cl, op, pt, ky, p, k, c, st, tx, ty, val⟩)) ∧ Kept (fun _ => False) U w') := fun U => hFault ⟨kd, cl, op, pt, ky, p, k, c, st, tx, ty, val⟩ (by
            show k ≤ _
            have q := (reads_own R3.out.1 R3.out.2)
            have q1 := q.room
            have q2 := q.small
            unfold maxLen at q2
            omega) U
          have a0 := cell_blk J.out.1 0 (v := .int .i64 kd) rfl
          have a1 := cell_blk J.out.1 1 (v := .int .i64 cl) rfl
          have a2 := cell_blk J.out.1 2 (v := .int .i64 op) rfl
          have a3 := cell_blk J.out.1 3 (v := .bool pt) rfl
          have a4 := cell_blk J.out.1 4 (v := .string ky) rfl
          have a5 := cell_blk J.out.1 5 (v := .slice p k c) rfl
          have a6 := cell_blk J.out.1 6 (v := .int .i64 st) rfl
          have a7 := cell_blk J.out.1 7 (v := .int .i64 tx) rfl
          have a8 := cell_blk J.out.1 8 (v := .int .i64 ty) rfl
          obtain ⟨ff, hff⟩ : ∃ ff, faultE ⟨kd, cl, op, pt, ky, p, k, c, st, tx, ty, val⟩ = ff := ⟨_, rfl⟩
          rw [hff] at FQ
          have HF : Hid (faultE ⟨kd, cl, op, pt, ky, p, k, c, st, tx, ty, val⟩ = ff) := hff
          clear hff
          go_wp2_with fail
          refine (FQ.out _).mono ?_
          rintro o w4 ⟨rfl, K4⟩
          have J4 : Hid (w4.heap[B]? = some (.cells #[.int .i64 kd, .int .i64 cl, .int .i64 op, .bool pt, .string ky, .slice p k c, .int .i64 st, .int .i64 tx, .int .i64 ty] 39 (0, 0)) ∧ Kept (fun _ => False) w3 w4) := ⟨K4.get J.out.1 (fun z => z), J.out.2.trans K4 (fun _ _ z => z)⟩
          clear K4 FQ J a0 a1 a2 a3 a4 a5 a6 a7 a8
          by_cases f0 : ff = 0
          · subst f0
            have d0 := cell_blk J4.out.1 0 (v := .int .i64 kd) rfl
            have d1 := cell_blk J4.out.1 1 (v := .int .i64 cl) rfl
            have d2 := cell_blk J4.out.1 2 (v := .int .i64 op) rfl
            have d3 := cell_blk J4.out.1 3 (v := .bool pt) rfl
            have d4 := cell_blk J4.out.1 4 (v := .string ky) rfl
            have d5 := cell_blk J4.out.1 5 (v := .slice p k c) rfl
            have d6 := cell_blk J4.out.1 6 (v := .int .i64 st) rfl
            have d7 := cell_blk J4.out.1 7 (v := .int .i64 tx) rfl
            have d8 := cell_blk J4.out.1 8 (v := .int .i64 ty) rfl
            have RV : Hid (Reads w4 p k c val) := reads_own (J4.out.2.owns R3.out.1 (fun _ _ z => z)) R3.out.2
            have LN : Hid (¬ lineB ⟨kd, cl, op, pt, ky, p, k, c, st, tx, ty, val⟩ = a) := fun z => HL.out (by trivial) ⟨⟨kd, cl, op, pt, ky, p, k, c, st, tx, ty, val⟩, ⟨HF.out, w4, RV.out⟩, by rw [z]⟩
            obtain ⟨t, ht⟩ : ∃ t, lineB ⟨kd, cl, op, pt, ky, p, k, c, st, tx, ty, val⟩ = t := ⟨_, rfl⟩
            have CL : Hid (Calls Tryz.prog 32 #[.agg #[.int .i64 kd, .int .i64 cl, .int .i64 op, .bool pt, .string ky, .slice p k c, .int .i64 st, .int .i64 tx, .int .i64 ty]] w4 fun o w' => o = .returned (.string t) ∧ Kept (fun _ => False) w4 w') := by
              have q := hLineG ⟨kd, cl, op, pt, ky, p, k, c, st, tx, ty, val⟩ HF.out (G3.out.kept J4.out.2).tab (G3.out.kept J4.out.2).kw RV.out
              rw [ht] at q
              exact q
            rw [ht] at LN
            clear ht
            have ne1 : ¬ t = a := LN.out
            have nt := tl_ne ne1
            rw [← Go.ByteArray.toList_eq] at nt
            have nt2 : ¬ t.toList = a.toList := beq_eq_false_iff_ne.1 nt
            go_wp2_with fail
            refine CL.out.mono ?_
            rintro o w5 ⟨rfl, K5⟩
            have KZ : Hid (Kept (fun _ => False) w w5) := KW.out.trans (J4.out.2.trans K5 (fun _ _ z => z)) (fun _ _ z => z)
            clear K5 CL J4 d0 d1 d2 d3 d4 d5 d6 d7 d8
            go_wp2_with fail
            go_ret3
            refine .inr ⟨R0.out, ?_, KZ.out⟩
            rw [HG.out.2.2.2, ← jN]
            first | rfl | simp
          · go_wp2_with fail
            go_ret3
            refine .inr ⟨R0.out, ?_, KW.out.trans J4.out.2 (fun _ _ z => z)⟩
            rw [HG.out.2.2.2, ← jN]
            first | rfl | simp
end Go.Proofs.YtbangbobfeflcaaGreatDoor
