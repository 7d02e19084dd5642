import Derived.Test.YtodmakcklacbfaaRRows
import Derived.Test.YtodmakcklacbfaaRTakAJ
import Derived.Test.YtodmakcklacbfaaRTakB
import Derived.Test.YtodmakcklacbfaaRTakC
import Derived.BigQuiet
namespace Go.Proofs.Ytodmakcklacbfaa
open Go.RowKit Go.Shelf Go.Lib Go.Sort

/-- Both rows on the way. -/
structure TS (w : World) (ms : List Cm) (i : Nat) (p1 : Option Addr) (k1 c1 : Nat) (p2 : Option Addr) (k2 c2 : Nat) (G : List (Int × Int)) (B : List (Nat × Int × Int)) (wr : World) : Prop where
  a : KRow w.heap.size wr p1 k1 c1 (takA ms ms.length ++ B)
  b : TRow w.heap.size wr p2 k2 c2 G
  tk : TakB ms i G B
  kept : Kept (fun _ => False) w wr
theorem TS.k0 {w : World} {ms : List Cm} {i : Nat} {p1 : Option Addr} {k1 c1 : Nat} {p2 : Option Addr} {k2 c2 : Nat} {G : List (Int × Int)} {B : List (Nat × Int × Int)} {wr w' : World} (h : TS w ms i p1 k1 c1 p2 k2 c2 G B wr) (K : Kept (fun _ => False) wr w') : TS w ms i p1 k1 c1 p2 k2 c2 G B w' := ⟨h.a.k0 K, h.b.k0 K, h.tk, h.kept.trans K (fun _ _ z => z)⟩
theorem TS.pass {w : World} {ms : List Cm} {i : Nat} {p1 : Option Addr} {k1 c1 : Nat} {p2 : Option Addr} {k2 c2 : Nat} {G : List (Int × Int)} {B : List (Nat × Int × Int)} {wr : World} (h : TS w ms i p1 k1 c1 p2 k2 c2 G B wr) {m : Cm} (hm : ms[i]? = some m) (no : readB m = false ∨ knowB ms (tg m) = true ∨ tg m ∈ G) : TS w ms (i + 1) p1 k1 c1 p2 k2 c2 G B wr := ⟨h.a, h.b, h.tk.pass hm no, h.kept⟩
set_option maxRecDepth 100000 in
set_option maxHeartbeats 16000000 in
theorem dTaken {w : World} {p0 : Option Addr} {n c0 : Nat} {ms : List Cm} (cr : CRd w p0 n c0 ms) (fit : FitL ms) (hb : n ≤ 1300000000000) : Calls Try.prog 53 #[.slice p0 n c0] w (RetS fun p k c w' => ∃ IN, Tak ms IN ∧ IN.length ≤ 2 * n ∧ KRow w.heap.size w' p k c IN ∧ Kept (fun _ => False) w w') := by
  have rm := cr.room
  have sm := cr.small
  unfold maxLen at sm
  have H : Hid (CRd w p0 n c0 ms ∧ FitL ms ∧ n ≤ 1300000000000) := ⟨cr, fit, hb⟩
  have L0 : Hid (KRow w.heap.size w none 0 0 (takA ms 0) ∧ Kept (fun _ => False) w w) := ⟨KRow.nil _ _, Kept.refl _ _⟩
  clear cr fit hb
  go_enter Try.func53, Try.ntmps53
  go_wp2_with fail
  go_loopw [3, 4] (fun u3 u4 wr => ∃ (p : Option Addr) (k c i : Nat), u3 = .slice p k c ∧ u4 = .int .i64 (i : Int) ∧ i ≤ n ∧ Hid (KRow w.heap.size wr p k c (takA ms i) ∧ Kept (fun _ => False) w wr)) (fun _ u4 _ => n - (intOf u4).toNat)
  case atStart => exact ⟨none, 0, 0, 0, rfl, rfl, Nat.zero_le _, L0⟩
  case round =>
    obtain ⟨p, k, c, i, rfl, rfl, hi, S⟩ := hrel
    clear L0
    obtain ⟨wo, hwo⟩ : ∃ wo, wo = wr := ⟨_, rfl⟩
    rw [← hwo] at S ⊢
    clear hwo
    by_cases hlt : i < n
    · have i1 : (i : Int) < (n : Int) := by omega
      obtain ⟨b8, off8, m, rfl, hm, y0, y1, y2, y3, y4, y5, y6, y7, y8, y9, y10, _⟩ := (H.out.1.k0 S.out.2).at hlt
      obtain ⟨op, hop⟩ : ∃ op, m.opn = op := ⟨_, rfl⟩
      obtain ⟨ob, hob⟩ : ∃ ob, ob = ownB m := ⟨_, rfl⟩
      obtain ⟨wb, hwb⟩ : ∃ wb, wb = wantB ms (m.tx, m.ty) := ⟨_, rfl⟩
      have RO : Hid (∀ V, Calls Try.prog 79 #[.agg #[.int .i64 m.client, .int .i64 m.op, .bool m.put, .string m.key, .slice m.va m.vn m.vc, .int .i64 m.st, .int .i64 m.frm, .int .i64 m.to, .bool op, .int .i64 m.tx, .int .i64 m.ty]] V fun o w' => o = .returned (.bool ob) ∧ Kept (fun _ => False) V w') := fun V => by rw [hob, ← hop]; exact dOwn m V
      have RW : Hid (∀ V, Kept (fun _ => False) w V → Calls Try.prog 80 #[.slice (some ⟨b8, off8, none⟩) n c0, .agg #[.int .i64 m.tx, .int .i64 m.ty]] V fun o w' => o = .returned (.bool wb) ∧ Kept (fun _ => False) V w') := fun V kv => by rw [hwb]; exact dWanted (H.out.1.k0 kv) _ _
      have HI : Hid (ms[i]? = some m ∧ inA ms m = (ob && (!op || wb))) := ⟨hm, by unfold inA; rw [hob, hwb, hop]; rfl⟩
      rw [hop] at y8
      have KC : Hid (∀ V, Kept (fun _ => False) wo V → V.cell? ⟨b8, off8 + i * 11 + 9, none⟩ = some (.int .i64 m.tx) ∧ V.cell? ⟨b8, off8 + i * 11 + 10, none⟩ = some (.int .i64 m.ty)) := fun V kv => ⟨kv.cell y9 (fun z => z), kv.cell y10 (fun z => z)⟩
      have KP : Hid (∀ V, Kept (fun _ => False) wo V → V.cell? ⟨b8, off8 + i * 11 + 8, none⟩ = some (.bool op)) := fun V kv => kv.cell y8 (fun z => z)
      have LN : Hid (k + 1 ≤ maxLen ∧ ((k + 1) + (k + 1) / 4 + 192) * 24 ≤ 281474976710656) := by
        have l1 := S.out.1.len
        have l2 := takA_len ms i
        have l3 := H.out.2.2
        unfold maxLen
        exact ⟨by omega, by omega⟩
      clear hm hob hwb hop
      go_wp2_with fail
      refine (RO.out _).mono ?_
      rintro o w2 ⟨rfl, K2'⟩
      have K2 : Kept (fun _ => False) wo w2 := K2'
      clear K2' y0 y1 y2 y3 y4 y5 y6 y7 y8 y9 y10
      cases ob
      · clear KP
        have NX : Hid (KRow w.heap.size w2 p k c (takA ms (i + 1)) ∧ Kept (fun _ => False) w w2) := by
          rw [takA_add HI.out.1, if_neg (by rw [HI.out.2]; simp)]
          exact ⟨S.out.1.k0 K2, S.out.2.trans K2 (fun _ _ z => z)⟩
        clear KC RO RW
        go_wp2_with fail
        go_roundw
        case rel => exact ⟨p, k, c, i + 1, rfl, by go_num, by omega, NX⟩
        case measure => simp [intOf] <;> omega
      · have z8 := KP.out w2 K2
        clear KP
        cases op
        · have KV : Hid (Kept (fun _ => False) w w2) := S.out.2.trans K2 (fun _ _ z => z)
          obtain ⟨z9, z10⟩ := KC.out w2 K2
          go_upto_region 4 with
            (first
              | (at_builtin; refine wpList_append_all _ rfl (.tmp 40) (.tmp 48) 69 72 69 _ 3 24 rfl Try.underlying69 Try.info72c rfl w.heap.size (.slice p k c) k (kcells (takA ms i)) rfl (((S.out.1.k0 K2).k0 ((Kept.refl (fun _ => False) w2).alloc _)).row) _ 1 (kcells [(i, m.tx, m.ty)]) rfl (src_kept (x := (i, m.tx, m.ty)) (heap_alloc_new w2 _)) LN.out.1 LN.out.2 (Nat.le_trans KV.out.size ((Kept.refl (fun _ => False) w2).alloc _).size) ?_; intro p9 c9 w9 ho hg hn9)
              | fail)
          have NX : Hid (KRow w.heap.size w9 p9 (k + 1) c9 (takA ms (i + 1)) ∧ Kept (fun _ => False) w w9) := by
            have M := ((S.out.1.k0 K2).k0 ((Kept.refl (fun _ => False) w2).alloc (.cells #[.int .i64 (i : Int), .int .i64 m.tx, .int .i64 m.ty] 72))).more (x := (i, m.tx, m.ty)) (W0 := w) ho.out hg.out (KV.out.alloc _) (Nat.le_refl _)
            rw [takA_add HI.out.1, if_pos (by rw [HI.out.2]; rfl)]
            exact ⟨M.1, M.2.1⟩
          clear ho hg hn9 KC RO RW
          go_wp2_with fail
          go_roundw
          case rel => exact ⟨p9, k + 1, c9, i + 1, rfl, by go_num, by omega, NX⟩
          case measure => simp [intOf] <;> omega
        · obtain ⟨z9, z10⟩ := KC.out w2 K2
          go_wp2_with fail
          refine (RW.out _ (S.out.2.trans K2 (fun _ _ z => z))).mono ?_
          rintro o w3 ⟨rfl, K3'⟩
          have K3 : Kept (fun _ => False) wo w3 := K2.trans K3' (fun _ _ z => z)
          clear K2 K3' z8 z9 z10
          cases wb
          · have NX : Hid (KRow w.heap.size w3 p k c (takA ms (i + 1)) ∧ Kept (fun _ => False) w w3) := by
              rw [takA_add HI.out.1, if_neg (by rw [HI.out.2]; simp)]
              exact ⟨S.out.1.k0 K3, S.out.2.trans K3 (fun _ _ z => z)⟩
            clear KC RO RW
            go_wp2_with fail
            go_roundw
            case rel => exact ⟨p, k, c, i + 1, rfl, by go_num, by omega, NX⟩
            case measure => simp [intOf] <;> omega
          · have KV : Hid (Kept (fun _ => False) w w3) := S.out.2.trans K3 (fun _ _ z => z)
            obtain ⟨z9, z10⟩ := KC.out w3 K3
            go_upto_region 4 with
              (first
                | (at_builtin; refine wpList_append_all _ rfl (.tmp 40) (.tmp 48) 69 72 69 _ 3 24 rfl Try.underlying69 Try.info72c rfl w.heap.size (.slice p k c) k (kcells (takA ms i)) rfl (((S.out.1.k0 K3).k0 ((Kept.refl (fun _ => False) w3).alloc _)).row) _ 1 (kcells [(i, m.tx, m.ty)]) rfl (src_kept (x := (i, m.tx, m.ty)) (heap_alloc_new w3 _)) LN.out.1 LN.out.2 (Nat.le_trans KV.out.size ((Kept.refl (fun _ => False) w3).alloc _).size) ?_; intro p9 c9 w9 ho hg hn9)
                | fail)
            have NX : Hid (KRow w.heap.size w9 p9 (k + 1) c9 (takA ms (i + 1)) ∧ Kept (fun _ => False) w w9) := by
              have M := ((S.out.1.k0 K3).k0 ((Kept.refl (fun _ => False) w3).alloc (.cells #[.int .i64 (i : Int), .int .i64 m.tx, .int .i64 m.ty] 72))).more (x := (i, m.tx, m.ty)) (W0 := w) ho.out hg.out (KV.out.alloc _) (Nat.le_refl _)
              rw [takA_add HI.out.1, if_pos (by rw [HI.out.2]; rfl)]
              exact ⟨M.1, M.2.1⟩
            clear ho hg hn9 KC RO RW
            go_wp2_with fail
            go_roundw
            case rel => exact ⟨p9, k + 1, c9, i + 1, rfl, by go_num, by omega, NX⟩
            case measure => simp [intOf] <;> omega
    · have i1 : ¬ (i : Int) < (n : Int) := by omega
      have ei : n = i := by omega
      subst ei
      have M0 : Hid (TS w ms 0 p k c none 0 0 [] [] wo) := by
        refine ⟨?_, TRow.nil _ _, TakB.zero ms, S.out.2⟩
        have := S.out.1
        rw [List.append_nil, H.out.1.len]
        exact this
      clear S hi hlt
      go_wp2_with fail
      go_loopw [3, 5, 6, 7, 8, 9, 10, 11] (fun u3 u5 u6 _ _ _ _ _ wr => ∃ (p1 : Option Addr) (k1 c1 : Nat) (p2 : Option Addr) (k2 c2 i : Nat) (G : List (Int × Int)) (B : List (Nat × Int × Int)), u3 = .slice p1 k1 c1 ∧ u5 = .slice p2 k2 c2 ∧ u6 = .int .i64 (i : Int) ∧ i ≤ n ∧ Hid (TS w ms i p1 k1 c1 p2 k2 c2 G B wr)) (fun _ _ u6 _ _ _ _ _ _ => n - (intOf u6).toNat)
      case atStart => exact ⟨p, k, c, none, 0, 0, 0, [], [], rfl, rfl, rfl, Nat.zero_le _, M0⟩
      case round =>
        obtain ⟨p1, k1, c1, p2, k2, c2, i, G, B, rfl, rfl, rfl, hi, S⟩ := hrel
        clear M0
        obtain ⟨wo, hwo⟩ : ∃ wo, wo = wr := ⟨_, rfl⟩
        rw [← hwo] at S ⊢
        clear hwo
        by_cases hlt : i < n
        · have i1 : (i : Int) < (n : Int) := by omega
          obtain ⟨b8, off8, m, rfl, hm, y0, y1, y2, y3, y4, y5, y6, y7, y8, y9, y10, _⟩ := (H.out.1.k0 S.out.kept).at hlt
          obtain ⟨tx, htx⟩ : ∃ tx, m.tx = tx := ⟨_, rfl⟩
          obtain ⟨ty, hty⟩ : ∃ ty, m.ty = ty := ⟨_, rfl⟩
          rw [htx] at y9
          rw [hty] at y10
          obtain ⟨rb, hrb⟩ : ∃ rb, rb = readB m := ⟨_, rfl⟩
          obtain ⟨kb, hkb⟩ : ∃ kb, kb = knowB ms (tx, ty) := ⟨_, rfl⟩
          have HM : Hid (ms[i]? = some m ∧ tg m = (tx, ty) ∧ rb = readB m ∧ kb = knowB ms (tx, ty)) := ⟨hm, by rw [← htx, ← hty]; rfl, hrb, hkb⟩
          have RR : Hid (∀ V, Calls Try.prog 52 #[.agg #[.int .i64 m.client, .int .i64 m.op, .bool m.put, .string m.key, .slice m.va m.vn m.vc, .int .i64 m.st, .int .i64 m.frm, .int .i64 m.to, .bool m.opn, .int .i64 tx, .int .i64 ty]] V fun o w' => o = .returned (.bool rb) ∧ Kept (fun _ => False) V w') := fun V => by rw [hrb, ← htx, ← hty]; exact dRead m V
          have RK : Hid (∀ V, Kept (fun _ => False) w V → Calls Try.prog 81 #[.slice (some ⟨b8, off8, none⟩) n c0, .agg #[.int .i64 tx, .int .i64 ty]] V fun o w' => o = .returned (.bool kb) ∧ Kept (fun _ => False) V w') := fun V kv => by rw [hkb]; exact dKnown (H.out.1.k0 kv) _ _
          obtain ⟨W, hW⟩ : ∃ W, W = wo.alloc (.cells #[.int .i64 tx, .int .i64 ty] 35) := ⟨_, rfl⟩
          obtain ⟨T, hT⟩ : ∃ T, T = wo.heap.size := ⟨_, rfl⟩
          have E : Hid (W = wo.alloc (.cells #[.int .i64 tx, .int .i64 ty] 35) ∧ T = wo.heap.size) := ⟨hW, hT⟩
          have KW : Hid (Kept (fun _ => False) wo W) := by rw [hW]; exact (Kept.refl _ _).alloc _
          have ST : Hid (TS w ms i p1 k1 c1 p2 k2 c2 G B W ∧ W.heap[T]? = some (.cells #[.int .i64 tx, .int .i64 ty] 35 (0, 0)) ∧ (¬ blockOf p2 = some T) ∧ ¬ blockOf p1 = some T) := by
            refine ⟨S.out.k0 KW.out, by rw [hW, hT]; exact alloc_new _ _, fun z => ?_, fun z => ?_⟩
            · have := (own_lt S.out.b.row T z).2
              omega
            · have := (own_lt S.out.a.row T z).2
              omega
          have KC : Hid (∀ V, Kept (fun _ => False) W V → V.cell? ⟨b8, off8 + i * 11, none⟩ = some (.int .i64 m.client) ∧ V.cell? ⟨b8, off8 + i * 11 + 1, none⟩ = some (.int .i64 m.op) ∧ V.cell? ⟨b8, off8 + i * 11 + 2, none⟩ = some (.bool m.put) ∧ V.cell? ⟨b8, off8 + i * 11 + 3, none⟩ = some (.string m.key) ∧ V.cell? ⟨b8, off8 + i * 11 + 4, none⟩ = some (.slice m.va m.vn m.vc) ∧ V.cell? ⟨b8, off8 + i * 11 + 5, none⟩ = some (.int .i64 m.st) ∧ V.cell? ⟨b8, off8 + i * 11 + 6, none⟩ = some (.int .i64 m.frm) ∧ V.cell? ⟨b8, off8 + i * 11 + 7, none⟩ = some (.int .i64 m.to) ∧ V.cell? ⟨b8, off8 + i * 11 + 8, none⟩ = some (.bool m.opn) ∧ V.cell? ⟨b8, off8 + i * 11 + 9, none⟩ = some (.int .i64 tx) ∧ V.cell? ⟨b8, off8 + i * 11 + 10, none⟩ = some (.int .i64 ty)) := fun V kv' => by
            have kv := KW.out.trans kv' (fun _ _ z => z)
            exact ⟨kv.cell y0 (fun z => z), kv.cell y1 (fun z => z), kv.cell y2 (fun z => z), kv.cell y3 (fun z => z), kv.cell y4 (fun z => z), kv.cell y5 (fun z => z), kv.cell y6 (fun z => z), kv.cell y7 (fun z => z), kv.cell y8 (fun z => z), kv.cell y9 (fun z => z), kv.cell y10 (fun z => z)⟩
          have KT : Hid (∀ V, Kept (fun _ => False) W V → V.cell? ⟨T, 0, none⟩ = some (.int .i64 tx) ∧ V.cell? ⟨T, 1, none⟩ = some (.int .i64 ty)) := fun V kv => by
            have b := kv.get ST.out.2.1 (fun z => z)
            exact ⟨cell_blk b 0 rfl, cell_blk b 1 rfl⟩
          have r2 := own_room S.out.b.row
          have rl := r2.1
          have rs := r2.2
          unfold maxLen at rs
          clear r2 hm hrb hkb htx hty hW hT
          go_upto_region 12 with fail
          rw [← E.out.1, ← E.out.2]
          clear E y0 y1 y2 y3 y4 y5 y6 y7 y8 y9 y10 S
          have Q0 : Hid (Kept (fun _ => False) W W ∧ (false = true ↔ (tx, ty) ∈ G.take 0)) := ⟨Kept.refl _ _, by simp⟩
          go_wp2_with fail
          go_loopw [8, 9] (fun u8 u9 wy => ∃ (sb : Bool) (j : Nat), u8 = .bool sb ∧ u9 = .int .i64 (j : Int) ∧ j ≤ k2 ∧ Hid (Kept (fun _ => False) W wy ∧ (sb = true ↔ (tx, ty) ∈ G.take j))) (fun _ u9 _ => k2 - (intOf u9).toNat)
          case atStart => exact ⟨false, 0, rfl, rfl, Nat.zero_le _, Q0⟩
          case round =>
            obtain ⟨sb, j, rfl, rfl, hj, SJ⟩ := hrel
            clear Q0
            obtain ⟨wb, hwb⟩ : ∃ wb, wb = wr := ⟨_, rfl⟩
            rw [← hwb] at SJ ⊢
            clear hwb
            by_cases hjk : j < k2
            · have j1 : (j : Int) < (k2 : Int) := by omega
              obtain ⟨g2, tt, eg, hl, x0, x1⟩ := (ST.out.1.b.k0 SJ.out.1).at hjk
              subst eg
              obtain ⟨ta, tb⟩ := tt
              replace x0 : wb.cell? ⟨g2, j * 2, none⟩ = some (.int .i64 ta) := x0
              replace x1 : wb.cell? ⟨g2, j * 2 + 1, none⟩ = some (.int .i64 tb) := x1
              obtain ⟨t0, t1⟩ := KT.out wb SJ.out.1
              have TA : Hid ((tx, ty) ∈ G.take (j + 1) ↔ ((tx, ty) ∈ G.take j ∨ (ta = tx ∧ tb = ty))) := by
                show _ ↔ _
                rw [List.take_add_one, hl, List.mem_append]
                simp
                exact or_congr Iff.rfl ⟨fun z => ⟨z.1.symm, z.2.symm⟩, fun z => ⟨z.1.symm, z.2.symm⟩⟩
              clear hl
              cases sb
              · by_cases h1 : ta = tx
                · subst h1
                  by_cases h2 : tb = ty
                  · subst h2
                    have NX : Hid (∀ V, Kept (fun _ => False) wb V → Hid (Kept (fun _ => False) W V ∧ (true = true ↔ (ta, tb) ∈ G.take (j + 1)))) := fun V kv => ⟨SJ.out.1.trans kv (fun _ _ z => z), by rw [TA.out]; simp⟩
                    go_upto_region 16 with fail
                    go_quiet (fail)
                    go_wp2_with fail
                    go_roundw
                    case rel => exact ⟨true, j + 1, by first | rfl | simp, by go_num, by omega, NX.out _ ((Kept.refl _ _).drewN _)⟩
                    case measure => simp [intOf] <;> omega
                  · have q2 : (tb == ty) = false := by simp [h2]
                    have NX : Hid (∀ V, Kept (fun _ => False) wb V → Hid (Kept (fun _ => False) W V ∧ (false = true ↔ (ta, ty) ∈ G.take (j + 1)))) := fun V kv => ⟨SJ.out.1.trans kv (fun _ _ z => z), by rw [TA.out, ← SJ.out.2]; simp [h2]⟩
                    go_upto_region 16 with fail
                    go_quiet (fail)
                    go_wp2_with fail
                    go_roundw
                    case rel => exact ⟨false, j + 1, by first | rfl | simp, by go_num, by omega, NX.out _ ((Kept.refl _ _).drewN _)⟩
                    case measure => simp [intOf] <;> omega
                · have q1 : (ta == tx) = false := by simp [h1]
                  have NX : Hid (∀ V, Kept (fun _ => False) wb V → Hid (Kept (fun _ => False) W V ∧ (false = true ↔ (tx, ty) ∈ G.take (j + 1)))) := fun V kv => ⟨SJ.out.1.trans kv (fun _ _ z => z), by rw [TA.out, ← SJ.out.2]; simp [h1]⟩
                  go_upto_region 16 with fail
                  go_quiet (fail)
                  go_wp2_with fail
                  go_roundw
                  case rel => exact ⟨false, j + 1, by first | rfl | simp, by go_num, by omega, NX.out _ ((Kept.refl _ _).drewN _)⟩
                  case measure => simp [intOf] <;> omega
              · have SJ2 := SJ.out.2.1 rfl
                have NX : Hid (∀ V, Kept (fun _ => False) wb V → Hid (Kept (fun _ => False) W V ∧ (true = true ↔ (tx, ty) ∈ G.take (j + 1)))) := fun V kv => ⟨SJ.out.1.trans kv (fun _ _ z => z), by rw [TA.out]; exact ⟨fun _ => .inl SJ2, fun _ => rfl⟩⟩
                go_upto_region 16 with fail
                go_quiet (fail)
                go_wp2_with fail
                go_roundw
                case rel => exact ⟨true, j + 1, by first | rfl | simp, by go_num, by omega, NX.out _ ((Kept.refl _ _).drewN _)⟩
                case measure => simp [intOf] <;> omega
            · have j1 : ¬ (j : Int) < (k2 : Int) := by omega
              have SB : Hid (Kept (fun _ => False) W wb ∧ (sb = true ↔ (tx, ty) ∈ G)) := by
                refine ⟨SJ.out.1, ?_⟩
                have ej : k2 = j := by omega
                have := SJ.out.2
                rw [← ej, ← ST.out.1.b.len, List.take_length] at this
                exact this
              clear SJ
              obtain ⟨y0, y1, y2, y3, y4, y5, y6, y7, y8, y9, y10⟩ := KC.out wb SB.out.1
              go_wp2_with fail
              refine (RR.out _).mono ?_
              rintro o w2 ⟨rfl, K2'⟩
              have K2 : Kept (fun _ => False) W w2 := SB.out.1.trans K2' (fun _ _ z => z)
              clear K2' y0 y1 y2 y3 y4 y5 y6 y7 y8 y9 y10
              cases rb
              · have NX : Hid (TS w ms (i + 1) p1 k1 c1 p2 k2 c2 G B w2) := ((ST.out.1.k0 K2)).pass HM.out.1 (.inl HM.out.2.2.1.symm)
                clear KC KT RR RK ST
                go_wp2_with fail
                go_roundw
                case rel => exact ⟨p1, k1, c1, p2, k2, c2, i + 1, G, B, rfl, rfl, by go_num, by omega, NX⟩
                case measure => simp [intOf] <;> omega
              · obtain ⟨t0, t1⟩ := KT.out w2 K2
                go_wp2_with fail
                refine (RK.out _ (ST.out.1.kept.trans K2 (fun _ _ z => z))).mono ?_
                rintro o w3 ⟨rfl, K3'⟩
                have K3 : Kept (fun _ => False) W w3 := K2.trans K3' (fun _ _ z => z)
                clear K3' t0 t1
                cases kb
                · cases sb
                  · obtain ⟨t0, t1⟩ := KT.out w3 K3
                    have KV : Hid (Kept (fun _ => False) w w3) := ST.out.1.kept.trans K3 (fun _ _ z => z)
                    have LN : Hid ((k2 + 1 ≤ maxLen ∧ ((k2 + 1) + (k2 + 1) / 4 + 192) * 16 ≤ 281474976710656) ∧ (k1 + 1 ≤ maxLen ∧ ((k1 + 1) + (k1 + 1) / 4 + 192) * 24 ≤ 281474976710656)) := by
                      have l1 := ST.out.1.a.len
                      have l2 := ST.out.1.b.len
                      have l3 := ST.out.1.tk.len
                      have l4 := takA_len ms ms.length
                      have l5 := H.out.2.2
                      have l6 := H.out.1.len
                      rw [List.length_append] at l1
                      unfold maxLen
                      exact ⟨⟨by omega, by omega⟩, ⟨by omega, by omega⟩⟩
                    go_upto_region 19 with
                      (first
                        | (at_builtin; refine wpList_append_all _ rfl (.tmp 90) (.tmp 92) 94 35 94 _ 2 16 rfl Try.underlying94 Try.info35c rfl w.heap.size (.slice p2 k2 c2) k2 (tcells G) rfl (((ST.out.1.b.k0 K3).k0 ((Kept.refl (fun _ => False) w3).alloc _)).row) _ 1 (tcells [(tx, ty)]) rfl (src_tag (t := (tx, ty)) (heap_alloc_new w3 _)) LN.out.1.1 LN.out.1.2 (Nat.le_trans KV.out.size ((Kept.refl (fun _ => False) w3).alloc _).size) ?_; intro p9 c9 w9 ho hg hn9)
                        | fail)
                    have S9 : Hid (KRow w.heap.size w9 p1 k1 c1 (takA ms ms.length ++ B) ∧ TRow w.heap.size w9 p9 (k2 + 1) c9 (G ++ [(tx, ty)]) ∧ Kept (fun _ => False) w w9 ∧ w9.heap[T]? = some (.cells #[.int .i64 tx, .int .i64 ty] 35 (0, 0))) := by
                      have KA : Kept (fun _ => False) w3 (w3.alloc (.cells #[.int .i64 tx, .int .i64 ty] 35)) := (Kept.refl _ _).alloc _
                      have M := ((ST.out.1.b.k0 K3).k0 KA).more (x := (tx, ty)) (W0 := w) ho.out hg.out (KV.out.trans KA (fun _ _ z => z)) (Nat.le_refl _)
                      exact ⟨((ST.out.1.a.k0 K3).k0 KA).off M.2.2 (rows_apart ST.out.1.a ST.out.1.b), M.1, M.2.1, M.2.2.get (KA.get (K3.get ST.out.2.1 (fun z => z)) (fun z => z)) ST.out.2.2.1⟩
                    have NG : Hid ((tx, ty) ∉ G) := fun z => by have := SB.out.2.2 z; cases this
                    have TK : Hid (TakB ms i G B) := ST.out.1.tk
                    have Z0 : Hid (Kept (fun _ => False) w9 w9 ∧ (-1 : Int) = lastS ms 0 ty) := ⟨Kept.refl _ _, rfl⟩
                    clear ho hg hn9 KC KT RR RK ST SB K3 K2 KV KW t0 t1
                    go_wp2_with fail
                    go_loopw [10, 11] (fun u10 u11 wy => ∃ (l : Int) (j : Nat), u10 = .int .i64 l ∧ u11 = .int .i64 (j : Int) ∧ j ≤ n ∧ Hid (Kept (fun _ => False) w9 wy ∧ l = lastS ms j ty)) (fun _ u11 _ => n - (intOf u11).toNat)
                    case atStart => exact ⟨-1, 0, rfl, rfl, Nat.zero_le _, Z0⟩
                    case round =>
                      obtain ⟨l, j, rfl, rfl, hj, SJ⟩ := hrel
                      clear Z0
                      obtain ⟨wd, hwd⟩ : ∃ wd, wd = wr := ⟨_, rfl⟩
                      rw [← hwd] at SJ ⊢
                      clear hwd
                      by_cases hjn : j < n
                      · have j1 : (j : Int) < (n : Int) := by omega
                        obtain ⟨b7, off7, q, e7, hq, x0, x1, x2, x3, x4, x5, x6, x7, x8, x9, x10, _⟩ := (H.out.1.k0 (S9.out.2.2.1.trans SJ.out.1 (fun _ _ z => z))).at hjn
                        have e7 : b8 = b7 ∧ off8 = off7 := by simpa using e7
                        obtain ⟨rfl, rfl⟩ := e7
                        obtain ⟨pu, hpu⟩ : ∃ pu, q.put = pu := ⟨_, rfl⟩
                        obtain ⟨cl, hcl⟩ : ∃ cl, q.client = cl := ⟨_, rfl⟩
                        obtain ⟨ob, hob⟩ : ∃ ob, ob = ownB q := ⟨_, rfl⟩
                        rw [hpu] at x2
                        rw [hcl] at x0
                        have t1 : wd.cell? ⟨T, 1, none⟩ = some (.int .i64 ty) := cell_blk (SJ.out.1.get S9.out.2.2.2 (fun z => z)) 1 rfl
                        have SH : Hid (∀ V, Kept (fun _ => False) wd V → V.cell? ⟨b8, off8 + j * 11, none⟩ = some (.int .i64 cl) ∧ V.cell? ⟨b8, off8 + j * 11 + 1, none⟩ = some (.int .i64 q.op) ∧ V.cell? ⟨b8, off8 + j * 11 + 2, none⟩ = some (.bool pu) ∧ V.cell? ⟨b8, off8 + j * 11 + 3, none⟩ = some (.string q.key) ∧ V.cell? ⟨b8, off8 + j * 11 + 4, none⟩ = some (.slice q.va q.vn q.vc) ∧ V.cell? ⟨b8, off8 + j * 11 + 5, none⟩ = some (.int .i64 q.st) ∧ V.cell? ⟨b8, off8 + j * 11 + 6, none⟩ = some (.int .i64 q.frm) ∧ V.cell? ⟨b8, off8 + j * 11 + 7, none⟩ = some (.int .i64 q.to) ∧ V.cell? ⟨b8, off8 + j * 11 + 8, none⟩ = some (.bool q.opn) ∧ V.cell? ⟨b8, off8 + j * 11 + 9, none⟩ = some (.int .i64 q.tx) ∧ V.cell? ⟨b8, off8 + j * 11 + 10, none⟩ = some (.int .i64 q.ty) ∧ V.cell? ⟨T, 1, none⟩ = some (.int .i64 ty)) := fun V kv => ⟨kv.cell x0 (fun z => z), kv.cell x1 (fun z => z), kv.cell x2 (fun z => z), kv.cell x3 (fun z => z), kv.cell x4 (fun z => z), kv.cell x5 (fun z => z), kv.cell x6 (fun z => z), kv.cell x7 (fun z => z), kv.cell x8 (fun z => z), kv.cell x9 (fun z => z), kv.cell x10 (fun z => z), kv.cell t1 (fun z => z)⟩
                        have RR : Hid (∀ V, Calls Try.prog 79 #[.agg #[.int .i64 cl, .int .i64 q.op, .bool pu, .string q.key, .slice q.va q.vn q.vc, .int .i64 q.st, .int .i64 q.frm, .int .i64 q.to, .bool q.opn, .int .i64 q.tx, .int .i64 q.ty]] V fun o w' => o = .returned (.bool ob) ∧ Kept (fun _ => False) V w') := fun V => by rw [hob, ← hpu, ← hcl]; exact dOwn q V
                        have LA : Hid (lastS ms (j + 1) ty = if (pu && !ob && decide (cl = ty)) = true then (j : Int) else lastS ms j ty) := by
                          have := lastS_add H.out.2.1 hq ty
                          rw [hpu, hcl, ← hob] at this
                          exact this
                        have LJ : Hid (l = lastS ms j ty) := SJ.out.2
                        have kd : Kept (fun _ => False) wd wd.drew := (Kept.refl _ _).drew
                        clear hq hpu hcl hob x0 x1 x2 x3 x4 x5 x6 x7 x8 x9 x10 t1
                        go_upto_region 23 with fail
                        cases pu
                        · refine wp_region_held_drew (S := (fun V => V.cell? ⟨b8, off8 + j * 11, none⟩ = some (.int .i64 cl) ∧ V.cell? ⟨b8, off8 + j * 11 + 1, none⟩ = some (.int .i64 q.op) ∧ V.cell? ⟨b8, off8 + j * 11 + 2, none⟩ = some (.bool false) ∧ V.cell? ⟨b8, off8 + j * 11 + 3, none⟩ = some (.string q.key) ∧ V.cell? ⟨b8, off8 + j * 11 + 4, none⟩ = some (.slice q.va q.vn q.vc) ∧ V.cell? ⟨b8, off8 + j * 11 + 5, none⟩ = some (.int .i64 q.st) ∧ V.cell? ⟨b8, off8 + j * 11 + 6, none⟩ = some (.int .i64 q.frm) ∧ V.cell? ⟨b8, off8 + j * 11 + 7, none⟩ = some (.int .i64 q.to) ∧ V.cell? ⟨b8, off8 + j * 11 + 8, none⟩ = some (.bool q.opn) ∧ V.cell? ⟨b8, off8 + j * 11 + 9, none⟩ = some (.int .i64 q.tx) ∧ V.cell? ⟨b8, off8 + j * 11 + 10, none⟩ = some (.int .i64 q.ty) ∧ V.cell? ⟨T, 1, none⟩ = some (.int .i64 ty))) (by kernel_rfl) ?_ (fun hHeld => ?_)
                          · exact SH.out _ kd
                          refine wpAnyH_take (i := 0) (oi := { dst := some 100, op := Go.Op.move (Go.Operand.tmp 0), type := 27, pos := "ref.go:141", after := #[], guard := none }) (v := .slice (some ⟨b8, off8, none⟩) n c0) rfl (by kernel_rfl) (by kernel_rfl) (by kernel_rfl) (fun _ _ _ h => h) (Or.inl ⟨by rfl, ?_⟩) (by assumption) ?_
                          · intro w9 hSw
                            (try dsimp only at hSw)
                            go_simp
                          (try simp only [Act.put, List.setIfInBounds_toArray, List.set_cons_zero, List.set_cons_succ])
                          refine wpAnyH_take (i := 1) (oi := { dst := some 101, op := Go.Op.move (Go.Operand.tmp 11), type := 3, pos := "ref.go:141", after := #[], guard := none }) (v := .int .i64 (j : Int)) rfl (by kernel_rfl) (by kernel_rfl) (by kernel_rfl) (fun _ _ _ h => h) (Or.inl ⟨by rfl, ?_⟩) (by assumption) ?_
                          · intro w9 hSw
                            (try dsimp only at hSw)
                            go_simp
                          (try simp only [Act.put, List.setIfInBounds_toArray, List.set_cons_zero, List.set_cons_succ])
                          refine wpAnyH_take (i := 2) (oi := { dst := some 102, op := Go.Op.indexAddr 27 (Go.Operand.tmp 100) (Go.Operand.tmp 101), type := 0, pos := "ref.go:141", after := #[{ on := 0, ground := Go.Ground.data }, { on := 1, ground := Go.Ground.data }], guard := none }) (v := .pointer (some ⟨b8, off8 + j * 11, none⟩)) rfl (by kernel_rfl) (by kernel_rfl) (by kernel_rfl) (fun _ _ _ h => h) (Or.inl ⟨by rfl, ?_⟩) (by assumption) ?_
                          · intro w9 hSw
                            (try dsimp only at hSw)
                            go_simp
                          (try simp only [Act.put, List.setIfInBounds_toArray, List.set_cons_zero, List.set_cons_succ])
                          refine wpAnyH_take (i := 3) (oi := { dst := some 103, op := Go.Op.fieldAddr 38 (Go.Operand.tmp 102) 2, type := 0, pos := "ref.go:141", after := #[{ on := 2, ground := Go.Ground.data }], guard := none }) (v := .pointer (some ⟨b8, off8 + j * 11 + 2, none⟩)) rfl (by kernel_rfl) (by kernel_rfl) (by kernel_rfl) (fun _ _ _ h => h) (Or.inl ⟨by rfl, ?_⟩) (by assumption) ?_
                          · intro w9 hSw
                            (try dsimp only at hSw)
                            go_simp
                          (try simp only [Act.put, List.setIfInBounds_toArray, List.set_cons_zero, List.set_cons_succ])
                          refine wpAnyH_take (i := 4) (oi := { dst := some 104, op := Go.Op.load 4 (Go.Operand.tmp 103), type := 4, pos := "ref.go:141", after := #[{ on := 3, ground := Go.Ground.data }], guard := none }) (v := .bool false) rfl (by kernel_rfl) (by kernel_rfl) (by kernel_rfl) (fun _ _ _ h => h) (Or.inl ⟨by rfl, ?_⟩) (by assumption) ?_
                          · intro w9 hSw
                            (try dsimp only at hSw)
                            go_simp
                          (try simp only [Act.put, List.setIfInBounds_toArray, List.set_cons_zero, List.set_cons_succ])
                          refine wpAnyH_take (i := 5) (oi := { dst := some 105, op := Go.Op.move (Go.Operand.tmp 104), type := 4, pos := "ref.go:141", after := #[{ on := 4, ground := Go.Ground.data }], guard := none }) (v := .bool false) rfl (by kernel_rfl) (by kernel_rfl) (by kernel_rfl) (fun _ _ _ h => h) (Or.inl ⟨by rfl, ?_⟩) (by assumption) ?_
                          · intro w9 hSw
                            (try dsimp only at hSw)
                            go_simp
                          (try simp only [Act.put, List.setIfInBounds_toArray, List.set_cons_zero, List.set_cons_succ])
                          refine wpAnyH_take (i := 6) (oi := { dst := some 106, op := Go.Op.move (Go.Operand.tmp 0), type := 27, pos := "ref.go:141", after := #[{ on := 5, ground := Go.Ground.guard }], guard := some (5, true) }) (v := undef) rfl (by kernel_rfl) (by kernel_rfl) (by kernel_rfl) (fun _ _ _ h => h) (Or.inr ⟨by rfl, rfl⟩) (by assumption) ?_
                          (try simp only [Act.put, List.setIfInBounds_toArray, List.set_cons_zero, List.set_cons_succ])
                          refine wpAnyH_take (i := 7) (oi := { dst := some 107, op := Go.Op.move (Go.Operand.tmp 11), type := 3, pos := "ref.go:141", after := #[{ on := 5, ground := Go.Ground.guard }], guard := some (5, true) }) (v := undef) rfl (by kernel_rfl) (by kernel_rfl) (by kernel_rfl) (fun _ _ _ h => h) (Or.inr ⟨by rfl, rfl⟩) (by assumption) ?_
                          (try simp only [Act.put, List.setIfInBounds_toArray, List.set_cons_zero, List.set_cons_succ])
                          refine wpAnyH_take (i := 8) (oi := { dst := some 108, op := Go.Op.indexAddr 27 (Go.Operand.tmp 106) (Go.Operand.tmp 107), type := 0, pos := "ref.go:141", after := #[{ on := 6, ground := Go.Ground.data }, { on := 7, ground := Go.Ground.data }, { on := 5, ground := Go.Ground.guard }], guard := some (5, true) }) (v := undef) rfl (by kernel_rfl) (by kernel_rfl) (by kernel_rfl) (fun _ _ _ h => h) (Or.inr ⟨by rfl, rfl⟩) (by assumption) ?_
                          (try simp only [Act.put, List.setIfInBounds_toArray, List.set_cons_zero, List.set_cons_succ])
                          refine wpAnyH_take (i := 9) (oi := { dst := some 109, op := Go.Op.load 38 (Go.Operand.tmp 108), type := 38, pos := "ref.go:141", after := #[{ on := 8, ground := Go.Ground.data }, { on := 5, ground := Go.Ground.guard }], guard := some (5, true) }) (v := undef) rfl (by kernel_rfl) (by kernel_rfl) (by kernel_rfl) (fun _ _ _ h => h) (Or.inr ⟨by rfl, rfl⟩) (by assumption) ?_
                          (try simp only [Act.put, List.setIfInBounds_toArray, List.set_cons_zero, List.set_cons_succ])
                          refine wpAnyH_take (i := 10) (oi := { dst := some 110, op := Go.Op.call { callee := Go.Callee.value (Go.Operand.func 79), args := #[Go.Operand.tmp 109], argTypes := #[38] }, type := 4, pos := "ref.go:141", after := #[{ on := 9, ground := Go.Ground.data }, { on := 5, ground := Go.Ground.chain }, { on := 5, ground := Go.Ground.guard }], guard := some (5, true) }) (v := undef) rfl (by kernel_rfl) (by kernel_rfl) (by kernel_rfl) (fun _ _ _ h => h) (Or.inr ⟨by rfl, rfl⟩) (by assumption) ?_
                          (try simp only [Act.put, List.setIfInBounds_toArray, List.set_cons_zero, List.set_cons_succ])
                          refine wpAnyH_take (i := 11) (oi := { dst := some 111, op := Go.Op.unOp Go.UnOp.not 4 (Go.Operand.tmp 110), type := 4, pos := "ref.go:141", after := #[{ on := 10, ground := Go.Ground.data }, { on := 5, ground := Go.Ground.guard }], guard := some (5, true) }) (v := undef) rfl (by kernel_rfl) (by kernel_rfl) (by kernel_rfl) (fun _ _ _ h => h) (Or.inr ⟨by rfl, rfl⟩) (by assumption) ?_
                          (try simp only [Act.put, List.setIfInBounds_toArray, List.set_cons_zero, List.set_cons_succ])
                          refine wpAnyH_take (i := 12) (oi := { dst := some 112, op := Go.Op.pick (Go.Operand.tmp 105) (Go.Operand.tmp 111) (Go.Operand.const (Go.Value.bool false)), type := 4, pos := "ref.go:141", after := #[{ on := 5, ground := Go.Ground.data }, { on := 11, ground := Go.Ground.data }], guard := none }) (v := .bool false) rfl (by kernel_rfl) (by kernel_rfl) (by kernel_rfl) (fun _ _ _ h => h) (Or.inl ⟨by rfl, ?_⟩) (by assumption) ?_
                          · intro w9 hSw
                            (try dsimp only at hSw)
                            go_simp
                          (try simp only [Act.put, List.setIfInBounds_toArray, List.set_cons_zero, List.set_cons_succ])
                          refine wpAnyH_take (i := 13) (oi := { dst := some 113, op := Go.Op.move (Go.Operand.tmp 112), type := 4, pos := "ref.go:141", after := #[{ on := 12, ground := Go.Ground.data }, { on := 10, ground := Go.Ground.chain }], guard := none }) (v := .bool false) rfl (by kernel_rfl) (by kernel_rfl) (by kernel_rfl) (fun _ _ _ h => h) (Or.inl ⟨by rfl, ?_⟩) (by assumption) ?_
                          · intro w9 hSw
                            (try dsimp only at hSw)
                            go_simp
                          (try simp only [Act.put, List.setIfInBounds_toArray, List.set_cons_zero, List.set_cons_succ])
                          refine wpAnyH_take (i := 14) (oi := { dst := some 114, op := Go.Op.move (Go.Operand.tmp 0), type := 27, pos := "ref.go:141", after := #[{ on := 13, ground := Go.Ground.guard }], guard := some (13, true) }) (v := undef) rfl (by kernel_rfl) (by kernel_rfl) (by kernel_rfl) (fun _ _ _ h => h) (Or.inr ⟨by rfl, rfl⟩) (by assumption) ?_
                          (try simp only [Act.put, List.setIfInBounds_toArray, List.set_cons_zero, List.set_cons_succ])
                          refine wpAnyH_take (i := 15) (oi := { dst := some 115, op := Go.Op.move (Go.Operand.tmp 11), type := 3, pos := "ref.go:141", after := #[{ on := 13, ground := Go.Ground.guard }], guard := some (13, true) }) (v := undef) rfl (by kernel_rfl) (by kernel_rfl) (by kernel_rfl) (fun _ _ _ h => h) (Or.inr ⟨by rfl, rfl⟩) (by assumption) ?_
                          (try simp only [Act.put, List.setIfInBounds_toArray, List.set_cons_zero, List.set_cons_succ])
                          refine wpAnyH_take (i := 16) (oi := { dst := some 116, op := Go.Op.indexAddr 27 (Go.Operand.tmp 114) (Go.Operand.tmp 115), type := 0, pos := "ref.go:141", after := #[{ on := 14, ground := Go.Ground.data }, { on := 15, ground := Go.Ground.data }, { on := 13, ground := Go.Ground.guard }], guard := some (13, true) }) (v := undef) rfl (by kernel_rfl) (by kernel_rfl) (by kernel_rfl) (fun _ _ _ h => h) (Or.inr ⟨by rfl, rfl⟩) (by assumption) ?_
                          (try simp only [Act.put, List.setIfInBounds_toArray, List.set_cons_zero, List.set_cons_succ])
                          refine wpAnyH_take (i := 17) (oi := { dst := some 117, op := Go.Op.fieldAddr 38 (Go.Operand.tmp 116) 0, type := 0, pos := "ref.go:141", after := #[{ on := 16, ground := Go.Ground.data }, { on := 13, ground := Go.Ground.guard }], guard := some (13, true) }) (v := undef) rfl (by kernel_rfl) (by kernel_rfl) (by kernel_rfl) (fun _ _ _ h => h) (Or.inr ⟨by rfl, rfl⟩) (by assumption) ?_
                          (try simp only [Act.put, List.setIfInBounds_toArray, List.set_cons_zero, List.set_cons_succ])
                          refine wpAnyH_take (i := 18) (oi := { dst := some 118, op := Go.Op.load 3 (Go.Operand.tmp 117), type := 3, pos := "ref.go:141", after := #[{ on := 17, ground := Go.Ground.data }, { on := 13, ground := Go.Ground.guard }], guard := some (13, true) }) (v := undef) rfl (by kernel_rfl) (by kernel_rfl) (by kernel_rfl) (fun _ _ _ h => h) (Or.inr ⟨by rfl, rfl⟩) (by assumption) ?_
                          (try simp only [Act.put, List.setIfInBounds_toArray, List.set_cons_zero, List.set_cons_succ])
                          refine wpAnyH_take (i := 19) (oi := { dst := some 119, op := Go.Op.fieldAddr 35 (Go.Operand.tmp 7) 1, type := 0, pos := "ref.go:141", after := #[{ on := 13, ground := Go.Ground.guard }], guard := some (13, true) }) (v := undef) rfl (by kernel_rfl) (by kernel_rfl) (by kernel_rfl) (fun _ _ _ h => h) (Or.inr ⟨by rfl, rfl⟩) (by assumption) ?_
                          (try simp only [Act.put, List.setIfInBounds_toArray, List.set_cons_zero, List.set_cons_succ])
                          refine wpAnyH_take (i := 20) (oi := { dst := some 120, op := Go.Op.load 3 (Go.Operand.tmp 119), type := 3, pos := "ref.go:141", after := #[{ on := 19, ground := Go.Ground.data }, { on := 13, ground := Go.Ground.guard }], guard := some (13, true) }) (v := undef) rfl (by kernel_rfl) (by kernel_rfl) (by kernel_rfl) (fun _ _ _ h => h) (Or.inr ⟨by rfl, rfl⟩) (by assumption) ?_
                          (try simp only [Act.put, List.setIfInBounds_toArray, List.set_cons_zero, List.set_cons_succ])
                          refine wpAnyH_take (i := 21) (oi := { dst := some 121, op := Go.Op.binOp Go.BinOp.eql 3 (Go.Operand.tmp 118) (Go.Operand.tmp 120) 3, type := 4, pos := "ref.go:141", after := #[{ on := 18, ground := Go.Ground.data }, { on := 20, ground := Go.Ground.data }, { on := 13, ground := Go.Ground.guard }], guard := some (13, true) }) (v := undef) rfl (by kernel_rfl) (by kernel_rfl) (by kernel_rfl) (fun _ _ _ h => h) (Or.inr ⟨by rfl, rfl⟩) (by assumption) ?_
                          (try simp only [Act.put, List.setIfInBounds_toArray, List.set_cons_zero, List.set_cons_succ])
                          refine wpAnyH_take (i := 22) (oi := { dst := some 122, op := Go.Op.pick (Go.Operand.tmp 113) (Go.Operand.tmp 121) (Go.Operand.const (Go.Value.bool false)), type := 4, pos := "ref.go:141", after := #[{ on := 13, ground := Go.Ground.data }, { on := 21, ground := Go.Ground.data }], guard := none }) (v := .bool false) rfl (by kernel_rfl) (by kernel_rfl) (by kernel_rfl) (fun _ _ _ h => h) (Or.inl ⟨by rfl, ?_⟩) (by assumption) ?_
                          · intro w9 hSw
                            (try dsimp only at hSw)
                            go_simp
                          (try simp only [Act.put, List.setIfInBounds_toArray, List.set_cons_zero, List.set_cons_succ])
                          refine wpAnyH_done (by kernel_rfl) ?_ _
                          have NX : Hid (Kept (fun _ => False) w9 wd.drew ∧ l = lastS ms (j + 1) ty) := ⟨SJ.out.1.trans kd (fun _ _ z => z), by rw [LA.out]; simp [LJ.out]⟩
                          clear SH RR LA
                          go_wp2_with fail
                          go_roundw
                          case rel => exact ⟨l, j + 1, by first | rfl | simp, by go_num, by omega, NX⟩
                          case measure => simp [intOf] <;> omega
                        · cases ob
                          · by_cases hc : cl = ty
                            · subst hc
                              refine wp_region_held_drew (S := (fun V => V.cell? ⟨b8, off8 + j * 11, none⟩ = some (.int .i64 cl) ∧ V.cell? ⟨b8, off8 + j * 11 + 1, none⟩ = some (.int .i64 q.op) ∧ V.cell? ⟨b8, off8 + j * 11 + 2, none⟩ = some (.bool true) ∧ V.cell? ⟨b8, off8 + j * 11 + 3, none⟩ = some (.string q.key) ∧ V.cell? ⟨b8, off8 + j * 11 + 4, none⟩ = some (.slice q.va q.vn q.vc) ∧ V.cell? ⟨b8, off8 + j * 11 + 5, none⟩ = some (.int .i64 q.st) ∧ V.cell? ⟨b8, off8 + j * 11 + 6, none⟩ = some (.int .i64 q.frm) ∧ V.cell? ⟨b8, off8 + j * 11 + 7, none⟩ = some (.int .i64 q.to) ∧ V.cell? ⟨b8, off8 + j * 11 + 8, none⟩ = some (.bool q.opn) ∧ V.cell? ⟨b8, off8 + j * 11 + 9, none⟩ = some (.int .i64 q.tx) ∧ V.cell? ⟨b8, off8 + j * 11 + 10, none⟩ = some (.int .i64 q.ty) ∧ V.cell? ⟨T, 1, none⟩ = some (.int .i64 cl))) (by kernel_rfl) ?_ (fun hHeld => ?_)
                              · exact SH.out _ kd
                              refine wpAnyH_take (i := 0) (oi := { dst := some 100, op := Go.Op.move (Go.Operand.tmp 0), type := 27, pos := "ref.go:141", after := #[], guard := none }) (v := .slice (some ⟨b8, off8, none⟩) n c0) rfl (by kernel_rfl) (by kernel_rfl) (by kernel_rfl) (fun _ _ _ h => h) (Or.inl ⟨by rfl, ?_⟩) (by assumption) ?_
                              · intro w9 hSw
                                (try dsimp only at hSw)
                                go_simp
                              (try simp only [Act.put, List.setIfInBounds_toArray, List.set_cons_zero, List.set_cons_succ])
                              refine wpAnyH_take (i := 1) (oi := { dst := some 101, op := Go.Op.move (Go.Operand.tmp 11), type := 3, pos := "ref.go:141", after := #[], guard := none }) (v := .int .i64 (j : Int)) rfl (by kernel_rfl) (by kernel_rfl) (by kernel_rfl) (fun _ _ _ h => h) (Or.inl ⟨by rfl, ?_⟩) (by assumption) ?_
                              · intro w9 hSw
                                (try dsimp only at hSw)
                                go_simp
                              (try simp only [Act.put, List.setIfInBounds_toArray, List.set_cons_zero, List.set_cons_succ])
                              refine wpAnyH_take (i := 2) (oi := { dst := some 102, op := Go.Op.indexAddr 27 (Go.Operand.tmp 100) (Go.Operand.tmp 101), type := 0, pos := "ref.go:141", after := #[{ on := 0, ground := Go.Ground.data }, { on := 1, ground := Go.Ground.data }], guard := none }) (v := .pointer (some ⟨b8, off8 + j * 11, none⟩)) rfl (by kernel_rfl) (by kernel_rfl) (by kernel_rfl) (fun _ _ _ h => h) (Or.inl ⟨by rfl, ?_⟩) (by assumption) ?_
                              · intro w9 hSw
                                (try dsimp only at hSw)
                                go_simp
                              (try simp only [Act.put, List.setIfInBounds_toArray, List.set_cons_zero, List.set_cons_succ])
                              refine wpAnyH_take (i := 3) (oi := { dst := some 103, op := Go.Op.fieldAddr 38 (Go.Operand.tmp 102) 2, type := 0, pos := "ref.go:141", after := #[{ on := 2, ground := Go.Ground.data }], guard := none }) (v := .pointer (some ⟨b8, off8 + j * 11 + 2, none⟩)) rfl (by kernel_rfl) (by kernel_rfl) (by kernel_rfl) (fun _ _ _ h => h) (Or.inl ⟨by rfl, ?_⟩) (by assumption) ?_
                              · intro w9 hSw
                                (try dsimp only at hSw)
                                go_simp
                              (try simp only [Act.put, List.setIfInBounds_toArray, List.set_cons_zero, List.set_cons_succ])
                              refine wpAnyH_take (i := 4) (oi := { dst := some 104, op := Go.Op.load 4 (Go.Operand.tmp 103), type := 4, pos := "ref.go:141", after := #[{ on := 3, ground := Go.Ground.data }], guard := none }) (v := .bool true) rfl (by kernel_rfl) (by kernel_rfl) (by kernel_rfl) (fun _ _ _ h => h) (Or.inl ⟨by rfl, ?_⟩) (by assumption) ?_
                              · intro w9 hSw
                                (try dsimp only at hSw)
                                go_simp
                              (try simp only [Act.put, List.setIfInBounds_toArray, List.set_cons_zero, List.set_cons_succ])
                              refine wpAnyH_take (i := 5) (oi := { dst := some 105, op := Go.Op.move (Go.Operand.tmp 104), type := 4, pos := "ref.go:141", after := #[{ on := 4, ground := Go.Ground.data }], guard := none }) (v := .bool true) rfl (by kernel_rfl) (by kernel_rfl) (by kernel_rfl) (fun _ _ _ h => h) (Or.inl ⟨by rfl, ?_⟩) (by assumption) ?_
                              · intro w9 hSw
                                (try dsimp only at hSw)
                                go_simp
                              (try simp only [Act.put, List.setIfInBounds_toArray, List.set_cons_zero, List.set_cons_succ])
                              refine wpAnyH_take (i := 6) (oi := { dst := some 106, op := Go.Op.move (Go.Operand.tmp 0), type := 27, pos := "ref.go:141", after := #[{ on := 5, ground := Go.Ground.guard }], guard := some (5, true) }) (v := .slice (some ⟨b8, off8, none⟩) n c0) rfl (by kernel_rfl) (by kernel_rfl) (by kernel_rfl) (fun _ _ _ h => h) (Or.inl ⟨by rfl, ?_⟩) (by assumption) ?_
                              · intro w9 hSw
                                (try dsimp only at hSw)
                                go_simp
                              (try simp only [Act.put, List.setIfInBounds_toArray, List.set_cons_zero, List.set_cons_succ])
                              refine wpAnyH_take (i := 7) (oi := { dst := some 107, op := Go.Op.move (Go.Operand.tmp 11), type := 3, pos := "ref.go:141", after := #[{ on := 5, ground := Go.Ground.guard }], guard := some (5, true) }) (v := .int .i64 (j : Int)) rfl (by kernel_rfl) (by kernel_rfl) (by kernel_rfl) (fun _ _ _ h => h) (Or.inl ⟨by rfl, ?_⟩) (by assumption) ?_
                              · intro w9 hSw
                                (try dsimp only at hSw)
                                go_simp
                              (try simp only [Act.put, List.setIfInBounds_toArray, List.set_cons_zero, List.set_cons_succ])
                              refine wpAnyH_take (i := 8) (oi := { dst := some 108, op := Go.Op.indexAddr 27 (Go.Operand.tmp 106) (Go.Operand.tmp 107), type := 0, pos := "ref.go:141", after := #[{ on := 6, ground := Go.Ground.data }, { on := 7, ground := Go.Ground.data }, { on := 5, ground := Go.Ground.guard }], guard := some (5, true) }) (v := .pointer (some ⟨b8, off8 + j * 11, none⟩)) rfl (by kernel_rfl) (by kernel_rfl) (by kernel_rfl) (fun _ _ _ h => h) (Or.inl ⟨by rfl, ?_⟩) (by assumption) ?_
                              · intro w9 hSw
                                (try dsimp only at hSw)
                                go_simp
                              (try simp only [Act.put, List.setIfInBounds_toArray, List.set_cons_zero, List.set_cons_succ])
                              refine wpAnyH_take (i := 9) (oi := { dst := some 109, op := Go.Op.load 38 (Go.Operand.tmp 108), type := 38, pos := "ref.go:141", after := #[{ on := 8, ground := Go.Ground.data }, { on := 5, ground := Go.Ground.guard }], guard := some (5, true) }) (v := .agg #[.int .i64 cl, .int .i64 q.op, .bool true, .string q.key, .slice q.va q.vn q.vc, .int .i64 q.st, .int .i64 q.frm, .int .i64 q.to, .bool q.opn, .int .i64 q.tx, .int .i64 q.ty]) rfl (by kernel_rfl) (by kernel_rfl) (by kernel_rfl) (fun _ _ _ h => h) (Or.inl ⟨by rfl, ?_⟩) (by assumption) ?_
                              · intro w9 hSw
                                (try dsimp only at hSw)
                                go_simp
                              (try simp only [Act.put, List.setIfInBounds_toArray, List.set_cons_zero, List.set_cons_succ])
                              refine wpAnyH_ready (rs := [10]) (by kernel_rfl) (by simp) ?_
                              refine (AllReadyH.cons (o := { dst := some 110, op := Go.Op.call { callee := Go.Callee.value (Go.Operand.func 79), args := #[Go.Operand.tmp 109], argTypes := #[38] }, type := 4, pos := "ref.go:141", after := #[{ on := 9, ground := Go.Ground.data }, { on := 5, ground := Go.Ground.chain }, { on := 5, ground := Go.Ground.guard }], guard := some (5, true) }) rfl (fun K hK => ?_) AllReadyH.nil)
                              go_simp
                              refine (RR.out _).mono ?_
                              rintro o w6 ⟨rfl, KX⟩
                              have K6 : Kept (fun _ => False) wd w6 := Kept.trans kd KX (fun _ _ z => z)
                              clear KX
                              refine hK.out _ _ ?_ (fun hHeld => ?_)
                              · exact SH.out w6 K6
                              clear hK K
                              (try simp only [Act.put, List.setIfInBounds_toArray, List.set_cons_zero, List.set_cons_succ])
                              refine wpAnyH_take (i := 11) (oi := { dst := some 111, op := Go.Op.unOp Go.UnOp.not 4 (Go.Operand.tmp 110), type := 4, pos := "ref.go:141", after := #[{ on := 10, ground := Go.Ground.data }, { on := 5, ground := Go.Ground.guard }], guard := some (5, true) }) (v := .bool true) rfl (by kernel_rfl) (by kernel_rfl) (by kernel_rfl) (fun _ _ _ h => h) (Or.inl ⟨by rfl, ?_⟩) (by assumption) ?_
                              · intro w9 hSw
                                (try dsimp only at hSw)
                                go_simp
                              (try simp only [Act.put, List.setIfInBounds_toArray, List.set_cons_zero, List.set_cons_succ])
                              refine wpAnyH_take (i := 12) (oi := { dst := some 112, op := Go.Op.pick (Go.Operand.tmp 105) (Go.Operand.tmp 111) (Go.Operand.const (Go.Value.bool false)), type := 4, pos := "ref.go:141", after := #[{ on := 5, ground := Go.Ground.data }, { on := 11, ground := Go.Ground.data }], guard := none }) (v := .bool true) rfl (by kernel_rfl) (by kernel_rfl) (by kernel_rfl) (fun _ _ _ h => h) (Or.inl ⟨by rfl, ?_⟩) (by assumption) ?_
                              · intro w9 hSw
                                (try dsimp only at hSw)
                                go_simp
                              (try simp only [Act.put, List.setIfInBounds_toArray, List.set_cons_zero, List.set_cons_succ])
                              refine wpAnyH_take (i := 13) (oi := { dst := some 113, op := Go.Op.move (Go.Operand.tmp 112), type := 4, pos := "ref.go:141", after := #[{ on := 12, ground := Go.Ground.data }, { on := 10, ground := Go.Ground.chain }], guard := none }) (v := .bool true) rfl (by kernel_rfl) (by kernel_rfl) (by kernel_rfl) (fun _ _ _ h => h) (Or.inl ⟨by rfl, ?_⟩) (by assumption) ?_
                              · intro w9 hSw
                                (try dsimp only at hSw)
                                go_simp
                              (try simp only [Act.put, List.setIfInBounds_toArray, List.set_cons_zero, List.set_cons_succ])
                              refine wpAnyH_take (i := 14) (oi := { dst := some 114, op := Go.Op.move (Go.Operand.tmp 0), type := 27, pos := "ref.go:141", after := #[{ on := 13, ground := Go.Ground.guard }], guard := some (13, true) }) (v := .slice (some ⟨b8, off8, none⟩) n c0) rfl (by kernel_rfl) (by kernel_rfl) (by kernel_rfl) (fun _ _ _ h => h) (Or.inl ⟨by rfl, ?_⟩) (by assumption) ?_
                              · intro w9 hSw
                                (try dsimp only at hSw)
                                go_simp
                              (try simp only [Act.put, List.setIfInBounds_toArray, List.set_cons_zero, List.set_cons_succ])
                              refine wpAnyH_take (i := 15) (oi := { dst := some 115, op := Go.Op.move (Go.Operand.tmp 11), type := 3, pos := "ref.go:141", after := #[{ on := 13, ground := Go.Ground.guard }], guard := some (13, true) }) (v := .int .i64 (j : Int)) rfl (by kernel_rfl) (by kernel_rfl) (by kernel_rfl) (fun _ _ _ h => h) (Or.inl ⟨by rfl, ?_⟩) (by assumption) ?_
                              · intro w9 hSw
                                (try dsimp only at hSw)
                                go_simp
                              (try simp only [Act.put, List.setIfInBounds_toArray, List.set_cons_zero, List.set_cons_succ])
                              refine wpAnyH_take (i := 16) (oi := { dst := some 116, op := Go.Op.indexAddr 27 (Go.Operand.tmp 114) (Go.Operand.tmp 115), type := 0, pos := "ref.go:141", after := #[{ on := 14, ground := Go.Ground.data }, { on := 15, ground := Go.Ground.data }, { on := 13, ground := Go.Ground.guard }], guard := some (13, true) }) (v := .pointer (some ⟨b8, off8 + j * 11, none⟩)) rfl (by kernel_rfl) (by kernel_rfl) (by kernel_rfl) (fun _ _ _ h => h) (Or.inl ⟨by rfl, ?_⟩) (by assumption) ?_
                              · intro w9 hSw
                                (try dsimp only at hSw)
                                go_simp
                              (try simp only [Act.put, List.setIfInBounds_toArray, List.set_cons_zero, List.set_cons_succ])
                              refine wpAnyH_take (i := 17) (oi := { dst := some 117, op := Go.Op.fieldAddr 38 (Go.Operand.tmp 116) 0, type := 0, pos := "ref.go:141", after := #[{ on := 16, ground := Go.Ground.data }, { on := 13, ground := Go.Ground.guard }], guard := some (13, true) }) (v := .pointer (some ⟨b8, off8 + j * 11, none⟩)) rfl (by kernel_rfl) (by kernel_rfl) (by kernel_rfl) (fun _ _ _ h => h) (Or.inl ⟨by rfl, ?_⟩) (by assumption) ?_
                              · intro w9 hSw
                                (try dsimp only at hSw)
                                go_simp
                              (try simp only [Act.put, List.setIfInBounds_toArray, List.set_cons_zero, List.set_cons_succ])
                              refine wpAnyH_take (i := 18) (oi := { dst := some 118, op := Go.Op.load 3 (Go.Operand.tmp 117), type := 3, pos := "ref.go:141", after := #[{ on := 17, ground := Go.Ground.data }, { on := 13, ground := Go.Ground.guard }], guard := some (13, true) }) (v := .int .i64 cl) rfl (by kernel_rfl) (by kernel_rfl) (by kernel_rfl) (fun _ _ _ h => h) (Or.inl ⟨by rfl, ?_⟩) (by assumption) ?_
                              · intro w9 hSw
                                (try dsimp only at hSw)
                                go_simp
                              (try simp only [Act.put, List.setIfInBounds_toArray, List.set_cons_zero, List.set_cons_succ])
                              refine wpAnyH_take (i := 19) (oi := { dst := some 119, op := Go.Op.fieldAddr 35 (Go.Operand.tmp 7) 1, type := 0, pos := "ref.go:141", after := #[{ on := 13, ground := Go.Ground.guard }], guard := some (13, true) }) (v := .pointer (some ⟨T, 1, none⟩)) rfl (by kernel_rfl) (by kernel_rfl) (by kernel_rfl) (fun _ _ _ h => h) (Or.inl ⟨by rfl, ?_⟩) (by assumption) ?_
                              · intro w9 hSw
                                (try dsimp only at hSw)
                                go_simp
                              (try simp only [Act.put, List.setIfInBounds_toArray, List.set_cons_zero, List.set_cons_succ])
                              refine wpAnyH_take (i := 20) (oi := { dst := some 120, op := Go.Op.load 3 (Go.Operand.tmp 119), type := 3, pos := "ref.go:141", after := #[{ on := 19, ground := Go.Ground.data }, { on := 13, ground := Go.Ground.guard }], guard := some (13, true) }) (v := .int .i64 cl) rfl (by kernel_rfl) (by kernel_rfl) (by kernel_rfl) (fun _ _ _ h => h) (Or.inl ⟨by rfl, ?_⟩) (by assumption) ?_
                              · intro w9 hSw
                                (try dsimp only at hSw)
                                go_simp
                              (try simp only [Act.put, List.setIfInBounds_toArray, List.set_cons_zero, List.set_cons_succ])
                              refine wpAnyH_take (i := 21) (oi := { dst := some 121, op := Go.Op.binOp Go.BinOp.eql 3 (Go.Operand.tmp 118) (Go.Operand.tmp 120) 3, type := 4, pos := "ref.go:141", after := #[{ on := 18, ground := Go.Ground.data }, { on := 20, ground := Go.Ground.data }, { on := 13, ground := Go.Ground.guard }], guard := some (13, true) }) (v := .bool true) rfl (by kernel_rfl) (by kernel_rfl) (by kernel_rfl) (fun _ _ _ h => h) (Or.inl ⟨by rfl, ?_⟩) (by assumption) ?_
                              · intro w9 hSw
                                (try dsimp only at hSw)
                                go_simp
                              (try simp only [Act.put, List.setIfInBounds_toArray, List.set_cons_zero, List.set_cons_succ])
                              refine wpAnyH_take (i := 22) (oi := { dst := some 122, op := Go.Op.pick (Go.Operand.tmp 113) (Go.Operand.tmp 121) (Go.Operand.const (Go.Value.bool false)), type := 4, pos := "ref.go:141", after := #[{ on := 13, ground := Go.Ground.data }, { on := 21, ground := Go.Ground.data }], guard := none }) (v := .bool true) rfl (by kernel_rfl) (by kernel_rfl) (by kernel_rfl) (fun _ _ _ h => h) (Or.inl ⟨by rfl, ?_⟩) (by assumption) ?_
                              · intro w9 hSw
                                (try dsimp only at hSw)
                                go_simp
                              (try simp only [Act.put, List.setIfInBounds_toArray, List.set_cons_zero, List.set_cons_succ])
                              refine wpAnyH_done (by kernel_rfl) ?_ _
                              have NX : Hid (Kept (fun _ => False) w9 w6 ∧ (j : Int) = lastS ms (j + 1) cl) := ⟨SJ.out.1.trans K6 (fun _ _ z => z), by rw [LA.out]; simp⟩
                              clear SH RR LA
                              go_wp2_with fail
                              go_roundw
                              case rel => exact ⟨(j : Int), j + 1, by first | rfl | simp, by go_num, by omega, NX⟩
                              case measure => simp [intOf] <;> omega
                            · have q1 : (cl == ty) = false := by simp [hc]
                              refine wp_region_held_drew (S := (fun V => V.cell? ⟨b8, off8 + j * 11, none⟩ = some (.int .i64 cl) ∧ V.cell? ⟨b8, off8 + j * 11 + 1, none⟩ = some (.int .i64 q.op) ∧ V.cell? ⟨b8, off8 + j * 11 + 2, none⟩ = some (.bool true) ∧ V.cell? ⟨b8, off8 + j * 11 + 3, none⟩ = some (.string q.key) ∧ V.cell? ⟨b8, off8 + j * 11 + 4, none⟩ = some (.slice q.va q.vn q.vc) ∧ V.cell? ⟨b8, off8 + j * 11 + 5, none⟩ = some (.int .i64 q.st) ∧ V.cell? ⟨b8, off8 + j * 11 + 6, none⟩ = some (.int .i64 q.frm) ∧ V.cell? ⟨b8, off8 + j * 11 + 7, none⟩ = some (.int .i64 q.to) ∧ V.cell? ⟨b8, off8 + j * 11 + 8, none⟩ = some (.bool q.opn) ∧ V.cell? ⟨b8, off8 + j * 11 + 9, none⟩ = some (.int .i64 q.tx) ∧ V.cell? ⟨b8, off8 + j * 11 + 10, none⟩ = some (.int .i64 q.ty) ∧ V.cell? ⟨T, 1, none⟩ = some (.int .i64 ty))) (by kernel_rfl) ?_ (fun hHeld => ?_)
                              · exact SH.out _ kd
                              refine wpAnyH_take (i := 0) (oi := { dst := some 100, op := Go.Op.move (Go.Operand.tmp 0), type := 27, pos := "ref.go:141", after := #[], guard := none }) (v := .slice (some ⟨b8, off8, none⟩) n c0) rfl (by kernel_rfl) (by kernel_rfl) (by kernel_rfl) (fun _ _ _ h => h) (Or.inl ⟨by rfl, ?_⟩) (by assumption) ?_
                              · intro w9 hSw
                                (try dsimp only at hSw)
                                go_simp
                              (try simp only [Act.put, List.setIfInBounds_toArray, List.set_cons_zero, List.set_cons_succ])
                              refine wpAnyH_take (i := 1) (oi := { dst := some 101, op := Go.Op.move (Go.Operand.tmp 11), type := 3, pos := "ref.go:141", after := #[], guard := none }) (v := .int .i64 (j : Int)) rfl (by kernel_rfl) (by kernel_rfl) (by kernel_rfl) (fun _ _ _ h => h) (Or.inl ⟨by rfl, ?_⟩) (by assumption) ?_
                              · intro w9 hSw
                                (try dsimp only at hSw)
                                go_simp
                              (try simp only [Act.put, List.setIfInBounds_toArray, List.set_cons_zero, List.set_cons_succ])
                              refine wpAnyH_take (i := 2) (oi := { dst := some 102, op := Go.Op.indexAddr 27 (Go.Operand.tmp 100) (Go.Operand.tmp 101), type := 0, pos := "ref.go:141", after := #[{ on := 0, ground := Go.Ground.data }, { on := 1, ground := Go.Ground.data }], guard := none }) (v := .pointer (some ⟨b8, off8 + j * 11, none⟩)) rfl (by kernel_rfl) (by kernel_rfl) (by kernel_rfl) (fun _ _ _ h => h) (Or.inl ⟨by rfl, ?_⟩) (by assumption) ?_
                              · intro w9 hSw
                                (try dsimp only at hSw)
                                go_simp
                              (try simp only [Act.put, List.setIfInBounds_toArray, List.set_cons_zero, List.set_cons_succ])
                              refine wpAnyH_take (i := 3) (oi := { dst := some 103, op := Go.Op.fieldAddr 38 (Go.Operand.tmp 102) 2, type := 0, pos := "ref.go:141", after := #[{ on := 2, ground := Go.Ground.data }], guard := none }) (v := .pointer (some ⟨b8, off8 + j * 11 + 2, none⟩)) rfl (by kernel_rfl) (by kernel_rfl) (by kernel_rfl) (fun _ _ _ h => h) (Or.inl ⟨by rfl, ?_⟩) (by assumption) ?_
                              · intro w9 hSw
                                (try dsimp only at hSw)
                                go_simp
                              (try simp only [Act.put, List.setIfInBounds_toArray, List.set_cons_zero, List.set_cons_succ])
                              refine wpAnyH_take (i := 4) (oi := { dst := some 104, op := Go.Op.load 4 (Go.Operand.tmp 103), type := 4, pos := "ref.go:141", after := #[{ on := 3, ground := Go.Ground.data }], guard := none }) (v := .bool true) rfl (by kernel_rfl) (by kernel_rfl) (by kernel_rfl) (fun _ _ _ h => h) (Or.inl ⟨by rfl, ?_⟩) (by assumption) ?_
                              · intro w9 hSw
                                (try dsimp only at hSw)
                                go_simp
                              (try simp only [Act.put, List.setIfInBounds_toArray, List.set_cons_zero, List.set_cons_succ])
                              refine wpAnyH_take (i := 5) (oi := { dst := some 105, op := Go.Op.move (Go.Operand.tmp 104), type := 4, pos := "ref.go:141", after := #[{ on := 4, ground := Go.Ground.data }], guard := none }) (v := .bool true) rfl (by kernel_rfl) (by kernel_rfl) (by kernel_rfl) (fun _ _ _ h => h) (Or.inl ⟨by rfl, ?_⟩) (by assumption) ?_
                              · intro w9 hSw
                                (try dsimp only at hSw)
                                go_simp
                              (try simp only [Act.put, List.setIfInBounds_toArray, List.set_cons_zero, List.set_cons_succ])
                              refine wpAnyH_take (i := 6) (oi := { dst := some 106, op := Go.Op.move (Go.Operand.tmp 0), type := 27, pos := "ref.go:141", after := #[{ on := 5, ground := Go.Ground.guard }], guard := some (5, true) }) (v := .slice (some ⟨b8, off8, none⟩) n c0) rfl (by kernel_rfl) (by kernel_rfl) (by kernel_rfl) (fun _ _ _ h => h) (Or.inl ⟨by rfl, ?_⟩) (by assumption) ?_
                              · intro w9 hSw
                                (try dsimp only at hSw)
                                go_simp
                              (try simp only [Act.put, List.setIfInBounds_toArray, List.set_cons_zero, List.set_cons_succ])
                              refine wpAnyH_take (i := 7) (oi := { dst := some 107, op := Go.Op.move (Go.Operand.tmp 11), type := 3, pos := "ref.go:141", after := #[{ on := 5, ground := Go.Ground.guard }], guard := some (5, true) }) (v := .int .i64 (j : Int)) rfl (by kernel_rfl) (by kernel_rfl) (by kernel_rfl) (fun _ _ _ h => h) (Or.inl ⟨by rfl, ?_⟩) (by assumption) ?_
                              · intro w9 hSw
                                (try dsimp only at hSw)
                                go_simp
                              (try simp only [Act.put, List.setIfInBounds_toArray, List.set_cons_zero, List.set_cons_succ])
                              refine wpAnyH_take (i := 8) (oi := { dst := some 108, op := Go.Op.indexAddr 27 (Go.Operand.tmp 106) (Go.Operand.tmp 107), type := 0, pos := "ref.go:141", after := #[{ on := 6, ground := Go.Ground.data }, { on := 7, ground := Go.Ground.data }, { on := 5, ground := Go.Ground.guard }], guard := some (5, true) }) (v := .pointer (some ⟨b8, off8 + j * 11, none⟩)) rfl (by kernel_rfl) (by kernel_rfl) (by kernel_rfl) (fun _ _ _ h => h) (Or.inl ⟨by rfl, ?_⟩) (by assumption) ?_
                              · intro w9 hSw
                                (try dsimp only at hSw)
                                go_simp
                              (try simp only [Act.put, List.setIfInBounds_toArray, List.set_cons_zero, List.set_cons_succ])
                              refine wpAnyH_take (i := 9) (oi := { dst := some 109, op := Go.Op.load 38 (Go.Operand.tmp 108), type := 38, pos := "ref.go:141", after := #[{ on := 8, ground := Go.Ground.data }, { on := 5, ground := Go.Ground.guard }], guard := some (5, true) }) (v := .agg #[.int .i64 cl, .int .i64 q.op, .bool true, .string q.key, .slice q.va q.vn q.vc, .int .i64 q.st, .int .i64 q.frm, .int .i64 q.to, .bool q.opn, .int .i64 q.tx, .int .i64 q.ty]) rfl (by kernel_rfl) (by kernel_rfl) (by kernel_rfl) (fun _ _ _ h => h) (Or.inl ⟨by rfl, ?_⟩) (by assumption) ?_
                              · intro w9 hSw
                                (try dsimp only at hSw)
                                go_simp
                              (try simp only [Act.put, List.setIfInBounds_toArray, List.set_cons_zero, List.set_cons_succ])
                              refine wpAnyH_ready (rs := [10]) (by kernel_rfl) (by simp) ?_
                              refine (AllReadyH.cons (o := { dst := some 110, op := Go.Op.call { callee := Go.Callee.value (Go.Operand.func 79), args := #[Go.Operand.tmp 109], argTypes := #[38] }, type := 4, pos := "ref.go:141", after := #[{ on := 9, ground := Go.Ground.data }, { on := 5, ground := Go.Ground.chain }, { on := 5, ground := Go.Ground.guard }], guard := some (5, true) }) rfl (fun K hK => ?_) AllReadyH.nil)
                              go_simp
                              refine (RR.out _).mono ?_
                              rintro o w6 ⟨rfl, KX⟩
                              have K6 : Kept (fun _ => False) wd w6 := Kept.trans kd KX (fun _ _ z => z)
                              clear KX
                              refine hK.out _ _ ?_ (fun hHeld => ?_)
                              · exact SH.out w6 K6
                              clear hK K
                              (try simp only [Act.put, List.setIfInBounds_toArray, List.set_cons_zero, List.set_cons_succ])
                              refine wpAnyH_take (i := 11) (oi := { dst := some 111, op := Go.Op.unOp Go.UnOp.not 4 (Go.Operand.tmp 110), type := 4, pos := "ref.go:141", after := #[{ on := 10, ground := Go.Ground.data }, { on := 5, ground := Go.Ground.guard }], guard := some (5, true) }) (v := .bool true) rfl (by kernel_rfl) (by kernel_rfl) (by kernel_rfl) (fun _ _ _ h => h) (Or.inl ⟨by rfl, ?_⟩) (by assumption) ?_
                              · intro w9 hSw
                                (try dsimp only at hSw)
                                go_simp
                              (try simp only [Act.put, List.setIfInBounds_toArray, List.set_cons_zero, List.set_cons_succ])
                              refine wpAnyH_take (i := 12) (oi := { dst := some 112, op := Go.Op.pick (Go.Operand.tmp 105) (Go.Operand.tmp 111) (Go.Operand.const (Go.Value.bool false)), type := 4, pos := "ref.go:141", after := #[{ on := 5, ground := Go.Ground.data }, { on := 11, ground := Go.Ground.data }], guard := none }) (v := .bool true) rfl (by kernel_rfl) (by kernel_rfl) (by kernel_rfl) (fun _ _ _ h => h) (Or.inl ⟨by rfl, ?_⟩) (by assumption) ?_
                              · intro w9 hSw
                                (try dsimp only at hSw)
                                go_simp
                              (try simp only [Act.put, List.setIfInBounds_toArray, List.set_cons_zero, List.set_cons_succ])
                              refine wpAnyH_take (i := 13) (oi := { dst := some 113, op := Go.Op.move (Go.Operand.tmp 112), type := 4, pos := "ref.go:141", after := #[{ on := 12, ground := Go.Ground.data }, { on := 10, ground := Go.Ground.chain }], guard := none }) (v := .bool true) rfl (by kernel_rfl) (by kernel_rfl) (by kernel_rfl) (fun _ _ _ h => h) (Or.inl ⟨by rfl, ?_⟩) (by assumption) ?_
                              · intro w9 hSw
                                (try dsimp only at hSw)
                                go_simp
                              (try simp only [Act.put, List.setIfInBounds_toArray, List.set_cons_zero, List.set_cons_succ])
                              refine wpAnyH_take (i := 14) (oi := { dst := some 114, op := Go.Op.move (Go.Operand.tmp 0), type := 27, pos := "ref.go:141", after := #[{ on := 13, ground := Go.Ground.guard }], guard := some (13, true) }) (v := .slice (some ⟨b8, off8, none⟩) n c0) rfl (by kernel_rfl) (by kernel_rfl) (by kernel_rfl) (fun _ _ _ h => h) (Or.inl ⟨by rfl, ?_⟩) (by assumption) ?_
                              · intro w9 hSw
                                (try dsimp only at hSw)
                                go_simp
                              (try simp only [Act.put, List.setIfInBounds_toArray, List.set_cons_zero, List.set_cons_succ])
                              refine wpAnyH_take (i := 15) (oi := { dst := some 115, op := Go.Op.move (Go.Operand.tmp 11), type := 3, pos := "ref.go:141", after := #[{ on := 13, ground := Go.Ground.guard }], guard := some (13, true) }) (v := .int .i64 (j : Int)) rfl (by kernel_rfl) (by kernel_rfl) (by kernel_rfl) (fun _ _ _ h => h) (Or.inl ⟨by rfl, ?_⟩) (by assumption) ?_
                              · intro w9 hSw
                                (try dsimp only at hSw)
                                go_simp
                              (try simp only [Act.put, List.setIfInBounds_toArray, List.set_cons_zero, List.set_cons_succ])
                              refine wpAnyH_take (i := 16) (oi := { dst := some 116, op := Go.Op.indexAddr 27 (Go.Operand.tmp 114) (Go.Operand.tmp 115), type := 0, pos := "ref.go:141", after := #[{ on := 14, ground := Go.Ground.data }, { on := 15, ground := Go.Ground.data }, { on := 13, ground := Go.Ground.guard }], guard := some (13, true) }) (v := .pointer (some ⟨b8, off8 + j * 11, none⟩)) rfl (by kernel_rfl) (by kernel_rfl) (by kernel_rfl) (fun _ _ _ h => h) (Or.inl ⟨by rfl, ?_⟩) (by assumption) ?_
                              · intro w9 hSw
                                (try dsimp only at hSw)
                                go_simp
                              (try simp only [Act.put, List.setIfInBounds_toArray, List.set_cons_zero, List.set_cons_succ])
                              refine wpAnyH_take (i := 17) (oi := { dst := some 117, op := Go.Op.fieldAddr 38 (Go.Operand.tmp 116) 0, type := 0, pos := "ref.go:141", after := #[{ on := 16, ground := Go.Ground.data }, { on := 13, ground := Go.Ground.guard }], guard := some (13, true) }) (v := .pointer (some ⟨b8, off8 + j * 11, none⟩)) rfl (by kernel_rfl) (by kernel_rfl) (by kernel_rfl) (fun _ _ _ h => h) (Or.inl ⟨by rfl, ?_⟩) (by assumption) ?_
                              · intro w9 hSw
                                (try dsimp only at hSw)
                                go_simp
                              (try simp only [Act.put, List.setIfInBounds_toArray, List.set_cons_zero, List.set_cons_succ])
                              refine wpAnyH_take (i := 18) (oi := { dst := some 118, op := Go.Op.load 3 (Go.Operand.tmp 117), type := 3, pos := "ref.go:141", after := #[{ on := 17, ground := Go.Ground.data }, { on := 13, ground := Go.Ground.guard }], guard := some (13, true) }) (v := .int .i64 cl) rfl (by kernel_rfl) (by kernel_rfl) (by kernel_rfl) (fun _ _ _ h => h) (Or.inl ⟨by rfl, ?_⟩) (by assumption) ?_
                              · intro w9 hSw
                                (try dsimp only at hSw)
                                go_simp
                              (try simp only [Act.put, List.setIfInBounds_toArray, List.set_cons_zero, List.set_cons_succ])
                              refine wpAnyH_take (i := 19) (oi := { dst := some 119, op := Go.Op.fieldAddr 35 (Go.Operand.tmp 7) 1, type := 0, pos := "ref.go:141", after := #[{ on := 13, ground := Go.Ground.guard }], guard := some (13, true) }) (v := .pointer (some ⟨T, 1, none⟩)) rfl (by kernel_rfl) (by kernel_rfl) (by kernel_rfl) (fun _ _ _ h => h) (Or.inl ⟨by rfl, ?_⟩) (by assumption) ?_
                              · intro w9 hSw
                                (try dsimp only at hSw)
                                go_simp
                              (try simp only [Act.put, List.setIfInBounds_toArray, List.set_cons_zero, List.set_cons_succ])
                              refine wpAnyH_take (i := 20) (oi := { dst := some 120, op := Go.Op.load 3 (Go.Operand.tmp 119), type := 3, pos := "ref.go:141", after := #[{ on := 19, ground := Go.Ground.data }, { on := 13, ground := Go.Ground.guard }], guard := some (13, true) }) (v := .int .i64 ty) rfl (by kernel_rfl) (by kernel_rfl) (by kernel_rfl) (fun _ _ _ h => h) (Or.inl ⟨by rfl, ?_⟩) (by assumption) ?_
                              · intro w9 hSw
                                (try dsimp only at hSw)
                                go_simp
                              (try simp only [Act.put, List.setIfInBounds_toArray, List.set_cons_zero, List.set_cons_succ])
                              refine wpAnyH_take (i := 21) (oi := { dst := some 121, op := Go.Op.binOp Go.BinOp.eql 3 (Go.Operand.tmp 118) (Go.Operand.tmp 120) 3, type := 4, pos := "ref.go:141", after := #[{ on := 18, ground := Go.Ground.data }, { on := 20, ground := Go.Ground.data }, { on := 13, ground := Go.Ground.guard }], guard := some (13, true) }) (v := .bool false) rfl (by kernel_rfl) (by kernel_rfl) (by kernel_rfl) (fun _ _ _ h => h) (Or.inl ⟨by rfl, ?_⟩) (by assumption) ?_
                              · intro w9 hSw
                                (try dsimp only at hSw)
                                go_simp
                              (try simp only [Act.put, List.setIfInBounds_toArray, List.set_cons_zero, List.set_cons_succ])
                              refine wpAnyH_take (i := 22) (oi := { dst := some 122, op := Go.Op.pick (Go.Operand.tmp 113) (Go.Operand.tmp 121) (Go.Operand.const (Go.Value.bool false)), type := 4, pos := "ref.go:141", after := #[{ on := 13, ground := Go.Ground.data }, { on := 21, ground := Go.Ground.data }], guard := none }) (v := .bool false) rfl (by kernel_rfl) (by kernel_rfl) (by kernel_rfl) (fun _ _ _ h => h) (Or.inl ⟨by rfl, ?_⟩) (by assumption) ?_
                              · intro w9 hSw
                                (try dsimp only at hSw)
                                go_simp
                              (try simp only [Act.put, List.setIfInBounds_toArray, List.set_cons_zero, List.set_cons_succ])
                              refine wpAnyH_done (by kernel_rfl) ?_ _
                              have NX : Hid (Kept (fun _ => False) w9 w6 ∧ l = lastS ms (j + 1) ty) := ⟨SJ.out.1.trans K6 (fun _ _ z => z), by rw [LA.out]; simp [LJ.out, hc]⟩
                              clear SH RR LA
                              go_wp2_with fail
                              go_roundw
                              case rel => exact ⟨l, j + 1, by first | rfl | simp, by go_num, by omega, NX⟩
                              case measure => simp [intOf] <;> omega
                          · refine wp_region_held_drew (S := (fun V => V.cell? ⟨b8, off8 + j * 11, none⟩ = some (.int .i64 cl) ∧ V.cell? ⟨b8, off8 + j * 11 + 1, none⟩ = some (.int .i64 q.op) ∧ V.cell? ⟨b8, off8 + j * 11 + 2, none⟩ = some (.bool true) ∧ V.cell? ⟨b8, off8 + j * 11 + 3, none⟩ = some (.string q.key) ∧ V.cell? ⟨b8, off8 + j * 11 + 4, none⟩ = some (.slice q.va q.vn q.vc) ∧ V.cell? ⟨b8, off8 + j * 11 + 5, none⟩ = some (.int .i64 q.st) ∧ V.cell? ⟨b8, off8 + j * 11 + 6, none⟩ = some (.int .i64 q.frm) ∧ V.cell? ⟨b8, off8 + j * 11 + 7, none⟩ = some (.int .i64 q.to) ∧ V.cell? ⟨b8, off8 + j * 11 + 8, none⟩ = some (.bool q.opn) ∧ V.cell? ⟨b8, off8 + j * 11 + 9, none⟩ = some (.int .i64 q.tx) ∧ V.cell? ⟨b8, off8 + j * 11 + 10, none⟩ = some (.int .i64 q.ty) ∧ V.cell? ⟨T, 1, none⟩ = some (.int .i64 ty))) (by kernel_rfl) ?_ (fun hHeld => ?_)
                            · exact SH.out _ kd
                            refine wpAnyH_take (i := 0) (oi := { dst := some 100, op := Go.Op.move (Go.Operand.tmp 0), type := 27, pos := "ref.go:141", after := #[], guard := none }) (v := .slice (some ⟨b8, off8, none⟩) n c0) rfl (by kernel_rfl) (by kernel_rfl) (by kernel_rfl) (fun _ _ _ h => h) (Or.inl ⟨by rfl, ?_⟩) (by assumption) ?_
                            · intro w9 hSw
                              (try dsimp only at hSw)
                              go_simp
                            (try simp only [Act.put, List.setIfInBounds_toArray, List.set_cons_zero, List.set_cons_succ])
                            refine wpAnyH_take (i := 1) (oi := { dst := some 101, op := Go.Op.move (Go.Operand.tmp 11), type := 3, pos := "ref.go:141", after := #[], guard := none }) (v := .int .i64 (j : Int)) rfl (by kernel_rfl) (by kernel_rfl) (by kernel_rfl) (fun _ _ _ h => h) (Or.inl ⟨by rfl, ?_⟩) (by assumption) ?_
                            · intro w9 hSw
                              (try dsimp only at hSw)
                              go_simp
                            (try simp only [Act.put, List.setIfInBounds_toArray, List.set_cons_zero, List.set_cons_succ])
                            refine wpAnyH_take (i := 2) (oi := { dst := some 102, op := Go.Op.indexAddr 27 (Go.Operand.tmp 100) (Go.Operand.tmp 101), type := 0, pos := "ref.go:141", after := #[{ on := 0, ground := Go.Ground.data }, { on := 1, ground := Go.Ground.data }], guard := none }) (v := .pointer (some ⟨b8, off8 + j * 11, none⟩)) rfl (by kernel_rfl) (by kernel_rfl) (by kernel_rfl) (fun _ _ _ h => h) (Or.inl ⟨by rfl, ?_⟩) (by assumption) ?_
                            · intro w9 hSw
                              (try dsimp only at hSw)
                              go_simp
                            (try simp only [Act.put, List.setIfInBounds_toArray, List.set_cons_zero, List.set_cons_succ])
                            refine wpAnyH_take (i := 3) (oi := { dst := some 103, op := Go.Op.fieldAddr 38 (Go.Operand.tmp 102) 2, type := 0, pos := "ref.go:141", after := #[{ on := 2, ground := Go.Ground.data }], guard := none }) (v := .pointer (some ⟨b8, off8 + j * 11 + 2, none⟩)) rfl (by kernel_rfl) (by kernel_rfl) (by kernel_rfl) (fun _ _ _ h => h) (Or.inl ⟨by rfl, ?_⟩) (by assumption) ?_
                            · intro w9 hSw
                              (try dsimp only at hSw)
                              go_simp
                            (try simp only [Act.put, List.setIfInBounds_toArray, List.set_cons_zero, List.set_cons_succ])
                            refine wpAnyH_take (i := 4) (oi := { dst := some 104, op := Go.Op.load 4 (Go.Operand.tmp 103), type := 4, pos := "ref.go:141", after := #[{ on := 3, ground := Go.Ground.data }], guard := none }) (v := .bool true) rfl (by kernel_rfl) (by kernel_rfl) (by kernel_rfl) (fun _ _ _ h => h) (Or.inl ⟨by rfl, ?_⟩) (by assumption) ?_
                            · intro w9 hSw
                              (try dsimp only at hSw)
                              go_simp
                            (try simp only [Act.put, List.setIfInBounds_toArray, List.set_cons_zero, List.set_cons_succ])
                            refine wpAnyH_take (i := 5) (oi := { dst := some 105, op := Go.Op.move (Go.Operand.tmp 104), type := 4, pos := "ref.go:141", after := #[{ on := 4, ground := Go.Ground.data }], guard := none }) (v := .bool true) rfl (by kernel_rfl) (by kernel_rfl) (by kernel_rfl) (fun _ _ _ h => h) (Or.inl ⟨by rfl, ?_⟩) (by assumption) ?_
                            · intro w9 hSw
                              (try dsimp only at hSw)
                              go_simp
                            (try simp only [Act.put, List.setIfInBounds_toArray, List.set_cons_zero, List.set_cons_succ])
                            refine wpAnyH_take (i := 6) (oi := { dst := some 106, op := Go.Op.move (Go.Operand.tmp 0), type := 27, pos := "ref.go:141", after := #[{ on := 5, ground := Go.Ground.guard }], guard := some (5, true) }) (v := .slice (some ⟨b8, off8, none⟩) n c0) rfl (by kernel_rfl) (by kernel_rfl) (by kernel_rfl) (fun _ _ _ h => h) (Or.inl ⟨by rfl, ?_⟩) (by assumption) ?_
                            · intro w9 hSw
                              (try dsimp only at hSw)
                              go_simp
                            (try simp only [Act.put, List.setIfInBounds_toArray, List.set_cons_zero, List.set_cons_succ])
                            refine wpAnyH_take (i := 7) (oi := { dst := some 107, op := Go.Op.move (Go.Operand.tmp 11), type := 3, pos := "ref.go:141", after := #[{ on := 5, ground := Go.Ground.guard }], guard := some (5, true) }) (v := .int .i64 (j : Int)) rfl (by kernel_rfl) (by kernel_rfl) (by kernel_rfl) (fun _ _ _ h => h) (Or.inl ⟨by rfl, ?_⟩) (by assumption) ?_
                            · intro w9 hSw
                              (try dsimp only at hSw)
                              go_simp
                            (try simp only [Act.put, List.setIfInBounds_toArray, List.set_cons_zero, List.set_cons_succ])
                            refine wpAnyH_take (i := 8) (oi := { dst := some 108, op := Go.Op.indexAddr 27 (Go.Operand.tmp 106) (Go.Operand.tmp 107), type := 0, pos := "ref.go:141", after := #[{ on := 6, ground := Go.Ground.data }, { on := 7, ground := Go.Ground.data }, { on := 5, ground := Go.Ground.guard }], guard := some (5, true) }) (v := .pointer (some ⟨b8, off8 + j * 11, none⟩)) rfl (by kernel_rfl) (by kernel_rfl) (by kernel_rfl) (fun _ _ _ h => h) (Or.inl ⟨by rfl, ?_⟩) (by assumption) ?_
                            · intro w9 hSw
                              (try dsimp only at hSw)
                              go_simp
                            (try simp only [Act.put, List.setIfInBounds_toArray, List.set_cons_zero, List.set_cons_succ])
                            refine wpAnyH_take (i := 9) (oi := { dst := some 109, op := Go.Op.load 38 (Go.Operand.tmp 108), type := 38, pos := "ref.go:141", after := #[{ on := 8, ground := Go.Ground.data }, { on := 5, ground := Go.Ground.guard }], guard := some (5, true) }) (v := .agg #[.int .i64 cl, .int .i64 q.op, .bool true, .string q.key, .slice q.va q.vn q.vc, .int .i64 q.st, .int .i64 q.frm, .int .i64 q.to, .bool q.opn, .int .i64 q.tx, .int .i64 q.ty]) rfl (by kernel_rfl) (by kernel_rfl) (by kernel_rfl) (fun _ _ _ h => h) (Or.inl ⟨by rfl, ?_⟩) (by assumption) ?_
                            · intro w9 hSw
                              (try dsimp only at hSw)
                              go_simp
                            (try simp only [Act.put, List.setIfInBounds_toArray, List.set_cons_zero, List.set_cons_succ])
                            refine wpAnyH_ready (rs := [10]) (by kernel_rfl) (by simp) ?_
                            refine (AllReadyH.cons (o := { dst := some 110, op := Go.Op.call { callee := Go.Callee.value (Go.Operand.func 79), args := #[Go.Operand.tmp 109], argTypes := #[38] }, type := 4, pos := "ref.go:141", after := #[{ on := 9, ground := Go.Ground.data }, { on := 5, ground := Go.Ground.chain }, { on := 5, ground := Go.Ground.guard }], guard := some (5, true) }) rfl (fun K hK => ?_) AllReadyH.nil)
                            go_simp
                            refine (RR.out _).mono ?_
                            rintro o w6 ⟨rfl, KX⟩
                            have K6 : Kept (fun _ => False) wd w6 := Kept.trans kd KX (fun _ _ z => z)
                            clear KX
                            refine hK.out _ _ ?_ (fun hHeld => ?_)
                            · exact SH.out w6 K6
                            clear hK K
                            (try simp only [Act.put, List.setIfInBounds_toArray, List.set_cons_zero, List.set_cons_succ])
                            refine wpAnyH_take (i := 11) (oi := { dst := some 111, op := Go.Op.unOp Go.UnOp.not 4 (Go.Operand.tmp 110), type := 4, pos := "ref.go:141", after := #[{ on := 10, ground := Go.Ground.data }, { on := 5, ground := Go.Ground.guard }], guard := some (5, true) }) (v := .bool false) rfl (by kernel_rfl) (by kernel_rfl) (by kernel_rfl) (fun _ _ _ h => h) (Or.inl ⟨by rfl, ?_⟩) (by assumption) ?_
                            · intro w9 hSw
                              (try dsimp only at hSw)
                              go_simp
                            (try simp only [Act.put, List.setIfInBounds_toArray, List.set_cons_zero, List.set_cons_succ])
                            refine wpAnyH_take (i := 12) (oi := { dst := some 112, op := Go.Op.pick (Go.Operand.tmp 105) (Go.Operand.tmp 111) (Go.Operand.const (Go.Value.bool false)), type := 4, pos := "ref.go:141", after := #[{ on := 5, ground := Go.Ground.data }, { on := 11, ground := Go.Ground.data }], guard := none }) (v := .bool false) rfl (by kernel_rfl) (by kernel_rfl) (by kernel_rfl) (fun _ _ _ h => h) (Or.inl ⟨by rfl, ?_⟩) (by assumption) ?_
                            · intro w9 hSw
                              (try dsimp only at hSw)
                              go_simp
                            (try simp only [Act.put, List.setIfInBounds_toArray, List.set_cons_zero, List.set_cons_succ])
                            refine wpAnyH_take (i := 13) (oi := { dst := some 113, op := Go.Op.move (Go.Operand.tmp 112), type := 4, pos := "ref.go:141", after := #[{ on := 12, ground := Go.Ground.data }, { on := 10, ground := Go.Ground.chain }], guard := none }) (v := .bool false) rfl (by kernel_rfl) (by kernel_rfl) (by kernel_rfl) (fun _ _ _ h => h) (Or.inl ⟨by rfl, ?_⟩) (by assumption) ?_
                            · intro w9 hSw
                              (try dsimp only at hSw)
                              go_simp
                            (try simp only [Act.put, List.setIfInBounds_toArray, List.set_cons_zero, List.set_cons_succ])
                            refine wpAnyH_take (i := 14) (oi := { dst := some 114, op := Go.Op.move (Go.Operand.tmp 0), type := 27, pos := "ref.go:141", after := #[{ on := 13, ground := Go.Ground.guard }], guard := some (13, true) }) (v := undef) rfl (by kernel_rfl) (by kernel_rfl) (by kernel_rfl) (fun _ _ _ h => h) (Or.inr ⟨by rfl, rfl⟩) (by assumption) ?_
                            (try simp only [Act.put, List.setIfInBounds_toArray, List.set_cons_zero, List.set_cons_succ])
                            refine wpAnyH_take (i := 15) (oi := { dst := some 115, op := Go.Op.move (Go.Operand.tmp 11), type := 3, pos := "ref.go:141", after := #[{ on := 13, ground := Go.Ground.guard }], guard := some (13, true) }) (v := undef) rfl (by kernel_rfl) (by kernel_rfl) (by kernel_rfl) (fun _ _ _ h => h) (Or.inr ⟨by rfl, rfl⟩) (by assumption) ?_
                            (try simp only [Act.put, List.setIfInBounds_toArray, List.set_cons_zero, List.set_cons_succ])
                            refine wpAnyH_take (i := 16) (oi := { dst := some 116, op := Go.Op.indexAddr 27 (Go.Operand.tmp 114) (Go.Operand.tmp 115), type := 0, pos := "ref.go:141", after := #[{ on := 14, ground := Go.Ground.data }, { on := 15, ground := Go.Ground.data }, { on := 13, ground := Go.Ground.guard }], guard := some (13, true) }) (v := undef) rfl (by kernel_rfl) (by kernel_rfl) (by kernel_rfl) (fun _ _ _ h => h) (Or.inr ⟨by rfl, rfl⟩) (by assumption) ?_
                            (try simp only [Act.put, List.setIfInBounds_toArray, List.set_cons_zero, List.set_cons_succ])
                            refine wpAnyH_take (i := 17) (oi := { dst := some 117, op := Go.Op.fieldAddr 38 (Go.Operand.tmp 116) 0, type := 0, pos := "ref.go:141", after := #[{ on := 16, ground := Go.Ground.data }, { on := 13, ground := Go.Ground.guard }], guard := some (13, true) }) (v := undef) rfl (by kernel_rfl) (by kernel_rfl) (by kernel_rfl) (fun _ _ _ h => h) (Or.inr ⟨by rfl, rfl⟩) (by assumption) ?_
                            (try simp only [Act.put, List.setIfInBounds_toArray, List.set_cons_zero, List.set_cons_succ])
                            refine wpAnyH_take (i := 18) (oi := { dst := some 118, op := Go.Op.load 3 (Go.Operand.tmp 117), type := 3, pos := "ref.go:141", after := #[{ on := 17, ground := Go.Ground.data }, { on := 13, ground := Go.Ground.guard }], guard := some (13, true) }) (v := undef) rfl (by kernel_rfl) (by kernel_rfl) (by kernel_rfl) (fun _ _ _ h => h) (Or.inr ⟨by rfl, rfl⟩) (by assumption) ?_
                            (try simp only [Act.put, List.setIfInBounds_toArray, List.set_cons_zero, List.set_cons_succ])
                            refine wpAnyH_take (i := 19) (oi := { dst := some 119, op := Go.Op.fieldAddr 35 (Go.Operand.tmp 7) 1, type := 0, pos := "ref.go:141", after := #[{ on := 13, ground := Go.Ground.guard }], guard := some (13, true) }) (v := undef) rfl (by kernel_rfl) (by kernel_rfl) (by kernel_rfl) (fun _ _ _ h => h) (Or.inr ⟨by rfl, rfl⟩) (by assumption) ?_
                            (try simp only [Act.put, List.setIfInBounds_toArray, List.set_cons_zero, List.set_cons_succ])
                            refine wpAnyH_take (i := 20) (oi := { dst := some 120, op := Go.Op.load 3 (Go.Operand.tmp 119), type := 3, pos := "ref.go:141", after := #[{ on := 19, ground := Go.Ground.data }, { on := 13, ground := Go.Ground.guard }], guard := some (13, true) }) (v := undef) rfl (by kernel_rfl) (by kernel_rfl) (by kernel_rfl) (fun _ _ _ h => h) (Or.inr ⟨by rfl, rfl⟩) (by assumption) ?_
                            (try simp only [Act.put, List.setIfInBounds_toArray, List.set_cons_zero, List.set_cons_succ])
                            refine wpAnyH_take (i := 21) (oi := { dst := some 121, op := Go.Op.binOp Go.BinOp.eql 3 (Go.Operand.tmp 118) (Go.Operand.tmp 120) 3, type := 4, pos := "ref.go:141", after := #[{ on := 18, ground := Go.Ground.data }, { on := 20, ground := Go.Ground.data }, { on := 13, ground := Go.Ground.guard }], guard := some (13, true) }) (v := undef) rfl (by kernel_rfl) (by kernel_rfl) (by kernel_rfl) (fun _ _ _ h => h) (Or.inr ⟨by rfl, rfl⟩) (by assumption) ?_
                            (try simp only [Act.put, List.setIfInBounds_toArray, List.set_cons_zero, List.set_cons_succ])
                            refine wpAnyH_take (i := 22) (oi := { dst := some 122, op := Go.Op.pick (Go.Operand.tmp 113) (Go.Operand.tmp 121) (Go.Operand.const (Go.Value.bool false)), type := 4, pos := "ref.go:141", after := #[{ on := 13, ground := Go.Ground.data }, { on := 21, ground := Go.Ground.data }], guard := none }) (v := .bool false) rfl (by kernel_rfl) (by kernel_rfl) (by kernel_rfl) (fun _ _ _ h => h) (Or.inl ⟨by rfl, ?_⟩) (by assumption) ?_
                            · intro w9 hSw
                              (try dsimp only at hSw)
                              go_simp
                            (try simp only [Act.put, List.setIfInBounds_toArray, List.set_cons_zero, List.set_cons_succ])
                            refine wpAnyH_done (by kernel_rfl) ?_ _
                            have NX : Hid (Kept (fun _ => False) w9 w6 ∧ l = lastS ms (j + 1) ty) := ⟨SJ.out.1.trans K6 (fun _ _ z => z), by rw [LA.out]; simp [LJ.out]⟩
                            clear SH RR LA
                            go_wp2_with fail
                            go_roundw
                            case rel => exact ⟨l, j + 1, by first | rfl | simp, by go_num, by omega, NX⟩
                            case measure => simp [intOf] <;> omega
                      · have j1 : ¬ (j : Int) < (n : Int) := by omega
                        have LL : Hid (l = lastS ms ms.length ty ∧ Kept (fun _ => False) w9 wd) := by
                          refine ⟨?_, SJ.out.1⟩
                          have ej : n = j := by omega
                          have := SJ.out.2
                          rw [← ej, ← H.out.1.len] at this
                          exact this
                        clear SJ
                        have KD : Hid (Kept (fun _ => False) w wd) := S9.out.2.2.1.trans LL.out.2 (fun _ _ z => z)
                        have R1 := rows_apart S9.out.1 S9.out.2.1
                        by_cases hl0 : 0 ≤ l
                        · obtain ⟨d, rfl⟩ : ∃ d : Nat, l = (d : Int) := ⟨l.toNat, by omega⟩
                          have bT := LL.out.2.get S9.out.2.2.2 (fun z => z)
                          have t0 : wd.cell? ⟨T, 0, none⟩ = some (.int .i64 tx) := cell_blk bT 0 rfl
                          have t1 : wd.cell? ⟨T, 1, none⟩ = some (.int .i64 ty) := cell_blk bT 1 rfl
                          clear bT
                          go_upto_region 10 with
                            (first
                              | (at_builtin; refine wpList_append_all _ rfl (.tmp 126) (.tmp 130) 69 72 69 _ 3 24 rfl Try.underlying69 Try.info72c rfl w.heap.size (.slice p1 k1 c1) k1 (kcells (takA ms ms.length ++ B)) rfl (((S9.out.1.k0 LL.out.2).k0 ((Kept.refl (fun _ => False) wd).alloc _)).row) _ 1 (kcells [(d, tx, ty)]) rfl (src_kept (x := (d, tx, ty)) (heap_alloc_new wd _)) LN.out.2.1 LN.out.2.2 (Nat.le_trans KD.out.size ((Kept.refl (fun _ => False) wd).alloc _).size) ?_; intro pa ca wa ho hg hn9)
                              | fail)
                          have NX : Hid (TS w ms (i + 1) pa (k1 + 1) ca p9 (k2 + 1) c9 (G ++ [(tx, ty)]) (B ++ [(d, tx, ty)]) wa) := by
                            have KA : Kept (fun _ => False) wd (wd.alloc (.cells #[.int .i64 (d : Int), .int .i64 tx, .int .i64 ty] 72)) := (Kept.refl _ _).alloc _
                            have M := ((S9.out.1.k0 LL.out.2).k0 KA).more (x := (d, tx, ty)) (W0 := w) ho.out hg.out (KD.out.trans KA (fun _ _ z => z)) (Nat.le_refl _)
                            have tk := (TK.out.take HM.out.1 HM.out.2.2.1.symm (by rw [HM.out.2.1, ← HM.out.2.2.2]) (by rw [HM.out.2.1]; exact NG.out)).1 d (by rw [HM.out.2.1]; exact LL.out.1.symm)
                            rw [HM.out.2.1] at tk
                            refine ⟨by rw [← List.append_assoc]; exact M.1, ((S9.out.2.1.k0 LL.out.2).k0 KA).off M.2.2 (fun j z y => R1 j y z), tk, M.2.1⟩
                          clear ho hg hn9 S9 LL t0 t1
                          go_wp2_with fail
                          go_roundw
                          case rel => exact ⟨pa, k1 + 1, ca, p9, k2 + 1, c9, i + 1, G ++ [(tx, ty)], B ++ [(d, tx, ty)], rfl, rfl, by go_num, by omega, NX⟩
                          case measure => simp [intOf] <;> omega
                        · have NX : Hid (TS w ms (i + 1) p1 k1 c1 p9 (k2 + 1) c9 (G ++ [(tx, ty)]) B wd) := by
                            have tk := (TK.out.take HM.out.1 HM.out.2.2.1.symm (by rw [HM.out.2.1, ← HM.out.2.2.2]) (by rw [HM.out.2.1]; exact NG.out)).2 (by rw [HM.out.2.1]; have := LL.out.1; show lastS ms ms.length ty < 0; omega)
                            rw [HM.out.2.1] at tk
                            exact ⟨S9.out.1.k0 LL.out.2, S9.out.2.1.k0 LL.out.2, tk, KD.out⟩
                          clear S9 LL
                          go_wp2_with fail
                          go_roundw
                          case rel => exact ⟨p1, k1, c1, p9, k2 + 1, c9, i + 1, G ++ [(tx, ty)], B, rfl, rfl, by go_num, by omega, NX⟩
                          case measure => simp [intOf] <;> omega
                  · have NX : Hid (TS w ms (i + 1) p1 k1 c1 p2 k2 c2 G B w3) := ((ST.out.1.k0 K3)).pass HM.out.1 (.inr (.inr (by rw [HM.out.2.1]; exact SB.out.2.1 rfl)))
                    clear KC KT RR RK ST
                    go_wp2_with fail
                    go_roundw
                    case rel => exact ⟨p1, k1, c1, p2, k2, c2, i + 1, G, B, rfl, rfl, by go_num, by omega, NX⟩
                    case measure => simp [intOf] <;> omega
                · have NX : Hid (TS w ms (i + 1) p1 k1 c1 p2 k2 c2 G B w3) := ((ST.out.1.k0 K3)).pass HM.out.1 (.inr (.inl (by rw [HM.out.2.1, ← HM.out.2.2.2])))
                  clear KC KT RR RK ST
                  go_wp2_with fail
                  go_roundw
                  case rel => exact ⟨p1, k1, c1, p2, k2, c2, i + 1, G, B, rfl, rfl, by go_num, by omega, NX⟩
                  case measure => simp [intOf] <;> omega
        · have i1 : ¬ (i : Int) < (n : Int) := by omega
          have FIN : Hid (∃ IN, Tak ms IN ∧ IN.length ≤ 2 * n ∧ KRow w.heap.size wo p1 k1 c1 IN ∧ Kept (fun _ => False) w wo) := by
            have ei : n = i := by omega
            have tk := S.out.tk
            rw [← ei] at tk
            have hl := H.out.1.len
            refine ⟨takA ms ms.length ++ B, ⟨G, B, rfl, by rw [hl]; exact tk⟩, ?_, S.out.a, S.out.kept⟩
            rw [List.length_append]
            have q1 := takA_len ms ms.length
            have q2 := tk.len.2
            omega
          clear S
          go_wp2_with fail
          go_ret
          exact RetS.mk p1 k1 c1 rfl FIN.out
end Go.Proofs.Ytodmakcklacbfaa
