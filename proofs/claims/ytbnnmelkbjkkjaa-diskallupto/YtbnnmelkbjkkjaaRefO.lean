import Derived.Test.YtbnnmelkbjkkjaaRefN
namespace Go.Proofs.Ytbnnmelkbjkkjaa
open Go.RowKit

theorem nextC_drop (cs : List Int) (i m : Nat) : nextC (cs.drop i) m = (((cs.getD i 0) % (m : Int)).toNat, cs.drop (i + 1)) := by
  by_cases hlt : i < cs.length
  · rw [List.drop_eq_getElem_cons hlt, List.getD_eq_getElem?_getD, List.getElem?_eq_getElem hlt]
    rfl
  · rw [List.drop_eq_nil_of_le (by omega), List.getD_eq_getElem?_getD, List.getElem?_eq_none (by omega), List.drop_eq_nil_of_le (by omega)]
    simp [nextC]
theorem slice_read {w : World} {a : Option Addr} {n c : Nat} {l : List Nat} (r : Reads w a n c l) (h0 : 0 < n) (k : Nat) (hk : k ≤ n) (W : World) : (Instr.slice 22 (.slice a n c) none (some (.int .i64 (k : Int))) none).run Try.prog W = .ok (.slice a k c) W := by
  obtain ⟨b, off, rfl, _⟩ := r.cells h0
  have h1 := r.room
  have h2 := r.small
  unfold maxLen at h2
  have h3 : k ≤ c := by omega
  simp [Instr.slice, Instr.sliceBounds, Instr.sliceBound, asIntOf, run_underlying Try.underlying22, h3]
  intro _
  rw [Addr.add_none]
  rfl
/-- What the choices give, one by one. -/
theorem left_end {l : List Nat} {xs : List (Option (List Nat))} {cs : List Int} {ai k : Nat} (hk : k = (nextC (cs.drop ai) (xs.length + 1)).1) (hx : xs[k]? = none ∨ xs[k]? = some none) : leftL l xs (cs.drop ai) = (redoL l (xs.take k), cs.drop (ai + 1)) := by
  unfold leftL
  rw [← hk]
  have e2 : (nextC (cs.drop ai) (xs.length + 1)).2 = cs.drop (ai + 1) := by rw [nextC_drop]
  rcases hx with z | z <;> rw [z, e2]
theorem left_torn {l : List Nat} {xs : List (Option (List Nat))} {cs : List Int} {ai k k2 : Nat} {x : List Nat} (hk : k = (nextC (cs.drop ai) (xs.length + 1)).1) (hx : xs[k]? = some (some x)) (hk2 : k2 = (nextC (cs.drop (ai + 1)) x.length).1) : leftL l xs (cs.drop ai) = (redoL l (xs.take k) ++ x.take k2, cs.drop (ai + 2)) := by
  unfold leftL
  rw [← hk]
  have e2 : (nextC (cs.drop ai) (xs.length + 1)).2 = cs.drop (ai + 1) := by rw [nextC_drop]
  have e3 : (nextC (cs.drop (ai + 1)) x.length).2 = cs.drop (ai + 2) := by rw [nextC_drop]
  rw [hx, e2]
  simp only
  rw [← hk2, e3]
theorem pick_val (cs : List Int) (i m : Nat) (hm : 0 < m) : (cs.getD i 0) % (m : Int) = ((nextC (cs.drop i) m).1 : Int) := by
  rw [nextC_drop]
  have := Int.emod_nonneg (cs.getD i 0) (show (m : Int) ≠ 0 by omega)
  simp only
  omega
/-- The choice at a place. -/
theorem choice_at {w wr : World} {q : Option Addr} {n c : Nat} {cs : List Int} (r : IRd w q n c cs) (K : ∀ k, k < w.heap.size → blockOf q = some k → wr.heap[k]? = w.heap[k]?) {i : Nat} (hi : i < n) : ∃ b off, q = some ⟨b, off, none⟩ ∧ wr.cell? ⟨b, off + i, none⟩ = some (.int .i64 (cs.getD i 0)) := by
  obtain ⟨b, off, e, hc⟩ := r.cells (by omega)
  have hl := r.length
  have h1 := hc i (cs.getD i 0) (by rw [List.getD_eq_getElem?_getD, List.getElem?_eq_getElem (by omega)]; rfl)
  refine ⟨b, off, e, ?_⟩
  have hb : b < w.heap.size := World.block_lt_of_cell? w ⟨b, off + i, none⟩ h1
  exact (World.cell?_of_block (w := w) (K b hb (by rw [e]; rfl))).trans h1
set_option maxRecDepth 100000 in
set_option maxHeartbeats 16000000 in
theorem rCrash (base B : Nat) (d : RK) (q : Option Addr) (nq cq : Nat) (cs : List Int) (w : World) (h : IsR base w B d) (ok : d.ab.Ok) (r : IRd w q nq cq cs) (hqB : 0 < nq → ∀ k, blockOf q = some k → k ≠ B) :
    Calls Try.prog 49 #[.pointer (some ⟨B, 0, none⟩), .slice q nq cq] w fun x w' => ∃ rf, x = .returned (.pointer (some ⟨w.heap.size, 0, none⟩)) ∧ IsR base w' B { d with dead := true } ∧ IsR w.heap.size w' w.heap.size rf ∧ rf.ab = d.ab.crash cs ∧ Kept (fun k => k = B) w w' ∧ (∀ k, rf.Uses w.heap.size k → w.heap.size ≤ k) := by
  have c8 : w.cell? ⟨B, 8, none⟩ = some (.bool d.dead) := h.cell 8 rfl
  have c4 : w.cell? ⟨B, 4, none⟩ = some (.int .i64 (d.cur : Int)) := h.cell 4 rfl
  have s8 := h.soft 8
  have hB := block_lt h.blk
  have hqs := r.small
  have hqr := r.room
  unfold maxLen at hqs
  obtain ⟨p1, _⟩ := h.put (d' := { d with dead := true }) 8 (.bool true) rfl rfl rfl h.two
  obtain ⟨wS, hwS⟩ : ∃ wS, wS = w.setCell ⟨B, 8, none⟩ (.bool true) := ⟨_, rfl⟩
  have sz : wS.heap.size = w.heap.size := by rw [hwS]; simp [World.setCell]
  obtain ⟨W, hW⟩ : ∃ W, W = wS.alloc (.cells #[.slice none 0 0, .slice none 0 0, .slice none 0 0, .slice none 0 0, .int .i64 (d.cur : Int), .int .i64 0, .int .i64 0, .bool false, .bool false] 82) := ⟨_, rfl⟩
  have EW : Hid (W = (w.setCell ⟨B, 8, none⟩ (.bool true)).alloc (.cells #[.slice none 0 0, .slice none 0 0, .slice none 0 0, .slice none 0 0, .int .i64 (d.cur : Int), .int .i64 0, .int .i64 0, .bool false, .bool false] 82)) := by show W = _; rw [hW, hwS]
  have KS : Kept (fun k => k = B) w wS := by rw [hwS]; exact (Kept.refl (fun k => k = B) w).setCell (p := ⟨B, 8, none⟩) (fun _ => rfl) _
  rw [← hwS] at p1
  have DK0 : Hid (IsR base wS B { d with dead := true }) := p1
  have OK : Hid d.ab.Ok := ok
  have H : Hid (IRd w q nq cq cs ∧ Kept (fun k => k = B) w wS ∧ wS.heap.size = w.heap.size) := ⟨r, KS, sz⟩
  have CK : Hid (0 < nq → ∀ V : World, Kept (fun _ => False) wS V → ∀ k, k < w.heap.size → blockOf q = some k → V.heap[k]? = w.heap[k]?) := fun h0 V KV k hk hb => by
    rw [KV.block k (by rw [sz]; exact hk) (fun z => z)]
    exact KS.block k hk (hqB h0 k hb)
  have S0 : Hid (LR w.heap.size wS W ⟨⟨none, 0, 0, [], none, 0, 0, []⟩, ⟨none, 0, 0, [], none, 0, 0, []⟩, d.cur, 0, 0, false, false⟩ (leftL d.ab.l0 d.ab.X0 cs).1 (leftL d.ab.l1 d.ab.X1 (leftL d.ab.l0 d.ab.X0 cs).2).1 d.cur 0 ∧ cs.drop 0 = restN d.ab cs 0) := by
    refine ⟨⟨IsR.zero (by rw [hW, ← sz]; exact alloc_new _ _) (by omega) h.two, rfl, by rw [hW]; exact alloc_kept0 _ _, fun k hk => by rw [rzero_uses hk]; omega⟩, rfl⟩
  clear h ok r hqB p1 hwS hW KS
  go_enter Try.func49, Try.ntmps49
  go_upto_region 5 with fail
  rw [← EW.out]
  clear c8 c4 s8
  go_wp2_with fail
  go_loopw [6, 7] (fun xa x wr => ∃ (i ai : Nat) (r : RK), x = .int .i64 (i : Int) ∧ xa = .int .i64 (ai : Int) ∧ i ≤ 2 ∧ ai ≤ 2 * i ∧ Hid (LR w.heap.size wS wr r (leftL d.ab.l0 d.ab.X0 cs).1 (leftL d.ab.l1 d.ab.X1 (leftL d.ab.l0 d.ab.X0 cs).2).1 d.cur i ∧ cs.drop ai = restN d.ab cs i)) (fun _ x _ => 2 - (intOf x).toNat)
  case atStart => exact ⟨0, 0, _, rfl, rfl, Nat.zero_le _, Nat.zero_le _, S0.out⟩
  case round =>
    obtain ⟨i, ai, r, rfl, rfl, hi, hai, S⟩ := hrel
    have hi3 : i = 0 ∨ i = 1 ∨ i = 2 := by omega
    rcases hi3 with rfl | rfl | rfl
    ·
      obtain ⟨wo, rfl⟩ : ∃ wo : World, wo = wr := ⟨_, rfl⟩
      have IB := DK0.out.kept0 S.out.1.kept
      have c0 : wo.cell? ⟨B, 0, none⟩ = some (.slice d.s0.a d.s0.n d.s0.c) := IB.cell 0 rfl
      have c1 : wo.cell? ⟨B, 2, none⟩ = some (.slice d.s0.la d.s0.ln d.s0.lc) := IB.cell 2 rfl
      have ZZ : Hid (IsRS base wo d.s0 ∧ d.s0.l.length + weigh d.s0.xs ≤ Lim) := ⟨IB.z0, OK.out.w0⟩
      have RR : Hid (RRd wo d.s0.la d.s0.ln d.s0.lc d.s0.L) := owns_rrd IB.z0.lown
      have hll := RR.out.length
      have hlr := RR.out.room
      have hls := RR.out.small
      unfold maxLen at hls
      have hxl0 : d.s0.xs.length = d.s0.ln := IB.z0.xlen
      have hlb : d.s0.ln + 1 < 4611686018427387904 := by have h1 : d.s0.xs.length + 1 ≤ Lim := OK.out.n0; unfold Lim at h1; omega
      obtain ⟨kN, hkN⟩ : ∃ kN, kN = (nextC (cs.drop ai) (d.s0.xs.length + 1)).1 := ⟨_, rfl⟩
      have kNle : kN ≤ d.s0.ln := by have := nextC_lt (cs.drop ai) (d.s0.xs.length + 1) (by omega); omega
      have KN : Hid (kN = (nextC (cs.drop ai) (d.ab.X0.length + 1)).1 ∧ (cs.getD ai 0) % ((d.s0.ln + 1 : Nat) : Int) = (kN : Int)) := ⟨hkN, by rw [hkN, hxl0]; exact pick_val cs ai (d.s0.ln + 1) (by omega)⟩
      have RS0 : Hid (cs.drop ai = restN d.ab cs 0) := S.out.2
      have wm : IntKind.i64.wrap ((d.s0.ln : Int) + 1) = ((d.s0.ln + 1 : Nat) : Int) := by rw [IntKind.wrap_i64]; omega
      have sn : Hid (d.s0.n ≤ 140737488355328) := by
        have h1 : d.s0.l.length = d.s0.n := len_own IB.z0.own
        have h2 := ZZ.out.2
        unfold Lim at h2
        show d.s0.n ≤ 140737488355328
        omega
      clear IB hkN
      rw [show (((0 : Nat)) : Int) = 0 from rfl]
      by_cases ha : ai < nq
      · have ia : (ai : Int) < (nq : Int) := by omega
        obtain ⟨b8, off8, hq8, g8⟩ := choice_at H.out.1 (CK.out (by omega) wo S.out.1.kept) ha
        rw [hq8]
        go_wp2_with fail
        refine (rmodulo (cs.getD ai 0) (d.s0.ln + 1) wo (by omega) hlb).mono ?_
        rintro x wm' ⟨rfl, em⟩
        rw [em, KN.out.2]
        clear em wm'
        go_wp2_with
          (first
            | (at_builtin; refine wpList_append_bytes _ rfl (.tmp 49) (.tmp 55) rfl wo.heap.size (.slice none 0 0) 0 [] rfl (World.ownsRow_nil _ _ _ _) (.slice d.s0.a d.s0.n d.s0.c) d.s0.n d.s0.l rfl (rread ZZ.out.1).src (by rw [Nat.zero_add]; exact sn.out) (Nat.le_refl _) ?_; intro p1 k1 w1 ho hg hn
               rw [Nat.zero_add] at ho ⊢
               rw [List.nil_append] at ho
               have K1 : Kept (fun _ => False) wo w1 := (Kept.refl (fun _ => False) wo).grown hg.out (fun k _ z => by simp [Value.ownBlock] at z)
               have X1 : Hid (w1.ownsRow wo.heap.size 5 1 (.slice p1 d.s0.n k1) d.s0.n (cellsOf d.s0.l) ∧ Kept (fun _ => False) wo w1) := ⟨ho.out, K1⟩
               clear ho hg hn K1)
            | fail)
        go_loopw [11, 12] (fun y x wr => ∃ (i2 : Nat) (a' : Option Addr) (n' c' : Nat), x = .int .i64 (i2 : Int) ∧ y = .slice a' n' c' ∧ i2 ≤ kN ∧ Hid (wr.ownsRow wo.heap.size 5 1 (.slice a' n' c') n' (cellsOf (redoL d.s0.l (d.s0.xs.take i2))) ∧ Kept (fun _ => False) wo wr)) (fun _ x _ => kN - (intOf x).toNat)
        case atStart => exact ⟨0, p1, d.s0.n, k1, rfl, rfl, Nat.zero_le _, by simp only [List.take_zero]; exact X1.out.1, X1.out.2⟩
        case round =>
          obtain ⟨i2, a', n', c', rfl, rfl, hi2, S2⟩ := hrel
          by_cases hlt2 : i2 < kN
          · have i1 : (i2 : Int) < (kN : Int) := by omega
            have i3 : (i2 : Int) < (d.s0.ln : Int) := by omega
            obtain ⟨e, he⟩ : ∃ e, d.s0.L[i2]? = some e := ⟨_, List.getElem?_eq_getElem (by omega)⟩
            obtain ⟨b, off, hla, hc⟩ := RR.out.cells (by omega)
            have f0 := S2.out.2.cell (hc i2 e he).1 (fun z => z)
            have f1 := S2.out.2.cell (hc i2 e he).2 (fun z => z)
            have heL : e ∈ d.s0.L := List.mem_of_getElem? he
            have tk : d.s0.xs.take (i2 + 1) = d.s0.xs.take i2 ++ [e.x] := by
              obtain ⟨h1, h2⟩ := List.getElem?_eq_some_iff.1 he
              unfold RSl.xs
              rw [List.take_succ_eq_append_getElem (by rw [List.length_map]; omega), List.getElem_map, h2]
            have G : Hid (e.Good wr ∧ redoL d.s0.l (d.s0.xs.take (i2 + 1)) = stepA (redoL d.s0.l (d.s0.xs.take i2)) e.x ∧ Reads wr a' n' c' (redoL d.s0.l (d.s0.xs.take i2)) ∧ (redoL d.s0.l (d.s0.xs.take i2)).length + ((e.x).getD []).length ≤ 2 * Lim) := by
              refine ⟨(ZZ.out.1.good e heL).off S2.out.2 (fun _ _ z => z), by rw [tk, redoL_snoc], owned_reads' S2.out.1 (redoL_bytes _ _ ZZ.out.1.bytes (fun x hx => rgood_bytes ZZ.out.1.good x (List.mem_of_mem_take hx))), ?_⟩
              have h1 := redoL_length (d.s0.xs.take i2) d.s0.l
              have h2 := weigh_take d.s0.xs i2
              have h3 := ZZ.out.2
              have h4 : ((e.x).getD []).length ≤ weigh d.s0.xs := by
                cases hx : e.x with
                | none => simp
                | some l2 => exact weigh_mem (List.mem_map.2 ⟨e, heL, hx⟩)
              omega
            rw [hla]
            clear hc he heL tk
            go_wp2_with fail
            refine (laidA a' n' c' _ e wr G.out.2.2.1 G.out.1 G.out.2.2.2).mono ?_
            rintro x w2 ⟨p2, m2, k2, rfl, o2, K2⟩
            have S3 : Hid (w2.ownsRow wo.heap.size 5 1 (.slice p2 m2 k2) m2 (cellsOf (redoL d.s0.l (d.s0.xs.take (i2 + 1)))) ∧ Kept (fun _ => False) wo w2) := ⟨by rw [G.out.2.1]; exact owns_mono o2 S2.out.2.size, S2.out.2.trans K2 (fun _ _ z => z)⟩
            clear o2 K2
            go_wp2_with fail
            go_roundw
            case rel => exact ⟨i2 + 1, p2, m2, k2, by go_num, rfl, by omega, S3.out⟩
            case measure => simp [intOf]; omega
          · have he : i2 = kN := by omega
            have i1 : ¬ (i2 : Int) < (kN : Int) := by omega
            subst he
            by_cases hend : i2 < d.s0.ln
            · have i4 : (i2 : Int) < (d.s0.ln : Int) := by omega
              obtain ⟨e, he⟩ : ∃ e, d.s0.L[i2]? = some e := ⟨_, List.getElem?_eq_getElem (by omega)⟩
              obtain ⟨b, off, hla, hc⟩ := RR.out.cells (by omega)
              have f0 := S2.out.2.cell (hc i2 e he).1 (fun z => z)
              have f1 := S2.out.2.cell (hc i2 e he).2 (fun z => z)
              have F1 : Hid (wo.cell? ⟨b, off + i2 * 2 + 1, none⟩ = some (.slice e.a e.n e.c)) := (hc i2 e he).2
              have heL : e ∈ d.s0.L := List.mem_of_getElem? he
              have hex : d.s0.xs[i2]? = some e.x := by unfold RSl.xs; rw [List.getElem?_map, he]; rfl
              have gg : e.Good wr := (ZZ.out.1.good e heL).off S2.out.2 (fun _ _ z => z)
              rw [hla]
              cases hx : e.x with
              | none =>
                have hw : e.w = true := by unfold RA.w; rw [hx]; rfl
                rw [hw] at f0
                rw [hx] at hex
                have OO : Hid (wr.ownsRow wo.heap.size 5 1 (.slice a' n' c') n' (cellsOf (leftL d.ab.l0 d.ab.X0 (restN d.ab cs 0)).1) ∧ Kept (fun _ => False) wo wr ∧ (∀ c ∈ (leftL d.ab.l0 d.ab.X0 (restN d.ab cs 0)).1, c < 256) ∧ cs.drop (ai + 1) = restN d.ab cs 1) := by
                  have e1 := left_end (l := d.ab.l0) (cs := cs) (ai := ai) KN.out.1 (by exact .inr hex)
                  rw [RS0.out] at e1
                  refine ⟨by rw [e1]; exact S2.out.1, S2.out.2, by rw [e1]; exact redoL_bytes _ _ ZZ.out.1.bytes (fun x hx => rgood_bytes ZZ.out.1.good x (List.mem_of_mem_take hx)), ?_⟩
                  have : restN d.ab cs 1 = (leftL d.ab.l0 d.ab.X0 (restN d.ab cs 0)).2 := rfl
                  rw [this, e1]
                clear hc he heL gg hex hx hw
                have I2 := S.out.1.is.kept0 OO.out.2.1
                have v0 : wr.cell? ⟨w.heap.size, 0, none⟩ = some (.slice r.s0.a r.s0.n r.s0.c) := I2.cell 0 rfl
                have v1 := I2.soft 0
                clear I2
                have Z : Hid (LR w.heap.size wS (wr.setCell ⟨w.heap.size, 0, none⟩ (.slice a' n' c')) { r with s0 := { r.s0 with a := a', n := n', c := c', l := (leftL d.ab.l0 d.ab.X0 (restN d.ab cs 0)).1 } } (leftL d.ab.l0 d.ab.X0 cs).1 (leftL d.ab.l1 d.ab.X1 (leftL d.ab.l0 d.ab.X0 cs).2).1 d.cur 1 ∧ cs.drop (ai + 1) = restN d.ab cs 1) := ⟨S.out.1.step0 OO.out.1 OO.out.2.2.1 OO.out.2.1, OO.out.2.2.2⟩
                go_wp2_with fail
                go_roundw
                case rel => exact ⟨1, (ai + 1), _, by go_num, by go_num, by omega, by omega, Z.out⟩
                case measure => simp [intOf]
              | some x2 =>
                have hw : e.w = false := by unfold RA.w; rw [hx]; rfl
                obtain ⟨hx0, rx⟩ := gg.bytes x2 hx
                have hxl := rx.length
                have hxs := rx.small
                unfold maxLen at hxs
                have hxr := rx.room
                rw [hw] at f0
                rw [hx] at hex
                have hxw : x2.length ≤ weigh d.s0.xs := weigh_mem (List.mem_of_getElem? hex)
                obtain ⟨kM, hkM⟩ : ∃ kM, kM = (nextC (cs.drop (ai + 1)) x2.length).1 := ⟨_, rfl⟩
                have kMlt : kM < x2.length := by rw [hkM]; exact nextC_lt _ _ hx0
                have EM : Hid ((cs.getD (ai + 1) 0) % (e.n : Int) = (kM : Int)) := by show _ = (kM : Int); rw [hkM, ← hxl]; exact pick_val cs (ai + 1) x2.length hx0
                have slc : ∀ V : World, (Instr.slice 22 (.slice e.a e.n e.c) none (some (.int .i64 (kM : Int))) none).run Try.prog V = .ok (.slice e.a kM e.c) V := slice_read rx (by omega) kM (by omega)
                have OL : Hid (leftL d.ab.l0 d.ab.X0 (restN d.ab cs 0) = (redoL d.s0.l (d.s0.xs.take i2) ++ x2.take kM, cs.drop (ai + 2)) ∧ Reads wr e.a kM e.c (x2.take kM) ∧ n' + kM ≤ 140737488355328) := by
                  have e1 := left_torn (l := d.ab.l0) (cs := cs) (ai := ai) KN.out.1 hex hkM
                  rw [RS0.out] at e1
                  refine ⟨e1, rx.take kM (by omega), ?_⟩
                  have h1 := redoL_length (d.s0.xs.take i2) d.s0.l
                  have h2 := weigh_take d.s0.xs i2
                  have h3 := ZZ.out.2
                  have h4 := len_own S2.out.1
                  unfold Lim at h3
                  omega
                have en0 : 0 < e.n := by omega
                have enb : e.n < 4611686018427387904 := by have h3 := ZZ.out.2; unfold Lim at h3; omega
                have ai1 : ai + 1 ≤ 4 := by omega
                clear hc he heL gg hex hx hw rx hxw hkM hxs hxr
                have KD : Hid (Kept (fun _ => False) wr wr.drew) := (Kept.refl (fun _ => False) wr).drew
                by_cases ha2 : ai + 1 < nq
                · have ib : ((ai + 1 : Nat) : Int) < (nq : Int) := by omega
                  have ib' : (ai : Int) + 1 < (nq : Int) := by omega
                  obtain ⟨b9, off9, hq9, g9⟩ := choice_at H.out.1 (CK.out (by omega) wr (S.out.1.kept.trans S2.out.2 (fun _ _ z => z))) ha2
                  obtain ⟨e8, e9⟩ : b8 = b9 ∧ off8 = off9 := by rw [hq8] at hq9; simpa using hq9
                  subst e8 e9
                  have g9' : wr.cell? ⟨b8, off8 + ai + 1, none⟩ = some (.int .i64 (cs.getD (ai + 1) 0)) := by rw [Nat.add_assoc]; exact g9
                  go_wp2_with fail
                  go_region_held3 (fun w' => w'.cell? ⟨b, off + i2 * 2 + 1, none⟩ = some (.slice e.a e.n e.c)) (first | go_keep)
                    (first
                      | (go_at_call 67; refine (rmodulo (cs.getD (ai + 1) 0) e.n wr.drew en0 enb).mono ?_; rintro x wm ⟨rfl, em⟩
                         rw [em, EM.out]
                         clear em wm)
                      | (refine step_append_d _ (by rfl) 105 (by rfl) (.tmp 90) (.tmp 104) 22 5 22 _ 1 1 (by rfl) Try.underlying22 Try.info5 rfl wo.heap.size (.slice a' n' c') n' (cellsOf (redoL d.s0.l (d.s0.xs.take i2))) (by rfl) (KD.out.owns S2.out.1 (fun _ _ z => z)) (.slice e.a kM e.c) kM (cellsOf (x2.take kM)) (by rfl) (OL.out.2.1.kept' KD.out (fun _ _ z => z)).src (by have := OL.out.2.2; unfold maxLen; omega) (by have := OL.out.2.2; omega) (by have := S2.out.2.size; rw [drew_size]; omega) ?_; intro p3 c3 w3 ho hg hn
                         have K3 : Kept (fun _ => False) wo w3 := (S2.out.2.trans KD.out (fun _ _ z => z)).grown hg.out (fun k hk z => by have := (S2.out.1.lt k z).1; omega)
                         have OO : Hid (w3.ownsRow wo.heap.size 5 1 (.slice p3 (n' + kM) c3) (n' + kM) (cellsOf (leftL d.ab.l0 d.ab.X0 (restN d.ab cs 0)).1) ∧ Kept (fun _ => False) wo w3 ∧ (∀ c ∈ (leftL d.ab.l0 d.ab.X0 (restN d.ab cs 0)).1, c < 256) ∧ cs.drop (ai + 2) = restN d.ab cs 1) := by
                           refine ⟨by rw [OL.out.1, cellsOf_append]; exact ho.out, K3, ?_, ?_⟩
                           · rw [OL.out.1]
                             intro c hc
                             rcases List.mem_append.1 hc with z | z
                             · exact redoL_bytes _ _ ZZ.out.1.bytes (fun x hx => rgood_bytes ZZ.out.1.good x (List.mem_of_mem_take hx)) c z
                             · exact OL.out.2.1.bytes c z
                           · have : restN d.ab cs 1 = (leftL d.ab.l0 d.ab.X0 (restN d.ab cs 0)).2 := rfl
                             rw [this, OL.out.1]
                         have f1' := K3.cell F1.out (fun z => z)
                         clear ho hg hn K3)
                      | fail)
                  have I2 := S.out.1.is.kept0 OO.out.2.1
                  have v0 : w3.cell? ⟨w.heap.size, 0, none⟩ = some (.slice r.s0.a r.s0.n r.s0.c) := I2.cell 0 rfl
                  have v1 := I2.soft 0
                  clear I2
                  have Z : Hid (LR w.heap.size wS (w3.setCell ⟨w.heap.size, 0, none⟩ (.slice p3 (n' + kM) c3)) { r with s0 := { r.s0 with a := p3, n := (n' + kM), c := c3, l := (leftL d.ab.l0 d.ab.X0 (restN d.ab cs 0)).1 } } (leftL d.ab.l0 d.ab.X0 cs).1 (leftL d.ab.l1 d.ab.X1 (leftL d.ab.l0 d.ab.X0 cs).2).1 d.cur 1 ∧ cs.drop (ai + 2) = restN d.ab cs 1) := ⟨S.out.1.step0 OO.out.1 OO.out.2.2.1 OO.out.2.1, OO.out.2.2.2⟩
                  go_wp2_with fail
                  go_roundw
                  case rel => exact ⟨1, (ai + 2), _, by go_num, by go_num, by omega, by omega, Z.out⟩
                  case measure => simp [intOf]
                · have ib : ¬ ((ai + 1 : Nat) : Int) < (nq : Int) := by omega
                  have ib' : ¬ (ai : Int) + 1 < (nq : Int) := by omega
                  have cz : cs.getD (ai + 1) 0 = 0 := by rw [List.getD_eq_getElem?_getD, List.getElem?_eq_none (by rw [H.out.1.length]; omega)]; rfl
                  rw [cz] at EM
                  go_wp2_with fail
                  go_region_held3 (fun w' => w'.cell? ⟨b, off + i2 * 2 + 1, none⟩ = some (.slice e.a e.n e.c)) (first | go_keep)
                    (first
                      | (go_at_call 67; refine (rmodulo (0) e.n wr.drew en0 enb).mono ?_; rintro x wm ⟨rfl, em⟩
                         rw [em, EM.out]
                         clear em wm)
                      | (refine step_append_d _ (by rfl) 105 (by rfl) (.tmp 90) (.tmp 104) 22 5 22 _ 1 1 (by rfl) Try.underlying22 Try.info5 rfl wo.heap.size (.slice a' n' c') n' (cellsOf (redoL d.s0.l (d.s0.xs.take i2))) (by rfl) (KD.out.owns S2.out.1 (fun _ _ z => z)) (.slice e.a kM e.c) kM (cellsOf (x2.take kM)) (by rfl) (OL.out.2.1.kept' KD.out (fun _ _ z => z)).src (by have := OL.out.2.2; unfold maxLen; omega) (by have := OL.out.2.2; omega) (by have := S2.out.2.size; rw [drew_size]; omega) ?_; intro p3 c3 w3 ho hg hn
                         have K3 : Kept (fun _ => False) wo w3 := (S2.out.2.trans KD.out (fun _ _ z => z)).grown hg.out (fun k hk z => by have := (S2.out.1.lt k z).1; omega)
                         have OO : Hid (w3.ownsRow wo.heap.size 5 1 (.slice p3 (n' + kM) c3) (n' + kM) (cellsOf (leftL d.ab.l0 d.ab.X0 (restN d.ab cs 0)).1) ∧ Kept (fun _ => False) wo w3 ∧ (∀ c ∈ (leftL d.ab.l0 d.ab.X0 (restN d.ab cs 0)).1, c < 256) ∧ cs.drop (ai + 2) = restN d.ab cs 1) := by
                           refine ⟨by rw [OL.out.1, cellsOf_append]; exact ho.out, K3, ?_, ?_⟩
                           · rw [OL.out.1]
                             intro c hc
                             rcases List.mem_append.1 hc with z | z
                             · exact redoL_bytes _ _ ZZ.out.1.bytes (fun x hx => rgood_bytes ZZ.out.1.good x (List.mem_of_mem_take hx)) c z
                             · exact OL.out.2.1.bytes c z
                           · have : restN d.ab cs 1 = (leftL d.ab.l0 d.ab.X0 (restN d.ab cs 0)).2 := rfl
                             rw [this, OL.out.1]
                         have f1' := K3.cell F1.out (fun z => z)
                         clear ho hg hn K3)
                      | fail)
                  have I2 := S.out.1.is.kept0 OO.out.2.1
                  have v0 : w3.cell? ⟨w.heap.size, 0, none⟩ = some (.slice r.s0.a r.s0.n r.s0.c) := I2.cell 0 rfl
                  have v1 := I2.soft 0
                  clear I2
                  have Z : Hid (LR w.heap.size wS (w3.setCell ⟨w.heap.size, 0, none⟩ (.slice p3 (n' + kM) c3)) { r with s0 := { r.s0 with a := p3, n := (n' + kM), c := c3, l := (leftL d.ab.l0 d.ab.X0 (restN d.ab cs 0)).1 } } (leftL d.ab.l0 d.ab.X0 cs).1 (leftL d.ab.l1 d.ab.X1 (leftL d.ab.l0 d.ab.X0 cs).2).1 d.cur 1 ∧ cs.drop (ai + 2) = restN d.ab cs 1) := ⟨S.out.1.step0 OO.out.1 OO.out.2.2.1 OO.out.2.1, OO.out.2.2.2⟩
                  go_wp2_with fail
                  go_roundw
                  case rel => exact ⟨1, (ai + 2), _, by go_num, by go_num, by omega, by omega, Z.out⟩
                  case measure => simp [intOf]
            · have hend2 : i2 = d.s0.ln := by omega
              have i4 : ¬ (i2 : Int) < (d.s0.ln : Int) := by omega
              have OO : Hid (wr.ownsRow wo.heap.size 5 1 (.slice a' n' c') n' (cellsOf (leftL d.ab.l0 d.ab.X0 (restN d.ab cs 0)).1) ∧ Kept (fun _ => False) wo wr ∧ (∀ c ∈ (leftL d.ab.l0 d.ab.X0 (restN d.ab cs 0)).1, c < 256) ∧ cs.drop (ai + 1) = restN d.ab cs 1) := by
                have e1 := left_end (l := d.ab.l0) (cs := cs) (ai := ai) KN.out.1 (by exact .inl (List.getElem?_eq_none (by show d.s0.xs.length ≤ i2; rw [ZZ.out.1.xlen]; omega)))
                rw [RS0.out] at e1
                refine ⟨by rw [e1]; exact S2.out.1, S2.out.2, by rw [e1]; exact redoL_bytes _ _ ZZ.out.1.bytes (fun x hx => rgood_bytes ZZ.out.1.good x (List.mem_of_mem_take hx)), ?_⟩
                have : restN d.ab cs 1 = (leftL d.ab.l0 d.ab.X0 (restN d.ab cs 0)).2 := rfl
                rw [this, e1]
              have I2 := S.out.1.is.kept0 OO.out.2.1
              have v0 : wr.cell? ⟨w.heap.size, 0, none⟩ = some (.slice r.s0.a r.s0.n r.s0.c) := I2.cell 0 rfl
              have v1 := I2.soft 0
              clear I2
              have Z : Hid (LR w.heap.size wS (wr.setCell ⟨w.heap.size, 0, none⟩ (.slice a' n' c')) { r with s0 := { r.s0 with a := a', n := n', c := c', l := (leftL d.ab.l0 d.ab.X0 (restN d.ab cs 0)).1 } } (leftL d.ab.l0 d.ab.X0 cs).1 (leftL d.ab.l1 d.ab.X1 (leftL d.ab.l0 d.ab.X0 cs).2).1 d.cur 1 ∧ cs.drop (ai + 1) = restN d.ab cs 1) := ⟨S.out.1.step0 OO.out.1 OO.out.2.2.1 OO.out.2.1, OO.out.2.2.2⟩
              go_wp2_with fail
              go_roundw
              case rel => exact ⟨1, (ai + 1), _, by go_num, by go_num, by omega, by omega, Z.out⟩
              case measure => simp [intOf]
      · have ia : ¬ (ai : Int) < (nq : Int) := by omega
        have cz : cs.getD ai 0 = 0 := by rw [List.getD_eq_getElem?_getD, List.getElem?_eq_none (by rw [H.out.1.length]; omega)]; rfl
        rw [cz] at KN
        go_wp2_with fail
        refine (rmodulo (0) (d.s0.ln + 1) wo (by omega) hlb).mono ?_
        rintro x wm' ⟨rfl, em⟩
        rw [em, KN.out.2]
        clear em wm'
        go_wp2_with
          (first
            | (at_builtin; refine wpList_append_bytes _ rfl (.tmp 49) (.tmp 55) rfl wo.heap.size (.slice none 0 0) 0 [] rfl (World.ownsRow_nil _ _ _ _) (.slice d.s0.a d.s0.n d.s0.c) d.s0.n d.s0.l rfl (rread ZZ.out.1).src (by rw [Nat.zero_add]; exact sn.out) (Nat.le_refl _) ?_; intro p1 k1 w1 ho hg hn
               rw [Nat.zero_add] at ho ⊢
               rw [List.nil_append] at ho
               have K1 : Kept (fun _ => False) wo w1 := (Kept.refl (fun _ => False) wo).grown hg.out (fun k _ z => by simp [Value.ownBlock] at z)
               have X1 : Hid (w1.ownsRow wo.heap.size 5 1 (.slice p1 d.s0.n k1) d.s0.n (cellsOf d.s0.l) ∧ Kept (fun _ => False) wo w1) := ⟨ho.out, K1⟩
               clear ho hg hn K1)
            | fail)
        go_loopw [11, 12] (fun y x wr => ∃ (i2 : Nat) (a' : Option Addr) (n' c' : Nat), x = .int .i64 (i2 : Int) ∧ y = .slice a' n' c' ∧ i2 ≤ kN ∧ Hid (wr.ownsRow wo.heap.size 5 1 (.slice a' n' c') n' (cellsOf (redoL d.s0.l (d.s0.xs.take i2))) ∧ Kept (fun _ => False) wo wr)) (fun _ x _ => kN - (intOf x).toNat)
        case atStart => exact ⟨0, p1, d.s0.n, k1, rfl, rfl, Nat.zero_le _, by simp only [List.take_zero]; exact X1.out.1, X1.out.2⟩
        case round =>
          obtain ⟨i2, a', n', c', rfl, rfl, hi2, S2⟩ := hrel
          by_cases hlt2 : i2 < kN
          · have i1 : (i2 : Int) < (kN : Int) := by omega
            have i3 : (i2 : Int) < (d.s0.ln : Int) := by omega
            obtain ⟨e, he⟩ : ∃ e, d.s0.L[i2]? = some e := ⟨_, List.getElem?_eq_getElem (by omega)⟩
            obtain ⟨b, off, hla, hc⟩ := RR.out.cells (by omega)
            have f0 := S2.out.2.cell (hc i2 e he).1 (fun z => z)
            have f1 := S2.out.2.cell (hc i2 e he).2 (fun z => z)
            have heL : e ∈ d.s0.L := List.mem_of_getElem? he
            have tk : d.s0.xs.take (i2 + 1) = d.s0.xs.take i2 ++ [e.x] := by
              obtain ⟨h1, h2⟩ := List.getElem?_eq_some_iff.1 he
              unfold RSl.xs
              rw [List.take_succ_eq_append_getElem (by rw [List.length_map]; omega), List.getElem_map, h2]
            have G : Hid (e.Good wr ∧ redoL d.s0.l (d.s0.xs.take (i2 + 1)) = stepA (redoL d.s0.l (d.s0.xs.take i2)) e.x ∧ Reads wr a' n' c' (redoL d.s0.l (d.s0.xs.take i2)) ∧ (redoL d.s0.l (d.s0.xs.take i2)).length + ((e.x).getD []).length ≤ 2 * Lim) := by
              refine ⟨(ZZ.out.1.good e heL).off S2.out.2 (fun _ _ z => z), by rw [tk, redoL_snoc], owned_reads' S2.out.1 (redoL_bytes _ _ ZZ.out.1.bytes (fun x hx => rgood_bytes ZZ.out.1.good x (List.mem_of_mem_take hx))), ?_⟩
              have h1 := redoL_length (d.s0.xs.take i2) d.s0.l
              have h2 := weigh_take d.s0.xs i2
              have h3 := ZZ.out.2
              have h4 : ((e.x).getD []).length ≤ weigh d.s0.xs := by
                cases hx : e.x with
                | none => simp
                | some l2 => exact weigh_mem (List.mem_map.2 ⟨e, heL, hx⟩)
              omega
            rw [hla]
            clear hc he heL tk
            go_wp2_with fail
            refine (laidA a' n' c' _ e wr G.out.2.2.1 G.out.1 G.out.2.2.2).mono ?_
            rintro x w2 ⟨p2, m2, k2, rfl, o2, K2⟩
            have S3 : Hid (w2.ownsRow wo.heap.size 5 1 (.slice p2 m2 k2) m2 (cellsOf (redoL d.s0.l (d.s0.xs.take (i2 + 1)))) ∧ Kept (fun _ => False) wo w2) := ⟨by rw [G.out.2.1]; exact owns_mono o2 S2.out.2.size, S2.out.2.trans K2 (fun _ _ z => z)⟩
            clear o2 K2
            go_wp2_with fail
            go_roundw
            case rel => exact ⟨i2 + 1, p2, m2, k2, by go_num, rfl, by omega, S3.out⟩
            case measure => simp [intOf]; omega
          · have he : i2 = kN := by omega
            have i1 : ¬ (i2 : Int) < (kN : Int) := by omega
            subst he
            by_cases hend : i2 < d.s0.ln
            · have i4 : (i2 : Int) < (d.s0.ln : Int) := by omega
              obtain ⟨e, he⟩ : ∃ e, d.s0.L[i2]? = some e := ⟨_, List.getElem?_eq_getElem (by omega)⟩
              obtain ⟨b, off, hla, hc⟩ := RR.out.cells (by omega)
              have f0 := S2.out.2.cell (hc i2 e he).1 (fun z => z)
              have f1 := S2.out.2.cell (hc i2 e he).2 (fun z => z)
              have F1 : Hid (wo.cell? ⟨b, off + i2 * 2 + 1, none⟩ = some (.slice e.a e.n e.c)) := (hc i2 e he).2
              have heL : e ∈ d.s0.L := List.mem_of_getElem? he
              have hex : d.s0.xs[i2]? = some e.x := by unfold RSl.xs; rw [List.getElem?_map, he]; rfl
              have gg : e.Good wr := (ZZ.out.1.good e heL).off S2.out.2 (fun _ _ z => z)
              rw [hla]
              cases hx : e.x with
              | none =>
                have hw : e.w = true := by unfold RA.w; rw [hx]; rfl
                rw [hw] at f0
                rw [hx] at hex
                have OO : Hid (wr.ownsRow wo.heap.size 5 1 (.slice a' n' c') n' (cellsOf (leftL d.ab.l0 d.ab.X0 (restN d.ab cs 0)).1) ∧ Kept (fun _ => False) wo wr ∧ (∀ c ∈ (leftL d.ab.l0 d.ab.X0 (restN d.ab cs 0)).1, c < 256) ∧ cs.drop (ai + 1) = restN d.ab cs 1) := by
                  have e1 := left_end (l := d.ab.l0) (cs := cs) (ai := ai) KN.out.1 (by exact .inr hex)
                  rw [RS0.out] at e1
                  refine ⟨by rw [e1]; exact S2.out.1, S2.out.2, by rw [e1]; exact redoL_bytes _ _ ZZ.out.1.bytes (fun x hx => rgood_bytes ZZ.out.1.good x (List.mem_of_mem_take hx)), ?_⟩
                  have : restN d.ab cs 1 = (leftL d.ab.l0 d.ab.X0 (restN d.ab cs 0)).2 := rfl
                  rw [this, e1]
                clear hc he heL gg hex hx hw
                have I2 := S.out.1.is.kept0 OO.out.2.1
                have v0 : wr.cell? ⟨w.heap.size, 0, none⟩ = some (.slice r.s0.a r.s0.n r.s0.c) := I2.cell 0 rfl
                have v1 := I2.soft 0
                clear I2
                have Z : Hid (LR w.heap.size wS (wr.setCell ⟨w.heap.size, 0, none⟩ (.slice a' n' c')) { r with s0 := { r.s0 with a := a', n := n', c := c', l := (leftL d.ab.l0 d.ab.X0 (restN d.ab cs 0)).1 } } (leftL d.ab.l0 d.ab.X0 cs).1 (leftL d.ab.l1 d.ab.X1 (leftL d.ab.l0 d.ab.X0 cs).2).1 d.cur 1 ∧ cs.drop (ai + 1) = restN d.ab cs 1) := ⟨S.out.1.step0 OO.out.1 OO.out.2.2.1 OO.out.2.1, OO.out.2.2.2⟩
                go_wp2_with fail
                go_roundw
                case rel => exact ⟨1, (ai + 1), _, by go_num, by go_num, by omega, by omega, Z.out⟩
                case measure => simp [intOf]
              | some x2 =>
                have hw : e.w = false := by unfold RA.w; rw [hx]; rfl
                obtain ⟨hx0, rx⟩ := gg.bytes x2 hx
                have hxl := rx.length
                have hxs := rx.small
                unfold maxLen at hxs
                have hxr := rx.room
                rw [hw] at f0
                rw [hx] at hex
                have hxw : x2.length ≤ weigh d.s0.xs := weigh_mem (List.mem_of_getElem? hex)
                obtain ⟨kM, hkM⟩ : ∃ kM, kM = (nextC (cs.drop (ai + 1)) x2.length).1 := ⟨_, rfl⟩
                have kMlt : kM < x2.length := by rw [hkM]; exact nextC_lt _ _ hx0
                have EM : Hid ((cs.getD (ai + 1) 0) % (e.n : Int) = (kM : Int)) := by show _ = (kM : Int); rw [hkM, ← hxl]; exact pick_val cs (ai + 1) x2.length hx0
                have slc : ∀ V : World, (Instr.slice 22 (.slice e.a e.n e.c) none (some (.int .i64 (kM : Int))) none).run Try.prog V = .ok (.slice e.a kM e.c) V := slice_read rx (by omega) kM (by omega)
                have OL : Hid (leftL d.ab.l0 d.ab.X0 (restN d.ab cs 0) = (redoL d.s0.l (d.s0.xs.take i2) ++ x2.take kM, cs.drop (ai + 2)) ∧ Reads wr e.a kM e.c (x2.take kM) ∧ n' + kM ≤ 140737488355328) := by
                  have e1 := left_torn (l := d.ab.l0) (cs := cs) (ai := ai) KN.out.1 hex hkM
                  rw [RS0.out] at e1
                  refine ⟨e1, rx.take kM (by omega), ?_⟩
                  have h1 := redoL_length (d.s0.xs.take i2) d.s0.l
                  have h2 := weigh_take d.s0.xs i2
                  have h3 := ZZ.out.2
                  have h4 := len_own S2.out.1
                  unfold Lim at h3
                  omega
                have en0 : 0 < e.n := by omega
                have enb : e.n < 4611686018427387904 := by have h3 := ZZ.out.2; unfold Lim at h3; omega
                have ai1 : ai + 1 ≤ 4 := by omega
                clear hc he heL gg hex hx hw rx hxw hkM hxs hxr
                have KD : Hid (Kept (fun _ => False) wr wr.drew) := (Kept.refl (fun _ => False) wr).drew
                by_cases ha2 : ai + 1 < nq
                · have ib : ((ai + 1 : Nat) : Int) < (nq : Int) := by omega
                  have ib' : (ai : Int) + 1 < (nq : Int) := by omega
                  obtain ⟨b9, off9, hq9, g9⟩ := choice_at H.out.1 (CK.out (by omega) wr (S.out.1.kept.trans S2.out.2 (fun _ _ z => z))) ha2
                  rw [hq9]
                  have g9' : wr.cell? ⟨b9, off9 + ai + 1, none⟩ = some (.int .i64 (cs.getD (ai + 1) 0)) := by rw [Nat.add_assoc]; exact g9
                  exact absurd ha2 (by omega)
                · have ib : ¬ ((ai + 1 : Nat) : Int) < (nq : Int) := by omega
                  have ib' : ¬ (ai : Int) + 1 < (nq : Int) := by omega
                  have cz : cs.getD (ai + 1) 0 = 0 := by rw [List.getD_eq_getElem?_getD, List.getElem?_eq_none (by rw [H.out.1.length]; omega)]; rfl
                  rw [cz] at EM
                  go_wp2_with fail
                  go_region_held3 (fun w' => w'.cell? ⟨b, off + i2 * 2 + 1, none⟩ = some (.slice e.a e.n e.c)) (first | go_keep)
                    (first
                      | (go_at_call 67; refine (rmodulo (0) e.n wr.drew en0 enb).mono ?_; rintro x wm ⟨rfl, em⟩
                         rw [em, EM.out]
                         clear em wm)
                      | (refine step_append_d _ (by rfl) 105 (by rfl) (.tmp 90) (.tmp 104) 22 5 22 _ 1 1 (by rfl) Try.underlying22 Try.info5 rfl wo.heap.size (.slice a' n' c') n' (cellsOf (redoL d.s0.l (d.s0.xs.take i2))) (by rfl) (KD.out.owns S2.out.1 (fun _ _ z => z)) (.slice e.a kM e.c) kM (cellsOf (x2.take kM)) (by rfl) (OL.out.2.1.kept' KD.out (fun _ _ z => z)).src (by have := OL.out.2.2; unfold maxLen; omega) (by have := OL.out.2.2; omega) (by have := S2.out.2.size; rw [drew_size]; omega) ?_; intro p3 c3 w3 ho hg hn
                         have K3 : Kept (fun _ => False) wo w3 := (S2.out.2.trans KD.out (fun _ _ z => z)).grown hg.out (fun k hk z => by have := (S2.out.1.lt k z).1; omega)
                         have OO : Hid (w3.ownsRow wo.heap.size 5 1 (.slice p3 (n' + kM) c3) (n' + kM) (cellsOf (leftL d.ab.l0 d.ab.X0 (restN d.ab cs 0)).1) ∧ Kept (fun _ => False) wo w3 ∧ (∀ c ∈ (leftL d.ab.l0 d.ab.X0 (restN d.ab cs 0)).1, c < 256) ∧ cs.drop (ai + 2) = restN d.ab cs 1) := by
                           refine ⟨by rw [OL.out.1, cellsOf_append]; exact ho.out, K3, ?_, ?_⟩
                           · rw [OL.out.1]
                             intro c hc
                             rcases List.mem_append.1 hc with z | z
                             · exact redoL_bytes _ _ ZZ.out.1.bytes (fun x hx => rgood_bytes ZZ.out.1.good x (List.mem_of_mem_take hx)) c z
                             · exact OL.out.2.1.bytes c z
                           · have : restN d.ab cs 1 = (leftL d.ab.l0 d.ab.X0 (restN d.ab cs 0)).2 := rfl
                             rw [this, OL.out.1]
                         have f1' := K3.cell F1.out (fun z => z)
                         clear ho hg hn K3)
                      | fail)
                  have I2 := S.out.1.is.kept0 OO.out.2.1
                  have v0 : w3.cell? ⟨w.heap.size, 0, none⟩ = some (.slice r.s0.a r.s0.n r.s0.c) := I2.cell 0 rfl
                  have v1 := I2.soft 0
                  clear I2
                  have Z : Hid (LR w.heap.size wS (w3.setCell ⟨w.heap.size, 0, none⟩ (.slice p3 (n' + kM) c3)) { r with s0 := { r.s0 with a := p3, n := (n' + kM), c := c3, l := (leftL d.ab.l0 d.ab.X0 (restN d.ab cs 0)).1 } } (leftL d.ab.l0 d.ab.X0 cs).1 (leftL d.ab.l1 d.ab.X1 (leftL d.ab.l0 d.ab.X0 cs).2).1 d.cur 1 ∧ cs.drop (ai + 2) = restN d.ab cs 1) := ⟨S.out.1.step0 OO.out.1 OO.out.2.2.1 OO.out.2.1, OO.out.2.2.2⟩
                  go_wp2_with fail
                  go_roundw
                  case rel => exact ⟨1, (ai + 2), _, by go_num, by go_num, by omega, by omega, Z.out⟩
                  case measure => simp [intOf]
            · have hend2 : i2 = d.s0.ln := by omega
              have i4 : ¬ (i2 : Int) < (d.s0.ln : Int) := by omega
              have OO : Hid (wr.ownsRow wo.heap.size 5 1 (.slice a' n' c') n' (cellsOf (leftL d.ab.l0 d.ab.X0 (restN d.ab cs 0)).1) ∧ Kept (fun _ => False) wo wr ∧ (∀ c ∈ (leftL d.ab.l0 d.ab.X0 (restN d.ab cs 0)).1, c < 256) ∧ cs.drop (ai + 1) = restN d.ab cs 1) := by
                have e1 := left_end (l := d.ab.l0) (cs := cs) (ai := ai) KN.out.1 (by exact .inl (List.getElem?_eq_none (by show d.s0.xs.length ≤ i2; rw [ZZ.out.1.xlen]; omega)))
                rw [RS0.out] at e1
                refine ⟨by rw [e1]; exact S2.out.1, S2.out.2, by rw [e1]; exact redoL_bytes _ _ ZZ.out.1.bytes (fun x hx => rgood_bytes ZZ.out.1.good x (List.mem_of_mem_take hx)), ?_⟩
                have : restN d.ab cs 1 = (leftL d.ab.l0 d.ab.X0 (restN d.ab cs 0)).2 := rfl
                rw [this, e1]
              have I2 := S.out.1.is.kept0 OO.out.2.1
              have v0 : wr.cell? ⟨w.heap.size, 0, none⟩ = some (.slice r.s0.a r.s0.n r.s0.c) := I2.cell 0 rfl
              have v1 := I2.soft 0
              clear I2
              have Z : Hid (LR w.heap.size wS (wr.setCell ⟨w.heap.size, 0, none⟩ (.slice a' n' c')) { r with s0 := { r.s0 with a := a', n := n', c := c', l := (leftL d.ab.l0 d.ab.X0 (restN d.ab cs 0)).1 } } (leftL d.ab.l0 d.ab.X0 cs).1 (leftL d.ab.l1 d.ab.X1 (leftL d.ab.l0 d.ab.X0 cs).2).1 d.cur 1 ∧ cs.drop (ai + 1) = restN d.ab cs 1) := ⟨S.out.1.step0 OO.out.1 OO.out.2.2.1 OO.out.2.1, OO.out.2.2.2⟩
              go_wp2_with fail
              go_roundw
              case rel => exact ⟨1, (ai + 1), _, by go_num, by go_num, by omega, by omega, Z.out⟩
              case measure => simp [intOf]
    ·
      obtain ⟨wo, rfl⟩ : ∃ wo : World, wo = wr := ⟨_, rfl⟩
      have IB := DK0.out.kept0 S.out.1.kept
      have c0 : wo.cell? ⟨B, 1, none⟩ = some (.slice d.s1.a d.s1.n d.s1.c) := IB.cell 1 rfl
      have c1 : wo.cell? ⟨B, 3, none⟩ = some (.slice d.s1.la d.s1.ln d.s1.lc) := IB.cell 3 rfl
      have ZZ : Hid (IsRS base wo d.s1 ∧ d.s1.l.length + weigh d.s1.xs ≤ Lim) := ⟨IB.z1, OK.out.w1⟩
      have RR : Hid (RRd wo d.s1.la d.s1.ln d.s1.lc d.s1.L) := owns_rrd IB.z1.lown
      have hll := RR.out.length
      have hlr := RR.out.room
      have hls := RR.out.small
      unfold maxLen at hls
      have hxl0 : d.s1.xs.length = d.s1.ln := IB.z1.xlen
      have hlb : d.s1.ln + 1 < 4611686018427387904 := by have h1 : d.s1.xs.length + 1 ≤ Lim := OK.out.n1; unfold Lim at h1; omega
      obtain ⟨kN, hkN⟩ : ∃ kN, kN = (nextC (cs.drop ai) (d.s1.xs.length + 1)).1 := ⟨_, rfl⟩
      have kNle : kN ≤ d.s1.ln := by have := nextC_lt (cs.drop ai) (d.s1.xs.length + 1) (by omega); omega
      have KN : Hid (kN = (nextC (cs.drop ai) (d.ab.X1.length + 1)).1 ∧ (cs.getD ai 0) % ((d.s1.ln + 1 : Nat) : Int) = (kN : Int)) := ⟨hkN, by rw [hkN, hxl0]; exact pick_val cs ai (d.s1.ln + 1) (by omega)⟩
      have RS0 : Hid (cs.drop ai = restN d.ab cs 1) := S.out.2
      have wm : IntKind.i64.wrap ((d.s1.ln : Int) + 1) = ((d.s1.ln + 1 : Nat) : Int) := by rw [IntKind.wrap_i64]; omega
      have sn : Hid (d.s1.n ≤ 140737488355328) := by
        have h1 : d.s1.l.length = d.s1.n := len_own IB.z1.own
        have h2 := ZZ.out.2
        unfold Lim at h2
        show d.s1.n ≤ 140737488355328
        omega
      clear IB hkN
      rw [show (((1 : Nat)) : Int) = 1 from rfl]
      by_cases ha : ai < nq
      · have ia : (ai : Int) < (nq : Int) := by omega
        obtain ⟨b8, off8, hq8, g8⟩ := choice_at H.out.1 (CK.out (by omega) wo S.out.1.kept) ha
        rw [hq8]
        go_wp2_with fail
        refine (rmodulo (cs.getD ai 0) (d.s1.ln + 1) wo (by omega) hlb).mono ?_
        rintro x wm' ⟨rfl, em⟩
        rw [em, KN.out.2]
        clear em wm'
        go_wp2_with
          (first
            | (at_builtin; refine wpList_append_bytes _ rfl (.tmp 49) (.tmp 55) rfl wo.heap.size (.slice none 0 0) 0 [] rfl (World.ownsRow_nil _ _ _ _) (.slice d.s1.a d.s1.n d.s1.c) d.s1.n d.s1.l rfl (rread ZZ.out.1).src (by rw [Nat.zero_add]; exact sn.out) (Nat.le_refl _) ?_; intro p1 k1 w1 ho hg hn
               rw [Nat.zero_add] at ho ⊢
               rw [List.nil_append] at ho
               have K1 : Kept (fun _ => False) wo w1 := (Kept.refl (fun _ => False) wo).grown hg.out (fun k _ z => by simp [Value.ownBlock] at z)
               have X1 : Hid (w1.ownsRow wo.heap.size 5 1 (.slice p1 d.s1.n k1) d.s1.n (cellsOf d.s1.l) ∧ Kept (fun _ => False) wo w1) := ⟨ho.out, K1⟩
               clear ho hg hn K1)
            | fail)
        go_loopw [11, 12] (fun y x wr => ∃ (i2 : Nat) (a' : Option Addr) (n' c' : Nat), x = .int .i64 (i2 : Int) ∧ y = .slice a' n' c' ∧ i2 ≤ kN ∧ Hid (wr.ownsRow wo.heap.size 5 1 (.slice a' n' c') n' (cellsOf (redoL d.s1.l (d.s1.xs.take i2))) ∧ Kept (fun _ => False) wo wr)) (fun _ x _ => kN - (intOf x).toNat)
        case atStart => exact ⟨0, p1, d.s1.n, k1, rfl, rfl, Nat.zero_le _, by simp only [List.take_zero]; exact X1.out.1, X1.out.2⟩
        case round =>
          obtain ⟨i2, a', n', c', rfl, rfl, hi2, S2⟩ := hrel
          by_cases hlt2 : i2 < kN
          · have i1 : (i2 : Int) < (kN : Int) := by omega
            have i3 : (i2 : Int) < (d.s1.ln : Int) := by omega
            obtain ⟨e, he⟩ : ∃ e, d.s1.L[i2]? = some e := ⟨_, List.getElem?_eq_getElem (by omega)⟩
            obtain ⟨b, off, hla, hc⟩ := RR.out.cells (by omega)
            have f0 := S2.out.2.cell (hc i2 e he).1 (fun z => z)
            have f1 := S2.out.2.cell (hc i2 e he).2 (fun z => z)
            have heL : e ∈ d.s1.L := List.mem_of_getElem? he
            have tk : d.s1.xs.take (i2 + 1) = d.s1.xs.take i2 ++ [e.x] := by
              obtain ⟨h1, h2⟩ := List.getElem?_eq_some_iff.1 he
              unfold RSl.xs
              rw [List.take_succ_eq_append_getElem (by rw [List.length_map]; omega), List.getElem_map, h2]
            have G : Hid (e.Good wr ∧ redoL d.s1.l (d.s1.xs.take (i2 + 1)) = stepA (redoL d.s1.l (d.s1.xs.take i2)) e.x ∧ Reads wr a' n' c' (redoL d.s1.l (d.s1.xs.take i2)) ∧ (redoL d.s1.l (d.s1.xs.take i2)).length + ((e.x).getD []).length ≤ 2 * Lim) := by
              refine ⟨(ZZ.out.1.good e heL).off S2.out.2 (fun _ _ z => z), by rw [tk, redoL_snoc], owned_reads' S2.out.1 (redoL_bytes _ _ ZZ.out.1.bytes (fun x hx => rgood_bytes ZZ.out.1.good x (List.mem_of_mem_take hx))), ?_⟩
              have h1 := redoL_length (d.s1.xs.take i2) d.s1.l
              have h2 := weigh_take d.s1.xs i2
              have h3 := ZZ.out.2
              have h4 : ((e.x).getD []).length ≤ weigh d.s1.xs := by
                cases hx : e.x with
                | none => simp
                | some l2 => exact weigh_mem (List.mem_map.2 ⟨e, heL, hx⟩)
              omega
            rw [hla]
            clear hc he heL tk
            go_wp2_with fail
            refine (laidA a' n' c' _ e wr G.out.2.2.1 G.out.1 G.out.2.2.2).mono ?_
            rintro x w2 ⟨p2, m2, k2, rfl, o2, K2⟩
            have S3 : Hid (w2.ownsRow wo.heap.size 5 1 (.slice p2 m2 k2) m2 (cellsOf (redoL d.s1.l (d.s1.xs.take (i2 + 1)))) ∧ Kept (fun _ => False) wo w2) := ⟨by rw [G.out.2.1]; exact owns_mono o2 S2.out.2.size, S2.out.2.trans K2 (fun _ _ z => z)⟩
            clear o2 K2
            go_wp2_with fail
            go_roundw
            case rel => exact ⟨i2 + 1, p2, m2, k2, by go_num, rfl, by omega, S3.out⟩
            case measure => simp [intOf]; omega
          · have he : i2 = kN := by omega
            have i1 : ¬ (i2 : Int) < (kN : Int) := by omega
            subst he
            by_cases hend : i2 < d.s1.ln
            · have i4 : (i2 : Int) < (d.s1.ln : Int) := by omega
              obtain ⟨e, he⟩ : ∃ e, d.s1.L[i2]? = some e := ⟨_, List.getElem?_eq_getElem (by omega)⟩
              obtain ⟨b, off, hla, hc⟩ := RR.out.cells (by omega)
              have f0 := S2.out.2.cell (hc i2 e he).1 (fun z => z)
              have f1 := S2.out.2.cell (hc i2 e he).2 (fun z => z)
              have F1 : Hid (wo.cell? ⟨b, off + i2 * 2 + 1, none⟩ = some (.slice e.a e.n e.c)) := (hc i2 e he).2
              have heL : e ∈ d.s1.L := List.mem_of_getElem? he
              have hex : d.s1.xs[i2]? = some e.x := by unfold RSl.xs; rw [List.getElem?_map, he]; rfl
              have gg : e.Good wr := (ZZ.out.1.good e heL).off S2.out.2 (fun _ _ z => z)
              rw [hla]
              cases hx : e.x with
              | none =>
                have hw : e.w = true := by unfold RA.w; rw [hx]; rfl
                rw [hw] at f0
                rw [hx] at hex
                have OO : Hid (wr.ownsRow wo.heap.size 5 1 (.slice a' n' c') n' (cellsOf (leftL d.ab.l1 d.ab.X1 (restN d.ab cs 1)).1) ∧ Kept (fun _ => False) wo wr ∧ (∀ c ∈ (leftL d.ab.l1 d.ab.X1 (restN d.ab cs 1)).1, c < 256) ∧ cs.drop (ai + 1) = restN d.ab cs 2) := by
                  have e1 := left_end (l := d.ab.l1) (cs := cs) (ai := ai) KN.out.1 (by exact .inr hex)
                  rw [RS0.out] at e1
                  refine ⟨by rw [e1]; exact S2.out.1, S2.out.2, by rw [e1]; exact redoL_bytes _ _ ZZ.out.1.bytes (fun x hx => rgood_bytes ZZ.out.1.good x (List.mem_of_mem_take hx)), ?_⟩
                  have : restN d.ab cs 2 = (leftL d.ab.l1 d.ab.X1 (restN d.ab cs 1)).2 := rfl
                  rw [this, e1]
                clear hc he heL gg hex hx hw
                have I2 := S.out.1.is.kept0 OO.out.2.1
                have v0 : wr.cell? ⟨w.heap.size, 1, none⟩ = some (.slice r.s1.a r.s1.n r.s1.c) := I2.cell 1 rfl
                have v1 := I2.soft 1
                clear I2
                have Z : Hid (LR w.heap.size wS (wr.setCell ⟨w.heap.size, 1, none⟩ (.slice a' n' c')) { r with s1 := { r.s1 with a := a', n := n', c := c', l := (leftL d.ab.l1 d.ab.X1 (restN d.ab cs 1)).1 } } (leftL d.ab.l0 d.ab.X0 cs).1 (leftL d.ab.l1 d.ab.X1 (leftL d.ab.l0 d.ab.X0 cs).2).1 d.cur 2 ∧ cs.drop (ai + 1) = restN d.ab cs 2) := ⟨S.out.1.step1 OO.out.1 OO.out.2.2.1 OO.out.2.1, OO.out.2.2.2⟩
                go_wp2_with fail
                go_roundw
                case rel => exact ⟨2, (ai + 1), _, by go_num, by go_num, by omega, by omega, Z.out⟩
                case measure => simp [intOf]
              | some x2 =>
                have hw : e.w = false := by unfold RA.w; rw [hx]; rfl
                obtain ⟨hx0, rx⟩ := gg.bytes x2 hx
                have hxl := rx.length
                have hxs := rx.small
                unfold maxLen at hxs
                have hxr := rx.room
                rw [hw] at f0
                rw [hx] at hex
                have hxw : x2.length ≤ weigh d.s1.xs := weigh_mem (List.mem_of_getElem? hex)
                obtain ⟨kM, hkM⟩ : ∃ kM, kM = (nextC (cs.drop (ai + 1)) x2.length).1 := ⟨_, rfl⟩
                have kMlt : kM < x2.length := by rw [hkM]; exact nextC_lt _ _ hx0
                have EM : Hid ((cs.getD (ai + 1) 0) % (e.n : Int) = (kM : Int)) := by show _ = (kM : Int); rw [hkM, ← hxl]; exact pick_val cs (ai + 1) x2.length hx0
                have slc : ∀ V : World, (Instr.slice 22 (.slice e.a e.n e.c) none (some (.int .i64 (kM : Int))) none).run Try.prog V = .ok (.slice e.a kM e.c) V := slice_read rx (by omega) kM (by omega)
                have OL : Hid (leftL d.ab.l1 d.ab.X1 (restN d.ab cs 1) = (redoL d.s1.l (d.s1.xs.take i2) ++ x2.take kM, cs.drop (ai + 2)) ∧ Reads wr e.a kM e.c (x2.take kM) ∧ n' + kM ≤ 140737488355328) := by
                  have e1 := left_torn (l := d.ab.l1) (cs := cs) (ai := ai) KN.out.1 hex hkM
                  rw [RS0.out] at e1
                  refine ⟨e1, rx.take kM (by omega), ?_⟩
                  have h1 := redoL_length (d.s1.xs.take i2) d.s1.l
                  have h2 := weigh_take d.s1.xs i2
                  have h3 := ZZ.out.2
                  have h4 := len_own S2.out.1
                  unfold Lim at h3
                  omega
                have en0 : 0 < e.n := by omega
                have enb : e.n < 4611686018427387904 := by have h3 := ZZ.out.2; unfold Lim at h3; omega
                have ai1 : ai + 1 ≤ 4 := by omega
                clear hc he heL gg hex hx hw rx hxw hkM hxs hxr
                have KD : Hid (Kept (fun _ => False) wr wr.drew) := (Kept.refl (fun _ => False) wr).drew
                by_cases ha2 : ai + 1 < nq
                · have ib : ((ai + 1 : Nat) : Int) < (nq : Int) := by omega
                  have ib' : (ai : Int) + 1 < (nq : Int) := by omega
                  obtain ⟨b9, off9, hq9, g9⟩ := choice_at H.out.1 (CK.out (by omega) wr (S.out.1.kept.trans S2.out.2 (fun _ _ z => z))) ha2
                  obtain ⟨e8, e9⟩ : b8 = b9 ∧ off8 = off9 := by rw [hq8] at hq9; simpa using hq9
                  subst e8 e9
                  have g9' : wr.cell? ⟨b8, off8 + ai + 1, none⟩ = some (.int .i64 (cs.getD (ai + 1) 0)) := by rw [Nat.add_assoc]; exact g9
                  go_wp2_with fail
                  go_region_held3 (fun w' => w'.cell? ⟨b, off + i2 * 2 + 1, none⟩ = some (.slice e.a e.n e.c)) (first | go_keep)
                    (first
                      | (go_at_call 67; refine (rmodulo (cs.getD (ai + 1) 0) e.n wr.drew en0 enb).mono ?_; rintro x wm ⟨rfl, em⟩
                         rw [em, EM.out]
                         clear em wm)
                      | (refine step_append_d _ (by rfl) 105 (by rfl) (.tmp 90) (.tmp 104) 22 5 22 _ 1 1 (by rfl) Try.underlying22 Try.info5 rfl wo.heap.size (.slice a' n' c') n' (cellsOf (redoL d.s1.l (d.s1.xs.take i2))) (by rfl) (KD.out.owns S2.out.1 (fun _ _ z => z)) (.slice e.a kM e.c) kM (cellsOf (x2.take kM)) (by rfl) (OL.out.2.1.kept' KD.out (fun _ _ z => z)).src (by have := OL.out.2.2; unfold maxLen; omega) (by have := OL.out.2.2; omega) (by have := S2.out.2.size; rw [drew_size]; omega) ?_; intro p3 c3 w3 ho hg hn
                         have K3 : Kept (fun _ => False) wo w3 := (S2.out.2.trans KD.out (fun _ _ z => z)).grown hg.out (fun k hk z => by have := (S2.out.1.lt k z).1; omega)
                         have OO : Hid (w3.ownsRow wo.heap.size 5 1 (.slice p3 (n' + kM) c3) (n' + kM) (cellsOf (leftL d.ab.l1 d.ab.X1 (restN d.ab cs 1)).1) ∧ Kept (fun _ => False) wo w3 ∧ (∀ c ∈ (leftL d.ab.l1 d.ab.X1 (restN d.ab cs 1)).1, c < 256) ∧ cs.drop (ai + 2) = restN d.ab cs 2) := by
                           refine ⟨by rw [OL.out.1, cellsOf_append]; exact ho.out, K3, ?_, ?_⟩
                           · rw [OL.out.1]
                             intro c hc
                             rcases List.mem_append.1 hc with z | z
                             · exact redoL_bytes _ _ ZZ.out.1.bytes (fun x hx => rgood_bytes ZZ.out.1.good x (List.mem_of_mem_take hx)) c z
                             · exact OL.out.2.1.bytes c z
                           · have : restN d.ab cs 2 = (leftL d.ab.l1 d.ab.X1 (restN d.ab cs 1)).2 := rfl
                             rw [this, OL.out.1]
                         have f1' := K3.cell F1.out (fun z => z)
                         clear ho hg hn K3)
                      | fail)
                  have I2 := S.out.1.is.kept0 OO.out.2.1
                  have v0 : w3.cell? ⟨w.heap.size, 1, none⟩ = some (.slice r.s1.a r.s1.n r.s1.c) := I2.cell 1 rfl
                  have v1 := I2.soft 1
                  clear I2
                  have Z : Hid (LR w.heap.size wS (w3.setCell ⟨w.heap.size, 1, none⟩ (.slice p3 (n' + kM) c3)) { r with s1 := { r.s1 with a := p3, n := (n' + kM), c := c3, l := (leftL d.ab.l1 d.ab.X1 (restN d.ab cs 1)).1 } } (leftL d.ab.l0 d.ab.X0 cs).1 (leftL d.ab.l1 d.ab.X1 (leftL d.ab.l0 d.ab.X0 cs).2).1 d.cur 2 ∧ cs.drop (ai + 2) = restN d.ab cs 2) := ⟨S.out.1.step1 OO.out.1 OO.out.2.2.1 OO.out.2.1, OO.out.2.2.2⟩
                  go_wp2_with fail
                  go_roundw
                  case rel => exact ⟨2, (ai + 2), _, by go_num, by go_num, by omega, by omega, Z.out⟩
                  case measure => simp [intOf]
                · have ib : ¬ ((ai + 1 : Nat) : Int) < (nq : Int) := by omega
                  have ib' : ¬ (ai : Int) + 1 < (nq : Int) := by omega
                  have cz : cs.getD (ai + 1) 0 = 0 := by rw [List.getD_eq_getElem?_getD, List.getElem?_eq_none (by rw [H.out.1.length]; omega)]; rfl
                  rw [cz] at EM
                  go_wp2_with fail
                  go_region_held3 (fun w' => w'.cell? ⟨b, off + i2 * 2 + 1, none⟩ = some (.slice e.a e.n e.c)) (first | go_keep)
                    (first
                      | (go_at_call 67; refine (rmodulo (0) e.n wr.drew en0 enb).mono ?_; rintro x wm ⟨rfl, em⟩
                         rw [em, EM.out]
                         clear em wm)
                      | (refine step_append_d _ (by rfl) 105 (by rfl) (.tmp 90) (.tmp 104) 22 5 22 _ 1 1 (by rfl) Try.underlying22 Try.info5 rfl wo.heap.size (.slice a' n' c') n' (cellsOf (redoL d.s1.l (d.s1.xs.take i2))) (by rfl) (KD.out.owns S2.out.1 (fun _ _ z => z)) (.slice e.a kM e.c) kM (cellsOf (x2.take kM)) (by rfl) (OL.out.2.1.kept' KD.out (fun _ _ z => z)).src (by have := OL.out.2.2; unfold maxLen; omega) (by have := OL.out.2.2; omega) (by have := S2.out.2.size; rw [drew_size]; omega) ?_; intro p3 c3 w3 ho hg hn
                         have K3 : Kept (fun _ => False) wo w3 := (S2.out.2.trans KD.out (fun _ _ z => z)).grown hg.out (fun k hk z => by have := (S2.out.1.lt k z).1; omega)
                         have OO : Hid (w3.ownsRow wo.heap.size 5 1 (.slice p3 (n' + kM) c3) (n' + kM) (cellsOf (leftL d.ab.l1 d.ab.X1 (restN d.ab cs 1)).1) ∧ Kept (fun _ => False) wo w3 ∧ (∀ c ∈ (leftL d.ab.l1 d.ab.X1 (restN d.ab cs 1)).1, c < 256) ∧ cs.drop (ai + 2) = restN d.ab cs 2) := by
                           refine ⟨by rw [OL.out.1, cellsOf_append]; exact ho.out, K3, ?_, ?_⟩
                           · rw [OL.out.1]
                             intro c hc
                             rcases List.mem_append.1 hc with z | z
                             · exact redoL_bytes _ _ ZZ.out.1.bytes (fun x hx => rgood_bytes ZZ.out.1.good x (List.mem_of_mem_take hx)) c z
                             · exact OL.out.2.1.bytes c z
                           · have : restN d.ab cs 2 = (leftL d.ab.l1 d.ab.X1 (restN d.ab cs 1)).2 := rfl
                             rw [this, OL.out.1]
                         have f1' := K3.cell F1.out (fun z => z)
                         clear ho hg hn K3)
                      | fail)
                  have I2 := S.out.1.is.kept0 OO.out.2.1
                  have v0 : w3.cell? ⟨w.heap.size, 1, none⟩ = some (.slice r.s1.a r.s1.n r.s1.c) := I2.cell 1 rfl
                  have v1 := I2.soft 1
                  clear I2
                  have Z : Hid (LR w.heap.size wS (w3.setCell ⟨w.heap.size, 1, none⟩ (.slice p3 (n' + kM) c3)) { r with s1 := { r.s1 with a := p3, n := (n' + kM), c := c3, l := (leftL d.ab.l1 d.ab.X1 (restN d.ab cs 1)).1 } } (leftL d.ab.l0 d.ab.X0 cs).1 (leftL d.ab.l1 d.ab.X1 (leftL d.ab.l0 d.ab.X0 cs).2).1 d.cur 2 ∧ cs.drop (ai + 2) = restN d.ab cs 2) := ⟨S.out.1.step1 OO.out.1 OO.out.2.2.1 OO.out.2.1, OO.out.2.2.2⟩
                  go_wp2_with fail
                  go_roundw
                  case rel => exact ⟨2, (ai + 2), _, by go_num, by go_num, by omega, by omega, Z.out⟩
                  case measure => simp [intOf]
            · have hend2 : i2 = d.s1.ln := by omega
              have i4 : ¬ (i2 : Int) < (d.s1.ln : Int) := by omega
              have OO : Hid (wr.ownsRow wo.heap.size 5 1 (.slice a' n' c') n' (cellsOf (leftL d.ab.l1 d.ab.X1 (restN d.ab cs 1)).1) ∧ Kept (fun _ => False) wo wr ∧ (∀ c ∈ (leftL d.ab.l1 d.ab.X1 (restN d.ab cs 1)).1, c < 256) ∧ cs.drop (ai + 1) = restN d.ab cs 2) := by
                have e1 := left_end (l := d.ab.l1) (cs := cs) (ai := ai) KN.out.1 (by exact .inl (List.getElem?_eq_none (by show d.s1.xs.length ≤ i2; rw [ZZ.out.1.xlen]; omega)))
                rw [RS0.out] at e1
                refine ⟨by rw [e1]; exact S2.out.1, S2.out.2, by rw [e1]; exact redoL_bytes _ _ ZZ.out.1.bytes (fun x hx => rgood_bytes ZZ.out.1.good x (List.mem_of_mem_take hx)), ?_⟩
                have : restN d.ab cs 2 = (leftL d.ab.l1 d.ab.X1 (restN d.ab cs 1)).2 := rfl
                rw [this, e1]
              have I2 := S.out.1.is.kept0 OO.out.2.1
              have v0 : wr.cell? ⟨w.heap.size, 1, none⟩ = some (.slice r.s1.a r.s1.n r.s1.c) := I2.cell 1 rfl
              have v1 := I2.soft 1
              clear I2
              have Z : Hid (LR w.heap.size wS (wr.setCell ⟨w.heap.size, 1, none⟩ (.slice a' n' c')) { r with s1 := { r.s1 with a := a', n := n', c := c', l := (leftL d.ab.l1 d.ab.X1 (restN d.ab cs 1)).1 } } (leftL d.ab.l0 d.ab.X0 cs).1 (leftL d.ab.l1 d.ab.X1 (leftL d.ab.l0 d.ab.X0 cs).2).1 d.cur 2 ∧ cs.drop (ai + 1) = restN d.ab cs 2) := ⟨S.out.1.step1 OO.out.1 OO.out.2.2.1 OO.out.2.1, OO.out.2.2.2⟩
              go_wp2_with fail
              go_roundw
              case rel => exact ⟨2, (ai + 1), _, by go_num, by go_num, by omega, by omega, Z.out⟩
              case measure => simp [intOf]
      · have ia : ¬ (ai : Int) < (nq : Int) := by omega
        have cz : cs.getD ai 0 = 0 := by rw [List.getD_eq_getElem?_getD, List.getElem?_eq_none (by rw [H.out.1.length]; omega)]; rfl
        rw [cz] at KN
        go_wp2_with fail
        refine (rmodulo (0) (d.s1.ln + 1) wo (by omega) hlb).mono ?_
        rintro x wm' ⟨rfl, em⟩
        rw [em, KN.out.2]
        clear em wm'
        go_wp2_with
          (first
            | (at_builtin; refine wpList_append_bytes _ rfl (.tmp 49) (.tmp 55) rfl wo.heap.size (.slice none 0 0) 0 [] rfl (World.ownsRow_nil _ _ _ _) (.slice d.s1.a d.s1.n d.s1.c) d.s1.n d.s1.l rfl (rread ZZ.out.1).src (by rw [Nat.zero_add]; exact sn.out) (Nat.le_refl _) ?_; intro p1 k1 w1 ho hg hn
               rw [Nat.zero_add] at ho ⊢
               rw [List.nil_append] at ho
               have K1 : Kept (fun _ => False) wo w1 := (Kept.refl (fun _ => False) wo).grown hg.out (fun k _ z => by simp [Value.ownBlock] at z)
               have X1 : Hid (w1.ownsRow wo.heap.size 5 1 (.slice p1 d.s1.n k1) d.s1.n (cellsOf d.s1.l) ∧ Kept (fun _ => False) wo w1) := ⟨ho.out, K1⟩
               clear ho hg hn K1)
            | fail)
        go_loopw [11, 12] (fun y x wr => ∃ (i2 : Nat) (a' : Option Addr) (n' c' : Nat), x = .int .i64 (i2 : Int) ∧ y = .slice a' n' c' ∧ i2 ≤ kN ∧ Hid (wr.ownsRow wo.heap.size 5 1 (.slice a' n' c') n' (cellsOf (redoL d.s1.l (d.s1.xs.take i2))) ∧ Kept (fun _ => False) wo wr)) (fun _ x _ => kN - (intOf x).toNat)
        case atStart => exact ⟨0, p1, d.s1.n, k1, rfl, rfl, Nat.zero_le _, by simp only [List.take_zero]; exact X1.out.1, X1.out.2⟩
        case round =>
          obtain ⟨i2, a', n', c', rfl, rfl, hi2, S2⟩ := hrel
          by_cases hlt2 : i2 < kN
          · have i1 : (i2 : Int) < (kN : Int) := by omega
            have i3 : (i2 : Int) < (d.s1.ln : Int) := by omega
            obtain ⟨e, he⟩ : ∃ e, d.s1.L[i2]? = some e := ⟨_, List.getElem?_eq_getElem (by omega)⟩
            obtain ⟨b, off, hla, hc⟩ := RR.out.cells (by omega)
            have f0 := S2.out.2.cell (hc i2 e he).1 (fun z => z)
            have f1 := S2.out.2.cell (hc i2 e he).2 (fun z => z)
            have heL : e ∈ d.s1.L := List.mem_of_getElem? he
            have tk : d.s1.xs.take (i2 + 1) = d.s1.xs.take i2 ++ [e.x] := by
              obtain ⟨h1, h2⟩ := List.getElem?_eq_some_iff.1 he
              unfold RSl.xs
              rw [List.take_succ_eq_append_getElem (by rw [List.length_map]; omega), List.getElem_map, h2]
            have G : Hid (e.Good wr ∧ redoL d.s1.l (d.s1.xs.take (i2 + 1)) = stepA (redoL d.s1.l (d.s1.xs.take i2)) e.x ∧ Reads wr a' n' c' (redoL d.s1.l (d.s1.xs.take i2)) ∧ (redoL d.s1.l (d.s1.xs.take i2)).length + ((e.x).getD []).length ≤ 2 * Lim) := by
              refine ⟨(ZZ.out.1.good e heL).off S2.out.2 (fun _ _ z => z), by rw [tk, redoL_snoc], owned_reads' S2.out.1 (redoL_bytes _ _ ZZ.out.1.bytes (fun x hx => rgood_bytes ZZ.out.1.good x (List.mem_of_mem_take hx))), ?_⟩
              have h1 := redoL_length (d.s1.xs.take i2) d.s1.l
              have h2 := weigh_take d.s1.xs i2
              have h3 := ZZ.out.2
              have h4 : ((e.x).getD []).length ≤ weigh d.s1.xs := by
                cases hx : e.x with
                | none => simp
                | some l2 => exact weigh_mem (List.mem_map.2 ⟨e, heL, hx⟩)
              omega
            rw [hla]
            clear hc he heL tk
            go_wp2_with fail
            refine (laidA a' n' c' _ e wr G.out.2.2.1 G.out.1 G.out.2.2.2).mono ?_
            rintro x w2 ⟨p2, m2, k2, rfl, o2, K2⟩
            have S3 : Hid (w2.ownsRow wo.heap.size 5 1 (.slice p2 m2 k2) m2 (cellsOf (redoL d.s1.l (d.s1.xs.take (i2 + 1)))) ∧ Kept (fun _ => False) wo w2) := ⟨by rw [G.out.2.1]; exact owns_mono o2 S2.out.2.size, S2.out.2.trans K2 (fun _ _ z => z)⟩
            clear o2 K2
            go_wp2_with fail
            go_roundw
            case rel => exact ⟨i2 + 1, p2, m2, k2, by go_num, rfl, by omega, S3.out⟩
            case measure => simp [intOf]; omega
          · have he : i2 = kN := by omega
            have i1 : ¬ (i2 : Int) < (kN : Int) := by omega
            subst he
            by_cases hend : i2 < d.s1.ln
            · have i4 : (i2 : Int) < (d.s1.ln : Int) := by omega
              obtain ⟨e, he⟩ : ∃ e, d.s1.L[i2]? = some e := ⟨_, List.getElem?_eq_getElem (by omega)⟩
              obtain ⟨b, off, hla, hc⟩ := RR.out.cells (by omega)
              have f0 := S2.out.2.cell (hc i2 e he).1 (fun z => z)
              have f1 := S2.out.2.cell (hc i2 e he).2 (fun z => z)
              have F1 : Hid (wo.cell? ⟨b, off + i2 * 2 + 1, none⟩ = some (.slice e.a e.n e.c)) := (hc i2 e he).2
              have heL : e ∈ d.s1.L := List.mem_of_getElem? he
              have hex : d.s1.xs[i2]? = some e.x := by unfold RSl.xs; rw [List.getElem?_map, he]; rfl
              have gg : e.Good wr := (ZZ.out.1.good e heL).off S2.out.2 (fun _ _ z => z)
              rw [hla]
              cases hx : e.x with
              | none =>
                have hw : e.w = true := by unfold RA.w; rw [hx]; rfl
                rw [hw] at f0
                rw [hx] at hex
                have OO : Hid (wr.ownsRow wo.heap.size 5 1 (.slice a' n' c') n' (cellsOf (leftL d.ab.l1 d.ab.X1 (restN d.ab cs 1)).1) ∧ Kept (fun _ => False) wo wr ∧ (∀ c ∈ (leftL d.ab.l1 d.ab.X1 (restN d.ab cs 1)).1, c < 256) ∧ cs.drop (ai + 1) = restN d.ab cs 2) := by
                  have e1 := left_end (l := d.ab.l1) (cs := cs) (ai := ai) KN.out.1 (by exact .inr hex)
                  rw [RS0.out] at e1
                  refine ⟨by rw [e1]; exact S2.out.1, S2.out.2, by rw [e1]; exact redoL_bytes _ _ ZZ.out.1.bytes (fun x hx => rgood_bytes ZZ.out.1.good x (List.mem_of_mem_take hx)), ?_⟩
                  have : restN d.ab cs 2 = (leftL d.ab.l1 d.ab.X1 (restN d.ab cs 1)).2 := rfl
                  rw [this, e1]
                clear hc he heL gg hex hx hw
                have I2 := S.out.1.is.kept0 OO.out.2.1
                have v0 : wr.cell? ⟨w.heap.size, 1, none⟩ = some (.slice r.s1.a r.s1.n r.s1.c) := I2.cell 1 rfl
                have v1 := I2.soft 1
                clear I2
                have Z : Hid (LR w.heap.size wS (wr.setCell ⟨w.heap.size, 1, none⟩ (.slice a' n' c')) { r with s1 := { r.s1 with a := a', n := n', c := c', l := (leftL d.ab.l1 d.ab.X1 (restN d.ab cs 1)).1 } } (leftL d.ab.l0 d.ab.X0 cs).1 (leftL d.ab.l1 d.ab.X1 (leftL d.ab.l0 d.ab.X0 cs).2).1 d.cur 2 ∧ cs.drop (ai + 1) = restN d.ab cs 2) := ⟨S.out.1.step1 OO.out.1 OO.out.2.2.1 OO.out.2.1, OO.out.2.2.2⟩
                go_wp2_with fail
                go_roundw
                case rel => exact ⟨2, (ai + 1), _, by go_num, by go_num, by omega, by omega, Z.out⟩
                case measure => simp [intOf]
              | some x2 =>
                have hw : e.w = false := by unfold RA.w; rw [hx]; rfl
                obtain ⟨hx0, rx⟩ := gg.bytes x2 hx
                have hxl := rx.length
                have hxs := rx.small
                unfold maxLen at hxs
                have hxr := rx.room
                rw [hw] at f0
                rw [hx] at hex
                have hxw : x2.length ≤ weigh d.s1.xs := weigh_mem (List.mem_of_getElem? hex)
                obtain ⟨kM, hkM⟩ : ∃ kM, kM = (nextC (cs.drop (ai + 1)) x2.length).1 := ⟨_, rfl⟩
                have kMlt : kM < x2.length := by rw [hkM]; exact nextC_lt _ _ hx0
                have EM : Hid ((cs.getD (ai + 1) 0) % (e.n : Int) = (kM : Int)) := by show _ = (kM : Int); rw [hkM, ← hxl]; exact pick_val cs (ai + 1) x2.length hx0
                have slc : ∀ V : World, (Instr.slice 22 (.slice e.a e.n e.c) none (some (.int .i64 (kM : Int))) none).run Try.prog V = .ok (.slice e.a kM e.c) V := slice_read rx (by omega) kM (by omega)
                have OL : Hid (leftL d.ab.l1 d.ab.X1 (restN d.ab cs 1) = (redoL d.s1.l (d.s1.xs.take i2) ++ x2.take kM, cs.drop (ai + 2)) ∧ Reads wr e.a kM e.c (x2.take kM) ∧ n' + kM ≤ 140737488355328) := by
                  have e1 := left_torn (l := d.ab.l1) (cs := cs) (ai := ai) KN.out.1 hex hkM
                  rw [RS0.out] at e1
                  refine ⟨e1, rx.take kM (by omega), ?_⟩
                  have h1 := redoL_length (d.s1.xs.take i2) d.s1.l
                  have h2 := weigh_take d.s1.xs i2
                  have h3 := ZZ.out.2
                  have h4 := len_own S2.out.1
                  unfold Lim at h3
                  omega
                have en0 : 0 < e.n := by omega
                have enb : e.n < 4611686018427387904 := by have h3 := ZZ.out.2; unfold Lim at h3; omega
                have ai1 : ai + 1 ≤ 4 := by omega
                clear hc he heL gg hex hx hw rx hxw hkM hxs hxr
                have KD : Hid (Kept (fun _ => False) wr wr.drew) := (Kept.refl (fun _ => False) wr).drew
                by_cases ha2 : ai + 1 < nq
                · have ib : ((ai + 1 : Nat) : Int) < (nq : Int) := by omega
                  have ib' : (ai : Int) + 1 < (nq : Int) := by omega
                  obtain ⟨b9, off9, hq9, g9⟩ := choice_at H.out.1 (CK.out (by omega) wr (S.out.1.kept.trans S2.out.2 (fun _ _ z => z))) ha2
                  rw [hq9]
                  have g9' : wr.cell? ⟨b9, off9 + ai + 1, none⟩ = some (.int .i64 (cs.getD (ai + 1) 0)) := by rw [Nat.add_assoc]; exact g9
                  exact absurd ha2 (by omega)
                · have ib : ¬ ((ai + 1 : Nat) : Int) < (nq : Int) := by omega
                  have ib' : ¬ (ai : Int) + 1 < (nq : Int) := by omega
                  have cz : cs.getD (ai + 1) 0 = 0 := by rw [List.getD_eq_getElem?_getD, List.getElem?_eq_none (by rw [H.out.1.length]; omega)]; rfl
                  rw [cz] at EM
                  go_wp2_with fail
                  go_region_held3 (fun w' => w'.cell? ⟨b, off + i2 * 2 + 1, none⟩ = some (.slice e.a e.n e.c)) (first | go_keep)
                    (first
                      | (go_at_call 67; refine (rmodulo (0) e.n wr.drew en0 enb).mono ?_; rintro x wm ⟨rfl, em⟩
                         rw [em, EM.out]
                         clear em wm)
                      | (refine step_append_d _ (by rfl) 105 (by rfl) (.tmp 90) (.tmp 104) 22 5 22 _ 1 1 (by rfl) Try.underlying22 Try.info5 rfl wo.heap.size (.slice a' n' c') n' (cellsOf (redoL d.s1.l (d.s1.xs.take i2))) (by rfl) (KD.out.owns S2.out.1 (fun _ _ z => z)) (.slice e.a kM e.c) kM (cellsOf (x2.take kM)) (by rfl) (OL.out.2.1.kept' KD.out (fun _ _ z => z)).src (by have := OL.out.2.2; unfold maxLen; omega) (by have := OL.out.2.2; omega) (by have := S2.out.2.size; rw [drew_size]; omega) ?_; intro p3 c3 w3 ho hg hn
                         have K3 : Kept (fun _ => False) wo w3 := (S2.out.2.trans KD.out (fun _ _ z => z)).grown hg.out (fun k hk z => by have := (S2.out.1.lt k z).1; omega)
                         have OO : Hid (w3.ownsRow wo.heap.size 5 1 (.slice p3 (n' + kM) c3) (n' + kM) (cellsOf (leftL d.ab.l1 d.ab.X1 (restN d.ab cs 1)).1) ∧ Kept (fun _ => False) wo w3 ∧ (∀ c ∈ (leftL d.ab.l1 d.ab.X1 (restN d.ab cs 1)).1, c < 256) ∧ cs.drop (ai + 2) = restN d.ab cs 2) := by
                           refine ⟨by rw [OL.out.1, cellsOf_append]; exact ho.out, K3, ?_, ?_⟩
                           · rw [OL.out.1]
                             intro c hc
                             rcases List.mem_append.1 hc with z | z
                             · exact redoL_bytes _ _ ZZ.out.1.bytes (fun x hx => rgood_bytes ZZ.out.1.good x (List.mem_of_mem_take hx)) c z
                             · exact OL.out.2.1.bytes c z
                           · have : restN d.ab cs 2 = (leftL d.ab.l1 d.ab.X1 (restN d.ab cs 1)).2 := rfl
                             rw [this, OL.out.1]
                         have f1' := K3.cell F1.out (fun z => z)
                         clear ho hg hn K3)
                      | fail)
                  have I2 := S.out.1.is.kept0 OO.out.2.1
                  have v0 : w3.cell? ⟨w.heap.size, 1, none⟩ = some (.slice r.s1.a r.s1.n r.s1.c) := I2.cell 1 rfl
                  have v1 := I2.soft 1
                  clear I2
                  have Z : Hid (LR w.heap.size wS (w3.setCell ⟨w.heap.size, 1, none⟩ (.slice p3 (n' + kM) c3)) { r with s1 := { r.s1 with a := p3, n := (n' + kM), c := c3, l := (leftL d.ab.l1 d.ab.X1 (restN d.ab cs 1)).1 } } (leftL d.ab.l0 d.ab.X0 cs).1 (leftL d.ab.l1 d.ab.X1 (leftL d.ab.l0 d.ab.X0 cs).2).1 d.cur 2 ∧ cs.drop (ai + 2) = restN d.ab cs 2) := ⟨S.out.1.step1 OO.out.1 OO.out.2.2.1 OO.out.2.1, OO.out.2.2.2⟩
                  go_wp2_with fail
                  go_roundw
                  case rel => exact ⟨2, (ai + 2), _, by go_num, by go_num, by omega, by omega, Z.out⟩
                  case measure => simp [intOf]
            · have hend2 : i2 = d.s1.ln := by omega
              have i4 : ¬ (i2 : Int) < (d.s1.ln : Int) := by omega
              have OO : Hid (wr.ownsRow wo.heap.size 5 1 (.slice a' n' c') n' (cellsOf (leftL d.ab.l1 d.ab.X1 (restN d.ab cs 1)).1) ∧ Kept (fun _ => False) wo wr ∧ (∀ c ∈ (leftL d.ab.l1 d.ab.X1 (restN d.ab cs 1)).1, c < 256) ∧ cs.drop (ai + 1) = restN d.ab cs 2) := by
                have e1 := left_end (l := d.ab.l1) (cs := cs) (ai := ai) KN.out.1 (by exact .inl (List.getElem?_eq_none (by show d.s1.xs.length ≤ i2; rw [ZZ.out.1.xlen]; omega)))
                rw [RS0.out] at e1
                refine ⟨by rw [e1]; exact S2.out.1, S2.out.2, by rw [e1]; exact redoL_bytes _ _ ZZ.out.1.bytes (fun x hx => rgood_bytes ZZ.out.1.good x (List.mem_of_mem_take hx)), ?_⟩
                have : restN d.ab cs 2 = (leftL d.ab.l1 d.ab.X1 (restN d.ab cs 1)).2 := rfl
                rw [this, e1]
              have I2 := S.out.1.is.kept0 OO.out.2.1
              have v0 : wr.cell? ⟨w.heap.size, 1, none⟩ = some (.slice r.s1.a r.s1.n r.s1.c) := I2.cell 1 rfl
              have v1 := I2.soft 1
              clear I2
              have Z : Hid (LR w.heap.size wS (wr.setCell ⟨w.heap.size, 1, none⟩ (.slice a' n' c')) { r with s1 := { r.s1 with a := a', n := n', c := c', l := (leftL d.ab.l1 d.ab.X1 (restN d.ab cs 1)).1 } } (leftL d.ab.l0 d.ab.X0 cs).1 (leftL d.ab.l1 d.ab.X1 (leftL d.ab.l0 d.ab.X0 cs).2).1 d.cur 2 ∧ cs.drop (ai + 1) = restN d.ab cs 2) := ⟨S.out.1.step1 OO.out.1 OO.out.2.2.1 OO.out.2.1, OO.out.2.2.2⟩
              go_wp2_with fail
              go_roundw
              case rel => exact ⟨2, (ai + 1), _, by go_num, by go_num, by omega, by omega, Z.out⟩
              case measure => simp [intOf]
    ·
      rw [show (((2 : Nat) : Int)) = 2 from rfl]
      go_wp2_with fail
      go_ret
      refine ⟨r, rfl, DK0.out.kept0 S.out.1.kept, S.out.1.is.mono (by rw [H.out.2.2]; exact Nat.le_refl _), S.out.1.ab, H.out.2.1.trans S.out.1.kept (fun _ _ z => z.elim), fun k hk => by have := S.out.1.near k hk; have := H.out.2.2; omega⟩
end Go.Proofs.Ytbnnmelkbjkkjaa
