import Derived.Test.YtbnnmelkbjkkjaaRefA
namespace Go.Proofs.Ytbnnmelkbjkkjaa
open Go.RowKit

set_option maxRecDepth 100000 in
set_option maxHeartbeats 1000000 in
theorem laid (a : Option Addr) (n c : Nat) (l : List Nat) (a2 : Option Addr) (n2 c2 : Nat) (l2 : List Nat) (w : World) (r : Reads w a n c l) (r2 : Reads w a2 n2 c2 l2) (hs : n + n2 ≤ 140737488355328) :
    Calls Try.prog 68 #[.slice a n c, .agg #[.bool false, .slice a2 n2 c2]] w fun x w' => ∃ p k, x = .returned (.slice p (n + n2) k) ∧ w'.ownsRow w.heap.size 5 1 (.slice p (n + n2) k) (n + n2) (cellsOf (l ++ l2)) ∧ Kept (fun _ => False) w w' := by
  obtain ⟨W, hW⟩ : ∃ W, W = w.alloc (.cells #[.bool false, .slice a2 n2 c2] 95) := ⟨_, rfl⟩
  have EW : Hid (W = w.alloc (.cells #[.bool false, .slice a2 n2 c2] 95)) := hW
  have K : Kept (fun _ => False) w W := by rw [hW]; exact alloc_kept0 _ _
  have hb : W.heap[w.heap.size]? = some (.cells #[.bool false, .slice a2 n2 c2] 95 (0, 0)) := by rw [hW]; exact alloc_new _ _
  have g0 : W.cell? ⟨w.heap.size, 0, none⟩ = some (.bool false) := cell_blk hb 0 rfl
  have H : Hid (Kept (fun _ => False) w W ∧ Reads W a n c l ∧ Reads W a2 n2 c2 l2 ∧ n + n2 ≤ 140737488355328 ∧ n ≤ 140737488355328 ∧ W.heap[w.heap.size]? = some (.cells #[.bool false, .slice a2 n2 c2] 95 (0, 0))) := ⟨K, r.kept' K (fun _ _ z => z), r2.kept' K (fun _ _ z => z), hs, by omega, hb⟩
  clear hW K hb r r2 hs
  go_enter Try.func68, Try.ntmps68
  go_upto_region 2 with fail
  rw [← EW.out]
  go_wp2_with
    (first
      | (at_builtin; refine wpList_append_bytes _ rfl (.tmp 12) (.tmp 14) rfl W.heap.size (.slice p1 n k1) n l rfl X1.out.1 (.slice a2 n2 c2) n2 l2 rfl X1.out.2.2.1.src H.out.2.2.2.1 X1.out.2.2.2 ?_; intro p2 k2 w2 ho hg hn
         have X2 : Hid (w2.ownsRow W.heap.size 5 1 (.slice p2 (n + n2) k2) (n + n2) (cellsOf (l ++ l2)) ∧ Kept (fun _ => False) w w2) := ⟨ho.out, (H.out.1.trans X1.out.2.1 (fun _ _ z => z)).grown hg.out (fun k hk z => by have := (X1.out.1.lt k z).1; have := H.out.1.size; omega)⟩
         clear ho hg hn)
      | (at_builtin; refine wpList_append_bytes _ rfl (.tmp 9) (.tmp 10) rfl W.heap.size (.slice none 0 0) 0 [] rfl (World.ownsRow_nil _ _ _ _) (.slice a n c) n l rfl H.out.2.1.src (by rw [Nat.zero_add]; exact H.out.2.2.2.2.1) (Nat.le_refl _) ?_; intro p1 k1 w1 ho hg hn
         rw [Nat.zero_add] at ho ⊢
         rw [List.nil_append] at ho
         have K1 : Kept (fun _ => False) W w1 := (Kept.refl (fun _ => False) W).grown hg.out (fun k _ z => by simp [Value.ownBlock] at z)
         have X1 : Hid (w1.ownsRow W.heap.size 5 1 (.slice p1 n k1) n (cellsOf l) ∧ Kept (fun _ => False) W w1 ∧ Reads w1 a2 n2 c2 l2 ∧ W.heap.size ≤ w1.heap.size) := ⟨ho.out, K1, H.out.2.2.1.kept' K1 (fun _ _ z => z), K1.size⟩
         have g1 : w1.cell? ⟨w.heap.size, 1, none⟩ = some (.slice a2 n2 c2) := cell_blk (K1.get H.out.2.2.2.2.2 (fun z => z)) 1 rfl
         clear ho hg hn K1)
      | fail)
  go_ret
  exact ⟨p2, k2, rfl, owns_mono X2.out.1 H.out.1.size, X2.out.2⟩
set_option maxRecDepth 100000 in
theorem laid_wipe (v u : Value) (w : World) (hu : ∃ a n c, u = .slice a n c) : Calls Try.prog 68 #[v, .agg #[.bool true, u]] w fun x w' => x = .returned (.slice none 0 0) ∧ Kept (fun _ => False) w w' := by
  obtain ⟨a, n, c, rfl⟩ := hu
  go_enter Try.func68, Try.ntmps68
  go_wp2_with fail
  go_ret
  exact ⟨rfl, alloc_kept0 _ _⟩
/-- laid of a loose act. -/
theorem laidA (a : Option Addr) (n c : Nat) (l : List Nat) (e : RA) (w : World) (r : Reads w a n c l) (g : e.Good w) (hs : l.length + ((e.x).getD []).length ≤ 2 * Lim) :
    Calls Try.prog 68 #[.slice a n c, .agg #[.bool e.w, .slice e.a e.n e.c]] w fun x w' => ∃ p m k, x = .returned (.slice p m k) ∧ w'.ownsRow w.heap.size 5 1 (.slice p m k) m (cellsOf (stepA l e.x)) ∧ Kept (fun _ => False) w w' := by
  cases hx : e.x with
  | none =>
    have hw : e.w = true := by unfold RA.w; rw [hx]; rfl
    rw [hw]
    refine (laid_wipe _ _ w ⟨_, _, _, rfl⟩).mono ?_
    rintro x w' ⟨rfl, K⟩
    exact ⟨none, 0, 0, rfl, World.ownsRow_nil _ _ _ _, K⟩
  | some l2 =>
    have hw : e.w = false := by unfold RA.w; rw [hx]; rfl
    obtain ⟨h0, r2⟩ := g.bytes l2 hx
    rw [hx] at hs
    have h1 := r.length
    have h2 := r2.length
    have h3 : l.length + l2.length ≤ 2 * Lim := hs
    unfold Lim at h3
    rw [hw]
    refine (laid a n c l e.a e.n e.c l2 w r r2 (by omega)).mono ?_
    rintro x w' ⟨p, k, rfl, o, K⟩
    exact ⟨p, _, k, rfl, o, K⟩
end Go.Proofs.Ytbnnmelkbjkkjaa

namespace Go.Proofs.Ytbnnmelkbjkkjaa
open Go.RowKit

theorem owned_reads' {w : World} {base : Nat} {a : Option Addr} {n c : Nat} {l : List Nat} (h : w.ownsRow base 5 1 (.slice a n c) n (cellsOf l)) (hb : ∀ c ∈ l, c < 256) : Reads w a n c l := by
  obtain ⟨a', c', e, r, _⟩ := owns_reads h hb
  simp at e
  obtain ⟨rfl, rfl⟩ := e
  exact r
theorem rread {base : Nat} {w : World} {s : RSl} (h : IsRS base w s) : Reads w s.a s.n s.c s.l := owned_reads' h.own h.bytes
set_option maxRecDepth 100000 in
set_option maxHeartbeats 2000000 in
theorem rnow_0 (base B : Nat) (s : RSl) (w : World) (h : IsRS base w s) (c0 : w.cell? ⟨B, 0, none⟩ = some (.slice s.a s.n s.c)) (c1 : w.cell? ⟨B, 2, none⟩ = some (.slice s.la s.ln s.lc)) (hl : s.l.length + weigh s.xs ≤ Lim) :
    Calls Try.prog 69 #[.pointer (some ⟨B, 0, none⟩), .int .i64 0] w fun x w' => ∃ a n c, x = .returned (.slice a n c) ∧ w'.ownsRow w.heap.size 5 1 (.slice a n c) n (cellsOf (redoL s.l s.xs)) ∧ Kept (fun _ => False) w w' := by
  have rr := owns_rrd h.lown
  have hll := rr.length
  have hr := rr.room
  have hs := rr.small
  unfold maxLen at hs
  have H : Hid (IsRS base w s ∧ s.l.length + weigh s.xs ≤ Lim ∧ s.n ≤ 140737488355328 ∧ RRd w s.la s.ln s.lc s.L) := by
    refine ⟨h, hl, ?_, rr⟩
    have := len_own h.own
    unfold Lim at hl
    omega
  have C0 : Hid (w.cell? ⟨B, 0, none⟩ = some (.slice s.a s.n s.c)) := c0
  have C1 : Hid (w.cell? ⟨B, 2, none⟩ = some (.slice s.la s.ln s.lc)) := c1
  clear h hl rr
  go_enter Try.func69, Try.ntmps69
  go_wp2_with
    (first
      | (at_builtin; refine wpList_append_bytes _ rfl (.tmp 7) (.tmp 13) rfl w.heap.size (.slice none 0 0) 0 [] rfl (World.ownsRow_nil _ _ _ _) (.slice s.a s.n s.c) s.n s.l rfl (rread H.out.1).src (by rw [Nat.zero_add]; exact H.out.2.2.1) (Nat.le_refl _) ?_; intro p1 k1 w1 ho hg hn
         rw [Nat.zero_add] at ho ⊢
         rw [List.nil_append] at ho
         have K1 : Kept (fun _ => False) w w1 := (Kept.refl (fun _ => False) w).grown hg.out (fun k _ z => by simp [Value.ownBlock] at z)
         have X1 : Hid (w1.ownsRow w.heap.size 5 1 (.slice p1 s.n k1) s.n (cellsOf s.l) ∧ Kept (fun _ => False) w w1) := ⟨ho.out, K1⟩
         clear ho hg hn K1)
      | fail)
  go_loopw [5, 6] (fun y x wr => ∃ (i : Nat) (a' : Option Addr) (n' c' : Nat), x = .int .i64 (i : Int) ∧ y = .slice a' n' c' ∧ i ≤ s.ln ∧ Hid (wr.ownsRow w.heap.size 5 1 (.slice a' n' c') n' (cellsOf (redoL s.l (s.xs.take i))) ∧ Kept (fun _ => False) w wr)) (fun _ x _ => s.ln - (intOf x).toNat)
  case atStart => exact ⟨0, p1, s.n, k1, rfl, rfl, Nat.zero_le _, by simp only [List.take_zero]; exact X1.out.1, X1.out.2⟩
  case round =>
    obtain ⟨i, a', n', c', rfl, rfl, hi, S⟩ := hrel
    have d1 : wr.cell? ⟨B, 2, none⟩ = some (.slice s.la s.ln s.lc) := S.out.2.cell C1.out (fun z => z)
    by_cases hlt : i < s.ln
    · have i1 : (i : Int) < (s.ln : Int) := by omega
      obtain ⟨e, he⟩ : ∃ e, s.L[i]? = some e := ⟨_, List.getElem?_eq_getElem (by omega)⟩
      obtain ⟨b, off, hla, hc⟩ := H.out.2.2.2.cells (by omega)
      have f0 := S.out.2.cell (hc i e he).1 (fun z => z)
      have f1 := S.out.2.cell (hc i e he).2 (fun z => z)
      have heL : e ∈ s.L := List.mem_of_getElem? he
      have tk : s.xs.take (i + 1) = s.xs.take i ++ [e.x] := by
        obtain ⟨h1, h2⟩ := List.getElem?_eq_some_iff.1 he
        unfold RSl.xs
        rw [List.take_succ_eq_append_getElem (by rw [List.length_map]; omega), List.getElem_map, h2]
      have G : Hid (e.Good wr ∧ redoL s.l (s.xs.take (i + 1)) = stepA (redoL s.l (s.xs.take i)) e.x ∧ Reads wr a' n' c' (redoL s.l (s.xs.take i)) ∧ (redoL s.l (s.xs.take i)).length + ((e.x).getD []).length ≤ 2 * Lim) := by
        refine ⟨(H.out.1.good e heL).off S.out.2 (fun _ _ z => z), by rw [tk, redoL_snoc], owned_reads' S.out.1 ?_, ?_⟩
        · exact redoL_bytes _ _ H.out.1.bytes (fun x hx => rgood_bytes H.out.1.good x (List.mem_of_mem_take hx))
        · have h1 := redoL_length (s.xs.take i) s.l
          have h2 := weigh_take s.xs i
          have h3 := H.out.2.1
          have h4 : ((e.x).getD []).length ≤ weigh s.xs := by
            cases hx : e.x with
            | none => simp
            | some l2 => exact weigh_mem (List.mem_map.2 ⟨e, heL, hx⟩)
          omega
      rw [hla] at d1
      clear hc he heL tk hla
      go_wp2_with fail
      refine (laidA a' n' c' _ e wr G.out.2.2.1 G.out.1 G.out.2.2.2).mono ?_
      rintro x w2 ⟨p2, m2, k2, rfl, o2, K2⟩
      have S2 : Hid (w2.ownsRow w.heap.size 5 1 (.slice p2 m2 k2) m2 (cellsOf (redoL s.l (s.xs.take (i + 1)))) ∧ Kept (fun _ => False) w w2) := ⟨by rw [G.out.2.1]; exact owns_mono o2 S.out.2.size, S.out.2.trans K2 (fun _ _ z => z)⟩
      clear o2 K2
      go_wp2_with fail
      go_roundw
      case rel => exact ⟨i + 1, p2, m2, k2, by go_num, rfl, by omega, S2.out⟩
      case measure => simp [intOf]; omega
    · have he : i = s.ln := by omega
      have i1 : ¬ (i : Int) < (s.ln : Int) := by omega
      go_wp2_with fail
      go_ret
      refine ⟨a', n', c', rfl, ?_, S.out.2⟩
      have := S.out.1
      rw [List.take_of_length_le (by rw [H.out.1.xlen]; omega)] at this
      exact this
set_option maxRecDepth 100000 in
set_option maxHeartbeats 2000000 in
theorem rnow_1 (base B : Nat) (s : RSl) (w : World) (h : IsRS base w s) (c0 : w.cell? ⟨B, 1, none⟩ = some (.slice s.a s.n s.c)) (c1 : w.cell? ⟨B, 3, none⟩ = some (.slice s.la s.ln s.lc)) (hl : s.l.length + weigh s.xs ≤ Lim) :
    Calls Try.prog 69 #[.pointer (some ⟨B, 0, none⟩), .int .i64 1] w fun x w' => ∃ a n c, x = .returned (.slice a n c) ∧ w'.ownsRow w.heap.size 5 1 (.slice a n c) n (cellsOf (redoL s.l s.xs)) ∧ Kept (fun _ => False) w w' := by
  have rr := owns_rrd h.lown
  have hll := rr.length
  have hr := rr.room
  have hs := rr.small
  unfold maxLen at hs
  have H : Hid (IsRS base w s ∧ s.l.length + weigh s.xs ≤ Lim ∧ s.n ≤ 140737488355328 ∧ RRd w s.la s.ln s.lc s.L) := by
    refine ⟨h, hl, ?_, rr⟩
    have := len_own h.own
    unfold Lim at hl
    omega
  have C0 : Hid (w.cell? ⟨B, 1, none⟩ = some (.slice s.a s.n s.c)) := c0
  have C1 : Hid (w.cell? ⟨B, 3, none⟩ = some (.slice s.la s.ln s.lc)) := c1
  clear h hl rr
  go_enter Try.func69, Try.ntmps69
  go_wp2_with
    (first
      | (at_builtin; refine wpList_append_bytes _ rfl (.tmp 7) (.tmp 13) rfl w.heap.size (.slice none 0 0) 0 [] rfl (World.ownsRow_nil _ _ _ _) (.slice s.a s.n s.c) s.n s.l rfl (rread H.out.1).src (by rw [Nat.zero_add]; exact H.out.2.2.1) (Nat.le_refl _) ?_; intro p1 k1 w1 ho hg hn
         rw [Nat.zero_add] at ho ⊢
         rw [List.nil_append] at ho
         have K1 : Kept (fun _ => False) w w1 := (Kept.refl (fun _ => False) w).grown hg.out (fun k _ z => by simp [Value.ownBlock] at z)
         have X1 : Hid (w1.ownsRow w.heap.size 5 1 (.slice p1 s.n k1) s.n (cellsOf s.l) ∧ Kept (fun _ => False) w w1) := ⟨ho.out, K1⟩
         clear ho hg hn K1)
      | fail)
  go_loopw [5, 6] (fun y x wr => ∃ (i : Nat) (a' : Option Addr) (n' c' : Nat), x = .int .i64 (i : Int) ∧ y = .slice a' n' c' ∧ i ≤ s.ln ∧ Hid (wr.ownsRow w.heap.size 5 1 (.slice a' n' c') n' (cellsOf (redoL s.l (s.xs.take i))) ∧ Kept (fun _ => False) w wr)) (fun _ x _ => s.ln - (intOf x).toNat)
  case atStart => exact ⟨0, p1, s.n, k1, rfl, rfl, Nat.zero_le _, by simp only [List.take_zero]; exact X1.out.1, X1.out.2⟩
  case round =>
    obtain ⟨i, a', n', c', rfl, rfl, hi, S⟩ := hrel
    have d1 : wr.cell? ⟨B, 3, none⟩ = some (.slice s.la s.ln s.lc) := S.out.2.cell C1.out (fun z => z)
    by_cases hlt : i < s.ln
    · have i1 : (i : Int) < (s.ln : Int) := by omega
      obtain ⟨e, he⟩ : ∃ e, s.L[i]? = some e := ⟨_, List.getElem?_eq_getElem (by omega)⟩
      obtain ⟨b, off, hla, hc⟩ := H.out.2.2.2.cells (by omega)
      have f0 := S.out.2.cell (hc i e he).1 (fun z => z)
      have f1 := S.out.2.cell (hc i e he).2 (fun z => z)
      have heL : e ∈ s.L := List.mem_of_getElem? he
      have tk : s.xs.take (i + 1) = s.xs.take i ++ [e.x] := by
        obtain ⟨h1, h2⟩ := List.getElem?_eq_some_iff.1 he
        unfold RSl.xs
        rw [List.take_succ_eq_append_getElem (by rw [List.length_map]; omega), List.getElem_map, h2]
      have G : Hid (e.Good wr ∧ redoL s.l (s.xs.take (i + 1)) = stepA (redoL s.l (s.xs.take i)) e.x ∧ Reads wr a' n' c' (redoL s.l (s.xs.take i)) ∧ (redoL s.l (s.xs.take i)).length + ((e.x).getD []).length ≤ 2 * Lim) := by
        refine ⟨(H.out.1.good e heL).off S.out.2 (fun _ _ z => z), by rw [tk, redoL_snoc], owned_reads' S.out.1 ?_, ?_⟩
        · exact redoL_bytes _ _ H.out.1.bytes (fun x hx => rgood_bytes H.out.1.good x (List.mem_of_mem_take hx))
        · have h1 := redoL_length (s.xs.take i) s.l
          have h2 := weigh_take s.xs i
          have h3 := H.out.2.1
          have h4 : ((e.x).getD []).length ≤ weigh s.xs := by
            cases hx : e.x with
            | none => simp
            | some l2 => exact weigh_mem (List.mem_map.2 ⟨e, heL, hx⟩)
          omega
      rw [hla] at d1
      clear hc he heL tk hla
      go_wp2_with fail
      refine (laidA a' n' c' _ e wr G.out.2.2.1 G.out.1 G.out.2.2.2).mono ?_
      rintro x w2 ⟨p2, m2, k2, rfl, o2, K2⟩
      have S2 : Hid (w2.ownsRow w.heap.size 5 1 (.slice p2 m2 k2) m2 (cellsOf (redoL s.l (s.xs.take (i + 1)))) ∧ Kept (fun _ => False) w w2) := ⟨by rw [G.out.2.1]; exact owns_mono o2 S.out.2.size, S.out.2.trans K2 (fun _ _ z => z)⟩
      clear o2 K2
      go_wp2_with fail
      go_roundw
      case rel => exact ⟨i + 1, p2, m2, k2, by go_num, rfl, by omega, S2.out⟩
      case measure => simp [intOf]; omega
    · have he : i = s.ln := by omega
      have i1 : ¬ (i : Int) < (s.ln : Int) := by omega
      go_wp2_with fail
      go_ret
      refine ⟨a', n', c', rfl, ?_, S.out.2⟩
      have := S.out.1
      rw [List.take_of_length_le (by rw [H.out.1.xlen]; omega)] at this
      exact this
end Go.Proofs.Ytbnnmelkbjkkjaa
