import Derived.Test.YtbnnmelkbjkkjaaTearState
namespace Go.Proofs.Ytbnnmelkbjkkjaa
open Go.RowKit

theorem tA_ok (l : List Nat) (D : List Sli) (i : Nat) (h1 : l.length + (pcs (D.take i)).flatten.length ≤ Few) (h2 : i ≤ Few) (h3 : (pcs (D.take i)).length ≤ Few) : (tA l D i).Ok := by
  have hw : ∀ P : List (List Nat), weigh (P.map some) = P.flatten.length := fun P => by
    unfold weigh
    rw [List.map_map, List.length_flatten]
    rfl
  unfold Few at h1 h2 h3
  refine ⟨?_, ?_, ?_, ?_, ?_, ?_⟩
  · show l.length + weigh ((pcs (D.take i)).map some) ≤ Lim
    rw [hw]; unfold Lim; omega
  · show l.length + weigh [] ≤ Lim
    have : weigh [] = 0 := rfl
    unfold Lim; omega
  · show ((pcs (D.take i)).map some).length + 1 ≤ Lim
    rw [List.length_map]; unfold Lim; omega
  · show 0 + 1 ≤ Lim
    decide
  · show i + 1 ≤ Lim
    unfold Lim; omega
  · show (0 : Int) ≤ 0 ∧ (0 : Int) < 9223372036854775808
    decide
theorem tA_crash (l : List Nat) (D : List Sli) (i : Nat) (cs : List Int) (h1 : l.length + (pcs (D.take i)).flatten.length ≤ 900000000) : ((tA l D i).crash cs).Ok := by
  have hw : ∀ P : List (List Nat), weigh (P.map some) = P.flatten.length := fun P => by
    unfold weigh
    rw [List.map_map, List.length_flatten]
    rfl
  have wn : weigh [] = 0 := rfl
  have q0 := leftL_length l ((pcs (D.take i)).map some) cs
  have q1 := leftL_length l [] (leftL l ((pcs (D.take i)).map some) cs).2
  rw [hw] at q0
  rw [wn] at q1
  refine ⟨?_, ?_, by show 0 + 1 ≤ Lim; decide, by show 0 + 1 ≤ Lim; decide, by show 0 + 1 ≤ Lim; decide, by show (0 : Int) ≤ 0 ∧ (0 : Int) < 9223372036854775808; decide⟩
  · show (leftL l ((pcs (D.take i)).map some) cs).1.length + weigh [] ≤ Lim
    rw [wn]; unfold Lim; omega
  · show (leftL l [] (leftL l ((pcs (D.take i)).map some) cs).2).1.length + weigh [] ≤ Lim
    rw [wn]; unfold Lim; omega
theorem flat_le (D : List Sli) (hl : ∀ s ∈ D, s.l.length = s.len) (i : Nat) : (pcs (D.take i)).flatten.length ≤ sumD D ∧ (pcs (D.take i)).length ≤ D.length := by
  refine ⟨?_, ?_⟩
  · rw [pcs_flat, List.length_flatten, List.map_map]
    have e : ∀ E : List Sli, (∀ s ∈ E, s.l.length = s.len) → (E.map (List.length ∘ Sli.l)).sum = sumD E := fun E hE => by
      unfold sumD
      congr 1
      exact List.map_congr_left (fun s hs => hE s hs)
    rw [e _ (fun s hs => hl s (List.mem_of_mem_take hs))]
    have : sumD D = sumD (D.take i) + sumD (D.drop i) := by
      unfold sumD
      rw [← List.sum_append, ← List.map_append, List.take_append_drop]
    omega
  · unfold pcs
    refine Nat.le_trans (List.length_filter_le _ _) ?_
    rw [List.length_map, List.length_take]
    omega
theorem flat_snoc {D : List Sli} {i : Nat} {s : Sli} (h : D[i]? = some s) : (pcs (D.take (i + 1))).flatten = (pcs (D.take i)).flatten ++ s.l := by
  rw [pcs_flat, pcs_flat, take_snoc h, List.map_append, List.flatten_append]
  simp
theorem lens_snoc {D : List Sli} {i : Nat} {s : Sli} (h : D[i]? = some s) : lensOf (D.take (i + 1)) = if s.l.length = 0 then lensOf (D.take i) else lensOf (D.take i) ++ [s.l.length] := by
  unfold lensOf
  rw [take_snoc h, pcs_snoc]
  split
  · rfl
  · rw [List.map_append]; rfl
theorem icells_append (a b : List Nat) : icells (a ++ b) = icells a ++ icells b := by simp [icells]
theorem icells_length (a : List Nat) : (icells a).length = a.length := by simp [icells]
theorem lim_wide8 {n : Nat} (h : n ≤ Lim) : (n + n / 4 + 192) * 8 ≤ 281474976710656 := by unfold Lim at h; omega
theorem made_kt (w : World) (k t : Nat) (hk : k < 9223372036854775808) (ht : t < 9223372036854775808) : IRd (w.alloc (.cells #[.int .i64 (k : Int), .int .i64 (t : Int)] 3)) (some ⟨w.heap.size, 0, none⟩) 2 2 [(k : Int), (t : Int)] := by
  refine ⟨rfl, Nat.le_refl _, by unfold maxLen; omega, fun x hx => ?_, fun _ => ⟨w.heap.size, 0, rfl, fun i x hx => ?_⟩⟩
  · simp at hx; rcases hx with z | z <;> omega
  · have b := alloc_new w (.cells #[.int .i64 (k : Int), .int .i64 (t : Int)] 3)
    rw [Nat.zero_add]
    have hlt := (List.getElem?_eq_some_iff.1 hx).1
    simp at hlt
    match i, hlt with
    | 0, _ => simp at hx; subst hx; exact cell_blk b 0 rfl
    | 1, _ => simp at hx; subst hx; exact cell_blk b 1 rfl
theorem lens_cell {w : World} {base : Nat} {pl : Option Addr} {nl cl : Nat} {P : List (List Nat)} (h : w.ownsRow base 3 1 (.slice pl nl cl) nl (icells (P.map List.length))) {k : Nat} {x : List Nat} (hx : P[k]? = some x) : ∃ g, pl = some ⟨g, 0, none⟩ ∧ w.cell? ⟨g, k, none⟩ = some (.int .i64 (x.length : Int)) := by
  obtain ⟨hl, e⟩ := List.getElem?_eq_some_iff.1 hx
  have q1 := h.1
  rw [icells_length, List.length_map, Nat.mul_one] at q1
  rcases h.2 with ⟨e0, e1⟩ | ⟨g, cap', cur, e0, _⟩
  · omega
  · simp at e0
    obtain ⟨rfl, rfl⟩ := e0
    refine ⟨g, rfl, ?_⟩
    have := h.cells (g := g) rfl k (.int .i64 (x.length : Int)) (by simp [icells, hx])
    rw [Addr.add_none, Nat.zero_add] at this
    exact this
theorem TS.start {w w4 w5 : World} {B : Nat} {l : List Nat} {D : List Sli} {pf : Option Addr} {nL cf m : Nat} (h : HD w w4 B (tA l D 0)) (ho : w5.ownsRow w.heap.size 5 1 (.slice pf nL cf) nL (cellsOf l)) (hg : w4.grownBy w5 (Value.slice none 0 0).ownBlock) (hn : (Value.slice pf m cf).ownBlock = (Value.slice none 0 0).ownBlock ∨ ((Value.slice pf m cf).ownBlock = some w4.heap.size ∧ w4.grownBy w5 none)) : TS w w5 B l D 0 pf nL cf none 0 0 := by
  rw [blockOf_own] at hg hn
  rw [blockOf_own] at hn
  have K : Kept (fun _ => False) w4 w5 := (Kept.refl (fun _ => False) w4).grown hg (fun k _ z => by simp [blockOf] at z)
  refine ⟨?_, by rw [show l ++ (pcs (D.take 0)).flatten = l by simp [pcs]]; exact ho, World.ownsRow_nil _ _ _ _⟩
  refine (HX.of h).beside (K.mono (fun _ _ z => z.elim)) (fun _ z => z.elim) (fun k hk => ?_)
  rcases hk with z | z
  · refine ⟨(own_lt ho k z).2, .inr ?_⟩
    rcases hn with q | ⟨q, _⟩
    · rw [q] at z; simp [blockOf] at z
    · rw [q] at z; simp at z; omega
  · simp [blockOf] at z
set_option maxRecDepth 100000 in
set_option maxHeartbeats 4000000 in
theorem diskTears (aL : Option Addr) (nL cL : Nat) (l : List Nat) (qP : Option Addr) (nP cP : Nat) (D : List Sli) (sz : Int) (qC : Option Addr) (nC cC : Nat) (cs : List Int) (w : World) (rL : Reads w aL nL cL l) (hD : Datas w qP nP cP D) (rC : IRd w qC nC cC cs) (h1 : nL + sumD D ≤ 900000000) (h2 : nP ≤ 900000000) :
    Calls Try.prog 3 #[.agg #[.slice aL nL cL, .slice qP nP cP, .int .i64 sz, .slice qC nC cC]] w fun x w' => x = .returned (.bool true) ∧ Kept (fun _ => False) w w' := by
  have hrl := rL.room
  have hsl := rL.small
  have hll := rL.length
  have hrp := hD.room
  have hsp := hD.small
  have hlp := hD.length
  unfold maxLen at hsl hsp
  have H : Hid (Reads w aL nL cL l ∧ Datas w qP nP cP D ∧ IRd w qC nC cC cs ∧ nL ≤ Lim ∧ (∀ i, i ≤ nP → (tA l D i).Ok) ∧ ∀ s ∈ D, s.len ≤ Lim) := by
    have hh : ∀ s ∈ D, s.l.length = s.len := fun s hs => (hD.reads s hs).length
    refine ⟨rL, hD, rC, by unfold Lim; omega, fun i hi => ?_, fun s hs => ?_⟩
    · obtain ⟨q1, q2⟩ := flat_le D hh i
      exact tA_ok l D i (by unfold Few; omega) (by unfold Few; omega) (by unfold Few; omega)
    · have : s.len ≤ sumD D := by
        unfold sumD
        have : ∀ E : List Sli, s ∈ E → s.len ≤ (E.map Sli.len).sum := fun E => by
          induction E with
          | nil => intro z; simp at z
          | cons e E ih =>
            intro z
            rw [List.map_cons, List.sum_cons]
            rcases List.mem_cons.1 z with z | z
            · rw [z]; omega
            · have := ih z; omega
        exact this D hs
      unfold Lim; omega
  have CK : Hid (∀ i, i ≤ nP → ∀ cs', ((tA l D i).crash cs').Ok) := fun i hi cs' => by
    obtain ⟨q1, q2⟩ := flat_le D (fun s hs => (hD.reads s hs).length) i
    exact tA_crash l D i cs' (by omega)
  clear rL hD rC
  obtain ⟨W, hW⟩ : ∃ W, W = w.alloc (.cells #[.slice aL nL cL, .slice qP nP cP, .int .i64 sz, .slice qC nC cC] 26) := ⟨_, rfl⟩
  have EW : Hid (W = w.alloc (.cells #[.slice aL nL cL, .slice qP nP cP, .int .i64 sz, .slice qC nC cC] 26)) := hW
  have bk : W.heap[w.heap.size]? = some (.cells #[.slice aL nL cL, .slice qP nP cP, .int .i64 sz, .slice qC nC cC] 26 (0, 0)) := by rw [hW]; exact alloc_new _ _
  have b0 := cell_blk bk 0 rfl
  have b1 := cell_blk bk 1 rfl
  have b2 := cell_blk bk 2 rfl
  have b3 := cell_blk bk 3 rfl
  have S0 : Hid (Kept (fun _ => False) w W) := by rw [hW]; exact alloc_kept0 _ _
  clear bk hW
  go_enter Try.func3, Try.ntmps3
  go_upto_region 1 with fail
  rw [← EW.out]
  go_quiet (fail)
  clear b0 b1 b2 b3
  have KQ : Hid (Kept (fun _ => False) w (W.drewN nq)) := S0.out.drewN nq
  go_wp2_with fail
  refine (wide aL nL cL l (W.drewN nq) (H.out.1.kept' KQ.out (fun _ _ z => z)) H.out.2.2.2.1).mono ?_
  rintro x w1 ⟨p1, k1, rfl, o1, K1⟩
  have X1 : Hid (Kept (fun _ => False) w w1 ∧ Reads w1 p1 nL k1 l) := ⟨KQ.out.trans K1 (fun _ _ z => z), wide_reads hll H.out.1.bytes o1⟩
  clear o1 K1
  go_wp2_with fail
  refine (wide aL nL cL l w1 (H.out.1.kept' X1.out.1 (fun _ _ z => z)) H.out.2.2.2.1).mono ?_
  rintro x w2 ⟨p2, k2, rfl, o2, K2⟩
  have X2 : Hid (Kept (fun _ => False) w w2 ∧ Reads w2 p1 nL k1 l ∧ Reads w2 p2 nL k2 l) := ⟨X1.out.1.trans K2 (fun _ _ z => z), X1.out.2.kept' K2 (fun _ _ z => z), wide_reads hll H.out.1.bytes o2⟩
  clear o2 K2
  go_wp2_with fail
  refine (hLoad w w2 p1 nL k1 l p2 nL k2 l 0 X2.out.1 X2.out.2.1 X2.out.2.2 H.out.2.2.2.1 H.out.2.2.2.1 (by omega)).mono ?_
  rintro x w3 ⟨B, rfl, h3, _⟩
  have X3 : Hid (HD w w3 B (tA l D 0)) := h3
  clear h3
  go_wp2_with fail
  refine (head w3).mono ?_
  rintro x w4 ⟨rfl, K4⟩
  have X4 : Hid (HD w w4 B (tA l D 0) ∧ Src Try.prog 1 22 (.slice aL nL cL) nL (cellsOf l) w4 ∧ nL ≤ 140737488355328) := by
    have q := X3.out.quiet K4
    exact ⟨q, (H.out.1.kept' q.kept (fun _ _ z => z)).src, by have := H.out.2.2.2.1; unfold Lim at this; omega⟩
  clear K4
  go_wp2_with
    (first
      | (at_builtin; refine wpList_append_bytes _ rfl (.tmp 45) (.tmp 46) rfl w.heap.size (.slice none 0 0) 0 [] rfl (World.ownsRow_nil _ _ _ _) (.slice aL nL cL) nL l rfl X4.out.2.1 (by rw [Nat.zero_add]; exact X4.out.2.2) X4.out.1.kept.size ?_; intro pf cf w5 ho hg hn
         rw [Nat.zero_add] at ho ⊢
         rw [List.nil_append] at ho
         have X5 : Hid (TS w w5 B l D 0 pf nL cf none 0 0) := TS.start X4.out.1 ho.out hg.out hn.out
         clear ho hg hn)
      | fail)
  go_loopw [2, 9, 10, 11] (fun _ yf yl x wr => ∃ (i : Nat) (pf : Option Addr) (nf cf : Nat) (pl : Option Addr) (nl cl : Nat), x = .int .i64 (i : Int) ∧ yf = .slice pf nf cf ∧ yl = .slice pl nl cl ∧ i ≤ nP ∧ Hid (TS w wr B l D i pf nf cf pl nl cl)) (fun _ _ _ x _ => nP - (intOf x).toNat)
  case atStart => exact ⟨0, pf, nL, cf, none, 0, 0, rfl, rfl, rfl, Nat.zero_le _, X5.out⟩
  case round =>
    obtain ⟨i, pf, nf, cf, pl, nl, cl, rfl, rfl, rfl, hi, S⟩ := hrel
    by_cases hlt : i < nP
    · have i1 : (i : Int) < (nP : Int) := by omega
      obtain ⟨s, hs⟩ : ∃ s, D[i]? = some s := ⟨_, List.getElem?_eq_getElem (by omega)⟩
      obtain ⟨b, off, rfl, hc⟩ := H.out.2.1.cells (by omega)
      have c0 : ∀ V : World, Kept (fun _ => False) w V → V.cell? ⟨b, off + i, none⟩ = some (.slice s.a s.len s.cap) := fun V KV => by
        obtain ⟨hl, e⟩ := List.getElem?_eq_some_iff.1 hs
        rw [← e]
        exact KV.cell (hc i hl) (fun z => z)
      have d0 := c0 wr S.out.hx.kept
      have HC : Hid (∀ V : World, Kept (fun _ => False) w V → V.cell? ⟨b, off + i, none⟩ = some (.slice s.a s.len s.cap)) := c0
      have HS : Hid (D[i]? = some s ∧ Reads w s.a s.len s.cap s.l ∧ s.len ≤ Lim) := ⟨hs, H.out.2.1.reads s (List.mem_of_getElem? hs), H.out.2.2.2.2.2 s (List.mem_of_getElem? hs)⟩
      clear hc hs c0
      go_wp2_with fail
      refine (wide s.a s.len s.cap s.l wr (HS.out.2.1.kept' S.out.hx.kept (fun _ _ z => z)) HS.out.2.2).mono ?_
      rintro x w6 ⟨p6, k6, rfl, o6, K6⟩
      have X6 : Hid (HX w w6 B (tA l D i) (fun k => blockOf pf = some k ∨ blockOf pl = some k) ∧ Kept (fun _ => False) wr w6 ∧ Reads w6 p6 s.len k6 s.l ∧ ∀ k, blockOf p6 = some k → k ≠ B) := by
        refine ⟨S.out.hx.quiet K6, K6, wide_reads HS.out.2.1.length HS.out.2.1.bytes o6, fun k hk z => ?_⟩
        obtain ⟨d, i1, _⟩ := S.out.hx.ex
        have := block_lt i1.blk
        have := (own_lt o6 k hk).1
        omega
      clear o6 K6
      go_wp2_with fail
      refine (xAppend w w6 B (tA l D i) _ 0 (by omega) p6 s.len k6 s.l X6.out.1 rfl (by show (0 : Int) ≠ 1; decide) (H.out.2.2.2.2.1 i hi) X6.out.2.2.1 HS.out.2.2 X6.out.2.2.2).mono ?_
      rintro x w7 ⟨rfl, h7, K7⟩
      have X7 : Hid (HX w w7 B (tA l D (i + 1)) (fun k => blockOf pf = some k ∨ blockOf pl = some k) ∧ w7.ownsRow w.heap.size 5 1 (.slice pf nf cf) nf (cellsOf (l ++ (pcs (D.take i)).flatten)) ∧ w7.ownsRow w.heap.size 3 1 (.slice pl nl cl) nl (icells (lensOf (D.take i))) ∧ Src Try.prog 1 22 (.slice s.a s.len s.cap) s.len (cellsOf s.l) w7 ∧ nf + s.len ≤ 140737488355328) := by
        rw [tA_step l HS.out.1] at h7
        refine ⟨h7, K7.owns (X6.out.2.1.owns S.out.full (fun _ _ z => z)) (fun k hk z => z (.inl (by rw [← hk]; exact (blockOf_own ..).symm))), K7.owns (X6.out.2.1.owns S.out.lens (fun _ _ z => z)) (fun k hk z => z (.inr (by rw [← hk]; exact (blockOf_own ..).symm))), (HS.out.2.1.kept' h7.kept (fun _ _ z => z)).src, ?_⟩
        have q1 := len_own S.out.full
        have q2 := (H.out.2.2.2.2.1 i hi).w0
        have q3 : (l ++ (pcs (D.take i)).flatten).length ≤ Lim := by
          rw [← redoL_some]
          exact Nat.le_trans (redoL_length _ _) q2
        have q4 := HS.out.2.2
        unfold Lim at q3 q4
        omega
      have d7 := HC.out w7 X7.out.1.kept
      have NL : Hid (nl + 1 ≤ Lim) := by
        have q1 := S.out.lens.1
        rw [icells_length, Nat.mul_one] at q1
        have q2 := (H.out.2.2.2.2.1 i hi).n0
        have q3 : (tA l D i).X0.length = (lensOf (D.take i)).length := by show ((pcs (D.take i)).map some).length = ((pcs (D.take i)).map List.length).length; rw [List.length_map, List.length_map]
        show nl + 1 ≤ Lim
        omega
      clear h7 K7
      obtain ⟨nf2, hnf2⟩ : ∃ m, nf + s.len = m := ⟨_, rfl⟩
      clear hnf2 nf2
      go_wp2_with
        (first
          | (at_builtin; refine wpList_append_all _ rfl (.tmp 74) (.tmp 80) 24 3 24 _ 1 8 rfl Try.underlying24 Try.info3 rfl w.heap.size (.slice pl nl cl) nl (icells (lensOf (D.take i))) rfl X8.out.2.2.2.1 (.slice (some ⟨w8.heap.size, 0, none⟩) 1 1) 1 (icells [s.len]) rfl (src_int1 w8 s.len) (lim_max NL.out) (lim_wide8 NL.out) X8.out.2.2.2.2 ?_; intro p9 c9 w9 ho hg hn
             have X9 : Hid (HX w w9 B (tA l D (i + 1)) (fun k => blockOf p8 = some k ∨ blockOf p9 = some k) ∧ w9.ownsRow w.heap.size 5 1 (.slice p8 (nf + s.len) c8) (nf + s.len) (cellsOf (l ++ (pcs (D.take (i + 1))).flatten)) ∧ w9.ownsRow w.heap.size 3 1 (.slice p9 (nl + 1) c9) (nl + 1) (icells (lensOf (D.take i)) ++ icells [s.len])) := by
               obtain ⟨g1, g2⟩ := TS.growL X8.out.1 X8.out.2.1 X8.out.2.2.1 (alloc_kept0 _ _) _ ho.out hg.out hn.out
               exact ⟨g1, g2, ho.out⟩
             clear ho hg hn)
          | (at_builtin; refine wpList_append_bytes _ rfl (.tmp 62) (.tmp 66) rfl w.heap.size (.slice pf nf cf) nf (l ++ (pcs (D.take i)).flatten) rfl X7.out.2.1 (.slice s.a s.len s.cap) s.len s.l rfl X7.out.2.2.2.1 X7.out.2.2.2.2 X7.out.1.kept.size ?_; intro p8 c8 w8 ho hg hn
             have X8 : Hid (HX w w8 B (tA l D (i + 1)) (fun k => blockOf p8 = some k ∨ blockOf pl = some k) ∧ w8.ownsRow w.heap.size 5 1 (.slice p8 (nf + s.len) c8) (nf + s.len) (cellsOf (l ++ (pcs (D.take (i + 1))).flatten)) ∧ w8.ownsRow w.heap.size 3 1 (.slice pl nl cl) nl (icells (lensOf (D.take i))) ∧ (w8.alloc (.cells #[.int .i64 (s.len : Int)] 3)).ownsRow w.heap.size 3 1 (.slice pl nl cl) nl (icells (lensOf (D.take i))) ∧ w.heap.size ≤ (w8.alloc (.cells #[.int .i64 (s.len : Int)] 3)).heap.size) := by
               obtain ⟨g1, g2⟩ := TS.grow X7.out.1 X7.out.2.1 X7.out.2.2.1 _ ho.out hg.out hn.out
               have K9 := alloc_kept0 w8 (.cells #[.int .i64 (s.len : Int)] 3)
               exact ⟨g1, by rw [flat_snoc HS.out.1, ← List.append_assoc]; exact ho.out, g2, K9.owns g2 (fun _ _ z => z), Nat.le_trans g1.kept.size K9.size⟩
             have d8 := HC.out w8 X8.out.1.kept
             clear ho hg hn)
          | fail)
      · go_roundw
        case rel => exact ⟨i + 1, p8, nf + s.len, c8, p9, nl + 1, c9, by go_num, rfl, rfl, by omega, X9.out.1, X9.out.2.1, by rw [lens_snoc HS.out.1, if_neg (by rw [HS.out.2.1.length]; omega), icells_append, HS.out.2.1.length]; exact X9.out.2.2⟩
        case measure => simp [intOf]; omega
      · go_roundw
        case rel => exact ⟨i + 1, p8, nf + s.len, c8, pl, nl, cl, by go_num, rfl, rfl, by omega, X8.out.1, X8.out.2.1, by rw [lens_snoc HS.out.1, if_pos (by rw [HS.out.2.1.length]; omega)]; exact X8.out.2.2.1⟩
        case measure => simp [intOf]; omega
    · have i1 : ¬ (i : Int) < (nP : Int) := by omega
      have he : i = nP := by omega
      subst he
      obtain ⟨P, hP⟩ : ∃ P, P = pcs D := ⟨_, rfl⟩
      have hT : D.take i = D := List.take_of_length_le (by omega)
      have S1 : Hid (HX w wr B (tA l D i) (fun k => blockOf pf = some k ∨ blockOf pl = some k) ∧ wr.ownsRow w.heap.size 5 1 (.slice pf nf cf) nf (cellsOf (l ++ P.flatten)) ∧ wr.ownsRow w.heap.size 3 1 (.slice pl nl cl) nl (icells (P.map List.length)) ∧ tA l D i = ⟨l, P.map some, l, [], 0, i, false, 0, false⟩ ∧ nl = P.length ∧ nf = nL + P.flatten.length ∧ (tA l D i).Ok ∧ ∀ c ∈ l ++ P.flatten, c < 256) := by
        have q1 := S.out.full
        have q2 := S.out.lens
        unfold lensOf at q2
        rw [hT, ← hP] at q1 q2
        have q3 := len_own q1
        have q4 := q2.1
        rw [icells_length, List.length_map, Nat.mul_one] at q4
        rw [List.length_append, hll] at q3
        refine ⟨S.out.hx, q1, q2, by unfold tA; rw [hT, ← hP], q4.symm, q3.symm, H.out.2.2.2.2.1 i (Nat.le_refl _), fun c hc => ?_⟩
        rcases List.mem_append.1 hc with z | z
        · exact H.out.1.bytes c z
        · rw [hP, pcs_flat] at z
          obtain ⟨x, hx, hc2⟩ := List.mem_flatten.1 z
          obtain ⟨s, hs, rfl⟩ := List.mem_map.1 hx
          exact (H.out.2.1.reads s hs).bytes c hc2
      obtain ⟨hf1, hf2⟩ := own_room S1.out.2.1
      obtain ⟨hl1, hl2⟩ := own_room S1.out.2.2.1
      unfold maxLen at hf2 hl2
      clear S X5 hT
      go_wp2_with fail
      refine (hPending w wr B (tA l D i) S1.out.1.hd S1.out.2.2.2.2.2.2.1).mono ?_
      rintro x w6 ⟨rfl, K6⟩
      rw [show (((tA l D i).X0.length + (tA l D i).X1.length : Nat) : Int) = (nl : Int) from by rw [S1.out.2.2.2.1]; simp; have := S1.out.2.2.2.2.1; omega]
      have S6 : Hid (HX w w6 B (tA l D i) (fun k => blockOf pf = some k ∨ blockOf pl = some k) ∧ w6.ownsRow w.heap.size 5 1 (.slice pf nf cf) nf (cellsOf (l ++ P.flatten)) ∧ w6.ownsRow w.heap.size 3 1 (.slice pl nl cl) nl (icells (P.map List.length))) := ⟨S1.out.1.quiet K6, K6.owns S1.out.2.1 (fun _ _ z => z), K6.owns S1.out.2.2.1 (fun _ _ z => z)⟩
      clear K6
      go_wp2_with fail
      refine (xCrash w w6 B (tA l D i) _ qC nC cC cs S6.out.1 S1.out.2.2.2.2.2.2.1 (H.out.2.2.1.kept0 S6.out.1.kept) (fun h0 k hk z => by have := H.out.2.2.1.lt h0 k hk; have := S6.out.1.low; omega)).mono ?_
      rintro x w7 ⟨F, rfl, h7, c7, K7⟩
      have nB : ∀ k, (blockOf pf = some k ∨ blockOf pl = some k) → ¬ k = B := fun k hk z => by
        obtain ⟨d, _, _, h3⟩ := S6.out.1.ex
        exact (h3 k hk).2 (.inl z)
      obtain ⟨m, hm1, hm2⟩ := leftL_some P l cs
      have S7 : Hid (HX w w7 B (tA l D i).killed (fun k => blockOf pf = some k ∨ blockOf pl = some k) ∧ HD w w7 F ((tA l D i).crash cs) ∧ w7.ownsRow w.heap.size 5 1 (.slice pf nf cf) nf (cellsOf (l ++ P.flatten)) ∧ w7.ownsRow w.heap.size 3 1 (.slice pl nl cl) nl (icells (P.map List.length)) ∧ ((tA l D i).crash cs).Ok ∧ ((tA l D i).crash cs).now 0 = l ++ P.flatten.take m ∧ ((tA l D i).crash cs).now 1 = l) := by
        refine ⟨h7, c7, K7.owns S6.out.2.1 (fun k hk z => nB k (.inl (by rw [← hk]; exact (blockOf_own ..).symm)) z), K7.owns S6.out.2.2 (fun k hk z => nB k (.inr (by rw [← hk]; exact (blockOf_own ..).symm)) z), ?_, ?_, ?_⟩
        · exact CK.out i (Nat.le_refl _) cs
        · rw [S1.out.2.2.2.1]; exact hm2
        · rw [S1.out.2.2.2.1]; exact leftL_nil l _
      clear h7 c7 K7 hm2
      go_wp2_with fail
      refine (hRead w w7 F _ 0 (by omega) S7.out.2.1 rfl S7.out.2.2.2.2.1).mono ?_
      rintro x w8 ⟨a8, n8, c8, rfl, o8, K8⟩
      have n8e : n8 = nL + m := by
        have q := len_own o8
        rw [S7.out.2.2.2.2.2.1, List.length_append, List.length_take, hll] at q
        omega
      obtain ⟨T8, hT8⟩ : ∃ T, T = str (l ++ P.flatten.take m) := ⟨_, rfl⟩
      have V8 : Hid (∀ V : World, Kept (fun _ => False) w8 V → (convert 22 9 (.slice a8 n8 c8)).run Try.prog V = .ok (.string T8) V ∧ (convert 22 9 (.slice pf n8 cf)).run Try.prog V = .ok (.string T8) V) := fun V KV => by
        have b8 : ∀ c ∈ l ++ P.flatten.take m, c < 256 := fun c hc => by
          rcases List.mem_append.1 hc with z | z
          · exact S1.out.2.2.2.2.2.2.2 c (List.mem_append.2 (.inl z))
          · exact S1.out.2.2.2.2.2.2.2 c (List.mem_append.2 (.inr (List.mem_of_mem_take z)))
        rw [S7.out.2.2.2.2.2.1] at o8
        rw [hT8]
        refine ⟨own_string o8 b8 KV, ?_⟩
        have q := own_take (K8.owns S7.out.2.2.1 (fun _ _ z => z)) n8 (by have := S1.out.2.2.2.2.2.1; omega)
        rw [n8e, ← hll, List.take_length_add_append] at q
        rw [n8e, ← hll]
        exact own_string q b8 KV
      have slc8 : ∀ V : World, (Instr.slice 22 (.slice pf nf cf) none (some (.int .i64 (n8 : Int))) none).run Try.prog V = .ok (.slice pf n8 cf) V := slice_to S7.out.2.2.1 n8 (by have := S1.out.2.2.2.2.2.1; omega)
      have S8 : Hid (HX w w8 B (tA l D i).killed (fun k => blockOf pf = some k ∨ blockOf pl = some k) ∧ HD w w8 F ((tA l D i).crash cs) ∧ w8.ownsRow w.heap.size 5 1 (.slice pf nf cf) nf (cellsOf (l ++ P.flatten)) ∧ w8.ownsRow w.heap.size 3 1 (.slice pl nl cl) nl (icells (P.map List.length))) := ⟨S7.out.1.quiet K8, S7.out.2.1.quiet K8, K8.owns S7.out.2.2.1 (fun _ _ z => z), K8.owns S7.out.2.2.2.1 (fun _ _ z => z)⟩
      have hnf := S1.out.2.2.2.2.2.1
      have j1 : ¬ ((n8 : Int) < (nL : Int)) := by omega
      have j2 : ¬ ((n8 : Int) > (nf : Int)) := by omega
      have j3 : ¬ ((nf : Int) < (n8 : Int)) := by omega
      have j4 : ¬ (n8 < nL) := by omega
      have j5 : ¬ (nf < n8) := by omega
      have j6 : decide ((n8 : Int) < (nL : Int)) = false := decide_eq_false j1
      have j7 : decide ((n8 : Int) > (nf : Int)) = false := decide_eq_false j2
      have j8 : decide ((nf : Int) < (n8 : Int)) = false := decide_eq_false j3
      have j9 : decide (n8 < nL) = false := decide_eq_false j4
      have j10 : decide (nf < n8) = false := decide_eq_false j5
      have sa := (V8.out w8 (Kept.refl _ _)).1
      have sb := (V8.out w8 (Kept.refl _ _)).2
      have sc := (V8.out w8.drew (Kept.refl _ _).drew).1
      have sd := (V8.out w8.drew (Kept.refl _ _).drew).2
      have N8 : Hid (n8 = nL + m ∧ nf = nL + P.flatten.length ∧ m ≤ P.flatten.length) := ⟨n8e, hnf, hm1⟩
      have nfL : nf ≤ 900000000 := by
        have q := (flat_le D (fun s hs => (H.out.2.1.reads s hs).length) i).1
        rw [show D.take i = D from List.take_of_length_le (by omega), ← hP] at q
        omega
      clear o8 K8 hT8 n8e hnf hm1
      go_upto_region 20 with fail
      go_region_held3 (fun w' => (convert 22 9 (.slice a8 n8 c8)).run Try.prog w' = .ok (.string T8) w' ∧ (convert 22 9 (.slice pf n8 cf)).run Try.prog w' = .ok (.string T8) w') (first | exact ⟨sc, sd⟩ | go_keep)
        (first | fail)
      clear sa sb sc sd j1 j2 j3 j4 j5 j6 j7 j8 j9 j10 slc8 V8
      have Y8 : Hid (HD w w8.drew F ((tA l D i).crash cs) ∧ HX w w8.drew B (tA l D i).killed (fun k => blockOf pf = some k ∨ blockOf pl = some k) ∧ w8.drew.ownsRow w.heap.size 5 1 (.slice pf nf cf) nf (cellsOf (l ++ P.flatten)) ∧ w8.drew.ownsRow w.heap.size 3 1 (.slice pl nl cl) nl (icells (P.map List.length))) := by
        have KD : Kept (fun _ => False) w8 w8.drew := (Kept.refl (fun _ => False) w8).drew
        exact ⟨S8.out.2.1.quiet KD, S8.out.1.quiet KD, KD.owns S8.out.2.2.1 (fun _ _ z => z), KD.owns S8.out.2.2.2 (fun _ _ z => z)⟩
      go_wp2_with fail
      refine (hRead w w8.drew F _ 1 (by omega) Y8.out.1 rfl S7.out.2.2.2.2.1).mono ?_
      rintro x w9 ⟨a9, n9, c9, rfl, o9, K9⟩
      have S9 : Hid (HX w w9 B (tA l D i).killed (fun k => blockOf pf = some k ∨ blockOf pl = some k) ∧ w9.ownsRow w.heap.size 5 1 (.slice pf nf cf) nf (cellsOf (l ++ P.flatten)) ∧ w9.ownsRow w.heap.size 3 1 (.slice pl nl cl) nl (icells (P.map List.length))) := ⟨Y8.out.2.1.quiet K9, K9.owns Y8.out.2.2.1 (fun _ _ z => z), K9.owns Y8.out.2.2.2 (fun _ _ z => z)⟩
      obtain ⟨T9, hT9⟩ : ∃ T, T = str l := ⟨_, rfl⟩
      have s9a : (convert 22 9 (.slice a9 n9 c9)).run Try.prog w9 = .ok (.string T9) w9 := by
        rw [S7.out.2.2.2.2.2.2] at o9
        rw [hT9]
        exact own_string o9 H.out.1.bytes (Kept.refl _ _)
      have s9b : (convert 22 9 (.slice aL nL cL)).run Try.prog w9 = .ok (.string T9) w9 := by
        rw [hT9]
        exact (H.out.1.kept' S9.out.1.kept (fun _ _ z => z)).string
      obtain ⟨fl, hfl⟩ : ∃ fl, P.flatten.length = fl := ⟨_, rfl⟩
      obtain ⟨M1, hM1⟩ : ∃ M1, fl + 1 = M1 := ⟨_, rfl⟩
      have wq1 : IntKind.i64.wrap ((nf : Int) - (nL : Int)) = (fl : Int) := by rw [IntKind.wrap_i64]; have := N8.out; omega
      have wq2 : IntKind.i64.wrap ((fl : Int) + 1) = (M1 : Int) := by rw [IntKind.wrap_i64]; have := N8.out; omega
      obtain ⟨t0, ht0, ht1⟩ : ∃ t0 : Nat, sz % (M1 : Int) = (t0 : Int) ∧ t0 ≤ fl := ⟨(sz % (M1 : Int)).toNat, by have := Int.emod_nonneg sz (show (M1 : Int) ≠ 0 by omega); omega, by have q1 := Int.emod_nonneg sz (show (M1 : Int) ≠ 0 by omega); have q2 := Int.emod_lt_of_pos sz (show (0 : Int) < (M1 : Int) by omega); omega⟩
      obtain ⟨u, hu⟩ : ∃ u, nL + t0 = u := ⟨_, rfl⟩
      have wu : IntKind.i64.wrap ((nL : Int) + (t0 : Int)) = (u : Int) := by rw [IntKind.wrap_i64]; have := N8.out; omega
      have HU : Hid (nL + t0 = u ∧ u ≤ nf ∧ t0 ≤ P.flatten.length) := ⟨hu, by have := N8.out; omega, by omega⟩
      have KB : Hid (P.flatten.length ≤ 900000000 ∧ nl ≤ 900000000 ∧ t0 ≤ 900000000) := by
        have q := N8.out
        have q2 := (flat_le D (fun s hs => (H.out.2.1.reads s hs).length) i).2
        rw [show D.take i = D from List.take_of_length_le (by omega), ← hP] at q2
        have q3 := S1.out.2.2.2.2.1
        exact ⟨by omega, by omega, by omega⟩
      have OKK : Hid ((tA l D i).killed.Ok) := by
        have q := S1.out.2.2.2.2.2.2.1
        exact ⟨q.w0, q.w1, q.n0, q.n1, q.acts, q.named⟩
      have HT0 : Hid (sz % (M1 : Int) = (t0 : Int)) := ht0
      have M1b : 0 < M1 ∧ M1 < 4611686018427387904 := by have := KB.out; omega
      clear o9 K9 hT9 hfl hM1 ht0 hu
      go_wp2_with fail
      refine (mod sz M1 w9 M1b.1 M1b.2).mono ?_
      rintro x w10 ⟨rfl, rfl⟩
      rw [HT0.out]
      clear wq1 wq2 s9a s9b
      go_wp2_with fail
      go_loopw [16, 17] (fun x y wr => ∃ (k t : Nat), x = .int .i64 (k : Int) ∧ y = .int .i64 (t : Int) ∧ k ≤ nl ∧ Hid ((P.take k).flatten.length + t = t0 ∧ Kept (fun _ => False) w10 wr)) (fun x _ _ => nl - (intOf x).toNat)
      case atStart => exact ⟨0, t0, rfl, rfl, Nat.zero_le _, by simp, Kept.refl _ _⟩
      case round =>
        obtain ⟨k, t, rfl, rfl, hk, Z0⟩ := hrel
        have Z : Hid (Kept (fun _ => False) w10 wr) := Z0.out.2
        have HK3 : Hid ((P.take k).flatten.length + t = t0) := Z0.out.1
        have tb : t ≤ 900000000 := by have := KB.out; have := Z0.out.1; omega
        have kb : k ≤ 900000000 := by have := KB.out; omega
        clear Z0
        by_cases hkl : k < nl
        · have g1 : (k : Int) < (nl : Int) := by omega
          obtain ⟨x0, hx0⟩ : ∃ x, P[k]? = some x := ⟨_, List.getElem?_eq_getElem (by have := S1.out.2.2.2.2.1; omega)⟩
          obtain ⟨gl, hgl, cl0⟩ := lens_cell (Z.out.owns S9.out.2.2 (fun _ _ z => z)) hx0
          cases hgl
          obtain ⟨q, hq⟩ : ∃ q, x0.length = q := ⟨_, rfl⟩
          rw [hq] at cl0
          by_cases hqt : q ≤ t
          · have g2 : (t : Int) ≥ (q : Int) := by omega
            have g3 : (q : Int) ≤ (t : Int) := by omega
            obtain ⟨t2, ht2⟩ : ∃ t2, t - q = t2 := ⟨_, rfl⟩
            have wt2 : IntKind.i64.wrap ((t : Int) - (q : Int)) = (t2 : Int) := by rw [IntKind.wrap_i64]; omega
            have HN : Hid ((P.take (k + 1)).flatten.length + t2 = t0) := by
              have e1 := flat_take P k x0 hx0 x0.length (Nat.le_refl _)
              have e2 : P.take (k + 1) = P.take k ++ [x0] := by
                obtain ⟨hl, e⟩ := List.getElem?_eq_some_iff.1 hx0
                rw [List.take_succ_eq_append_getElem hl, e]
              show (P.take (k + 1)).flatten.length + t2 = t0
              have e3 : ([x0] : List (List Nat)).flatten.length = x0.length := by simp
              rw [e2, List.flatten_append, List.length_append, e3]
              have := HK3.out
              omega
            clear hq ht2
            go_wp2_with fail
            go_roundw
            case rel => exact ⟨k + 1, t2, by go_num, rfl, by omega, HN.out, Z.out⟩
            case measure => simp [intOf]; omega
          · have g2 : ¬ ((t : Int) ≥ (q : Int)) := by omega
            have g3 : ¬ ((q : Int) ≤ (t : Int)) := by omega
            have HK1 : Hid (∀ x, P[k]? = some x → t < x.length) := fun x hx => by rw [hx0] at hx; cases hx; omega
            have HK2 : Hid (k = P.length → t = 0) := fun e => by have := (List.getElem?_eq_some_iff.1 hx0).1; omega
            clear hq
            have NW : Hid (((tA l D i).killed.crash [(k : Int), (t : Int)]).now 0 = l ++ P.flatten.take t0) := by
              show ((tA l D i).killed.crash [(k : Int), (t : Int)]).now 0 = _
              rw [S1.out.2.2.2.1]
              show (leftL l (P.map some) [(k : Int), (t : Int)]).1 = _
              rw [leftL_just P l k t (by have := S1.out.2.2.2.2.1; omega) HK1.out HK2.out, HK3.out]
            have YR : Hid (IRd (wr.alloc (.cells #[.int .i64 (k : Int), .int .i64 (t : Int)] 3)) (some ⟨wr.heap.size, 0, none⟩) 2 2 [(k : Int), (t : Int)] ∧ HX w (wr.alloc (.cells #[.int .i64 (k : Int), .int .i64 (t : Int)] 3)) B (tA l D i).killed (fun k => blockOf pf = some k ∨ blockOf (some ⟨gl, 0, none⟩) = some k) ∧ (wr.alloc (.cells #[.int .i64 (k : Int), .int .i64 (t : Int)] 3)).ownsRow w.heap.size 5 1 (.slice pf nf cf) nf (cellsOf (l ++ P.flatten)) ∧ B < wr.heap.size) := by
              have KA := alloc_kept0 wr (.cells #[.int .i64 (k : Int), .int .i64 (t : Int)] 3)
              have hx := S9.out.1.quiet Z.out
              obtain ⟨d, i1, _⟩ := hx.ex
              exact ⟨made_kt wr k t (by have := KB.out; omega) (by have := KB.out; omega), hx.quiet KA, KA.owns (Z.out.owns S9.out.2.1 (fun _ _ z => z)) (fun _ _ z => z), block_lt i1.blk⟩
            go_wp2_with fail
            refine (xCrash w _ B (tA l D i).killed _ (some ⟨wr.heap.size, 0, none⟩) 2 2 [(k : Int), (t : Int)] YR.out.2.1 (OKK.out) YR.out.1 (fun _ k' hk z => by simp [blockOf] at hk; have := YR.out.2.2.2; omega)).mono ?_
            rintro x w11 ⟨F2, rfl, h11, c11, K11⟩
            have S11 : Hid (HD w w11 F2 ((tA l D i).killed.crash [(k : Int), (t : Int)]) ∧ w11.ownsRow w.heap.size 5 1 (.slice pf nf cf) nf (cellsOf (l ++ P.flatten))) := by
              refine ⟨c11, K11.owns YR.out.2.2.1 (fun k' hk z => ?_)⟩
              obtain ⟨d, _, _, h3⟩ := YR.out.2.1.ex
              exact (h3 k' (.inl (by rw [← hk]; exact (blockOf_own ..).symm))).2 (.inl z)
            clear h11 c11 K11
            go_wp2_with fail
            refine (hRead w w11 F2 _ 0 (by omega) S11.out.1 rfl (CK.out i (Nat.le_refl _) _)).mono ?_
            rintro x w12 ⟨a12, n12, c12, rfl, o12, K12⟩
            obtain ⟨T12, hT12⟩ : ∃ T, T = str (l ++ P.flatten.take t0) := ⟨_, rfl⟩
            have V12 : Hid (∀ V : World, Kept (fun _ => False) w12 V → (convert 22 9 (.slice a12 n12 c12)).run Try.prog V = .ok (.string T12) V ∧ (convert 22 9 (.slice pf u cf)).run Try.prog V = .ok (.string T12) V) := fun V KV => by
              have b8 : ∀ c ∈ l ++ P.flatten.take t0, c < 256 := fun c hc => by
                rcases List.mem_append.1 hc with z | z
                · exact S1.out.2.2.2.2.2.2.2 c (List.mem_append.2 (.inl z))
                · exact S1.out.2.2.2.2.2.2.2 c (List.mem_append.2 (.inr (List.mem_of_mem_take z)))
              rw [NW.out] at o12
              rw [hT12]
              refine ⟨own_string o12 b8 KV, ?_⟩
              have q := own_take (K12.owns S11.out.2 (fun _ _ z => z)) u (by have := HU.out; omega)
              rw [← HU.out.1, ← hll, List.take_length_add_append] at q
              rw [← HU.out.1, ← hll]
              exact own_string q b8 KV
            have slc12 : ∀ V : World, (Instr.slice 22 (.slice pf nf cf) none (some (.int .i64 (u : Int))) none).run Try.prog V = .ok (.slice pf u cf) V := slice_to S11.out.2 u (by have := HU.out; omega)
            have S12 : Hid (Kept (fun _ => False) w w12) := S11.out.1.kept.trans K12 (fun _ _ z => z)
            have sa := (V12.out w12 (Kept.refl _ _)).1
            have sb := (V12.out w12 (Kept.refl _ _)).2
            have sc := (V12.out w12.drew (Kept.refl _ _).drew).1
            have sd := (V12.out w12.drew (Kept.refl _ _).drew).2
            clear o12 K12 hT12
            go_upto_region 33 with fail
            go_region_held3 (fun w' => (convert 22 9 (.slice a12 n12 c12)).run Try.prog w' = .ok (.string T12) w' ∧ (convert 22 9 (.slice pf u cf)).run Try.prog w' = .ok (.string T12) w') (first | exact ⟨sc, sd⟩ | go_keep)
              (first | fail)
            go_wp2_with fail
            go_ret
            exact ⟨by first | rfl | simp, S12.out.drew⟩
        · have g1 : ¬ ((k : Int) < (nl : Int)) := by omega
          have HK1 : Hid (∀ x, P[k]? = some x → t < x.length) := fun x hx => by have := (List.getElem?_eq_some_iff.1 hx).1; have := S1.out.2.2.2.2.1; omega
          have HK2 : Hid (k = P.length → t = 0) := fun e => by
            have q1 := HK3.out
            rw [List.take_of_length_le (by omega)] at q1
            have := HU.out.2.2
            omega
          have NW : Hid (((tA l D i).killed.crash [(k : Int), (t : Int)]).now 0 = l ++ P.flatten.take t0) := by
            show ((tA l D i).killed.crash [(k : Int), (t : Int)]).now 0 = _
            rw [S1.out.2.2.2.1]
            show (leftL l (P.map some) [(k : Int), (t : Int)]).1 = _
            rw [leftL_just P l k t (by have := S1.out.2.2.2.2.1; omega) HK1.out HK2.out, HK3.out]
          have YR : Hid (IRd (wr.alloc (.cells #[.int .i64 (k : Int), .int .i64 (t : Int)] 3)) (some ⟨wr.heap.size, 0, none⟩) 2 2 [(k : Int), (t : Int)] ∧ HX w (wr.alloc (.cells #[.int .i64 (k : Int), .int .i64 (t : Int)] 3)) B (tA l D i).killed (fun k => blockOf pf = some k ∨ blockOf pl = some k) ∧ (wr.alloc (.cells #[.int .i64 (k : Int), .int .i64 (t : Int)] 3)).ownsRow w.heap.size 5 1 (.slice pf nf cf) nf (cellsOf (l ++ P.flatten)) ∧ B < wr.heap.size) := by
            have KA := alloc_kept0 wr (.cells #[.int .i64 (k : Int), .int .i64 (t : Int)] 3)
            have hx := S9.out.1.quiet Z.out
            obtain ⟨d, i1, _⟩ := hx.ex
            exact ⟨made_kt wr k t (by have := KB.out; omega) (by have := KB.out; omega), hx.quiet KA, KA.owns (Z.out.owns S9.out.2.1 (fun _ _ z => z)) (fun _ _ z => z), block_lt i1.blk⟩
          go_wp2_with fail
          refine (xCrash w _ B (tA l D i).killed _ (some ⟨wr.heap.size, 0, none⟩) 2 2 [(k : Int), (t : Int)] YR.out.2.1 (OKK.out) YR.out.1 (fun _ k' hk z => by simp [blockOf] at hk; have := YR.out.2.2.2; omega)).mono ?_
          rintro x w11 ⟨F2, rfl, h11, c11, K11⟩
          have S11 : Hid (HD w w11 F2 ((tA l D i).killed.crash [(k : Int), (t : Int)]) ∧ w11.ownsRow w.heap.size 5 1 (.slice pf nf cf) nf (cellsOf (l ++ P.flatten))) := by
            refine ⟨c11, K11.owns YR.out.2.2.1 (fun k' hk z => ?_)⟩
            obtain ⟨d, _, _, h3⟩ := YR.out.2.1.ex
            exact (h3 k' (.inl (by rw [← hk]; exact (blockOf_own ..).symm))).2 (.inl z)
          clear h11 c11 K11
          go_wp2_with fail
          refine (hRead w w11 F2 _ 0 (by omega) S11.out.1 rfl (CK.out i (Nat.le_refl _) _)).mono ?_
          rintro x w12 ⟨a12, n12, c12, rfl, o12, K12⟩
          obtain ⟨T12, hT12⟩ : ∃ T, T = str (l ++ P.flatten.take t0) := ⟨_, rfl⟩
          have V12 : Hid (∀ V : World, Kept (fun _ => False) w12 V → (convert 22 9 (.slice a12 n12 c12)).run Try.prog V = .ok (.string T12) V ∧ (convert 22 9 (.slice pf u cf)).run Try.prog V = .ok (.string T12) V) := fun V KV => by
            have b8 : ∀ c ∈ l ++ P.flatten.take t0, c < 256 := fun c hc => by
              rcases List.mem_append.1 hc with z | z
              · exact S1.out.2.2.2.2.2.2.2 c (List.mem_append.2 (.inl z))
              · exact S1.out.2.2.2.2.2.2.2 c (List.mem_append.2 (.inr (List.mem_of_mem_take z)))
            rw [NW.out] at o12
            rw [hT12]
            refine ⟨own_string o12 b8 KV, ?_⟩
            have q := own_take (K12.owns S11.out.2 (fun _ _ z => z)) u (by have := HU.out; omega)
            rw [← HU.out.1, ← hll, List.take_length_add_append] at q
            rw [← HU.out.1, ← hll]
            exact own_string q b8 KV
          have slc12 : ∀ V : World, (Instr.slice 22 (.slice pf nf cf) none (some (.int .i64 (u : Int))) none).run Try.prog V = .ok (.slice pf u cf) V := slice_to S11.out.2 u (by have := HU.out; omega)
          have S12 : Hid (Kept (fun _ => False) w w12) := S11.out.1.kept.trans K12 (fun _ _ z => z)
          have sa := (V12.out w12 (Kept.refl _ _)).1
          have sb := (V12.out w12 (Kept.refl _ _)).2
          have sc := (V12.out w12.drew (Kept.refl _ _).drew).1
          have sd := (V12.out w12.drew (Kept.refl _ _).drew).2
          clear o12 K12 hT12
          go_upto_region 33 with fail
          go_region_held3 (fun w' => (convert 22 9 (.slice a12 n12 c12)).run Try.prog w' = .ok (.string T12) w' ∧ (convert 22 9 (.slice pf u cf)).run Try.prog w' = .ok (.string T12) w') (first | exact ⟨sc, sd⟩ | go_keep)
            (first | fail)
          go_wp2_with fail
          go_ret
          exact ⟨by first | rfl | simp, S12.out.drew⟩
end Go.Proofs.Ytbnnmelkbjkkjaa
