import Derived.Test.YtginpoofeliimabVAhead
import Derived.Test.YtginpoofeliimabVMath
import Derived.Test.YtginpoofeliimabLMap
import Derived.Test.YtginpoofeliimabNNew
namespace Go.Proofs.Ytginpoofeliimab
open Go.RowKit 

/-- The flags of a set of calls. -/
def boolsB (n : Nat) (b : List Nat) : List Value := (List.range n).map fun i => Value.bool (decide (i ∈ b))
theorem boolsB_get (n : Nat) (b : List Nat) (i : Nat) : (boolsB n b)[i]? = if i < n then some (.bool (decide (i ∈ b))) else none := by
  unfold boolsB
  rw [List.getElem?_map]
  by_cases h : i < n
  · rw [if_pos h, List.getElem?_range h]
    rfl
  · rw [if_neg h, List.getElem?_eq_none (by simp; omega)]
    rfl
theorem boolsB_on {n : Nat} {b : List Nat} {i : Nat} : (boolsB n b).set i (.bool true) = boolsB n (b ++ [i]) := by
  refine List.ext_getElem? fun j => ?_
  rw [List.getElem?_set, boolsB_get, boolsB_get]
  have hl : (boolsB n b).length = n := by simp [boolsB]
  by_cases e : i = j
  · subst e
    rw [if_pos rfl, hl]
    split
    · simp
    · rfl
  · rw [if_neg e]
    have : (j ∈ b ++ [i]) ↔ j ∈ b := by
      rw [List.mem_append, List.mem_singleton]
      exact ⟨fun z => z.elim id (fun z => absurd z.symm e), .inl⟩
    rw [decide_eq_decide.2 this]
theorem boolsB_off {n : Nat} {b : List Nat} {i : Nat} (hi : i ∉ b) : (boolsB n (b ++ [i])).set i (.bool false) = boolsB n b := by
  refine List.ext_getElem? fun j => ?_
  rw [List.getElem?_set, boolsB_get, boolsB_get]
  have hl : (boolsB n (b ++ [i])).length = n := by simp [boolsB]
  by_cases e : i = j
  · subst e
    rw [if_pos rfl, hl]
    split
    · rw [decide_eq_false hi]
    · rfl
  · rw [if_neg e]
    have : (j ∈ b ++ [i]) ↔ j ∈ b := by
      rw [List.mem_append, List.mem_singleton]
      exact ⟨fun z => z.elim id (fun z => absurd z.symm e), .inl⟩
    rw [decide_eq_decide.2 this]
/-- The set, as it lies in memory. -/
structure IS (b0 : Nat) (w : World) (g n : Nat) (b : List Nat) : Prop where
  row : w.ownsRow b0 4 1 (.slice (some ⟨g, 0, none⟩) n n) n (boolsB n b)
theorem IS.k0 {b0 : Nat} {w w' : World} {g n : Nat} {b : List Nat} (h : IS b0 w g n b) (K : Kept (fun _ => False) w w') : IS b0 w' g n b := ⟨K.owns h.row (fun _ _ z => z)⟩
theorem IS.at {b0 : Nat} {w : World} {g n : Nat} {b : List Nat} (h : IS b0 w g n b) {i : Nat} (hi : i < n) : w.cell? ⟨g, i, none⟩ = some (.bool (decide (i ∈ b))) ∧ w.frozen? ⟨g, i, none⟩ = false := by
  obtain ⟨cs, hg⟩ := own_type h.row g rfl
  have hc := h.row.cells (g := g) rfl i (.bool (decide (i ∈ b))) (by rw [boolsB_get, if_pos hi])
  rw [Addr.add_none, Nat.zero_add] at hc
  exact ⟨hc, soft_blk hg i⟩
/-- The flags as bytes, up to a place. -/
def flB (n i : Nat) (b : List Nat) : List Nat := (List.range n).map fun j => if j < i ∧ j ∈ b then 1 else 0
theorem flB_len (n i : Nat) (b : List Nat) : (flB n i b).length = n := by simp [flB]
theorem flB_get (n i : Nat) (b : List Nat) (j : Nat) : (flB n i b)[j]? = if j < n then some (if j < i ∧ j ∈ b then 1 else 0) else none := by
  unfold flB
  rw [List.getElem?_map]
  by_cases h : j < n
  · rw [if_pos h, List.getElem?_range h]
    rfl
  · rw [if_neg h, List.getElem?_eq_none (by simp; omega)]
    rfl
theorem flB_same {n i : Nat} {b : List Nat} (h : i ∉ b) : flB n (i + 1) b = flB n i b := by
  refine List.ext_getElem? fun j => ?_
  rw [flB_get, flB_get]
  have : (j < i + 1 ∧ j ∈ b) ↔ (j < i ∧ j ∈ b) := by
    constructor
    · rintro ⟨h1, h2⟩
      refine ⟨?_, h2⟩
      rcases Nat.lt_succ_iff_lt_or_eq.1 h1 with z | z
      · exact z
      · rw [z] at h2; exact absurd h2 h
    · rintro ⟨h1, h2⟩
      exact ⟨by omega, h2⟩
  simp only [this]
theorem flB_set {n i : Nat} {b : List Nat} (h : i ∈ b) : (flB n i b).set i 1 = flB n (i + 1) b := by
  refine List.ext_getElem? fun j => ?_
  rw [List.getElem?_set, flB_len, flB_get, flB_get]
  by_cases e : i = j
  · subst e
    rw [if_pos rfl]
    split
    · rw [if_pos ⟨by omega, h⟩]
    · rfl
  · rw [if_neg e]
    have : (j < i + 1 ∧ j ∈ b) ↔ (j < i ∧ j ∈ b) := ⟨fun ⟨h1, h2⟩ => ⟨by omega, h2⟩, fun ⟨h1, h2⟩ => ⟨by omega, h2⟩⟩
    simp only [this]
theorem flB_all {n : Nat} {b : List Nat} : flB n n b = (List.range n).map fun i => if i ∈ b then 1 else 0 := by
  unfold flB
  refine List.map_congr_left fun j hj => ?_
  have := List.mem_range.1 hj
  simp [this]
theorem flB_small (n i : Nat) (b : List Nat) : ∀ c ∈ flB n i b, c < 256 := by
  intro c hc
  obtain ⟨j, _, rfl⟩ := List.mem_map.1 hc
  split <;> omega
theorem Try.info5c : (Try.prog.info? 5).map (fun i => (i.zero, i.size, i.bytes)) = some (some (.int .u8 0), 1, 1) := by kernel_rfl
theorem src_two {w : World} {b : Nat} (h : w.heap[b]? = some (.cells #[.int .u8 2] 5 (0, 0))) : Src Try.prog 1 23 (.slice (some ⟨b, 0, none⟩) 1 1) 1 (cellsOf [2]) w :=
  Src.ofSlice w Try.underlying23 ⟨b, 0, none⟩ 1 1 (cellsOf [2]) rfl (fun j u hj => by
    rw [Addr.add_none, Nat.zero_add]
    refine cell_blk h j ?_
    have hj : ([Value.int .u8 2] : List Value)[j]? = some u := hj
    simpa using hj) (cellsOf_one [2])
theorem bl_state {n v : Nat} (hn : n ≤ 1300000000000) (hv : v + 1 ≤ 140737488355328) : (n + 1 ≤ maxLen ∧ ((n + 1) + (n + 1) / 4 + 192) * 1 ≤ 281474976710656) ∧ (n + 1 + v ≤ maxLen ∧ ((n + 1 + v) + (n + 1 + v) / 4 + 192) * 1 ≤ 281474976710656) := by
  unfold maxLen
  omega
set_option maxRecDepth 100000 in
set_option maxHeartbeats 8000000 in
theorem tState {w : World} {p0 : Option Addr} {n c0 : Nat} {ms : List Cm} (cr : CRd w p0 n c0 ms) (hb : n ≤ 1300000000000) (hv : ∀ m ∈ ms, m.vn + 1 ≤ 140737488355328) {b0 g : Nat} {b : List Nat} (is : IS b0 w g n b) (last : Int) (hl : -1 ≤ last ∧ last < (n : Int)) : Calls Try.prog 23 #[.slice p0 n c0, .slice (some ⟨g, 0, none⟩) n n, .int .i64 last] w fun o w' => o = .returned (.string (str (stB n b (valOf' (ms.map Cm.cl) last)))) ∧ Kept (fun _ => False) w w' := by
  obtain ⟨s, hs⟩ : ∃ s, s = str (stB n b (valOf' (ms.map Cm.cl) last)) := ⟨_, rfl⟩
  rw [← hs]
  have HS : Hid (s = str (stB n b (valOf' (ms.map Cm.cl) last))) := hs
  clear hs
  have rm := cr.room
  have sm := cr.small
  unfold maxLen at sm
  have H : Hid (CRd w p0 n c0 ms ∧ IS b0 w g n b ∧ ∀ m ∈ ms, m.vn + 1 ≤ 140737488355328) := ⟨cr, is, hv⟩
  have mB : ∀ W : World, (Instr.makeSlice 23 (.int .i64 (n : Int)) (.int .i64 (n : Int))).run Try.prog W = .ok (.slice (some ⟨W.heap.size, 0, none⟩) n n) (W.alloc (.cells (madeCells #[.int .u8 0] n) 5)) := run_make_row' 23 5 (.int .u8 0) 1 Try.underlying23 Try.info5c rfl .i64 .i64 n (by omega) (by omega)
  obtain ⟨C, hC⟩ : ∃ C, C = madeCells #[.int .u8 0] n := ⟨_, rfl⟩
  have HC : Hid (C.toList = cellsOf (flB n 0 b)) := by
    unfold Hid
    rw [hC, vrow_made]
    unfold vrow flB cellsOf
    simp
  rw [← hC] at mB
  obtain ⟨e, he⟩ : ∃ e, e = w.heap.size := ⟨_, rfl⟩
  have S0 : Hid ((w.alloc (.cells C 5)).ownsRow w.heap.size 5 1 (.slice (some ⟨e, 0, none⟩) n n) n (cellsOf (flB n 0 b)) ∧ Kept (fun _ => False) w (w.alloc (.cells C 5))) := by
    have hs : C.size = n := by rw [← Array.length_toList, HC.out, cellsOf_length, flB_len]
    refine ⟨⟨by rw [cellsOf_length, flB_len, Nat.mul_one], .inr ⟨w.heap.size, n, C, by rw [he], Nat.le_refl _, alloc_new _ _, Nat.le_refl _, by unfold maxLen; omega, by rw [hs, Nat.mul_one], ?_⟩⟩, (Kept.refl _ _).alloc _⟩
    rw [HC.out, List.take_of_length_le (by rw [cellsOf_length, flB_len]; omega)]
  have EE : Hid (e = w.heap.size) := he
  clear cr is hv hC HC he
  go_enter Try.func23, Try.ntmps23
  go_wp2_with fail
  rw [← EE.out]
  go_loopw [8, 14] (fun _ u14 wy => ∃ i : Nat, u14 = .int .i64 (i : Int) ∧ i ≤ n ∧ Hid (wy.ownsRow w.heap.size 5 1 (.slice (some ⟨e, 0, none⟩) n n) n (cellsOf (flB n i b)) ∧ Kept (fun _ => False) w wy)) (fun _ u14 _ => n - (intOf u14).toNat)
  case atStart => exact ⟨0, rfl, Nat.zero_le _, S0⟩
  case round =>
    obtain ⟨i, rfl, hi, S⟩ := hrel
    clear S0 mB
    obtain ⟨wo, hwo⟩ : ∃ wo, wo = wr := ⟨_, rfl⟩
    rw [← hwo] at S ⊢
    clear hwo
    by_cases hlt : i < n
    · have i1 : (i : Int) < (n : Int) := by omega
      have gi := ((H.out.2.1.k0 S.out.2).at hlt).1
      obtain ⟨g', eg, ce⟩ := own_byte S.out.1 (flB_small n i b) (by omega)
      have eg : e = g' := by simpa using eg
      subst eg
      obtain ⟨c1, c2⟩ := ce i hlt
      obtain ⟨z, hz⟩ : ∃ z, z = (flB n i b).getD i 0 := ⟨_, rfl⟩
      rw [← hz] at c1
      clear hz ce
      by_cases ib : i ∈ b
      · rw [decide_eq_true ib] at gi
        have S2 : Hid ((wo.setCell ⟨e, i, none⟩ (.int .u8 1)).ownsRow w.heap.size 5 1 (.slice (some ⟨e, 0, none⟩) n n) n (cellsOf (flB n (i + 1) b)) ∧ Kept (fun _ => False) w (wo.setCell ⟨e, i, none⟩ (.int .u8 1))) := by
          refine ⟨?_, kept_set S.out.2 (by rw [EE.out]; exact Nat.le_refl _) _ _⟩
          rw [← flB_set ib, cellsOf_set]
          exact owns_set S.out.1 i _
        go_wp2_with fail
        go_roundw
        case rel => exact ⟨i + 1, by go_num, by omega, S2⟩
        case measure => simp [intOf] <;> omega
      · rw [decide_eq_false ib] at gi
        go_wp2_with fail
        go_roundw
        case rel => exact ⟨i + 1, by go_num, by omega, by rw [flB_same ib]; exact S⟩
        case measure => simp [intOf] <;> omega
    · have i1 : ¬ (i : Int) < (n : Int) := by omega
      have ei : n = i := by omega
      subst ei
      by_cases hln : last < 0
      · have l1 : decide (0 ≤ last) = false := decide_eq_false (by omega)
        have EV : Hid (stB n b (valOf' (ms.map Cm.cl) last) = flB n n b) := by
          unfold Hid stB valOf'
          rw [if_pos hln, flB_all]
          simp
        obtain ⟨a', cap', e', rd, _⟩ := owns_reads S.out.1 (flB_small n n b)
        have e' : a' = some ⟨e, 0, none⟩ ∧ cap' = n := by simp at e'; exact ⟨e'.1.symm, e'.2.symm⟩
        rw [e'.1, e'.2] at rd
        have st := rd.string
        have ES : s = str (flB n n b) := by rw [HS.out, EV.out]
        subst ES
        clear rd
        go_wp2_with fail
        go_ret
        exact ⟨rfl, S.out.2⟩
      · obtain ⟨ln, hle⟩ : ∃ ln : Nat, last = (ln : Int) := ⟨last.toNat, by omega⟩
        subst hle
        have ln1 : ln < n := by omega
        have ln2 : (ln : Int) < (n : Int) := by omega
        obtain ⟨b8, off8, ml, rfl, hml, _, _, _, _, y4w, _, _, _, _, _, _, rdw⟩ := H.out.1.at ln1
        have y4 := S.out.2.cell y4w (fun z => z)
        have rdl := Reads.kept S.out.2 rdw (fun _ _ z => z)
        have EV : Hid (stB n b (valOf' (ms.map Cm.cl) (ln : Int)) = flB n n b ++ [2] ++ ml.val ∧ (∀ x ∈ flB n n b ++ [2] ++ ml.val, x < 256)) := by
          refine ⟨?_, fun x hx => ?_⟩
          · unfold stB valOf'
            rw [if_neg (by omega), Int.toNat_natCast, List.getElem?_map, hml, flB_all]
            show (List.range n).map (fun i => if i ∈ b then 1 else 0) ++ 2 :: ml.val = _
            simp
          · rcases List.mem_append.1 hx with z | z
            · rcases List.mem_append.1 z with z | z
              · exact flB_small n n b x z
              · rw [List.mem_singleton.1 z]; omega
            · exact rdl.bytes x z
        have VB : Hid ((n + 1 ≤ maxLen ∧ ((n + 1) + (n + 1) / 4 + 192) * 1 ≤ 281474976710656) ∧ (n + 1 + ml.vn ≤ maxLen ∧ ((n + 1 + ml.vn) + (n + 1 + ml.vn) / 4 + 192) * 1 ≤ 281474976710656)) := bl_state hb (H.out.2.2 ml (List.mem_of_getElem? hml))
        have ES : s = str (flB n n b ++ [2] ++ ml.val) := by rw [HS.out, EV.out.1]
        subst ES
        have lb8 : b8 < wo.heap.size := World.block_lt_of_cell? wo _ y4
        have lbw : b8 < w.heap.size := World.block_lt_of_cell? w _ y4w
        have RV : Hid (Reads w ml.va ml.vn ml.vc ml.val ∧ w.cell? ⟨b8, off8 + ln * 11 + 4, none⟩ = some (.slice ml.va ml.vn ml.vc)) := ⟨rdw, y4w⟩
        clear hml rdl rdw y4w
        go_upto_region 9 with fail
        go_cut [7] from 27 to 35 (fun u7 wc => ∃ (p9 : Option Addr) (c9 : Nat), u7 = .slice p9 (n + 1 + ml.vn) c9 ∧ Hid (Reads wc p9 (n + 1 + ml.vn) c9 (flB n n b ++ [2] ++ ml.val) ∧ Kept (fun _ => False) w wc))
        case first =>
          go_region_law
            (first
              | (refine step_append_all _ (by rfl) (.tmp 27) (.tmp 28) 23 5 23 _ 1 1 (by rfl) Try.underlying23 Try.info5c rfl w.heap.size (.slice (some ⟨e, 0, none⟩) n n) n (cellsOf (flB n n b)) (by rfl) ((((Kept.refl (fun _ => False) wo).alloc _).drew).owns S.out.1 (fun _ _ z => z)) _ 1 (cellsOf [2]) (by rfl) (src_two (heap_alloc_new wo _)) VB.out.1.1 VB.out.1.2 (Nat.le_trans S.out.2.size (((Kept.refl (fun _ => False) wo).alloc _).drew).size) ?_; intro p8 c8 w8 ho hg hn8
                 have KG : Kept (fun j => j = e) wo w8 := (((Kept.refl (fun j => j = e) wo).alloc _).drew).grown hg.out (fun j _ z => by have z : some e = some j := z; injection z with z; exact z.symm)
                 have y48 := KG.cell y4 (show ¬ b8 = e by rw [EE.out]; omega)
                 have G8 : Hid (w8.ownsRow w.heap.size 5 1 (.slice p8 (n + 1) c8) (n + 1) (cellsOf (flB n n b ++ [2])) ∧ Kept (fun _ => False) w w8) := ⟨by rw [cellsOf_append]; exact ho.out, Kept.own S.out.2 KG (fun j z => by rw [z, EE.out]; exact Nat.le_refl _)⟩
                 clear KG ho hg hn8)
              | (refine step_append_all _ (by rfl) (.tmp 29) (.tmp 34) 23 5 23 _ 1 1 (by rfl) Try.underlying23 Try.info5c rfl w.heap.size (.slice p8 (n + 1) c8) (n + 1) (cellsOf (flB n n b ++ [2])) (by rfl) G8.out.1 _ ml.vn (cellsOf ml.val) (by rfl) (Reads.src (Reads.kept G8.out.2 RV.out.1 (fun _ _ z => z))) VB.out.2.1 VB.out.2.2 G8.out.2.size ?_; intro p9 c9 w9 ho hg hn9
                 have G9 : Hid (Reads w9 p9 (n + 1 + ml.vn) c9 (flB n n b ++ [2] ++ ml.val) ∧ Kept (fun _ => False) w w9) := by
                   have KG : Kept (fun j => blockOf p8 = some j) w8 w9 := (Kept.refl (fun j => blockOf p8 = some j) w8).grown hg.out (fun j _ z => by rw [blockOf_own] at z; exact z)
                   have h9 : w9.ownsRow w.heap.size 5 1 (.slice p9 (n + 1 + ml.vn) c9) (n + 1 + ml.vn) (cellsOf (flB n n b ++ [2] ++ ml.val)) := by rw [cellsOf_append]; exact ho.out
                   obtain ⟨a', cap', e', rd, _⟩ := owns_reads h9 EV.out.2
                   simp at e'
                   rw [← e'.1, ← e'.2] at rd
                   exact ⟨rd, Kept.own G8.out.2 KG (fun j z => (own_lt G8.out.1 j z).1)⟩
                 clear ho hg hn9)
              | fail)
          all_goals go_wp2_with fail
          all_goals go_meet
          all_goals exact ⟨p9, c9, rfl, G9⟩
        case rest =>
        obtain ⟨p9, c9, rfl, G⟩ := hcut
        have st := G.out.1.string
        go_wp2_with fail
        go_ret
        exact ⟨rfl, G.out.2⟩
end Go.Proofs.Ytginpoofeliimab
