import Derived.Test.YtojfnehdanhgiaaDrop
import Derived.Test.YtojfnehdanhgiaaTurn
namespace Go.Proofs.Ytojfnehdanhgiaa
open Go.RowKit

theorem rcells_set : ∀ (R : List Ent) (i j : Nat) (e' : Ent) (v : Value) (hi : i < R.length), j < 6 → e'.cells = (R[i].cells).set j v → (rcells R).set (i * 6 + j) v = rcells (R.set i e')
  | [], i, j, e', v, hi, hj, h => by simp at hi
  | t :: r, 0, j, e', v, hi, hj, h => by
    rw [rcells_cons, List.set_cons_zero, rcells_cons, h, List.set_append_left _ _ (by rw [ecells_length]; omega)]
    simp
  | t :: r, i + 1, j, e', v, hi, hj, h => by
    rw [rcells_cons, List.set_cons_succ, rcells_cons, List.set_append_right _ _ (by rw [ecells_length]; omega), ecells_length, show (i + 1) * 6 + j - 6 = i * 6 + j by omega, rcells_set r i j e' v (by simpa using hi) hj (by simpa using h)]
/-- One field of one datagram is stored. -/
theorem IsNet.stored {ty base : Nat} {w w1 : World} {C g len cap : Nat} {R : List Ent} (h : IsNet ty base w C (some ⟨g, 0, none⟩) len cap R) (K : Kept (fun _ => False) w w1) (i j : Nat) (hi : i < R.length) (hj : j < 6) (e' : Ent) (v : Value) (he : e'.cells = (R[i].cells).set j v) (ge : Good base w e' ∨ Good base w1 e') :
    IsNet ty base (w1.setCell ⟨g, i * 6 + j, none⟩ v) C (some ⟨g, 0, none⟩) len cap (R.set i e') ∧ Moved w (w1.setCell ⟨g, i * 6 + j, none⟩ v) C (some ⟨g, 0, none⟩) (some ⟨g, 0, none⟩) := by
  have h1 := h.kept0 K
  obtain ⟨cur, hg, hs, ht⟩ : ∃ cur, w1.heap[g]? = some (.cells cur 39 (0, 0)) ∧ cur.size = cap * 6 ∧ cur.toList.take (len * 6) = rcells R := by
    rcases h1.list.own.2 with ⟨e0, _⟩ | ⟨g', cap', cur, e0, _, hg, _, _, hs, ht⟩
    · simp at e0
    · simp at e0; obtain ⟨rfl, rfl⟩ := e0; exact ⟨cur, hg, hs, ht⟩
  have gC : C ≠ g := fun e => h.apart (by rw [e]; rfl)
  have K1 : Kept (fun k => k = g) w1 (w1.setCell ⟨g, i * 6 + j, none⟩ v) := (Kept.refl (fun k => k = g) w1).setCell (p := ⟨g, i * 6 + j, none⟩) (fun _ => rfl) _
  refine h.relaid (cur := cur.setIfInBounds (i * 6 + j) v) ((K.mono (fun _ _ q => q.elim)).trans K1 (fun k _ e => .inr e)) ?_ (set_heap hg _ _) (by simpa using hs) ?_ (by rw [List.length_set]; exact h.list.length) (own_room h.list.own).1 (fun f hf => ?_)
  · rw [set_other _ _ gC]
    exact h1.blk
  · rw [set_cur, List.take_set, ht]
    exact rcells_set R i j e' v hi hj he
  · rcases List.mem_or_eq_of_mem_set hf with q | q
    · exact .inl (h.list.good f q)
    · rw [q]
      rcases ge with ge | ge
      · exact .inl ge
      · exact .inr (ge.kept K1 (fun k _ e => by rw [e]; exact h1.list.notdata g rfl))
/-- That one is marked as lost. -/
def Ent.marked (e : Ent) : Ent := ⟨{ e.p with lost := true }, e.a, e.len, e.cap⟩
set_option maxRecDepth 100000 in
theorem lose (base C : Nat) (q : Option Addr) (len cap : Nat) (R : List Ent) (w : World) (h : IsNet 67 base w C q len cap R) (i : Nat) (hi : i < len) (num pat : Int) :
    Calls Try.prog 53 #[.pointer (some ⟨C, 0, none⟩), .int .i64 (i : Int), .agg #[.int .i64 num, .int .u32 pat]] w fun x w' => ∃ hl : i < R.length, x = .returned (.int .i64 0) ∧ IsNet 67 base w' C q len cap (R.set i R[i].marked) ∧ Moved w w' C q q := by
  obtain ⟨hr1, hr2⟩ := own_room h.list.own
  have KW : Hid (Kept (fun _ => False) w (w.alloc (.cells #[.int .i64 num, .int .u32 pat] 65))) := alloc_kept0 w _
  have H2 := h.kept0 KW.out
  have cC := H2.cell
  obtain ⟨g, rfl, hlR, _, _, _, _, _, d5⟩ := H2.list.cells i hi
  have hh := H2.list.notdata g rfl
  have fr : (w.alloc (.cells #[.int .i64 num, .int .u32 pat] 65)).frozen? ⟨g, i * 6 + 5, none⟩ = false := by
    obtain ⟨cs, hc⟩ := own_type H2.list.own g rfl
    exact soft_blk hc _
  have i1 : (i : Int) < (len : Int) := by omega
  have FIN : Hid (IsNet 67 base ((w.alloc (.cells #[.int .i64 num, .int .u32 pat] 65)).setCell ⟨g, i * 6 + 5, none⟩ (.bool true)) C (some ⟨g, 0, none⟩) len cap (R.set i R[i].marked) ∧ Moved w ((w.alloc (.cells #[.int .i64 num, .int .u32 pat] 65)).setCell ⟨g, i * 6 + 5, none⟩ (.bool true)) C (some ⟨g, 0, none⟩) (some ⟨g, 0, none⟩)) :=
    h.stored KW.out i 5 hlR (by omega) R[i].marked (.bool true) rfl (.inl ⟨(h.list.good _ (List.getElem_mem hlR)).own, (h.list.good _ (List.getElem_mem hlR)).bytes, (h.list.good _ (List.getElem_mem hlR)).short⟩)
  unfold maxLen at hr2
  clear h H2 hh
  go_enter Try.func53, Try.ntmps53
  go_wp2_with fail
  go_ret
  exact ⟨hlR, rfl, FIN.out⟩
set_option maxRecDepth 100000 in
set_option maxHeartbeats 1000000 in
theorem turn (base C : Nat) (q : Option Addr) (len cap : Nat) (R : List Ent) (w : World) (h : IsNet 67 base w C q len cap R) (hbase : base ≤ w.heap.size) (i : Nat) (hi : i < len) (bit pat : Nat) (hb : bit < 9223372036854775808) (hp : pat < 4294967296) :
    Calls Try.prog 51 #[.pointer (some ⟨C, 0, none⟩), .int .i64 (i : Int), .agg #[.int .i64 (bit : Int), .int .u32 (pat : Int)]] w fun x w' => ∃ (e : Ent) (hl : i < R.length), x = .returned (.int .i64 0) ∧ e.p = { R[i].p with data := turned bit pat R[i].p.data } ∧ IsNet 67 base w' C q len cap (R.set i e) ∧ Moved w w' C q q := by
  obtain ⟨hr1, hr2⟩ := own_room h.list.own
  obtain ⟨W, hW⟩ : ∃ W, W = w.alloc (.cells #[.int .i64 (bit : Int), .int .u32 (pat : Int)] 65) := ⟨_, rfl⟩
  have KW : Hid (Kept (fun _ => False) w W.drew) := by show Kept _ w W.drew; rw [hW]; exact (alloc_kept0 w _).drew
  have H2 := h.kept0 KW.out
  have cC : W.cell? ⟨C, 0, none⟩ = some (.slice q len cap) := H2.cell
  obtain ⟨g, rfl, hlR, _, _, _, _, d4, _⟩ := H2.list.cells i hi
  have d4' : W.cell? ⟨g, i * 6 + 4, none⟩ = some (.slice R[i].a R[i].len R[i].cap) := d4
  obtain ⟨e, he⟩ : ∃ e, R[i] = e := ⟨_, rfl⟩
  have bW : W.heap[w.heap.size]? = some (.cells #[.int .i64 (bit : Int), .int .u32 (pat : Int)] 65 (0, 0)) := by rw [hW]; exact alloc_new _ _
  have m0 := cell_blk bW 0 (v := .int .i64 (bit : Int)) rfl
  have m1 := cell_blk bW 1 (v := .int .u32 (pat : Int)) rfl
  rw [he] at d4'
  have HE : Hid (R[i] = e) := he
  have HH : Hid (IsNet 67 base w C (some ⟨g, 0, none⟩) len cap R ∧ base ≤ w.heap.size) := ⟨h, hbase⟩
  have GE : Hid (Good base W.drew e) := by show Good base W.drew e; rw [← he]; exact H2.list.good _ (List.getElem_mem _)
  have EW : Hid (W = w.alloc (.cells #[.int .i64 (bit : Int), .int .u32 (pat : Int)] 65)) := hW
  have i1 : (i : Int) < (len : Int) := by omega
  unfold maxLen at hr2
  clear h H2 d4 he hW bW hbase
  go_enter Try.func51, Try.ntmps51
  go_upto_region 1 with fail
  rw [← EW.out]
  go_region_held3 (fun w' => w'.cell? ⟨C, 0, none⟩ = some (.slice (some ⟨g, 0, none⟩) len cap) ∧ w'.cell? ⟨g, i * 6 + 4, none⟩ = some (.slice e.a e.len e.cap) ∧ w'.cell? ⟨w.heap.size, 0, none⟩ = some (.int .i64 (bit : Int)) ∧ w'.cell? ⟨w.heap.size, 1, none⟩ = some (.int .u32 (pat : Int))) (first | go_keep)
    (first
      | (go_at_call 54; refine (turn_ok e.a e.len e.cap e.p.data bit pat _ GE.out.reads (Nat.le_trans GE.out.short (by omega)) hb hp).mono ?_; rintro x w3 ⟨p3, c3, rfl, o3, K3⟩
         have n0 := K3.cell m0 (fun q => q)
         have n1 := K3.cell m1 (fun q => q)
         have N3 := HH.out.1.kept0 (KW.out.trans K3 (fun _ _ q => q))
         have k3 := N3.cell
         obtain ⟨_, q3, _, _, _, _, _, j4, _⟩ := N3.list.cells i hi
         cases q3
         have j4' : w3.cell? ⟨g, i * 6 + 4, none⟩ = some (.slice e.a e.len e.cap) := by rw [j4, HE.out]
         have fr : w3.frozen? ⟨g, i * 6 + 4, none⟩ = false := by
           obtain ⟨cs, hc⟩ := own_type N3.list.own g rfl
           exact soft_blk hc _
         have FIN : Hid (IsNet 67 base (w3.setCell ⟨g, i * 6 + 4, none⟩ (.slice p3 e.len c3)) C (some ⟨g, 0, none⟩) len cap (R.set i ⟨{ e.p with data := turned bit pat e.p.data }, p3, e.len, c3⟩) ∧ Moved w (w3.setCell ⟨g, i * 6 + 4, none⟩ (.slice p3 e.len c3)) C (some ⟨g, 0, none⟩) (some ⟨g, 0, none⟩)) :=
           HH.out.1.stored (KW.out.trans K3 (fun _ _ q => q)) i 4 hlR (by omega) ⟨{ e.p with data := turned bit pat e.p.data }, p3, e.len, c3⟩ (.slice p3 e.len c3) (by rw [HE.out]; rfl) (.inr ⟨owns_mono o3 (Nat.le_trans HH.out.2 KW.out.size), turnN_bytes _ _ _ GE.out.bytes 32, GE.out.short⟩)
         clear o3 K3 N3 j4)
      | fail)
  all_goals (go_wp2_with fail; go_ret)
  exact ⟨⟨{ e.p with data := turned bit pat e.p.data }, p3, e.len, c3⟩, hlR, rfl, by rw [HE.out], FIN.out⟩
set_option maxRecDepth 100000 in
theorem turn_bad (base C : Nat) (q : Option Addr) (len cap : Nat) (R : List Ent) (w : World) (h : IsNet 67 base w C q len cap R) (i : Nat) (hi : i < len) (bit pat : Int) (hb : bit < 0) :
    Calls Try.prog 51 #[.pointer (some ⟨C, 0, none⟩), .int .i64 (i : Int), .agg #[.int .i64 bit, .int .u32 pat]] w fun x w' => x = .returned (.int .i64 1) ∧ Kept (fun _ => False) w w' := by
  obtain ⟨hr1, hr2⟩ := own_room h.list.own
  obtain ⟨W, hW⟩ : ∃ W, W = w.alloc (.cells #[.int .i64 bit, .int .u32 pat] 65) := ⟨_, rfl⟩
  have KW : Hid (Kept (fun _ => False) w W.drew) := by show Kept _ w W.drew; rw [hW]; exact (alloc_kept0 w _).drew
  have H2 := h.kept0 KW.out
  have cC : W.cell? ⟨C, 0, none⟩ = some (.slice q len cap) := H2.cell
  obtain ⟨g, rfl, hlR, _, _, _, _, d4, _⟩ := H2.list.cells i hi
  have d4' : W.cell? ⟨g, i * 6 + 4, none⟩ = some (.slice R[i].a R[i].len R[i].cap) := d4
  obtain ⟨e, he⟩ : ∃ e, R[i] = e := ⟨_, rfl⟩
  have bW : W.heap[w.heap.size]? = some (.cells #[.int .i64 bit, .int .u32 pat] 65 (0, 0)) := by rw [hW]; exact alloc_new _ _
  have m0 := cell_blk bW 0 (v := .int .i64 bit) rfl
  have m1 := cell_blk bW 1 (v := .int .u32 pat) rfl
  rw [he] at d4'
  have EW : Hid (W = w.alloc (.cells #[.int .i64 bit, .int .u32 pat] 65)) := hW
  have i1 : (i : Int) < (len : Int) := by omega
  unfold maxLen at hr2
  clear h H2 d4 he hW bW
  go_enter Try.func51, Try.ntmps51
  go_upto_region 1 with fail
  rw [← EW.out]
  go_region_held3 (fun w' => w'.cell? ⟨C, 0, none⟩ = some (.slice (some ⟨g, 0, none⟩) len cap) ∧ w'.cell? ⟨g, i * 6 + 4, none⟩ = some (.slice e.a e.len e.cap) ∧ w'.cell? ⟨w.heap.size, 0, none⟩ = some (.int .i64 bit) ∧ w'.cell? ⟨w.heap.size, 1, none⟩ = some (.int .u32 pat)) (first | go_keep)
    (first
      | (go_at_call 54; refine (turn_neg e.a e.len e.cap bit pat _ hb).mono ?_; rintro x w3 ⟨rfl, rfl⟩)
      | fail)
  go_wp2_with fail
  go_ret
  exact ⟨rfl, KW.out⟩
set_option maxRecDepth 100000 in
theorem cut_bad (C : Nat) (w : World) (i : Int) (num pat : Int) (hb : num < 0) :
    Calls Try.prog 52 #[.pointer (some ⟨C, 0, none⟩), .int .i64 i, .agg #[.int .i64 num, .int .u32 pat]] w fun x w' => x = .returned (.int .i64 1) ∧ Kept (fun _ => False) w w' := by
  go_enter Try.func52, Try.ntmps52
  go_wp2_with fail
  go_ret
  exact ⟨rfl, alloc_kept0 _ _⟩
end Go.Proofs.Ytojfnehdanhgiaa
