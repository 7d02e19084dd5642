import Derived.Test.YtojfnehdanhgiaaDrop
import Derived.Test.YtojfnehdanhgiaaTurn
import Derived.Laws.OwnMore
import Derived.Test.YtojfnehdanhgiaaMarks
namespace Go.Proofs.Ytojfnehdanhgiaa
open Go.RowKit

theorem size5 (w : World) : (sizeOf 5).run Try.prog w = .ok 1 w := by kernel_rfl
/-- copy of bytes into a new row. -/
theorem copy_new (W : World) (ty : TypeId) (N m : Nat) (cur : Array Value) (hb : W.heap[N]? = some (.cells cur 5 (0, 0))) (hs : cur.size = m) (hm : m ≤ maxLen) (a : Option Addr) (dl dc : Nat) (l : List Nat) (r : Reads W a dl dc l) (hle : m ≤ dl) :
    ∃ w', (Builtin.copy_ #[30, 30] ty #[.slice (some ⟨N, 0, none⟩) m m, .slice a dl dc]).run Try.prog W = .ok (goInt m) w' ∧ w'.ownsRow N 5 1 (.slice (some ⟨N, 0, none⟩) m m) m (cellsOf (l.take m)) ∧ Kept (fun k => k = N) W w' := by
  have ln : (cellsOf (l.take m)).length = m := by rw [cellsOf_length, List.length_take, r.length]; omega
  have some_case : ∀ ad : Addr, a = some ad → (∀ j v, (cellsOf (l.take m))[j]? = some v → W.cell? (ad.add j) = some v) → ∃ w', (Builtin.copy_ #[30, 30] ty #[.slice (some ⟨N, 0, none⟩) m m, .slice a dl dc]).run Try.prog W = .ok (goInt m) w' ∧ w'.ownsRow N 5 1 (.slice (some ⟨N, 0, none⟩) m m) m (cellsOf (l.take m)) ∧ Kept (fun k => k = N) W w' := fun ad ha hc => by
    subst ha
    have e : Nat.min dl m = m := Nat.min_eq_right hle
    have h := copy_rows 30 5 1 Try.underlying30 size5 W ty N 0 m m ad dl dc (cellsOf (l.take m)) cur hb (by rw [ln, e]; omega) hc (by rw [ln]; omega) (cellsOf_one _)
    rw [e] at h
    have lc : cur.toList.length = cur.size := Array.length_toList
    refine ⟨_, h, ⟨by rw [ln]; omega, .inr ⟨N, m, _, rfl, Nat.le_refl _, setRow_heap W N cur _ 5 _ hb, Nat.le_refl _, hm, ?_, ?_⟩⟩, ⟨rfl, rfl, rfl, by simp, fun k _ hk => setRow_other _ N k _ hk⟩⟩
    · rw [List.size_toArray, over_length _ _ _ (by rw [ln]; omega)]; omega
    · have := over_take cur.toList (cellsOf (l.take m)) 0 (by omega)
      rw [ln, Nat.zero_add, List.take_zero, List.nil_append] at this
      rw [Nat.mul_one]
      exact this
  have get : ∀ j v, (cellsOf (l.take m))[j]? = some v → j < m ∧ v = .int .u8 ((l.getD j 0 : Nat) : Int) := fun j v hj => by
    have hjm : j < m := by have := (List.getElem?_eq_some_iff.1 hj).1; omega
    rw [cellsOf_get _ j (by rw [List.length_take, r.length]; omega)] at hj
    refine ⟨hjm, ?_⟩
    simp at hj
    rw [← hj]
    congr 2
    simp [List.getElem?_take_of_lt hjm]
  by_cases h0 : 0 < dl
  · obtain ⟨b, off, e, hc⟩ := r.cells h0
    exact some_case _ e (fun j v hj => by
      obtain ⟨hjm, rfl⟩ := get j v hj
      rw [Addr.add_none]
      exact hc j (by omega))
  · have d0 : dl = 0 := by omega
    have m0 : m = 0 := by omega
    subst d0
    subst m0
    cases a with
    | some ad => exact some_case ad rfl (fun j v hj => by have := (get j v hj).1; omega)
    | none =>
      refine ⟨W, ?_, ⟨by rw [ln], .inr ⟨N, 0, cur, rfl, Nat.le_refl _, hb, Nat.le_refl _, hm, by omega, by simp [cellsOf]⟩⟩, Kept.refl _ _⟩
      simp [Builtin.copy_, run_underlying Try.underlying30, Builtin.lenOf, Builtin.firstCells]
      rfl
set_option maxRecDepth 100000 in
set_option maxHeartbeats 1000000 in
theorem cut (base C : Nat) (q : Option Addr) (len cap : Nat) (R : List Ent) (w : World) (h : IsNet 67 base w C q len cap R) (hbase : base ≤ w.heap.size) (i : Nat) (hi : i < len) (num : Nat) (pat : Int) :
    Calls Try.prog 52 #[.pointer (some ⟨C, 0, none⟩), .int .i64 (i : Int), .agg #[.int .i64 (num : Int), .int .u32 pat]] w fun x w' => ∃ (e : Ent) (hl : i < R.length), x = .returned (.int .i64 0) ∧ e.p = { R[i].p with data := R[i].p.data.take num } ∧ IsNet 67 base w' C q len cap (R.set i e) ∧ Moved w w' C q q := by
  obtain ⟨hr1, hr2⟩ := own_room h.list.own
  obtain ⟨W, hW⟩ : ∃ W, W = w.alloc (.cells #[.int .i64 (num : Int), .int .u32 pat] 65) := ⟨_, rfl⟩
  have KW : Hid (Kept (fun _ => False) w W.drew) := by show Kept _ w W.drew; rw [hW]; exact (alloc_kept0 w _).drew
  have H2 := h.kept0 KW.out
  have cC : W.cell? ⟨C, 0, none⟩ = some (.slice q len cap) := H2.cell
  obtain ⟨g, rfl, hlR, _, _, _, _, d4, _⟩ := H2.list.cells i hi
  have d4' : W.cell? ⟨g, i * 6 + 4, none⟩ = some (.slice R[i].a R[i].len R[i].cap) := d4
  obtain ⟨e, he⟩ : ∃ e, R[i] = e := ⟨_, rfl⟩
  have bW : W.heap[w.heap.size]? = some (.cells #[.int .i64 (num : Int), .int .u32 pat] 65 (0, 0)) := by rw [hW]; exact alloc_new _ _
  have m0 := cell_blk bW 0 (v := .int .i64 (num : Int)) rfl
  rw [he] at d4'
  have HE : Hid (R[i] = e) := he
  have HH : Hid (IsNet 67 base w C (some ⟨g, 0, none⟩) len cap R ∧ base ≤ w.heap.size) := ⟨h, hbase⟩
  have GE : Hid (Good base W.drew e) := by show Good base W.drew e; rw [← he]; exact H2.list.good _ (List.getElem_mem _)
  have sh := GE.out.short
  obtain ⟨m, hm⟩ : ∃ m, m = min num e.len := ⟨_, rfl⟩
  have hmn : (if e.len < num then (e.len : Int) else (num : Int)) = (m : Int) := by split <;> omega
  have hml : m ≤ e.len := by omega
  have hm2 : m ≤ 66000 := by omega
  obtain ⟨i5, h5, hz5, hsz5, hby5⟩ := info_parts Try.info5
  have mk : ∀ W : World, (Instr.makeSlice 30 (.int .i64 (m : Int)) (.int .i64 (m : Int))).run Try.prog W = .ok (.slice (some ⟨W.heap.size, 0, none⟩) m m) (W.alloc (.cells (madeCells #[.int .u8 0] m) 5)) := fun W => by
    have := run_make (P := Try.prog) W 30 5 i5 (.int .u8 0) Try.underlying30 h5 hz5 .i64 .i64 (m : Int) (m : Int) (by omega) (by omega) (by rw [hby5]; omega) (by omega)
    rw [hsz5] at this
    rw [show (Value.int IntKind.u8 0).cells = #[.int .u8 0] from rfl] at this
    simpa using this
  obtain ⟨cur, hcur⟩ : ∃ cur, cur = madeCells #[.int .u8 0] m := ⟨_, rfl⟩
  rw [← hcur] at mk
  have zc : cur.size = m := by rw [hcur]; exact size_madeCells _ _
  have K3 : Kept (fun _ => False) W.drew (W.drew.alloc (.cells cur 5)) := alloc_kept0 _ _
  obtain ⟨w4, hcp, ho4, K4⟩ := copy_new (W.drew.alloc (.cells cur 5)) 3 W.drew.heap.size m cur (alloc_new _ _) zc (by unfold maxLen; omega) e.a e.len e.cap e.p.data (GE.out.reads.kept' K3 (fun _ _ q => q)) hml
  have K5 : Kept (fun _ => False) w w4 := (KW.out.trans K3 (fun _ _ q => q)).trans K4 (fun j hj q => by have := KW.out.size; omega)
  have N5 := h.kept0 K5
  have k5 := N5.cell
  have j5 : w4.cell? ⟨g, i * 6 + 4, none⟩ = some (.slice e.a e.len e.cap) := by
    obtain ⟨_, q3, _, _, _, _, _, j4, _⟩ := N5.list.cells i hi
    cases q3
    rw [j4, HE.out]
  have fr : w4.frozen? ⟨g, i * 6 + 4, none⟩ = false := by
    obtain ⟨cs, hc⟩ := own_type N5.list.own g rfl
    exact soft_blk hc _
  have FIN : Hid (IsNet 67 base (w4.setCell ⟨g, i * 6 + 4, none⟩ (.slice (some ⟨W.heap.size, 0, none⟩) m m)) C (some ⟨g, 0, none⟩) len cap (R.set i ⟨{ e.p with data := e.p.data.take num }, some ⟨W.heap.size, 0, none⟩, m, m⟩) ∧ Moved w (w4.setCell ⟨g, i * 6 + 4, none⟩ (.slice (some ⟨W.heap.size, 0, none⟩) m m)) C (some ⟨g, 0, none⟩) (some ⟨g, 0, none⟩)) := by
    refine h.stored K5 i 4 hlR (by omega) ⟨{ e.p with data := e.p.data.take num }, some ⟨W.heap.size, 0, none⟩, m, m⟩ (.slice (some ⟨W.heap.size, 0, none⟩) m m) (by rw [HE.out]; rfl) (.inr ⟨?_, fun c hc => GE.out.bytes c (List.mem_of_mem_take hc), hm2⟩)
    have e6 : e.p.data.take num = e.p.data.take m := by
      rw [hm, ← GE.out.length]
      by_cases hq : num ≤ e.p.data.length
      · rw [Nat.min_eq_left hq]
      · rw [Nat.min_eq_right (by omega), List.take_of_length_le (by omega), List.take_of_length_le (by omega)]
    show w4.ownsRow base 5 1 (.slice (some ⟨W.heap.size, 0, none⟩) m m) m (cellsOf (e.p.data.take num))
    rw [e6]
    exact owns_mono ho4 (Nat.le_trans hbase KW.out.size)
  have CP : Hid ((Builtin.copy_ #[30, 30] 3 #[.slice (some ⟨W.heap.size, 0, none⟩) m m, .slice e.a e.len e.cap]).run Try.prog (W.drew.alloc (.cells cur 5)) = .ok (goInt m) w4) := hcp
  have EW : Hid (W = w.alloc (.cells #[.int .i64 (num : Int), .int .u32 pat] 65)) := hW
  have i1 : (i : Int) < (len : Int) := by omega
  have lCW : C < W.heap.size := World.block_lt_of_cell? W _ cC
  have lgW : g < W.heap.size := World.block_lt_of_cell? W _ d4'
  have HM : Hid (m = min num e.len) := hm
  have n0 : ¬ (num : Int) < 0 := by omega
  unfold maxLen at hr2
  clear h H2 d4 he hW bW hbase N5 K5 K4 ho4 K3 hcur hcp hm h5 hz5 zc
  go_enter Try.func52, Try.ntmps52
  go_upto_region 3 with fail
  rw [← EW.out]
  go_region_law (fail)
  all_goals have cp : (Builtin.copy_ #[30, 30] 3 #[.slice (some ⟨W.heap.size, 0, none⟩) m m, .slice e.a e.len e.cap]).run Try.prog (W.alloc (.cells cur 5)).drew = .ok (goInt m) w4 := CP.out
  all_goals (go_wp2_with fail; go_ret)
  all_goals refine ⟨rfl, ⟨{ e.p with data := e.p.data.take num }, some ⟨W.heap.size, 0, none⟩, m, m⟩, ?_⟩
  all_goals exact ⟨by rw [HE.out], FIN.out⟩
end Go.Proofs.Ytojfnehdanhgiaa
