import Derived.Test.YthcnpijgfhinhaaIter
import Derived.Laws.MakeOwn
import Derived.Sort.CutIn
namespace Go.Proofs.Ythcnpijgfhinhaa
open Go.RowKit Go.Shelf
attribute [local go_sem] Oper.semAt_some

theorem Try.info3 : (Try.prog.info? 3).map (fun i => (i.zero, i.size, i.bytes)) = some (some (.int .i64 0), 1, 8) := by kernel_rfl
def ints (l : List Int) : List Value := l.map (Value.int .i64)
theorem kpb_t (T : Nat → Prop) {A B C : World} (h : KpB T A B) (k : KpB T B C) : KpB T A C := fun i hi => (k i hi).trans (h i hi)
theorem kpb_b (T : Nat → Prop) {w : World} (hT : ∀ k, T k → k < w.heap.size) (W : World) (l : Nat) (o o' : Obj) (hl : w.heap.size ≤ l) (_ : W.heap[l]? = some o) (_ : o.isCells = false) (_ : o.isWalk = false) : KpB T W (W.putObj l o') :=
  fun k hk => World.putObj_heap_other (fun e => by have := hT k hk; omega)
theorem pick_le (m : Nat → Bool) (x : Bool) (k n : Nat) (h : k ≤ n) : (pick m x k).length ≤ n := by
  unfold pick; rw [List.length_map]; exact Nat.le_trans (List.length_filter_le _ _) (by rw [List.length_range]; exact h)
set_option maxRecDepth 100000 in
set_option maxHeartbeats 2000000 in
theorem list_in (n b : Nat) (hn : 3 ≤ n) (N K D : Int) (m : Nat → Bool) (w : World) (hS : IsS w b N K D m) :
    CallsIn Fence.wide n Try.prog 14 #[.pointer (some ⟨b, 0, none⟩)] w fun e W' => ∃ v, e = .returned v ∧ W'.ownsRow w.heap.size 3 1 v (pick m true N.toNat).length (ints (pick m true N.toNat)) ∧ Below w.heap.size w W' := by
  have h1 : 1 ≤ n := by omega
  obtain ⟨i0, hi, hz0, hz1, hz2⟩ := info_parts Try.info3
  have hcap : sz m N ≤ 255 := Nat.le_trans (Q.cnt_le m N.toNat) (by have := hS.ok.2.2.1; omega)
  obtain ⟨w1, hmk, hown, hgr⟩ := run_make_own (P := Try.prog) (w := w) w.heap.size 24 3 i0 (.int .i64 0) 1 Try.underlying24 hi hz0 hz1 .i64 .i64 (sz m N) (by rw [hz2]; omega) (by unfold maxLen; omega) (Nat.le_refl _)
  have HS : Hid (IsS w b N K D m) := hS
  clear hS
  refine callsIn_of_wp_marks Try.func14 rfl trivial ?_ rfl
  simp only [Try.ntmps14, List.size_toArray, List.length_cons, List.length_nil, Nat.reduceAdd, Nat.reduceSub, Array.replicate_succ, Array.replicate_zero, List.push_toArray, List.append_toArray, List.nil_append, List.cons_append]
  gi_wp2_with (first | (refine ⟨trivial, ?_⟩; gi_at_call 18; refine (callsIn_wide.2 (len w HS.out)).mono ?_; rintro e w' ⟨rfl, rfl⟩) | (refine ⟨trivial, ?_⟩; gi_at_call 35; refine (servers_in (n - 1) _ _ _).mono ?_; rintro e w' ⟨rfl, rfl⟩) | fail)
  obtain ⟨W0, hW0⟩ : ∃ W0, (((w1.alloc (Obj.cells #[Value.slice (some ⟨w'.heap.size, 0, none⟩) 0 (sz m N)] 24)).alloc (Obj.cells #[Value.pointer (some ⟨b, 0, none⟩)] 26)).alloc (Obj.cells #[Value.bool true] 4)) = W0 := ⟨_, rfl⟩
  have hsz : W0.heap.size = w1.heap.size + 3 := by rw [← hW0]; simp
  have bX : Boxed W0 w1.heap.size 24 (Value.slice (some ⟨w'.heap.size, 0, none⟩) 0 (sz m N)) := by rw [← hW0]; exact ((Boxed.new w1 24 _).alloc _).alloc _
  have b1 : Boxed W0 (w1.heap.size + 1) 26 (.pointer (some ⟨b, 0, none⟩)) := by
    rw [← hW0]
    have := Boxed.new (w1.alloc (Obj.cells #[Value.slice (some ⟨w'.heap.size, 0, none⟩) 0 (sz m N)] 24)) 26 (.pointer (some ⟨b, 0, none⟩))
    rw [World.size_alloc] at this
    exact this.alloc _
  have b2 : Boxed W0 (w1.heap.size + 2) 4 (.bool true) := by
    rw [← hW0]
    have := Boxed.new ((w1.alloc (Obj.cells #[Value.slice (some ⟨w'.heap.size, 0, none⟩) 0 (sz m N)] 24)).alloc (Obj.cells #[Value.pointer (some ⟨b, 0, none⟩)] 26)) 4 (.bool true)
    simp only [World.size_alloc] at this
    exact this
  have hrow0 : W0.ownsRow w'.heap.size 3 1 (Value.slice (some ⟨w'.heap.size, 0, none⟩) 0 (sz m N)) 0 [] := by
    rw [← hW0]; exact ((hown.alloc _).alloc _).alloc _
  have hB0 : Below w'.heap.size w' W0 := by
    rw [← hW0]
    have a : Below w'.heap.size w' w1 := (Below.refl _ _).grown hgr (Nat.le_refl _) (fun k e => by cases e)
    exact ((a.alloc a.size _).alloc (by have := a.size; simp; omega) _).alloc (by have := a.size; simp; omega) _
  have hle : w'.heap.size ≤ w1.heap.size := hgr.size
  have hS0 := HS.out.by hB0
  have hl255 : (pick m true N.toNat).length ≤ 255 := pick_le m true N.toNat 255 (by have := HS.out.ok.2.2.1; omega)
  rw [hW0]
  clear hW0 hown
  refine wpIn_rangeFunc_ownG rfl h1 (gf := 49) (lb := #[.pointer (some ⟨w1.heap.size + 1, 0, none⟩), .pointer (some ⟨w1.heap.size + 2, 0, none⟩)]) rfl trivial (enters_of Try.func49 (by kernel_rfl) rfl)
    (iter_stops (n - 1) (by omega) b (w1.heap.size + 1) (w1.heap.size + 2) N K D m true W0 b1 b2 hS0) (kpb_t _) (kpb_b _ (fun k hk => by have := HS.out.lt; omega)) (Below.refl _ _) (fun _ => rfl)
    (fun pre W => ((∃ v, Boxed W w1.heap.size 24 v ∧ W.ownsRow w'.heap.size 3 1 v pre.length (ints pre) ∧ True) ∧ Boxed W (w1.heap.size + 1) 26 (.pointer (some ⟨b, 0, none⟩)) ∧ Boxed W (w1.heap.size + 2) 4 (.bool true)) ∧ Below w'.heap.size w' W)
    (fun _ _ _ => False)
    (OwnFrom.and (OwnFrom.and (Own.from (holdsRow_own w'.heap.size w1.heap.size 24 3 1 (fun pre : List Int => pre.length) (fun pre => ints pre) (fun _ _ => True)) _) (OwnFrom.and (Own.from (boxed_own _ _ _) _) (Own.from (boxed_own _ _ _) _))) (ownFrom_below (Nat.le_refl _) (by omega)))
    (fun _ _ _ _ _ hs _ _ => hs)
    ⟨⟨⟨_, bX, hrow0, trivial⟩, b1, b2⟩, hB0⟩
    (fun x => { tmps := #[.pointer (some ⟨b, 0, none⟩), undef, .slice none 0 0, .pointer (some ⟨w1.heap.size, 0, none⟩), .int .i64 x, .pointer (some ⟨b, 0, none⟩), .bool false, .pointer (some ⟨b, 0, none⟩), .int .i64 (sz m N : Int), .slice (some ⟨w'.heap.size, 0, none⟩) 0 (sz m N), .pointer (some ⟨b, 0, none⟩), .func (.func 49) #[] #[.pointer (some ⟨w1.heap.size + 1, 0, none⟩), .pointer (some ⟨w1.heap.size + 2, 0, none⟩)], .int .i64 x, undef, undef, undef, undef, undef], defers := [] }) ?assign ?body ?done ?stop
  case assign =>
    intro l x W K hK
    gi_wp2
    exact hK
  case body =>
    rintro l pre x W ⟨⟨⟨v, hv, hrow, _⟩, hb1, hb2⟩, hB⟩ hlt
    have hc := hv.cell
    gi_wp2_with (gi_at_builtin; refine wpListIn_append_own _ rfl _ _ 24 rfl w'.heap.size 3 i0 (.int .i64 0) 1 8 Try.underlying24 hi hz0 hz1 hz2 rfl (by decide) _ _ _ rfl (hrow.alloc _) ⟨W.heap.size, 0, none⟩ 1 1 [.int .i64 x] rfl rfl (cell_one_new _ _ _) (by simp [Value.oneCell']) (by unfold maxLen; omega) (by omega) (by have := hB.size; simp; omega) ?_; intro v' w2 hown' hgrow _; obtain ⟨g', cap', rfl⟩ := ownsRow_succ hown'; obtain ⟨hv1, hv2, hr2, hk2, hbl2⟩ := hv.appended (by decide) hrow hB.size hle hown' hgrow; have hc1 := hv1.cell; have hf1 := hv1.frozen)
    have d1 := ((hb1.alloc _).kept hgrow (hb1.not_row (by decide) hrow)).other (B' := w1.heap.size) (by omega) (Value.slice (some ⟨g', 0, none⟩) (pre.length + 1) cap')
    have d2 := ((hb2.alloc _).kept hgrow (hb2.not_row (by decide) hrow)).other (B' := w1.heap.size) (by omega) (Value.slice (some ⟨g', 0, none⟩) (pre.length + 1) cap')
    refine ⟨hk2.from _, fun k hk => ?_, ⟨⟨_, hv2, by simpa [ints] using hr2, trivial⟩, d1, d2⟩, hB.trans hbl2⟩
    rcases hk with rfl | rfl | rfl
    · exact hbl2.block _ HS.out.lt
    · exact d1.trans hb1.symm
    · exact d2.trans hb2.symm
  case done =>
    rintro D ys W hD rfl ⟨⟨⟨v, hv, hrow, _⟩, hb1, hb2⟩, hB⟩ hK
    have hc := hv.cell
    gi_wp2
    refine ⟨by simp, .inl ⟨_, _, rfl, run_takeDeferred hK, ?_⟩⟩
    exact ⟨_, results_tmp rfl _ _ _, v, rfl, ownsRow_putObj hrow _ hK rfl, hB.trans (belowK_b (w := w') (Nat.le_refl _) W D _ _ (by omega) hK rfl rfl)⟩
  case stop =>
    rintro D c pre W _ _ h _
    exact h.elim
theorem run_mk (c : Nat) (hc : c ≤ 255) (W : World) : (Instr.makeSlice 24 (.int .i64 0) (.int .i64 (c : Int))).run Try.prog W = .ok (.slice (some ⟨W.heap.size, 0, none⟩) 0 c) (W.alloc (.cells (madeCells #[.int .i64 0] c) 3)) := by
  obtain ⟨i0, hi, hz0, hz1, hz2⟩ := info_parts Try.info3
  have h := run_makeSlice (P := Try.prog) (w := W) 24 3 i0 (.int .i64 0) Try.underlying24 hi hz0 .i64 .i64 0 (c : Int) (by omega) (by omega) (by rw [hz1]; omega) (by rw [hz2]; omega) (by omega)
  rw [hz1] at h
  simp only [Int.toNat_natCast, Nat.mul_one, Int.toNat_zero] at h
  exact h
theorem mk_own (c : Nat) (hc : c ≤ 255) (W : World) (base : Nat) (hb : base ≤ W.heap.size) : (W.alloc (.cells (madeCells #[.int .i64 0] c) 3)).ownsRow base 3 1 (.slice (some ⟨W.heap.size, 0, none⟩) 0 c) 0 [] := by
  obtain ⟨i0, hi, hz0, hz1, hz2⟩ := info_parts Try.info3
  obtain ⟨w1, h, ho, hg⟩ := run_make_own (P := Try.prog) (w := W) base 24 3 i0 (.int .i64 0) 1 Try.underlying24 hi hz0 hz1 .i64 .i64 c (by rw [hz2]; omega) (by unfold maxLen; omega) hb
  rw [run_mk c hc W] at h
  injection h with _ h
  rw [h]; exact ho
theorem own_drewN {w : World} {base : Nat} {e : TypeId} {size : Nat} {v : Value} {n : Nat} {xs : List Value} (h : w.ownsRow base e size v n xs) : w.drew.ownsRow base e size v n xs := h
/-- Nothing but the statement's own end. -/
theorem wpIn_calm {F : Fence} {n : Nat} {P : Program} {s : Code} {K : Act → World → Prop} {Q' : Exit → Act → World → Prop} {a : Act} {w : World} (h : s.wpIn F n P (Exit.then K (fun _ _ _ => False)) a w) : s.wpIn F n P (Exit.then K Q') a w :=
  wpIn_mono h (fun e a w hq => by cases e <;> first | exact hq | exact hq.elim)
/-- A list of no server yet, in a variable's box. -/
structure Made (w wc : World) (BX : Nat) (v : Value) : Prop where
  box : Boxed wc BX 24 v
  row : wc.ownsRow w.heap.size 3 1 v 0 []
  bel : Below w.heap.size w wc
  high : w.heap.size ≤ BX
set_option maxRecDepth 100000 in
set_option maxHeartbeats 2000000 in
theorem rest_in (n b : Nat) (hn : 3 ≤ n) (N K D : Int) (m : Nat → Bool) (w : World) (hS : IsS w b N K D m) :
    CallsIn Fence.wide n Try.prog 15 #[.pointer (some ⟨b, 0, none⟩)] w fun e W' => ∃ v, e = .returned v ∧ W'.ownsRow w.heap.size 3 1 v (pick m false N.toNat).length (ints (pick m false N.toNat)) ∧ Below w.heap.size w W' := by
  have h1 : 1 ≤ n := by omega
  obtain ⟨i0, hi, hz0, hz1, hz2⟩ := info_parts Try.info3
  have hN : 1 ≤ N ∧ N ≤ 255 := ⟨by have := hS.ok.1; have := hS.ok.2.1; omega, hS.ok.2.2.1⟩
  have hle0 : sz m N ≤ N.toNat := Q.cnt_le m N.toNat
  have hsub : IntKind.i64.wrap (N - (sz m N : Int)) = ((N.toNat - sz m N : Nat) : Int) := by rw [IntKind.wrap_i64]; omega
  have hc0 := hS.cells.1
  have HS : Hid (IsS w b N K D m) := hS
  have hmx : Try.prog.follows .mixedOrders = true := by kernel_rfl
  have hmk := run_mk (N.toNat - sz m N) (by omega)
  have hmo : Hid (∀ (W : World) (base : Nat), base ≤ W.heap.size → (W.alloc (.cells (madeCells #[.int .i64 0] (N.toNat - sz m N)) 3)).ownsRow base 3 1 (.slice (some ⟨W.heap.size, 0, none⟩) 0 (N.toNat - sz m N)) 0 []) := fun W base hb => mk_own _ (by omega) W base hb
  have HS1 : Hid (IsS w.drew b N K D m) := hS.drew
  have HS2 : Hid (IsS (w.alloc (Obj.cells #[.slice none 0 0] 24)).drew b N K D m) := (hS.by ((Below.refl _ _).alloc (Nat.le_refl _) _)).drew
  have hc1 : (w.alloc (Obj.cells #[.slice none 0 0] 24)).cell? ⟨b, 0, none⟩ = some (.int .i64 N) := HS2.out.cells.1
  have M1 : Hid (Made w ((w.alloc (Obj.cells (madeCells #[Value.int IntKind.i64 0] (N.toNat - sz m N)) 3)).alloc (Obj.cells #[Value.slice (some ⟨w.heap.size, 0, none⟩) 0 (N.toNat - sz m N)] 24)).drew (w.heap.size + 1) (Value.slice (some ⟨w.heap.size, 0, none⟩) 0 (N.toNat - sz m N))) := by
    have a := Boxed.new (w.alloc (Obj.cells (madeCells #[Value.int IntKind.i64 0] (N.toNat - sz m N)) 3)) 24 (Value.slice (some ⟨w.heap.size, 0, none⟩) 0 (N.toNat - sz m N))
    rw [World.size_alloc] at a
    exact ⟨a, own_drewN (hmo.out w w.heap.size (Nat.le_refl _) |>.alloc _), (((Below.refl _ w).alloc (Nat.le_refl _) _).alloc (by simp) _).drew, by omega⟩
  have M2 : Hid (Made w ((w.alloc (Obj.cells #[Value.slice (some ⟨w.heap.size + 1, 0, none⟩) 0 (N.toNat - sz m N)] 24)).alloc (Obj.cells (madeCells #[Value.int IntKind.i64 0] (N.toNat - sz m N)) 3)).drew w.heap.size (Value.slice (some ⟨w.heap.size + 1, 0, none⟩) 0 (N.toNat - sz m N))) := by
    have a := hmo.out (w.alloc (Obj.cells #[Value.slice (some ⟨w.heap.size + 1, 0, none⟩) 0 (N.toNat - sz m N)] 24)) w.heap.size (by simp)
    rw [World.size_alloc] at a
    exact ⟨(Boxed.new w 24 _).alloc _, own_drewN a, (((Below.refl _ w).alloc (Nat.le_refl _) _).alloc (by simp) _).drew, Nat.le_refl _⟩
  clear hS hle0
  refine callsIn_of_wp_marks Try.func15 rfl trivial ?_ rfl
  simp only [Try.ntmps15, List.size_toArray, List.length_cons, List.length_nil, Nat.reduceAdd, Nat.reduceSub, Array.replicate_succ, Array.replicate_zero, List.push_toArray, List.append_toArray, List.nil_append, List.cons_append]
  gi_wp2
  gi_cut [3] from 24 (fun s3 wc => ∃ BX v, s3 = .pointer (some ⟨BX, 0, none⟩) ∧ Hid (Made w wc BX v))
  case rest =>
    obtain ⟨BX, v0, rfl, hM⟩ := hcut
    gi_wp2_with (first | (refine ⟨trivial, ?_⟩; gi_at_call 35; refine (servers_in (n - 1) _ _ _).mono ?_; rintro e w' ⟨rfl, rfl⟩) | fail)
    obtain ⟨W0, hW0⟩ : ∃ W0, ((wc.alloc (Obj.cells #[Value.pointer (some ⟨b, 0, none⟩)] 26)).alloc (Obj.cells #[Value.bool false] 4)) = W0 := ⟨_, rfl⟩
    have hsz : W0.heap.size = wc.heap.size + 2 := by rw [← hW0]; simp
    have bX : Boxed W0 BX 24 v0 := by rw [← hW0]; exact (hM.out.box.alloc _).alloc _
    have b1 : Boxed W0 wc.heap.size 26 (.pointer (some ⟨b, 0, none⟩)) := by rw [← hW0]; exact (Boxed.new wc 26 _).alloc _
    have b2 : Boxed W0 (wc.heap.size + 1) 4 (.bool false) := by
      rw [← hW0]
      have := Boxed.new (wc.alloc (Obj.cells #[Value.pointer (some ⟨b, 0, none⟩)] 26)) 4 (.bool false)
      rw [World.size_alloc] at this
      exact this
    have hrow0 : W0.ownsRow w.heap.size 3 1 v0 0 [] := by rw [← hW0]; exact (hM.out.row.alloc _).alloc _
    have hwc := hM.out.bel.size
    have hB0 : Below w.heap.size w W0 := by rw [← hW0]; exact (hM.out.bel.alloc hwc _).alloc (by simp; omega) _
    have hle : w.heap.size ≤ BX := hM.out.high
    have hlx : BX < wc.heap.size := hM.out.box.lt
    have hS0 := HS.out.by hB0
    have hl255 : (pick m false N.toNat).length ≤ 255 := pick_le m false N.toNat 255 (by omega)
    rw [hW0]
    clear hW0 hM
    refine wpIn_rangeFunc_ownG rfl h1 (gf := 49) (lb := #[.pointer (some ⟨wc.heap.size, 0, none⟩), .pointer (some ⟨wc.heap.size + 1, 0, none⟩)]) rfl trivial (enters_of Try.func49 (by kernel_rfl) rfl)
      (iter_stops (n - 1) (by omega) b wc.heap.size (wc.heap.size + 1) N K D m false W0 b1 b2 hS0) (kpb_t _) (kpb_b _ (fun k hk => by have := HS.out.lt; omega)) (Below.refl _ _) (fun _ => rfl)
      (fun pre W => ((∃ v, Boxed W BX 24 v ∧ W.ownsRow w.heap.size 3 1 v pre.length (ints pre) ∧ True) ∧ Boxed W wc.heap.size 26 (.pointer (some ⟨b, 0, none⟩)) ∧ Boxed W (wc.heap.size + 1) 4 (.bool false)) ∧ Below w.heap.size w W)
      (fun _ _ _ => False)
      (OwnFrom.and (OwnFrom.and (Own.from (holdsRow_own w.heap.size BX 24 3 1 (fun pre : List Int => pre.length) (fun pre => ints pre) (fun _ _ => True)) _) (OwnFrom.and (Own.from (boxed_own _ _ _) _) (Own.from (boxed_own _ _ _) _))) (ownFrom_below (Nat.le_refl _) (by omega)))
      (fun _ _ _ _ _ hs _ _ => hs)
      ⟨⟨⟨_, bX, hrow0, trivial⟩, b1, b2⟩, hB0⟩
      (fun x => { tmps := #[.pointer (some ⟨b, 0, none⟩), undef, .slice none 0 0, .pointer (some ⟨BX, 0, none⟩), .int .i64 x, .pointer (some ⟨b, 0, none⟩), .bool false, u7, u8, u9, u10, u11, u12, u13, u14, u15, .pointer (some ⟨b, 0, none⟩), .func (.func 49) #[] #[.pointer (some ⟨wc.heap.size, 0, none⟩), .pointer (some ⟨wc.heap.size + 1, 0, none⟩)], .int .i64 x, undef, undef, undef, undef, undef], defers := [] }) ?assign ?body ?done ?stop
    case assign =>
      intro l x W K hK
      gi_wp2
      exact hK
    case body =>
      rintro l pre x W ⟨⟨⟨v, hv, hrow, _⟩, hb1, hb2⟩, hB⟩ hlt
      have hc := hv.cell
      gi_wp2_with (gi_at_builtin; refine wpListIn_append_own _ rfl _ _ 24 rfl w.heap.size 3 i0 (.int .i64 0) 1 8 Try.underlying24 hi hz0 hz1 hz2 rfl (by decide) _ _ _ rfl (hrow.alloc _) ⟨W.heap.size, 0, none⟩ 1 1 [.int .i64 x] rfl rfl (cell_one_new _ _ _) (by simp [Value.oneCell']) (by unfold maxLen; omega) (by omega) (by have := hB.size; simp; omega) ?_; intro v' w2 hown' hgrow _; obtain ⟨g', cap', rfl⟩ := ownsRow_succ hown'; obtain ⟨hv1, hv2, hr2, hk2, hbl2⟩ := hv.appended (by decide) hrow hB.size hle hown' hgrow; have hc1 := hv1.cell; have hf1 := hv1.frozen)
      have d1 := ((hb1.alloc _).kept hgrow (hb1.not_row (by decide) hrow)).other (B' := BX) (by omega) (Value.slice (some ⟨g', 0, none⟩) (pre.length + 1) cap')
      have d2 := ((hb2.alloc _).kept hgrow (hb2.not_row (by decide) hrow)).other (B' := BX) (by omega) (Value.slice (some ⟨g', 0, none⟩) (pre.length + 1) cap')
      refine ⟨hk2.from _, fun k hk => ?_, ⟨⟨_, hv2, by simpa [ints] using hr2, trivial⟩, d1, d2⟩, hB.trans hbl2⟩
      rcases hk with rfl | rfl | rfl
      · exact hbl2.block _ HS.out.lt
      · exact d1.trans hb1.symm
      · exact d2.trans hb2.symm
    case done =>
      rintro D ys W hD rfl ⟨⟨⟨v, hv, hrow, _⟩, hb1, hb2⟩, hB⟩ hK
      have hc := hv.cell
      gi_wp2
      refine ⟨by simp, .inl ⟨_, _, rfl, run_takeDeferred hK, ?_⟩⟩
      exact ⟨_, results_tmp rfl _ _ _, v, rfl, ownsRow_putObj hrow _ hK rfl, hB.trans (belowK_b (w := w) (Nat.le_refl _) W D _ _ (by omega) hK rfl rfl)⟩
    case stop =>
      rintro D c pre W _ _ h _
      exact h.elim
  refine wpIn_calm ?_
  gi_region_with_o (first | (refine ⟨trivial, ?_⟩; refine (callsIn_wide.2 (len _ (by first | exact HS1.out | exact HS2.out))).mono ?_; rintro e w' ⟨rfl, rfl⟩) | fail)
  all_goals
    gi_wp2
    gi_meet
    first | exact ⟨_, _, rfl, M1⟩ | exact ⟨_, _, rfl, M2⟩
theorem list {b : Nat} {N K D : Int} {m : Nat → Bool} (w : World) (h : IsS w b N K D m) : Calls Try.prog 14 #[.pointer (some ⟨b, 0, none⟩)] w fun e W' => ∃ v, e = .returned v ∧ W'.ownsRow w.heap.size 3 1 v (pick m true N.toNat).length (ints (pick m true N.toNat)) ∧ Below w.heap.size w W' :=
  callsIn_wide.1 (list_in 3 b (Nat.le_refl _) N K D m w h)
theorem rest {b : Nat} {N K D : Int} {m : Nat → Bool} (w : World) (h : IsS w b N K D m) : Calls Try.prog 15 #[.pointer (some ⟨b, 0, none⟩)] w fun e W' => ∃ v, e = .returned v ∧ W'.ownsRow w.heap.size 3 1 v (pick m false N.toNat).length (ints (pick m false N.toNat)) ∧ Below w.heap.size w W' :=
  callsIn_wide.1 (rest_in 3 b (Nat.le_refl _) N K D m w h)
theorem list_nil (w : World) : Calls Try.prog 14 #[.pointer none] w fun x w' => x = .returned (.slice none 0 0) ∧ w' = w := by
  go_enter Try.func14, Try.ntmps14
  go_wp2_with fail
  go_ret
  exact ⟨rfl, rfl⟩
theorem rest_nil (w : World) : Calls Try.prog 15 #[.pointer none] w fun x w' => x = .returned (.slice none 0 0) ∧ w' = w := by
  go_enter Try.func15, Try.ntmps15
  go_wp2_with fail
  go_ret
  exact ⟨rfl, rfl⟩
end Go.Proofs.Ythcnpijgfhinhaa
