import Derived.Test.YtojfnehdanhgiaaBecome
import Derived.Test.YtojfnehdanhgiaaDrop
namespace Go.Proofs.Ytojfnehdanhgiaa
open Go.RowKit

theorem far_of {C g b n : Nat} (hC : C < n) (hg : g < n) (hb : n ≤ b) : ¬ (b = C ∨ blockOf (some (⟨g, 0, none⟩ : Addr)) = some b) := fun q => by
  rcases q with q | q
  · omega
  · simp [blockOf] at q; omega
/-- The result's box is filled. -/
theorem taken_out {ty base : Nat} {w V w3 : World} {C g len cap : Nat} {R : List Ent} {f1 f2 f3 f4 f5 f6 : Value} (KV : Kept (fun _ => False) w V) (n : IsNet ty base w3 C (some ⟨g, 0, none⟩) len cap R) (m : Moved V.drew w3 C (some ⟨g, 0, none⟩) (some ⟨g, 0, none⟩)) (B : Box w3 w.heap.size f1 f2 f3 f4 f5 f6) (hC : C < w.heap.size) (hg : g < w.heap.size) (g1 g2 g3 g4 g5 g6 : Value) :
    IsNet ty base ((((((w3.setCell ⟨w.heap.size, 0, none⟩ g1).setCell ⟨w.heap.size, 1, none⟩ g2).setCell ⟨w.heap.size, 2, none⟩ g3).setCell ⟨w.heap.size, 3, none⟩ g4).setCell ⟨w.heap.size, 4, none⟩ g5).setCell ⟨w.heap.size, 5, none⟩ g6) C (some ⟨g, 0, none⟩) len cap R ∧
    Moved w ((((((w3.setCell ⟨w.heap.size, 0, none⟩ g1).setCell ⟨w.heap.size, 1, none⟩ g2).setCell ⟨w.heap.size, 2, none⟩ g3).setCell ⟨w.heap.size, 3, none⟩ g4).setCell ⟨w.heap.size, 4, none⟩ g5).setCell ⟨w.heap.size, 5, none⟩ g6) C (some ⟨g, 0, none⟩) (some ⟨g, 0, none⟩) := by
  have K : Kept (fun k => k = w.heap.size) w3 ((((((w3.setCell ⟨w.heap.size, 0, none⟩ g1).setCell ⟨w.heap.size, 1, none⟩ g2).setCell ⟨w.heap.size, 2, none⟩ g3).setCell ⟨w.heap.size, 3, none⟩ g4).setCell ⟨w.heap.size, 4, none⟩ g5).setCell ⟨w.heap.size, 5, none⟩ g6) := (Kept.refl (fun k => k = w.heap.size) w3).set6 (fun _ => rfl) g1 g2 g3 g4 g5 g6
  refine ⟨n.kept K (fun q => by have q : C = w.heap.size := q; omega) (fun k hk q => ?_) (fun k _ q => ?_), ?_, fun _ q => .inl q⟩
  · simp [blockOf] at hk
    have q : k = w.heap.size := q
    omega
  · have q : k = w.heap.size := q
    subst q
    intro cs f e
    rw [show w3.heap[w.heap.size]? = _ from B] at e
    simp at e
  · exact (((KV.drew).mono (fun _ _ q => q.elim)).trans m.kept (fun _ _ q => q)).set6 (fun q => absurd q (by omega)) g1 g2 g3 g4 g5 g6
theorem enter28 (vs : Array Value) (w : World) : (callFunc 28 vs).run Try.prog w = .ok (.enter 28 vs) w := by kernel_rfl
set_option maxRecDepth 100000 in
set_option maxHeartbeats 1000000 in
/-- Take of one that is there. -/
theorem take_ok (base C : Nat) (q : Option Addr) (len cap : Nat) (R : List Ent) (i : Nat) (hi : i < len) (w : World) (h : IsNet 67 base w C q len cap R) (e : Ent) (he : R[i]? = some e) :
    Calls Try.prog 12 #[.pointer (some ⟨C, 0, none⟩), .int .i64 (i : Int)] w fun x w' => x = .returned (.tuple #[.agg #[.int .i64 e.p.fk, .int .i64 e.p.fi, .int .i64 e.p.tk, .int .i64 e.p.ti, .slice e.a e.len e.cap, .bool e.p.lost], .int .i64 0]) ∧ IsNet 67 base w' C q (len - 1) cap (R.take i ++ R.drop (i + 1)) ∧ Moved w w' C q q := by
  obtain ⟨hr1, hr2⟩ := own_room h.list.own
  obtain ⟨W1, hW1⟩ : ∃ W1, W1 = w.alloc (.cells #[.int .i64 0, .int .i64 0, .int .i64 0, .int .i64 0, .slice none 0 0, .bool false] 39) := ⟨_, rfl⟩
  obtain ⟨W, hW⟩ : ∃ W, W = W1.alloc (.cells #[.int .i64 0, .int .i64 0, .int .i64 0, .int .i64 0, .slice none 0 0, .bool false] 39) := ⟨_, rfl⟩
  have z1 : W1.heap.size = w.heap.size + 1 := by rw [hW1]; exact alloc_size _ _
  have KW : Kept (fun _ => False) w W := by rw [hW, hW1]; exact ((Kept.refl _ w).alloc _).alloc _
  have b1 : Box W w.heap.size (.int .i64 0) (.int .i64 0) (.int .i64 0) (.int .i64 0) (.slice none 0 0) (.bool false) := by unfold Box; rw [hW]; exact alloc_old _ (by rw [hW1]; exact alloc_new _ _)
  have b2 : Box W (w.heap.size + 1) (.int .i64 0) (.int .i64 0) (.int .i64 0) (.int .i64 0) (.slice none 0 0) (.bool false) := by unfold Box; rw [hW, ← z1]; exact alloc_new _ _
  have H2 := h.kept0 KW
  have cC := H2.cell
  obtain ⟨g, rfl, hlR, d0, d1, d2, d3, d4, d5⟩ := H2.list.cells i hi
  have he' : R[i] = e := by rw [List.getElem?_eq_getElem hlR] at he; simpa using he
  rw [he'] at d0 d1 d2 d3 d4 d5
  obtain ⟨e1, e2, e3, e4, e5, e6, ef⟩ := cell6 _ _ _ _ _ _ _ _ b2
  -- behind the store of what is taken
  obtain ⟨V, hV⟩ : ∃ V, V = ((((((W.setCell ⟨w.heap.size + 1, 0, none⟩ (.int .i64 e.p.fk)).setCell ⟨w.heap.size + 1, 1, none⟩ (.int .i64 e.p.fi)).setCell ⟨w.heap.size + 1, 2, none⟩ (.int .i64 e.p.tk)).setCell ⟨w.heap.size + 1, 3, none⟩ (.int .i64 e.p.ti)).setCell ⟨w.heap.size + 1, 4, none⟩ (.slice e.a e.len e.cap)).setCell ⟨w.heap.size + 1, 5, none⟩ (.bool e.p.lost)) := ⟨_, rfl⟩
  have KV : Hid (Kept (fun _ => False) w V) := by show Kept _ w V; rw [hV]; exact KW.set6 (by omega) _ _ _ _ _ _
  have v2 : Box V (w.heap.size + 1) (.int .i64 e.p.fk) (.int .i64 e.p.fi) (.int .i64 e.p.tk) (.int .i64 e.p.ti) (.slice e.a e.len e.cap) (.bool e.p.lost) := by rw [hV]; exact b2.set _ _ _ _ _ _
  have v1 : Box V w.heap.size (.int .i64 0) (.int .i64 0) (.int .i64 0) (.int .i64 0) (.slice none 0 0) (.bool false) := by
    rw [hV]; exact (((((b1.setAt _ _ (by omega)).setAt _ _ (by omega)).setAt _ _ (by omega)).setAt _ _ (by omega)).setAt _ _ (by omega)).setAt _ _ (by omega)
  obtain ⟨x1, x2, x3, x4, x5, x6, xf⟩ := cell6 _ _ _ _ _ _ _ _ v2
  have EV : Hid (V = ((((((W.setCell ⟨w.heap.size + 1, 0, none⟩ (.int .i64 e.p.fk)).setCell ⟨w.heap.size + 1, 1, none⟩ (.int .i64 e.p.fi)).setCell ⟨w.heap.size + 1, 2, none⟩ (.int .i64 e.p.tk)).setCell ⟨w.heap.size + 1, 3, none⟩ (.int .i64 e.p.ti)).setCell ⟨w.heap.size + 1, 4, none⟩ (.slice e.a e.len e.cap)).setCell ⟨w.heap.size + 1, 5, none⟩ (.bool e.p.lost))) := hV
  have VB : Hid (Box V.drew w.heap.size (.int .i64 0) (.int .i64 0) (.int .i64 0) (.int .i64 0) (.slice none 0 0) (.bool false) ∧ Box V.drew (w.heap.size + 1) (.int .i64 e.p.fk) (.int .i64 e.p.fi) (.int .i64 e.p.tk) (.int .i64 e.p.ti) (.slice e.a e.len e.cap) (.bool e.p.lost)) := ⟨v1, v2⟩
  have EW : Hid (W = (w.alloc (.cells #[.int .i64 0, .int .i64 0, .int .i64 0, .int .i64 0, .slice none 0 0, .bool false] 39)).alloc (.cells #[.int .i64 0, .int .i64 0, .int .i64 0, .int .i64 0, .slice none 0 0, .bool false] 39)) := by show W = _; rw [hW, hW1]
  have HH : Hid (IsNet 67 base w C (some ⟨g, 0, none⟩) len cap R) := h
  have i1 : (i : Int) < (len : Int) := by omega
  have lC := h.lt
  have lg : g < w.heap.size := (own_lt h.list.own g rfl).2
  have HI : Hid (hasI (i : Int) len = true) := decide_eq_true ⟨by omega, i1⟩
  have BC : Hid (Calls Try.prog 28 #[.pointer (some ⟨C, 0, none⟩), .int .i64 0, .int .i64 (i : Int), .agg #[.int .i64 0, .int .u32 0]] V.drew fun x w' => ∃ v, x = .returned v ∧ (v = .int .i64 0 ∧ IsNet 67 base w' C (some ⟨g, 0, none⟩) (len - 1) cap (R.take i ++ R.drop (i + 1)) ∧ Moved V.drew w' C (some ⟨g, 0, none⟩) (some ⟨g, 0, none⟩))) := by
    have NV := h.kept0 KV.out.drew
    refine become0 C (some ⟨g, 0, none⟩) len cap V.drew i 0 0 (fun v w' => v = .int .i64 0 ∧ IsNet 67 base w' C (some ⟨g, 0, none⟩) (len - 1) cap (R.take i ++ R.drop (i + 1)) ∧ Moved V.drew w' C (some ⟨g, 0, none⟩) (some ⟨g, 0, none⟩)) NV.cell HI.out (fun W K => ?_)
    refine (drop base C (some ⟨g, 0, none⟩) len cap R W (NV.kept0 K) i hi 0 0).mono ?_
    rintro x w' ⟨rfl, n, m⟩
    exact ⟨_, rfl, rfl, n, (Moved.of_below (below_kept K) C (some ⟨g, 0, none⟩)).trans m⟩
  unfold maxLen at hr2
  clear h H2 hW hW1 hV z1 he he' v1 v2 b1 b2 KW
  go_enter Try.func12, Try.ntmps12
  go_wp2_with fail
  rw [← EW.out]
  refine (has C (some ⟨g, 0, none⟩) len cap i W cC).mono ?_
  rw [HI.out]
  rintro x w1 ⟨rfl, rfl⟩
  go_upto_region 4 with fail
  rw [← EV.out]
  go_region_law
    (first
      | (refine step_call _ (by rfl) 28 [.tmp 18, .const (.int .i64 0), .tmp 19, .tmp 20] _ (by rfl) [.pointer (some ⟨C, 0, none⟩), .int .i64 0, .int .i64 (i : Int), .agg #[.int .i64 0, .int .u32 0]] (by rfl) (enter28 _ _) (BC.out.mono ?_); rintro x w3 ⟨_, rfl, rfl, n3, m3⟩; refine ⟨_, rfl, ?_⟩
         have B2 := VB.out.2.kept (m3.kept) (far_of lC lg (Nat.le_succ _))
         have B1 := VB.out.1.kept (m3.kept) (far_of lC lg (Nat.le_refl _))
         obtain ⟨y1, y2, y3, y4, y5, y6, yf⟩ := cell6 _ _ _ _ _ _ _ _ B2
         obtain ⟨t1, t2, t3, t4, t5, t6, tf⟩ := cell6 _ _ _ _ _ _ _ _ B1
         have F3 : Hid (IsNet 67 base w3 C (some ⟨g, 0, none⟩) (len - 1) cap (R.take i ++ R.drop (i + 1)) ∧ Moved V.drew w3 C (some ⟨g, 0, none⟩) (some ⟨g, 0, none⟩) ∧ Box w3 w.heap.size (.int .i64 0) (.int .i64 0) (.int .i64 0) (.int .i64 0) (.slice none 0 0) (.bool false)) := ⟨n3, m3, B1⟩
         clear n3 m3 B1 B2)
      | fail)
  all_goals go_wp2_with fail
  all_goals (try simp only [Exit.inBlock, Exit.then])
  all_goals refine bodyPost_ret (results_pk_tmp rfl _ _ w.heap.size _ _ _ _ _ _ rfl (F3.out.2.2.set _ _ _ _ _ _)) rfl ⟨rfl, ?_⟩
  all_goals exact taken_out KV.out F3.out.1 F3.out.2.1 F3.out.2.2 lC lg _ _ _ _ _ _
set_option maxRecDepth 100000 in
/-- Take of one that is not there. -/
theorem take_none (C : Nat) (q : Option Addr) (len cap : Nat) (i : Int) (w : World) (c0 : w.cell? ⟨C, 0, none⟩ = some (.slice q len cap)) (hi : hasI i len = false) :
    Calls Try.prog 12 #[.pointer (some ⟨C, 0, none⟩), .int .i64 i] w fun x w' => x = .returned (.tuple #[.agg #[.int .i64 0, .int .i64 0, .int .i64 0, .int .i64 0, .slice none 0 0, .bool false], .int .i64 50]) ∧ Kept (fun _ => False) w w' := by
  obtain ⟨W1, hW1⟩ : ∃ W1, W1 = w.alloc (.cells #[.int .i64 0, .int .i64 0, .int .i64 0, .int .i64 0, .slice none 0 0, .bool false] 39) := ⟨_, rfl⟩
  obtain ⟨W, hW⟩ : ∃ W, W = W1.alloc (.cells #[.int .i64 0, .int .i64 0, .int .i64 0, .int .i64 0, .slice none 0 0, .bool false] 39) := ⟨_, rfl⟩
  have z1 : W1.heap.size = w.heap.size + 1 := by rw [hW1]; exact alloc_size _ _
  have KW : Hid (Kept (fun _ => False) w W) := by show Kept _ w W; rw [hW, hW1]; exact ((Kept.refl _ w).alloc _).alloc _
  have b1 : Box W w.heap.size (.int .i64 0) (.int .i64 0) (.int .i64 0) (.int .i64 0) (.slice none 0 0) (.bool false) := by unfold Box; rw [hW]; exact alloc_old _ (by rw [hW1]; exact alloc_new _ _)
  have b2 : Box W (w.heap.size + 1) (.int .i64 0) (.int .i64 0) (.int .i64 0) (.int .i64 0) (.slice none 0 0) (.bool false) := by unfold Box; rw [hW, ← z1]; exact alloc_new _ _
  have cC := KW.out.cell c0 (fun q => q)
  have VB : Hid (Box W.drew w.heap.size (.int .i64 0) (.int .i64 0) (.int .i64 0) (.int .i64 0) (.slice none 0 0) (.bool false) ∧ Box W.drew (w.heap.size + 1) (.int .i64 0) (.int .i64 0) (.int .i64 0) (.int .i64 0) (.slice none 0 0) (.bool false)) := ⟨b1, b2⟩
  obtain ⟨e1, e2, e3, e4, e5, e6, ef⟩ := cell6 _ _ _ _ _ _ _ _ b2
  have EW : Hid (W = (w.alloc (.cells #[.int .i64 0, .int .i64 0, .int .i64 0, .int .i64 0, .slice none 0 0, .bool false] 39)).alloc (.cells #[.int .i64 0, .int .i64 0, .int .i64 0, .int .i64 0, .slice none 0 0, .bool false] 39)) := by show W = _; rw [hW, hW1]
  have BC : Hid (Calls Try.prog 28 #[.pointer (some ⟨C, 0, none⟩), .int .i64 0, .int .i64 i, .agg #[.int .i64 0, .int .u32 0]] W.drew fun x w' => x = .returned (.int .i64 50) ∧ Kept (fun _ => False) W.drew w') := become_none C q len cap W.drew 0 i 0 0 cC hi
  clear hW hW1 z1 b1 b2
  go_enter Try.func12, Try.ntmps12
  go_wp2_with fail
  rw [← EW.out]
  refine (has C q len cap i W cC).mono ?_
  rw [hi]
  rintro x w1 ⟨rfl, rfl⟩
  go_upto_region 4 with fail
  go_region_law
    (first
      | (refine step_call _ (by rfl) 28 [.tmp 18, .const (.int .i64 0), .tmp 19, .tmp 20] _ (by rfl) [.pointer (some ⟨C, 0, none⟩), .int .i64 0, .int .i64 i, .agg #[.int .i64 0, .int .u32 0]] (by rfl) (enter28 _ _) (BC.out.mono ?_); rintro x w3 ⟨rfl, K3⟩; refine ⟨_, rfl, ?_⟩
         obtain ⟨y1, y2, y3, y4, y5, y6, yf⟩ := cell6 _ _ _ _ _ _ _ _ (VB.out.2.kept K3 (fun q => q))
         obtain ⟨t1, t2, t3, t4, t5, t6, tf⟩ := cell6 _ _ _ _ _ _ _ _ (VB.out.1.kept K3 (fun q => q))
         have F3 : Hid (Box w3 w.heap.size (.int .i64 0) (.int .i64 0) (.int .i64 0) (.int .i64 0) (.slice none 0 0) (.bool false) ∧ Kept (fun _ => False) w w3) := ⟨VB.out.1.kept K3 (fun q => q), KW.out.drew.trans K3 (fun _ _ q => q)⟩
         clear K3)
      | fail)
  all_goals go_wp2_with fail
  all_goals (try simp only [Exit.inBlock, Exit.then])
  all_goals exact bodyPost_ret (results_pk_tmp rfl _ _ w.heap.size _ _ _ _ _ _ rfl (F3.out.1.set _ _ _ _ _ _)) rfl ⟨rfl, F3.out.2.set6 (by omega) _ _ _ _ _ _⟩
set_option maxRecDepth 100000 in
theorem take_nil (i : Int) (w : World) :
    Calls Try.prog 12 #[.pointer none, .int .i64 i] w fun x w' => x = .returned (.tuple #[.agg #[.int .i64 0, .int .i64 0, .int .i64 0, .int .i64 0, .slice none 0 0, .bool false], .int .i64 0]) ∧ Kept (fun _ => False) w w' := by
  obtain ⟨W1, hW1⟩ : ∃ W1, W1 = w.alloc (.cells #[.int .i64 0, .int .i64 0, .int .i64 0, .int .i64 0, .slice none 0 0, .bool false] 39) := ⟨_, rfl⟩
  obtain ⟨W, hW⟩ : ∃ W, W = W1.alloc (.cells #[.int .i64 0, .int .i64 0, .int .i64 0, .int .i64 0, .slice none 0 0, .bool false] 39) := ⟨_, rfl⟩
  have z1 : W1.heap.size = w.heap.size + 1 := by rw [hW1]; exact alloc_size _ _
  have KW : Hid (Kept (fun _ => False) w W) := by show Kept _ w W; rw [hW, hW1]; exact ((Kept.refl _ w).alloc _).alloc _
  have b1 : Box W w.heap.size (.int .i64 0) (.int .i64 0) (.int .i64 0) (.int .i64 0) (.slice none 0 0) (.bool false) := by unfold Box; rw [hW]; exact alloc_old _ (by rw [hW1]; exact alloc_new _ _)
  have b2 : Box W (w.heap.size + 1) (.int .i64 0) (.int .i64 0) (.int .i64 0) (.int .i64 0) (.slice none 0 0) (.bool false) := by unfold Box; rw [hW, ← z1]; exact alloc_new _ _
  have VB : Hid (Box W.drew w.heap.size (.int .i64 0) (.int .i64 0) (.int .i64 0) (.int .i64 0) (.slice none 0 0) (.bool false) ∧ Box W.drew (w.heap.size + 1) (.int .i64 0) (.int .i64 0) (.int .i64 0) (.int .i64 0) (.slice none 0 0) (.bool false)) := ⟨b1, b2⟩
  obtain ⟨e1, e2, e3, e4, e5, e6, ef⟩ := cell6 _ _ _ _ _ _ _ _ b2
  have EW : Hid (W = (w.alloc (.cells #[.int .i64 0, .int .i64 0, .int .i64 0, .int .i64 0, .slice none 0 0, .bool false] 39)).alloc (.cells #[.int .i64 0, .int .i64 0, .int .i64 0, .int .i64 0, .slice none 0 0, .bool false] 39)) := by show W = _; rw [hW, hW1]
  have BC : Hid (Calls Try.prog 28 #[.pointer none, .int .i64 0, .int .i64 i, .agg #[.int .i64 0, .int .u32 0]] W.drew fun x w' => x = .returned (.int .i64 0) ∧ Kept (fun _ => False) W.drew w') := become_nil W.drew 0 i 0 0
  clear hW hW1 z1 b1 b2
  go_enter Try.func12, Try.ntmps12
  go_wp2_with fail
  rw [← EW.out]
  refine (has_nil i W).mono ?_
  rintro x w1 ⟨rfl, rfl⟩
  go_upto_region 4 with fail
  go_region_law
    (first
      | (refine step_call _ (by rfl) 28 [.tmp 18, .const (.int .i64 0), .tmp 19, .tmp 20] _ (by rfl) [.pointer none, .int .i64 0, .int .i64 i, .agg #[.int .i64 0, .int .u32 0]] (by rfl) (enter28 _ _) (BC.out.mono ?_); rintro x w3 ⟨rfl, K3⟩; refine ⟨_, rfl, ?_⟩
         obtain ⟨y1, y2, y3, y4, y5, y6, yf⟩ := cell6 _ _ _ _ _ _ _ _ (VB.out.2.kept K3 (fun q => q))
         obtain ⟨t1, t2, t3, t4, t5, t6, tf⟩ := cell6 _ _ _ _ _ _ _ _ (VB.out.1.kept K3 (fun q => q))
         have F3 : Hid (Box w3 w.heap.size (.int .i64 0) (.int .i64 0) (.int .i64 0) (.int .i64 0) (.slice none 0 0) (.bool false) ∧ Kept (fun _ => False) w w3) := ⟨VB.out.1.kept K3 (fun q => q), KW.out.drew.trans K3 (fun _ _ q => q)⟩
         clear K3)
      | fail)
  all_goals go_wp2_with fail
  all_goals (try simp only [Exit.inBlock, Exit.then])
  all_goals exact bodyPost_ret (results_pk_tmp rfl _ _ w.heap.size _ _ _ _ _ _ rfl (F3.out.1.set _ _ _ _ _ _)) rfl ⟨rfl, F3.out.2.set6 (by omega) _ _ _ _ _ _⟩
end Go.Proofs.Ytojfnehdanhgiaa
