import Derived.Test.YtbnnmelkbjkkjaaRefMJ
namespace Go.Proofs.Ytbnnmelkbjkkjaa
open Go.RowKit

theorem IsR.lasts0 {base B : Nat} {w w2 : World} {r : RK} {a : Option Addr} {n c : Nat} {l : List Nat} (h : IsR base w B r) (K : Kept (fun _ => False) w w2) (ho : w2.ownsRow w.heap.size 5 1 (.slice a n c) n (cellsOf l)) (hb : ∀ c ∈ l, c < 256) :
    IsR base (w2.setCell ⟨B, 0, none⟩ (.slice a n c)) B { r with s0 := { r.s0 with a := a, n := n, c := c, l := l } } ∧ (∀ k, RK.Uses { r with s0 := { r.s0 with a := a, n := n, c := c, l := l } } B k → r.Uses B k ∨ w.heap.size ≤ k) ∧ Kept (fun k => k = B) w (w2.setCell ⟨B, 0, none⟩ (.slice a n c)) := by
  have hBs := block_lt h.blk
  have hlow := h.low
  have K3 : Kept (fun k => k = B) w2 (w2.setCell ⟨B, 0, none⟩ (.slice a n c)) := (Kept.refl (fun k => k = B) w2).setCell (p := ⟨B, 0, none⟩) (fun _ => rfl) _
  have KA : Kept (fun k => k = B) w (w2.setCell ⟨B, 0, none⟩ (.slice a n c)) := (K.mono (fun _ _ z => z.elim)).trans K3 (fun _ _ z => z)
  have na : ∀ k, blockOf a = some k → w.heap.size ≤ k := fun k hk => (own_lt ho k hk).1
  have old := h.z0.off KA (fun k hk z => h.u0 (by rw [← z]; exact hk))
  have U' : ∀ k, RSl.Uses { r.s0 with a := a, n := n, c := c, l := l } k → r.s0.Uses k ∨ w.heap.size ≤ k := fun k hk => by
    rcases hk with z | z | z
    · exact .inr (na k z)
    · exact .inl (.inr (.inl z))
    · exact .inl (.inr (.inr z))
  have S' : IsRS base (w2.setCell ⟨B, 0, none⟩ (.slice a n c)) { r.s0 with a := a, n := n, c := c, l := l } := ⟨owns_mono (K3.owns ho (fun k hk z => by have z : k = B := z; have := na k (by rw [← hk]; exact (blockOf_own ..).symm); omega)) (by omega), hb, old.lown, old.good, old.far⟩
  have O' : IsRS base (w2.setCell ⟨B, 0, none⟩ (.slice a n c)) r.s1 := h.z1.off KA (fun k hk z => h.u1 (by rw [← z]; exact hk))
  refine ⟨⟨set_heap (K.get h.blk (fun z => z)) 0 _, h.low, S', O', fun z => ?_, h.u1, h.l01, fun k hk z => ?_, h.two⟩, fun k hk => ?_, KA⟩
  · rcases U' B z with q | q
    · exact h.u0 q
    · omega
  · rcases U' k z with q | q
    · exact h.l10 k hk q
    · have := (own_lt h.z1.lown k hk).2; omega
  · rcases hk with z | z | z
    · exact .inl (.inl z)
    · rcases U' k z with q | q
      · exact .inl (.inr (.inl q))
      · exact .inr q
    · exact .inl (.inr (.inr z))
theorem IsR.lasts1 {base B : Nat} {w w2 : World} {r : RK} {a : Option Addr} {n c : Nat} {l : List Nat} (h : IsR base w B r) (K : Kept (fun _ => False) w w2) (ho : w2.ownsRow w.heap.size 5 1 (.slice a n c) n (cellsOf l)) (hb : ∀ c ∈ l, c < 256) :
    IsR base (w2.setCell ⟨B, 1, none⟩ (.slice a n c)) B { r with s1 := { r.s1 with a := a, n := n, c := c, l := l } } ∧ (∀ k, RK.Uses { r with s1 := { r.s1 with a := a, n := n, c := c, l := l } } B k → r.Uses B k ∨ w.heap.size ≤ k) ∧ Kept (fun k => k = B) w (w2.setCell ⟨B, 1, none⟩ (.slice a n c)) := by
  have hBs := block_lt h.blk
  have hlow := h.low
  have K3 : Kept (fun k => k = B) w2 (w2.setCell ⟨B, 1, none⟩ (.slice a n c)) := (Kept.refl (fun k => k = B) w2).setCell (p := ⟨B, 1, none⟩) (fun _ => rfl) _
  have KA : Kept (fun k => k = B) w (w2.setCell ⟨B, 1, none⟩ (.slice a n c)) := (K.mono (fun _ _ z => z.elim)).trans K3 (fun _ _ z => z)
  have na : ∀ k, blockOf a = some k → w.heap.size ≤ k := fun k hk => (own_lt ho k hk).1
  have old := h.z1.off KA (fun k hk z => h.u1 (by rw [← z]; exact hk))
  have U' : ∀ k, RSl.Uses { r.s1 with a := a, n := n, c := c, l := l } k → r.s1.Uses k ∨ w.heap.size ≤ k := fun k hk => by
    rcases hk with z | z | z
    · exact .inr (na k z)
    · exact .inl (.inr (.inl z))
    · exact .inl (.inr (.inr z))
  have S' : IsRS base (w2.setCell ⟨B, 1, none⟩ (.slice a n c)) { r.s1 with a := a, n := n, c := c, l := l } := ⟨owns_mono (K3.owns ho (fun k hk z => by have z : k = B := z; have := na k (by rw [← hk]; exact (blockOf_own ..).symm); omega)) (by omega), hb, old.lown, old.good, old.far⟩
  have O' : IsRS base (w2.setCell ⟨B, 1, none⟩ (.slice a n c)) r.s0 := h.z0.off KA (fun k hk z => h.u0 (by rw [← z]; exact hk))
  refine ⟨⟨set_heap (K.get h.blk (fun z => z)) 1 _, h.low, O', S', h.u0, fun z => ?_, fun k hk z => ?_, h.l10, h.two⟩, fun k hk => ?_, KA⟩
  · rcases U' B z with q | q
    · exact h.u1 q
    · omega
  · rcases U' k z with q | q
    · exact h.l01 k hk q
    · have := (own_lt h.z0.lown k hk).2; omega
  · rcases hk with z | z | z
    · exact .inl (.inl z)
    · exact .inl (.inr (.inl z))
    · rcases U' k z with q | q
      · exact .inl (.inr (.inr q))
      · exact .inr q
/-- The document's disk that Load makes, slot by slot. -/
structure LR (F : Nat) (w wr : World) (r : RK) (l0 l1 : List Nat) (cur i : Nat) : Prop where
  is : IsR w.heap.size wr F r
  ab : r.ab = loadN l0 l1 cur i
  kept : Kept (fun _ => False) w wr
  near : ∀ k, r.Uses F k → w.heap.size ≤ k
theorem IsR.zero {base : Nat} {W : World} {F cur : Nat} (hb : W.heap[F]? = some (.cells #[.slice none 0 0, .slice none 0 0, .slice none 0 0, .slice none 0 0, .int .i64 (cur : Int), .int .i64 0, .int .i64 0, .bool false, .bool false] 82 (0, 0))) (hl : base ≤ F) (hc : cur < 2) : IsR base W F ⟨⟨none, 0, 0, [], none, 0, 0, []⟩, ⟨none, 0, 0, [], none, 0, 0, []⟩, cur, 0, 0, false, false⟩ := by
  have ze : IsRS base W ⟨none, 0, 0, [], none, 0, 0, []⟩ := ⟨World.ownsRow_nil _ _ _ _, fun c hc => by simp at hc, World.ownsRow_nil _ _ _ _, fun e he => by simp at he, fun k _ e he => by simp at he⟩
  have nu : ∀ k, ¬ RSl.Uses ⟨none, 0, 0, [], none, 0, 0, []⟩ k := fun k z => by
    rcases z with z | z | ⟨e, he, _⟩
    · simp [blockOf] at z
    · simp [blockOf] at z
    · simp at he
  exact ⟨hb, hl, ze, ze, nu _, nu _, fun k _ => nu k, fun k _ => nu k, hc⟩
theorem rzero_uses {F k cur acts : Nat} {dead done : Bool} {named : Int} (hk : RK.Uses ⟨⟨none, 0, 0, [], none, 0, 0, []⟩, ⟨none, 0, 0, [], none, 0, 0, []⟩, cur, acts, named, done, dead⟩ F k) : k = F := by
  rcases hk with z | z | z
  · exact z
  all_goals
    rcases z with z | z | ⟨e, he, _⟩
    · simp [blockOf] at z
    · simp [blockOf] at z
    · simp at he
theorem LR.step0 {F : Nat} {w wr w2 : World} {r : RK} {l0 l1 : List Nat} {cur : Nat} {a : Option Addr} {n c : Nat} (h : LR F w wr r l0 l1 cur 0) (o : w2.ownsRow wr.heap.size 5 1 (.slice a n c) n (cellsOf l0)) (hb : ∀ c ∈ l0, c < 256) (K : Kept (fun _ => False) wr w2) :
    LR F w (w2.setCell ⟨F, 0, none⟩ (.slice a n c)) { r with s0 := { r.s0 with a := a, n := n, c := c, l := l0 } } l0 l1 cur 1 := by
  obtain ⟨q1, q2, q3⟩ := h.is.lasts0 K o hb
  have e := h.ab
  have hF := h.near F (.inl rfl)
  refine ⟨q1, ?_, h.kept.trans q3 (fun k hk z => by have z : k = F := z; omega), fun k hk => ?_⟩
  · unfold RK.ab loadN at e ⊢
    simp at e ⊢
    exact e.2
  · rcases q2 k hk with z | z
    · exact h.near k z
    · have := h.kept.size; omega
theorem LR.step1 {F : Nat} {w wr w2 : World} {r : RK} {l0 l1 : List Nat} {cur : Nat} {a : Option Addr} {n c : Nat} (h : LR F w wr r l0 l1 cur 1) (o : w2.ownsRow wr.heap.size 5 1 (.slice a n c) n (cellsOf l1)) (hb : ∀ c ∈ l1, c < 256) (K : Kept (fun _ => False) wr w2) :
    LR F w (w2.setCell ⟨F, 1, none⟩ (.slice a n c)) { r with s1 := { r.s1 with a := a, n := n, c := c, l := l1 } } l0 l1 cur 2 := by
  obtain ⟨q1, q2, q3⟩ := h.is.lasts1 K o hb
  have e := h.ab
  have hF := h.near F (.inl rfl)
  refine ⟨q1, ?_, h.kept.trans q3 (fun k hk z => by have z : k = F := z; omega), fun k hk => ?_⟩
  · unfold RK.ab loadN at e ⊢
    simp at e ⊢
    exact ⟨e.1, e.2.1, e.2.2.2⟩
  · rcases q2 k hk with z | z
    · exact h.near k z
    · have := h.kept.size; omega
set_option maxRecDepth 100000 in
theorem rLoad_off (v0 v1 : Value) (h0 : ∃ a n c, v0 = .slice a n c) (h1 : ∃ a n c, v1 = .slice a n c) (cur : Int) (hc : ¬ (cur = 0 ∨ cur = 1)) (w : World) :
    Calls Try.prog 50 #[.agg #[v0, v1], .int .i64 cur] w fun x w' => x = .returned (.tuple #[.pointer none, .int .i64 61]) ∧ Kept (fun _ => False) w w' := by
  obtain ⟨a0, m0, c0, rfl⟩ := h0
  obtain ⟨a1, m1, c1, rfl⟩ := h1
  have n0 : (cur != 0) = true := by simp; omega
  have n1 : (cur != 1) = true := by simp; omega
  clear hc
  go_enter Try.func50, Try.ntmps50
  go_wp2_with fail
  go_ret2
  exact ⟨rfl, alloc_kept0 _ _⟩
set_option maxRecDepth 100000 in
theorem dLoad_off (v0 v1 : Value) (h0 : ∃ a n c, v0 = .slice a n c) (h1 : ∃ a n c, v1 = .slice a n c) (cur : Int) (hc : ¬ (cur = 0 ∨ cur = 1)) (w : World) :
    Calls Try.prog 9 #[.agg #[v0, v1], .int .i64 cur] w fun x w' => x = .returned (.tuple #[.pointer none, .int .i64 61]) ∧ Kept (fun _ => False) w w' := by
  obtain ⟨a0, m0, c0, rfl⟩ := h0
  obtain ⟨a1, m1, c1, rfl⟩ := h1
  have HC : Hid (decide (cur = 0 ∨ cur = 1) = false) := decide_eq_false hc
  clear hc
  go_enter Try.func9, Try.ntmps9
  go_wp2_with fail
  refine (isSlot cur _).mono ?_
  rintro x w1 ⟨rfl, rfl⟩
  rw [HC.out]
  go_wp2_with fail
  go_ret2
  exact ⟨rfl, alloc_kept0 _ _⟩
set_option maxRecDepth 100000 in
set_option maxHeartbeats 2000000 in
theorem rLoad (a0 : Option Addr) (n0 c0 : Nat) (l0 : List Nat) (a1 : Option Addr) (n1 c1 : Nat) (l1 : List Nat) (cur : Nat) (w : World) (r0 : Reads w a0 n0 c0 l0) (r1 : Reads w a1 n1 c1 l1) (h0 : n0 ≤ Lim) (h1 : n1 ≤ Lim) (hc : cur = 0 ∨ cur = 1) :
    Calls Try.prog 50 #[.agg #[.slice a0 n0 c0, .slice a1 n1 c1], .int .i64 (cur : Int)] w fun x w' => ∃ r, x = .returned (.tuple #[.pointer (some ⟨w.heap.size + 1, 0, none⟩), .int .i64 0]) ∧ IsR w.heap.size w' (w.heap.size + 1) r ∧ r.ab = ⟨l0, [], l1, [], cur, 0, false, 0, false⟩ ∧ Kept (fun _ => False) w w' ∧ (∀ k, r.Uses (w.heap.size + 1) k → w.heap.size ≤ k) := by
  have H : Hid (Reads w a0 n0 c0 l0 ∧ Reads w a1 n1 c1 l1 ∧ n0 ≤ 140737488355328 ∧ n1 ≤ 140737488355328) := ⟨r0, r1, by unfold Lim at h0; omega, by unfold Lim at h1; omega⟩
  obtain ⟨W, hW⟩ : ∃ W, W = (w.alloc (.cells #[.slice a0 n0 c0, .slice a1 n1 c1] 32)).alloc (.cells #[.slice none 0 0, .slice none 0 0, .slice none 0 0, .slice none 0 0, .int .i64 (cur : Int), .int .i64 0, .int .i64 0, .bool false, .bool false] 82) := ⟨_, rfl⟩
  have EW : Hid (W = (w.alloc (.cells #[.slice a0 n0 c0, .slice a1 n1 c1] 32)).alloc (.cells #[.slice none 0 0, .slice none 0 0, .slice none 0 0, .slice none 0 0, .int .i64 (cur : Int), .int .i64 0, .int .i64 0, .bool false, .bool false] 82)) := hW
  have bx : W.heap[w.heap.size]? = some (.cells #[.slice a0 n0 c0, .slice a1 n1 c1] 32 (0, 0)) := by rw [hW]; exact get_alloc (alloc_new _ _)
  have bd : W.heap[w.heap.size + 1]? = some (.cells #[.slice none 0 0, .slice none 0 0, .slice none 0 0, .slice none 0 0, .int .i64 (cur : Int), .int .i64 0, .int .i64 0, .bool false, .bool false] 82 (0, 0)) := by rw [hW]; exact alloc_new2 _ _ _ _
  have KW : Kept (fun _ => False) w W := by rw [hW]; exact (alloc_kept0 _ _).alloc _
  have S0 : Hid (LR (w.heap.size + 1) w W ⟨⟨none, 0, 0, [], none, 0, 0, []⟩, ⟨none, 0, 0, [], none, 0, 0, []⟩, cur, 0, 0, false, false⟩ l0 l1 cur 0 ∧ W.heap[w.heap.size]? = some (.cells #[.slice a0 n0 c0, .slice a1 n1 c1] 32 (0, 0))) := ⟨⟨IsR.zero bd (by omega) (by omega), rfl, KW, fun k hk => by rw [rzero_uses hk]; omega⟩, bx⟩
  clear r0 r1 h0 h1 hW bx bd KW
  obtain ⟨ci, hci⟩ : ∃ ci : Int, (cur : Int) = ci := ⟨_, rfl⟩
  rw [hci]
  rw [hci] at EW
  have hc2 : ci = 0 ∨ ci = 1 := by omega
  clear hci hc
  have nb1 : ¬ w.heap.size = w.heap.size + 1 := by omega
  have nb2 : ¬ w.heap.size + 1 = w.heap.size := by omega
  rcases hc2 with rfl | rfl
  · go_enter Try.func50, Try.ntmps50
    go_upto_region 4 with fail
    rw [← EW.out]
    go_wp2_with fail
    go_loopw [7] (fun x wr => ∃ (i : Nat) (r : RK), x = .int .i64 (i : Int) ∧ i ≤ 2 ∧ Hid (LR (w.heap.size + 1) w wr r l0 l1 cur i ∧ wr.heap[w.heap.size]? = some (.cells #[.slice a0 n0 c0, .slice a1 n1 c1] 32 (0, 0)))) (fun x _ => 2 - (intOf x).toNat)
    case atStart => exact ⟨0, _, rfl, Nat.zero_le _, S0.out⟩
    case round =>
      obtain ⟨i, r, rfl, hi, S⟩ := hrel
      match i, hi with
      | 0, _ =>
        have g0 : wr.cell? ⟨w.heap.size, 0, none⟩ = some (.slice a0 n0 c0) := cell_blk S.out.2 0 rfl
        have KD : Hid (Kept (fun _ => False) wr wr.drew) := (Kept.refl (fun _ => False) wr).drew
        rw [show (((0 : Nat) : Int)) = 0 from rfl]
        go_wp2_with fail
        go_region_held3 (fun w' => w'.cell? ⟨w.heap.size, 0, none⟩ = some (.slice a0 n0 c0)) (first | go_keep)
          (first
            | (go_at_call 68; refine (laid a0 n0 c0 l0 none 0 0 [] wr.drew ((H.out.1.kept' S.out.1.kept (fun _ _ z => z)).kept' KD.out (fun _ _ z => z)) (Reads.nil _) (by have := H.out.2.2.1; omega)).mono ?_; rintro x w2 ⟨p2, k2, rfl, o2, K2⟩
               rw [Nat.add_zero] at o2 ⊢
               rw [List.append_nil] at o2
               have K02 : Kept (fun _ => False) wr w2 := KD.out.trans K2 (fun _ _ z => z)
               have Z : Hid (LR (w.heap.size + 1) w (w2.setCell ⟨w.heap.size + 1, 0, none⟩ (.slice p2 n0 k2)) { r with s0 := { r.s0 with a := p2, n := n0, c := k2, l := l0 } } l0 l1 cur 1 ∧ (w2.setCell ⟨w.heap.size + 1, 0, none⟩ (.slice p2 n0 k2)).heap[w.heap.size]? = some (.cells #[.slice a0 n0 c0, .slice a1 n1 c1] 32 (0, 0))) := ⟨S.out.1.step0 o2 H.out.1.bytes K02, by rw [set_other (b := w.heap.size + 1) (c := w.heap.size) 0 _ (by omega)]; exact K02.get S.out.2 (fun z => z)⟩
               have I2 := S.out.1.is.kept0 K02
               have e0 : w2.cell? ⟨w.heap.size + 1, 0, none⟩ = some (.slice r.s0.a r.s0.n r.s0.c) := I2.cell 0 rfl
               have e1 := I2.soft 0
               have e2 : w2.cell? ⟨w.heap.size, 0, none⟩ = some (.slice a0 n0 c0) := K02.cell g0 (fun z => z)
               clear o2 K2 K02 I2)
            | fail)
        go_wp2_with fail
        go_roundw
        case rel => exact ⟨1, _, by go_num, by omega, Z.out⟩
        case measure => simp [intOf]
      | 1, _ =>
        have g0 : wr.cell? ⟨w.heap.size, 1, none⟩ = some (.slice a1 n1 c1) := cell_blk S.out.2 1 rfl
        have KD : Hid (Kept (fun _ => False) wr wr.drew) := (Kept.refl (fun _ => False) wr).drew
        rw [show (((1 : Nat) : Int)) = 1 from rfl]
        go_wp2_with fail
        go_region_held3 (fun w' => w'.cell? ⟨w.heap.size, 1, none⟩ = some (.slice a1 n1 c1)) (first | go_keep)
          (first
            | (go_at_call 68; refine (laid a1 n1 c1 l1 none 0 0 [] wr.drew ((H.out.2.1.kept' S.out.1.kept (fun _ _ z => z)).kept' KD.out (fun _ _ z => z)) (Reads.nil _) (by have := H.out.2.2.2; omega)).mono ?_; rintro x w2 ⟨p2, k2, rfl, o2, K2⟩
               rw [Nat.add_zero] at o2 ⊢
               rw [List.append_nil] at o2
               have K02 : Kept (fun _ => False) wr w2 := KD.out.trans K2 (fun _ _ z => z)
               have Z : Hid (LR (w.heap.size + 1) w (w2.setCell ⟨w.heap.size + 1, 1, none⟩ (.slice p2 n1 k2)) { r with s1 := { r.s1 with a := p2, n := n1, c := k2, l := l1 } } l0 l1 cur 2 ∧ (w2.setCell ⟨w.heap.size + 1, 1, none⟩ (.slice p2 n1 k2)).heap[w.heap.size]? = some (.cells #[.slice a0 n0 c0, .slice a1 n1 c1] 32 (0, 0))) := ⟨S.out.1.step1 o2 H.out.2.1.bytes K02, by rw [set_other (b := w.heap.size + 1) (c := w.heap.size) 1 _ (by omega)]; exact K02.get S.out.2 (fun z => z)⟩
               have I2 := S.out.1.is.kept0 K02
               have e0 : w2.cell? ⟨w.heap.size + 1, 1, none⟩ = some (.slice r.s1.a r.s1.n r.s1.c) := I2.cell 1 rfl
               have e1 := I2.soft 1
               have e2 : w2.cell? ⟨w.heap.size, 1, none⟩ = some (.slice a1 n1 c1) := K02.cell g0 (fun z => z)
               clear o2 K2 K02 I2)
            | fail)
        go_wp2_with fail
        go_roundw
        case rel => exact ⟨2, _, by go_num, by omega, Z.out⟩
        case measure => simp [intOf]
      | 2, _ =>
        rw [show (((2 : Nat) : Int)) = 2 from rfl]
        go_wp2_with fail
        go_ret2
        exact ⟨r, rfl, S.out.1.is, S.out.1.ab, S.out.1.kept, S.out.1.near⟩
  · go_enter Try.func50, Try.ntmps50
    go_upto_region 4 with fail
    rw [← EW.out]
    go_wp2_with fail
    go_loopw [7] (fun x wr => ∃ (i : Nat) (r : RK), x = .int .i64 (i : Int) ∧ i ≤ 2 ∧ Hid (LR (w.heap.size + 1) w wr r l0 l1 cur i ∧ wr.heap[w.heap.size]? = some (.cells #[.slice a0 n0 c0, .slice a1 n1 c1] 32 (0, 0)))) (fun x _ => 2 - (intOf x).toNat)
    case atStart => exact ⟨0, _, rfl, Nat.zero_le _, S0.out⟩
    case round =>
      obtain ⟨i, r, rfl, hi, S⟩ := hrel
      match i, hi with
      | 0, _ =>
        have g0 : wr.cell? ⟨w.heap.size, 0, none⟩ = some (.slice a0 n0 c0) := cell_blk S.out.2 0 rfl
        have KD : Hid (Kept (fun _ => False) wr wr.drew) := (Kept.refl (fun _ => False) wr).drew
        rw [show (((0 : Nat) : Int)) = 0 from rfl]
        go_wp2_with fail
        go_region_held3 (fun w' => w'.cell? ⟨w.heap.size, 0, none⟩ = some (.slice a0 n0 c0)) (first | go_keep)
          (first
            | (go_at_call 68; refine (laid a0 n0 c0 l0 none 0 0 [] wr.drew ((H.out.1.kept' S.out.1.kept (fun _ _ z => z)).kept' KD.out (fun _ _ z => z)) (Reads.nil _) (by have := H.out.2.2.1; omega)).mono ?_; rintro x w2 ⟨p2, k2, rfl, o2, K2⟩
               rw [Nat.add_zero] at o2 ⊢
               rw [List.append_nil] at o2
               have K02 : Kept (fun _ => False) wr w2 := KD.out.trans K2 (fun _ _ z => z)
               have Z : Hid (LR (w.heap.size + 1) w (w2.setCell ⟨w.heap.size + 1, 0, none⟩ (.slice p2 n0 k2)) { r with s0 := { r.s0 with a := p2, n := n0, c := k2, l := l0 } } l0 l1 cur 1 ∧ (w2.setCell ⟨w.heap.size + 1, 0, none⟩ (.slice p2 n0 k2)).heap[w.heap.size]? = some (.cells #[.slice a0 n0 c0, .slice a1 n1 c1] 32 (0, 0))) := ⟨S.out.1.step0 o2 H.out.1.bytes K02, by rw [set_other (b := w.heap.size + 1) (c := w.heap.size) 0 _ (by omega)]; exact K02.get S.out.2 (fun z => z)⟩
               have I2 := S.out.1.is.kept0 K02
               have e0 : w2.cell? ⟨w.heap.size + 1, 0, none⟩ = some (.slice r.s0.a r.s0.n r.s0.c) := I2.cell 0 rfl
               have e1 := I2.soft 0
               have e2 : w2.cell? ⟨w.heap.size, 0, none⟩ = some (.slice a0 n0 c0) := K02.cell g0 (fun z => z)
               clear o2 K2 K02 I2)
            | fail)
        go_wp2_with fail
        go_roundw
        case rel => exact ⟨1, _, by go_num, by omega, Z.out⟩
        case measure => simp [intOf]
      | 1, _ =>
        have g0 : wr.cell? ⟨w.heap.size, 1, none⟩ = some (.slice a1 n1 c1) := cell_blk S.out.2 1 rfl
        have KD : Hid (Kept (fun _ => False) wr wr.drew) := (Kept.refl (fun _ => False) wr).drew
        rw [show (((1 : Nat) : Int)) = 1 from rfl]
        go_wp2_with fail
        go_region_held3 (fun w' => w'.cell? ⟨w.heap.size, 1, none⟩ = some (.slice a1 n1 c1)) (first | go_keep)
          (first
            | (go_at_call 68; refine (laid a1 n1 c1 l1 none 0 0 [] wr.drew ((H.out.2.1.kept' S.out.1.kept (fun _ _ z => z)).kept' KD.out (fun _ _ z => z)) (Reads.nil _) (by have := H.out.2.2.2; omega)).mono ?_; rintro x w2 ⟨p2, k2, rfl, o2, K2⟩
               rw [Nat.add_zero] at o2 ⊢
               rw [List.append_nil] at o2
               have K02 : Kept (fun _ => False) wr w2 := KD.out.trans K2 (fun _ _ z => z)
               have Z : Hid (LR (w.heap.size + 1) w (w2.setCell ⟨w.heap.size + 1, 1, none⟩ (.slice p2 n1 k2)) { r with s1 := { r.s1 with a := p2, n := n1, c := k2, l := l1 } } l0 l1 cur 2 ∧ (w2.setCell ⟨w.heap.size + 1, 1, none⟩ (.slice p2 n1 k2)).heap[w.heap.size]? = some (.cells #[.slice a0 n0 c0, .slice a1 n1 c1] 32 (0, 0))) := ⟨S.out.1.step1 o2 H.out.2.1.bytes K02, by rw [set_other (b := w.heap.size + 1) (c := w.heap.size) 1 _ (by omega)]; exact K02.get S.out.2 (fun z => z)⟩
               have I2 := S.out.1.is.kept0 K02
               have e0 : w2.cell? ⟨w.heap.size + 1, 1, none⟩ = some (.slice r.s1.a r.s1.n r.s1.c) := I2.cell 1 rfl
               have e1 := I2.soft 1
               have e2 : w2.cell? ⟨w.heap.size, 1, none⟩ = some (.slice a1 n1 c1) := K02.cell g0 (fun z => z)
               clear o2 K2 K02 I2)
            | fail)
        go_wp2_with fail
        go_roundw
        case rel => exact ⟨2, _, by go_num, by omega, Z.out⟩
        case measure => simp [intOf]
      | 2, _ =>
        rw [show (((2 : Nat) : Int)) = 2 from rfl]
        go_wp2_with fail
        go_ret2
        exact ⟨r, rfl, S.out.1.is, S.out.1.ab, S.out.1.kept, S.out.1.near⟩
end Go.Proofs.Ytbnnmelkbjkkjaa
