import Derived.Test.YtbnnmelkbjkkjaaCrash
namespace Go.Proofs.Ytbnnmelkbjkkjaa
open Go.RowKit

theorem src_two (w : World) (u v : Nat) (hu : u < 256) (hv : v < 256) : Src Try.prog 1 22 (.slice (some ⟨w.heap.size, 0, none⟩) 2 2) 2 (cellsOf [u, v]) (w.alloc (.cells #[.int .u8 (u : Int), .int .u8 (v : Int)] 5)) := by
  have o := made_bytes (Nat.le_refl w.heap.size) [u, v] (by simp) #[.int .u8 (u : Int), .int .u8 (v : Int)] rfl (alloc_new w (.cells #[.int .u8 (u : Int), .int .u8 (v : Int)] 5))
  obtain ⟨a, c, e, r, _⟩ := owns_reads o (fun c hc => by simp at hc; rcases hc with z | z <;> omega)
  simp at e
  obtain ⟨rfl, rfl⟩ := e
  exact r.src
set_option maxRecDepth 100000 in
set_option maxHeartbeats 1000000 in
theorem wide (a : Option Addr) (n c : Nat) (l : List Nat) (w : World) (r : Reads w a n c l) (hn : n ≤ Lim) :
    Calls Try.prog 10 #[.slice a n c] w fun x w' => ∃ p k, x = .returned (.slice p n k) ∧ w'.ownsRow w.heap.size 5 1 (.slice p (n + 2) k) (n + 2) (cellsOf (l ++ [193, 194])) ∧ Kept (fun _ => False) w w' := by
  have H : Hid (Reads w a n c l ∧ n ≤ Lim ∧ n ≤ 140737488355328 ∧ n + 2 ≤ 140737488355328) := ⟨r, hn, by unfold Lim at hn; omega, by unfold Lim at hn; omega⟩
  clear r hn
  go_enter Try.func10, Try.ntmps10
  go_wp2_with
    (first
      | (at_builtin; refine wpList_append_bytes _ rfl (.tmp 7) (.tmp 8) rfl w.heap.size (.slice p1 n c1) n l rfl X1.out.1 (.slice (some ⟨w1.heap.size, 0, none⟩) 2 2) 2 [193, 194] rfl (src_two w1 193 194 (by decide) (by decide)) H.out.2.2.2 X1.out.2.2 ?_; intro p2 c2 w2 ho hg hn
         have X2 : Hid (w2.ownsRow w.heap.size 5 1 (.slice p2 (n + 2) c2) (n + 2) (cellsOf (l ++ [193, 194])) ∧ Kept (fun _ => False) w w2) := ⟨ho.out, (X1.out.2.1.alloc _).grown hg.out (fun k hk z => by have := (X1.out.1.lt k z).1; omega)⟩
         have slc : ∀ V : World, (Instr.slice 22 (.slice p2 (n + 2) c2) none (some (.int .i64 (n : Int))) none).run Try.prog V = .ok (.slice p2 n c2) V := slice_to ho.out n (by omega)
         clear ho hg hn)
      | (at_builtin; refine wpList_append_bytes _ rfl (.tmp 4) (.tmp 5) rfl w.heap.size (.slice none 0 0) 0 [] rfl (World.ownsRow_nil _ _ _ _) (.slice a n c) n l rfl H.out.1.src (by rw [Nat.zero_add]; exact H.out.2.2.1) (Nat.le_refl _) ?_; intro p1 c1 w1 ho hg hn
         rw [Nat.zero_add] at ho ⊢
         rw [List.nil_append] at ho
         have X1 : Hid ((w1.alloc (.cells #[.int .u8 193, .int .u8 194] 5)).ownsRow w.heap.size 5 1 (.slice p1 n c1) n (cellsOf l) ∧ Kept (fun _ => False) w w1 ∧ w.heap.size ≤ (w1.alloc (.cells #[.int .u8 193, .int .u8 194] 5)).heap.size) := by
           have K : Kept (fun _ => False) w w1 := (Kept.refl (fun _ => False) w).grown hg.out (fun k _ z => by simp [Value.ownBlock] at z)
           have K2 := alloc_kept0 w1 (.cells #[.int .u8 193, .int .u8 194] 5)
           exact ⟨K2.owns ho.out (fun _ _ z => z), K, Nat.le_trans K.size K2.size⟩
         clear ho hg hn)
      | fail)
  go_ret
  exact ⟨p2, c2, rfl, X2.out⟩
set_option maxRecDepth 100000 in
theorem mod (x : Int) (m : Nat) (w : World) (hm : 0 < m) (hb : m < 4611686018427387904) : Calls Try.prog 16 #[.int .i64 x, .int .i64 (m : Int)] w fun y w' => y = .returned (.int .i64 (x % (m : Int))) ∧ w' = w := by
  have m0 : ¬ ((m : Int) = 0) := by omega
  have t1 := Int.tmod_lt_of_pos x (show (0 : Int) < (m : Int) by omega)
  have t2 : -(m : Int) < x.tmod (m : Int) := by
    rcases Int.le_total 0 x with h1 | h1
    · have := Int.tmod_nonneg (m : Int) h1; omega
    · have := Int.tmod_lt_of_pos (-x) (show (0 : Int) < (m : Int) by omega)
      rw [Int.neg_tmod] at this
      omega
  obtain ⟨t, ht⟩ : ∃ t, x.tmod (m : Int) = t := ⟨_, rfl⟩
  have em : x % (m : Int) = if t < 0 then t + (m : Int) else t := by
    rw [← ht, Int.tmod_eq_emod]
    have e1 := Int.emod_nonneg x (show (m : Int) ≠ 0 by omega)
    have e2 := Int.emod_lt_of_pos x (show (0 : Int) < (m : Int) by omega)
    have e3 : ((m : Int).natAbs : Int) = (m : Int) := by omega
    by_cases h1 : 0 ≤ x ∨ (m : Int) ∣ x
    · rw [if_pos h1]
      rw [if_neg (by omega)]
      omega
    · rw [if_neg h1, e3, if_pos (by omega)]
      omega
  rw [ht] at t1 t2
  by_cases hneg : t < 0
  · rw [if_pos hneg] at em
    have wu : IntKind.i64.wrap (t + (m : Int)) = t + (m : Int) := by rw [IntKind.wrap_i64]; omega
    have E : Hid (x % (m : Int) = t + (m : Int)) := em
    clear em
    go_enter Try.func16, Try.ntmps16
    go_wp2_with fail
    go_ret
    exact ⟨by rw [E.out]; rfl, rfl⟩
  · rw [if_neg hneg] at em
    have E : Hid (x % (m : Int) = t) := em
    clear em
    go_enter Try.func16, Try.ntmps16
    go_wp2_with fail
    go_ret
    exact ⟨by rw [E.out]; rfl, rfl⟩
end Go.Proofs.Ytbnnmelkbjkkjaa

namespace Go.Proofs.Ytbnnmelkbjkkjaa
open Go.RowKit

theorem idx32_0 (a0 : Option Addr) (n0 c0 : Nat) (a1 : Option Addr) (n1 c1 : Nat) (V : World) : (Instr.index 32 (.agg #[.slice a0 n0 c0, .slice a1 n1 c1]) (.int .i64 0)).run Try.prog V = .ok (.slice a0 n0 c0) V := by kernel_rfl
theorem idx32_1 (a0 : Option Addr) (n0 c0 : Nat) (a1 : Option Addr) (n1 c1 : Nat) (V : World) : (Instr.index 32 (.agg #[.slice a0 n0 c0, .slice a1 n1 c1]) (.int .i64 1)).run Try.prog V = .ok (.slice a1 n1 c1) V := by kernel_rfl
def loadN (l0 l1 : List Nat) (cur i : Nat) : AB := ⟨if 1 ≤ i then l0 else [], [], if 2 ≤ i then l1 else [], [], cur, 0, false, 0, false⟩
structure LD (F : Nat) (w wr : World) (df : DK) (l0 l1 : List Nat) (cur i : Nat) : Prop where
  Fd : IsD w.heap.size wr F df
  kept : Kept (fun _ => False) w wr
  ab : df.ab = loadN l0 l1 cur i
  new : ∀ k, df.Uses F k → w.heap.size ≤ k
theorem LD.step0 {F : Nat} {w wr w2 : World} {df : DK} {l0 l1 : List Nat} {cur : Nat} {a : Option Addr} {n c : Nat} (h : LD F w wr df l0 l1 cur 0) (o : w2.ownsRow wr.heap.size 5 1 (.slice a n c) n (cellsOf l0)) (hb : ∀ c ∈ l0, c < 256) (K : Kept (fun _ => False) wr w2) :
    w2.heap[F]? = some (.cells df.cells 72 (0, 0)) ∧ LD F w (w2.setCell ⟨F, 0, none⟩ (.slice a n c)) { df with s0 := { df.s0 with a := a, n := n, c := c, l := l0 } } l0 l1 cur 1 := by
  have hF := h.Fd.kept0 K
  have hs := h.kept.size
  have hz : df.s0.L = [] := xs_nil (by have := congrArg AB.X0 h.ab; exact this)
  have F0 : w.heap.size ≤ F := h.new F (.inl rfl)
  have KF : Kept (fun k => k = F) w2 (w2.setCell ⟨F, 0, none⟩ (.slice a n c)) := (Kept.refl (fun k => k = F) w2).setCell (p := ⟨F, 0, none⟩) (fun _ => rfl) _
  have la : ∀ k, blockOf a = some k → wr.heap.size ≤ k := fun k hk => (own_lt o k hk).1
  refine ⟨hF.blk, hF.lasts0 hz (owns_mono o hs) hb (fun k hk z => ?_), (h.kept.trans K (fun _ _ z => z)).trans KF (fun k hk z => by have z : k = F := z; omega), ?_, fun k hk => ?_⟩
  · have := h.Fd.lt z
    have := la k hk
    omega
  · have e1 := h.ab
    have e0 := congrArg AB.l1 e1
    have ex0 := congrArg AB.X0 e1
    have ex1 := congrArg AB.X1 e1
    have ec := congrArg AB.cur e1
    have ea := congrArg AB.acts e1
    have ed := congrArg AB.dead e1
    have en := congrArg AB.named e1
    have eo := congrArg AB.done e1
    simp only [DK.ab, loadN] at e0 ex0 ex1 ec ea ed en eo ⊢
    simp [SL.xs] at ex0 ex1
    simp [e0, ex0, ex1, ec, ea, ed, en, eo, SL.xs]
  · have cs' : blockOf a = some k ∨ df.Uses F k := by
      rcases hk with z | z | z
      · exact .inr (.inl z)
      · rcases z with z | z | ⟨e, he, z⟩
        · exact .inl z
        · exact .inr (.inr (.inl (.inr (.inl z))))
        · exact .inr (.inr (.inl (.inr (.inr ⟨e, he, z⟩))))
      · exact .inr (.inr (.inr z))
    rcases cs' with z | z
    · have q1 := la k z
      omega
    · exact h.new k z
theorem LD.step1 {F : Nat} {w wr w2 : World} {df : DK} {l0 l1 : List Nat} {cur : Nat} {a : Option Addr} {n c : Nat} (h : LD F w wr df l0 l1 cur 1) (o : w2.ownsRow wr.heap.size 5 1 (.slice a n c) n (cellsOf l1)) (hb : ∀ c ∈ l1, c < 256) (K : Kept (fun _ => False) wr w2) :
    w2.heap[F]? = some (.cells df.cells 72 (0, 0)) ∧ LD F w (w2.setCell ⟨F, 2, none⟩ (.slice a n c)) { df with s1 := { df.s1 with a := a, n := n, c := c, l := l1 } } l0 l1 cur 2 := by
  have hF := h.Fd.kept0 K
  have hs := h.kept.size
  have hz : df.s1.L = [] := xs_nil (by have := congrArg AB.X1 h.ab; exact this)
  have F0 : w.heap.size ≤ F := h.new F (.inl rfl)
  have KF : Kept (fun k => k = F) w2 (w2.setCell ⟨F, 2, none⟩ (.slice a n c)) := (Kept.refl (fun k => k = F) w2).setCell (p := ⟨F, 2, none⟩) (fun _ => rfl) _
  have la : ∀ k, blockOf a = some k → wr.heap.size ≤ k := fun k hk => (own_lt o k hk).1
  refine ⟨hF.blk, hF.lasts1 hz (owns_mono o hs) hb (fun k hk z => ?_), (h.kept.trans K (fun _ _ z => z)).trans KF (fun k hk z => by have z : k = F := z; omega), ?_, fun k hk => ?_⟩
  · have := h.Fd.lt z
    have := la k hk
    omega
  · have e1 := h.ab
    have e0 := congrArg AB.l0 e1
    have ex0 := congrArg AB.X0 e1
    have ex1 := congrArg AB.X1 e1
    have ec := congrArg AB.cur e1
    have ea := congrArg AB.acts e1
    have ed := congrArg AB.dead e1
    have en := congrArg AB.named e1
    have eo := congrArg AB.done e1
    simp only [DK.ab, loadN] at e0 ex0 ex1 ec ea ed en eo ⊢
    simp [SL.xs] at ex0 ex1
    simp [e0, ex0, ex1, ec, ea, ed, en, eo, SL.xs]
  · have cs' : blockOf a = some k ∨ df.Uses F k := by
      rcases hk with z | z | z
      · exact .inr (.inl z)
      · exact .inr (.inr (.inl z))
      · rcases z with z | z | ⟨e, he, z⟩
        · exact .inl z
        · exact .inr (.inr (.inr (.inr (.inl z))))
        · exact .inr (.inr (.inr (.inr (.inr ⟨e, he, z⟩))))
    rcases cs' with z | z
    · have q1 := la k z
      omega
    · exact h.new k z
set_option maxRecDepth 100000 in
set_option maxHeartbeats 2000000 in
theorem dLoad (a0 : Option Addr) (n0 c0 : Nat) (l0 : List Nat) (a1 : Option Addr) (n1 c1 : Nat) (l1 : List Nat) (cur : Nat) (w : World) (r0 : Reads w a0 n0 c0 l0) (r1 : Reads w a1 n1 c1 l1) (h0 : n0 ≤ Lim) (h1 : n1 ≤ Lim) (hc : cur < 2) :
    Calls Try.prog 9 #[.agg #[.slice a0 n0 c0, .slice a1 n1 c1], .int .i64 (cur : Int)] w fun x w' => ∃ df, x = .returned (.tuple #[.pointer (some ⟨w.heap.size + 1, 0, none⟩), .int .i64 0]) ∧ IsD w.heap.size w' (w.heap.size + 1) df ∧ df.ab = ⟨l0, [], l1, [], cur, 0, false, 0, false⟩ ∧ Kept (fun _ => False) w w' ∧ (∀ k, df.Uses (w.heap.size + 1) k → w.heap.size ≤ k) := by
  have H : Hid (Reads w a0 n0 c0 l0 ∧ Reads w a1 n1 c1 l1 ∧ n0 ≤ 140737488355328 ∧ n1 ≤ 140737488355328) := ⟨r0, r1, by unfold Lim at h0; omega, by unfold Lim at h1; omega⟩
  obtain ⟨W, hW⟩ : ∃ W, W = w.alloc (.cells #[.slice a0 n0 c0, .slice a1 n1 c1] 32) := ⟨_, rfl⟩
  have EW : Hid (W = w.alloc (.cells #[.slice a0 n0 c0, .slice a1 n1 c1] 32)) := hW
  have bx : W.heap[w.heap.size]? = some (.cells #[.slice a0 n0 c0, .slice a1 n1 c1] 32 (0, 0)) := by rw [hW]; exact alloc_new _ _
  have wz : W.heap.size = w.heap.size + 1 := by rw [hW]; exact alloc_size _ _
  have x0 := cell_blk bx 0 rfl
  have x1 := cell_blk bx 1 rfl
  have ST : Hid (∃ df, LD (w.heap.size + 1) w (W.alloc (.cells #[.slice none 0 0, .slice none 0 0, .slice none 0 0, .slice none 0 0, .int .i64 (cur : Int), .int .i64 0, .bool false, .int .i64 0, .bool false] 72)) df l0 l1 cur 0) := by
    have K : Kept (fun _ => False) w (W.alloc (.cells #[.slice none 0 0, .slice none 0 0, .slice none 0 0, .slice none 0 0, .int .i64 (cur : Int), .int .i64 0, .bool false, .int .i64 0, .bool false] 72)) := by
      refine Kept.alloc ?_ _
      rw [hW]
      exact alloc_kept0 _ _
    refine ⟨⟨⟨none, 0, 0, [], none, 0, 0, []⟩, ⟨none, 0, 0, [], none, 0, 0, []⟩, cur, 0, false, 0, false⟩, IsD.zero (by rw [← wz]; exact alloc_new _ _) (by omega) hc, K, by simp [loadN, DK.ab, SL.xs], fun k hk => ?_⟩
    have := zero_uses hk
    omega
  have DC : Hid (decide ((cur : Int) = 0 ∨ (cur : Int) = 1) = true) := by show decide ((cur : Int) = 0 ∨ (cur : Int) = 1) = true; exact decide_eq_true (by omega)
  have bl : w.heap.size < W.heap.size := by omega
  clear r0 r1 h0 h1 hc hW bx
  go_enter Try.func9, Try.ntmps9
  go_wp2_with fail
  rw [← EW.out]
  refine (isSlot (cur : Int) W).mono ?_
  rintro x w1 ⟨rfl, rfl⟩
  rw [DC.out]
  go_wp2_with fail
  go_loopw [7, 8, 16] (fun _ _ x wr => ∃ (i : Nat) (df : DK), x = .int .i64 (i : Int) ∧ i ≤ 2 ∧ Hid (LD (w.heap.size + 1) w wr df l0 l1 cur i)) (fun _ _ x _ => 2 - (intOf x).toNat)
  case atStart =>
    obtain ⟨df, hdf⟩ := ST.out
    exact ⟨0, df, rfl, by omega, hdf⟩
  case round =>
    obtain ⟨i, df, rfl, hi, S⟩ := hrel
    by_cases h0 : i = 0
    · subst h0
      have i1 : ((0 : Nat) : Int) < 2 := by omega
      have ix := idx32_0 a0 n0 c0 a1 n1 c1
      have LC : Hid (Calls Try.prog 35 #[.slice a0 n0 c0] wr.drew fun x w' => ∃ a n c, x = .returned (.slice a n c) ∧ w'.heap[w.heap.size + 1]? = some (.cells df.cells 72 (0, 0)) ∧ ∃ df', LD (w.heap.size + 1) w (w'.setCell ⟨w.heap.size + 1, 0, none⟩ (.slice a n c)) df' l0 l1 cur 1) := by
        have KD : Kept (fun _ => False) wr wr.drew := (Kept.refl (fun _ => False) wr).drew
        refine (clone a0 n0 c0 l0 wr.drew (H.out.1.kept' (S.out.kept.trans KD (fun _ _ z => z)) (fun _ _ z => z)) H.out.2.2.1).mono ?_
        rintro x w2 ⟨p, k, rfl, o2, K2⟩
        obtain ⟨q1, q2⟩ := S.out.step0 o2 H.out.1.bytes (KD.trans K2 (fun _ _ z => z))
        exact ⟨p, n0, k, rfl, q1, _, q2⟩
      go_wp2_with fail
      go_region_held3 (fun _ => True) (first | trivial)
        (first
          | (go_at_call 35; refine LC.out.mono ?_; rintro x w2 ⟨a2, n2, c2, rfl, bk2, df2, cr2⟩
             have C2 : Hid (LD (w.heap.size + 1) w (w2.setCell ⟨w.heap.size + 1, 0, none⟩ (.slice a2 n2 c2)) df2 l0 l1 cur 1) := cr2
             have y0 : w2.cell? ⟨w.heap.size + 1, 0, none⟩ = some (.slice df.s0.a df.s0.n df.s0.c) := cell_blk bk2 0 rfl
             have f0 := soft_blk bk2 0
             clear bk2 cr2)
          | fail)
      all_goals go_wp2_with fail
      all_goals go_roundw
      all_goals first | exact ⟨1, df2, by go_num, by omega, C2.out⟩ | (simp [intOf]; done)
    by_cases h1 : i = 1
    · subst h1
      have i1 : ((1 : Nat) : Int) < 2 := by omega
      have ix := idx32_1 a0 n0 c0 a1 n1 c1
      have LC : Hid (Calls Try.prog 35 #[.slice a1 n1 c1] wr.drew fun x w' => ∃ a n c, x = .returned (.slice a n c) ∧ w'.heap[w.heap.size + 1]? = some (.cells df.cells 72 (0, 0)) ∧ ∃ df', LD (w.heap.size + 1) w (w'.setCell ⟨w.heap.size + 1, 2, none⟩ (.slice a n c)) df' l0 l1 cur 2) := by
        have KD : Kept (fun _ => False) wr wr.drew := (Kept.refl (fun _ => False) wr).drew
        refine (clone a1 n1 c1 l1 wr.drew (H.out.2.1.kept' (S.out.kept.trans KD (fun _ _ z => z)) (fun _ _ z => z)) H.out.2.2.2).mono ?_
        rintro x w2 ⟨p, k, rfl, o2, K2⟩
        obtain ⟨q1, q2⟩ := S.out.step1 o2 H.out.2.1.bytes (KD.trans K2 (fun _ _ z => z))
        exact ⟨p, n1, k, rfl, q1, _, q2⟩
      go_wp2_with fail
      go_region_held3 (fun _ => True) (first | trivial)
        (first
          | (go_at_call 35; refine LC.out.mono ?_; rintro x w2 ⟨a2, n2, c2, rfl, bk2, df2, cr2⟩
             have C2 : Hid (LD (w.heap.size + 1) w (w2.setCell ⟨w.heap.size + 1, 2, none⟩ (.slice a2 n2 c2)) df2 l0 l1 cur 2) := cr2
             have y0 : w2.cell? ⟨w.heap.size + 1, 2, none⟩ = some (.slice df.s1.a df.s1.n df.s1.c) := cell_blk bk2 2 rfl
             have f0 := soft_blk bk2 2
             clear bk2 cr2)
          | fail)
      all_goals go_wp2_with fail
      all_goals go_roundw
      all_goals first | exact ⟨2, df2, by go_num, by omega, C2.out⟩ | (simp [intOf]; done)
    have h2 : i = 2 := by omega
    subst h2
    have i1 : ¬ ((2 : Nat) : Int) < 2 := by omega
    go_wp2_with fail
    go_ret2
    exact ⟨rfl, df, S.out.Fd, S.out.ab, S.out.kept, S.out.new⟩
end Go.Proofs.Ytbnnmelkbjkkjaa
