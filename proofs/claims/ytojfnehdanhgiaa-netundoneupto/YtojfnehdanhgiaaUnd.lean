import Derived.Test.YtojfnehdanhgiaaUndC
import Derived.Deep.RegionHeldLaw
namespace Go.Proofs.Ytojfnehdanhgiaa
open Go.RowKit

theorem datas_src1 (w1 : World) (o : Obj) (v : Value) (hv : v.oneCell' = true) : Src Try.prog 1 22 (.slice (some ⟨w1.heap.size + 1, 0, none⟩) 1 1) 1 [v] ((w1.alloc o).alloc (.cells #[v] 30)) := by
  refine Src.ofSlice _ Try.underlying22 _ 1 1 _ rfl (fun j u hj => ?_) (fun u hu => by rw [List.mem_singleton.1 hu]; exact hv)
  have hlt := (List.getElem?_eq_some_iff.1 hj).1
  have e0 : j = 0 := by simp at hlt; omega
  subst e0
  simp at hj
  subst hj
  have := alloc_new (w1.alloc o) (.cells #[v] 30)
  rw [alloc_size] at this
  exact cell_blk this 0 rfl
theorem max0 (x : Int) (hx : x < 9223372036854775808) : ∃ k b : Nat, (if (0 : Int) > x then (0 : Int) else x) = (k : Int) ∧ (if x < 0 then (0 : Int) else x) = (k : Int) ∧ (k : Int) % 4000 = (b : Int) ∧ (k : Int).tmod 4000 = (b : Int) ∧ b < 4000 := by
  refine ⟨x.toNat, x.toNat % 4000, ?_, ?_, by omega, ?_, by omega⟩
  · split <;> omega
  · split <;> omega
  · rw [Int.tmod_eq_emod_of_nonneg (by omega)]; omega
theorem tm2 (X t r : Nat) (h : X / 2 ^ t % 2 = r) : ((X : Int) / 2 ^ t).tmod 2 = (r : Int) := by
  obtain ⟨Y, hY⟩ : ∃ Y, X / 2 ^ t = Y := ⟨_, rfl⟩
  have e : ((X : Int) / 2 ^ t) = (Y : Int) := by rw [← hY]; simp
  rw [hY] at h
  rw [e, Int.tmod_eq_emod_of_nonneg (Int.natCast_nonneg Y)]
  omega
theorem tm2B (X t : Nat) (c : Bool) (h : X / 2 ^ t % 2 = if c = true then 1 else 0) : (((X : Int) / 2 ^ t).tmod 2 == 1) = c := by
  rw [tm2 X t _ h]
  cases c <;> rfl
set_option maxRecDepth 100000 in
set_option maxHeartbeats 4000000 in
theorem netUndone (q : Option Addr) (n cap : Nat) (D : List Sli) (I bt sz : Int) (p7 p8 : Nat) (w : World) (hD : Datas w q n cap D) (hb : n + 300 ≤ Big) (h7 : p7 < 4294967296) (h8 : p8 < 4294967296) (_ : -9223372036854775808 ≤ I ∧ I < 9223372036854775808) (hbt : -9223372036854775808 ≤ bt ∧ bt < 9223372036854775808) (_ : -9223372036854775808 ≤ sz ∧ sz < 9223372036854775808) :
    Calls Try.prog 3 #[.slice q n cap, .agg #[.int .i64 I, .int .i64 bt, .int .u32 (p7 : Int), .int .u32 (p8 : Int), .int .i64 sz]] w fun x w' => x = .returned (.bool true) ∧ Kept (fun _ => False) w w' := by
  have HD : Hid (Datas w q n cap D ∧ n + 300 ≤ Big) := ⟨hD, hb⟩
  have hr := hD.room
  have hs := hD.small
  have hln := hD.length
  unfold maxLen at hs
  clear hD hb
  go_enter Try.func3, Try.ntmps3
  go_upto_region 1 with fail
  obtain ⟨W, hW⟩ : ∃ W, W = w.alloc (.cells #[.int .i64 I, .int .i64 bt, .int .u32 (p7 : Int), .int .u32 (p8 : Int), .int .i64 sz] 25) := ⟨_, rfl⟩
  rw [← hW]
  have bk : W.heap[w.heap.size]? = some (.cells #[.int .i64 I, .int .i64 bt, .int .u32 (p7 : Int), .int .u32 (p8 : Int), .int .i64 sz] 25 (0, 0)) := by rw [hW]; exact alloc_new _ _
  have b0 := cell_blk bk 0 rfl
  have b1 := cell_blk bk 1 rfl
  have b2 := cell_blk bk 2 rfl
  have b3 := cell_blk bk 3 rfl
  have b4 := cell_blk bk 4 rfl
  have S0 : Hid (Kept (fun _ => False) w W) := by rw [hW]; exact alloc_kept0 _ _
  clear bk hW
  go_quiet (fail)
  have KQ : Kept (fun _ => False) w (W.drewN nq) := S0.out.drewN nq
  have nB : n ≤ Big ∧ n + 1 ≤ Big := by have := HD.out.2; omega
  have P0 : Hid (((W.drewN nq).alloc (.cells #[] 30)).ownsRow w.heap.size 30 1 (.slice (some ⟨W.heap.size, 0, none⟩) 0 0) 0 (dcells []) ∧ Src Try.prog 1 22 (.slice q n cap) n (dcells D) ((W.drewN nq).alloc (.cells #[] 30)) ∧ Kept (fun _ => False) w ((W.drewN nq).alloc (.cells #[] 30)) ∧ w.heap.size ≤ W.heap.size ∧ n ≤ Big ∧ n + 1 ≤ Big) :=
    ⟨World.ownsRow_made (W.drewN nq) #[] 0 KQ.size (by unfold maxLen; omega) rfl, (HD.out.1.kept0 (KQ.alloc _)).src, KQ.alloc _, S0.out.size, nB⟩
  clear b0 b1 b2 b3 b4 nB KQ
  go_wp2_with
    (first
      | (at_builtin; refine wpList_append_all _ rfl (.tmp 38) (.tmp 40) 22 30 22 _ 1 24 rfl Try.underlying22 Try.info30 rfl w.heap.size (.slice p1 n c1) n (dcells D) rfl ((P1.out.2.1.alloc _).alloc _ |>.owns P1.out.1 (fun _ _ q => q)) (.slice (some ⟨w1.heap.size + 1, 0, none⟩) 1 1) 1 [.slice (some ⟨w1.heap.size, 0, none⟩) 3 3] rfl (datas_src1 _ _ _ rfl) (big_max P0.out.2.2.2.2.2) (big_wide24 P0.out.2.2.2.2.2) (((P1.out.2.2.alloc _).alloc _).size) ?_; intro p2 c2 w2 ho hg hn
         have P2 : Hid (Datas w2 p2 (n + 1) c2 (D ++ [⟨some ⟨w1.heap.size, 0, none⟩, 3, 3, [1, 2, 3]⟩]) ∧ Kept (fun _ => False) w w2) := datas_more (l := [1, 2, 3]) HD.out.1 (by decide) (by decide) P1.out.2.2 rfl P1.out.1 ho.out hg.out
         clear ho hg hn)
      | (at_builtin; refine wpList_append_all _ rfl (.tmp 36) (.tmp 37) 22 30 22 _ 1 24 rfl Try.underlying22 Try.info30 rfl w.heap.size (.slice (some ⟨W.heap.size, 0, none⟩) 0 0) 0 (dcells []) rfl P0.out.1 (.slice q n cap) n (dcells D) rfl P0.out.2.1 (by rw [Nat.zero_add]; exact big_max P0.out.2.2.2.2.1) (by rw [Nat.zero_add]; exact big_wide24 P0.out.2.2.2.2.1) P0.out.2.2.1.size ?_; intro p1 c1 w1 ho hg hn
         rw [Nat.zero_add] at ho ⊢
         have P1 : Hid (w1.ownsRow w.heap.size 30 1 (.slice p1 n c1) n (dcells D) ∧ Kept (fun _ => False) w1 w1 ∧ Kept (fun _ => False) w w1) := ⟨ho.out, Kept.refl _ _, P0.out.2.2.1.grown hg.out (fun j hj z => by simp [Value.ownBlock] at z; have := P0.out.2.2.2.1; omega)⟩
         clear ho hg hn)
      | fail)
  obtain ⟨m, hm⟩ : ∃ m, n + 1 = m := ⟨_, rfl⟩
  obtain ⟨D', hD'⟩ : ∃ D', D' = D ++ [(⟨some ⟨w1.heap.size, 0, none⟩, 3, 3, [1, 2, 3]⟩ : Sli)] := ⟨_, rfl⟩
  rw [hm] at P2 ⊢
  rw [← hD'] at P2
  have mB : Hid (m + 200 ≤ Big) := by have := HD.out.2; show m + 200 ≤ Big; omega
  clear hD' P0
  refine (flown p2 m c2 D' w2 P2.out.1 (Nat.le_trans (Nat.le_add_right _ _) mB.out)).mono ?_
  rintro x w3 ⟨C, g, p, c, R, rfl, F⟩
  obtain ⟨ps, hps⟩ : ∃ ps, ps = flownP D' := ⟨_, rfl⟩
  have pl : m = ps.length := by rw [hps, flownP_length, P2.out.1.length]
  rw [← hps] at F
  have S3 : Hid (US w2 w3 C g p c R ps ps ∧ m = ps.length ∧ Kept (fun _ => False) w w2) := ⟨F.us, pl, P2.out.2⟩
  have hmB : m ≤ 4611686018427387904 := by have := mB.out; unfold Big at this; omega
  have m0 : 0 < m := by omega
  clear F hps P2 pl HD S0
  have m1 : ¬ ((m : Int) = 0) := by omega
  obtain ⟨y, z, i, hy, hz, hq, hi⟩ := within I m m0 hmB
  obtain ⟨k, b, hk1, hk2, hb1, hb2, hb3⟩ := max0 bt hbt.2
  have HI : Hid (i < ps.length ∧ m = ps.length) := ⟨by rw [← S3.out.2.1]; exact hi, S3.out.2.1⟩
  obtain ⟨e, he⟩ : ∃ e, ps[i]? = some e := ⟨_, List.getElem?_eq_getElem HI.out.1⟩
  have HE : Hid (ps[i]? = some e) := he
  clear he
  go_wp2_with fail
  clear hk1 hk2 hb1 hb2 hbt hy hz hq
  refine (nDouble w2.heap.size C g ps i w3 S3.out.1.net S3.out.1.kept.size (by rw [← HI.out.2]; have := mB.out; omega)).mono ?_
  rintro x w4 ⟨v4, rfl, D4⟩
  rw [aDouble_at ps i e HE.out] at D4
  obtain ⟨rfl, g4, n4, m4⟩ := D4
  have S4 : Hid (US w2 w4 C g4 p c R ps (ps ++ [e])) := S3.out.1.moved m4 n4
  clear n4 m4
  have HQ : Hid (i < (ps ++ [e]).length ∧ (ps ++ [e]).length = m + 1 ∧ (ps ++ [e])[i]? = some e ∧ Kept (fun _ => False) w w2) := by
    have := HI.out.1
    have h2 := HI.out.2
    refine ⟨by rw [List.length_append]; omega, by rw [List.length_append, ← h2]; rfl, ?_, S3.out.2.2⟩
    rw [List.getElem?_append_left HI.out.1]
    exact HE.out
  clear S3
  go_wp2_with fail
  refine (nBurst w2.heap.size C g4 _ i b p7 w4 S4.out.net S4.out.kept.size (by omega) h7).mono ?_
  rintro x w5 ⟨v5, rfl, D5⟩
  rw [aBurst_at _ i b p7 HQ.out.1] at D5
  obtain ⟨rfl, g5, n5, m5⟩ := D5
  obtain ⟨M, hM⟩ : ∃ M, m + 1 = M := ⟨_, rfl⟩
  have wM : IntKind.i64.wrap ((m : Int) + 1) = (M : Int) := by rw [IntKind.wrap_i64]; omega
  obtain ⟨qs, hqs⟩ : ∃ qs, qs = upd (ps ++ [e]) i (fun p => { p with data := turned b p7 p.data }) := ⟨_, rfl⟩
  rw [← hqs] at n5
  have S5 : Hid (US w2 w5 C g5 p c R ps qs ∧ qs = upd (ps ++ [e]) i (fun p => { p with data := turned b p7 p.data }) ∧ qs.length = M ∧ qs.length ≤ Big ∧ qs[i]? = some { e with data := turned b p7 e.data } ∧ i < qs.length) := by
    have hl : qs.length = M := by rw [hqs, upd_length, ← hM]; exact HQ.out.2.1
    refine ⟨S4.out.moved m5 n5, hqs, hl, ?_, ?_, by omega⟩
    · have := mB.out; omega
    · rw [hqs]; exact (upd_get HQ.out.2.2.1 _).1
  clear n5 m5 S4 hqs
  go_wp2_with fail
  refine (flight_of w2.heap.size C g5 qs w5 S5.out.1.net S5.out.2.2.2.1).mono ?_
  rintro x w6 ⟨p6, c6, R6, rfl, hm6, L6, _, K6⟩
  rw [S5.out.2.2.1] at L6 ⊢
  have S6 : Hid (US w2 w6 C g5 p c R ps qs ∧ IsL w5.heap.size w6 p6 M c6 R6 ∧ R6.map Ent.p = qs) := ⟨S5.out.1.quiet K6, L6, hm6⟩
  clear L6 hm6 K6
  go_wp2_with fail
  refine (copy_of w2.heap.size C g5 qs w6 S6.out.1.net S5.out.2.2.2.1).mono ?_
  rintro x w7 ⟨C7, g7, rfl, n7, K7⟩
  have S7 : Hid (NetOf 67 w6.heap.size w7 C7 g7 qs ∧ Kept (fun _ => False) w6 w7) := ⟨n7, K7⟩
  clear n7 K7
  go_wp2_with fail
  refine (nBurst w6.heap.size C7 g7 qs i b p8 w7 S7.out.1 S7.out.2.size (by omega) h8).mono ?_
  rintro x w8 ⟨v8, rfl, D8⟩
  rw [aBurst_at _ i b p8 S5.out.2.2.2.2.2] at D8
  obtain ⟨rfl, g8, n8, m8⟩ := D8
  have S8 : Hid (NetOf 67 w6.heap.size w8 C7 g8 (upd qs i (fun p => { p with data := turned b p8 p.data })) ∧ Kept (fun _ => False) w6 w8 ∧ i < (upd qs i (fun p => { p with data := turned b p8 p.data })).length) := ⟨n8, m8.kept0 S7.out.1 (Nat.le_refl _) S7.out.2, by rw [upd_length]; exact S5.out.2.2.2.2.2⟩
  clear n8 m8 S7
  go_wp2_with fail
  refine (take_of w6.heap.size C7 g8 _ i S8.out.2.2 w8 S8.out.1).mono ?_
  rintro x w9 ⟨⟨P9, a9, l9, c9⟩, rfl, hp9, ge9, n9, m9⟩
  have hP9 : P9 = { e with data := turned b p8 (turned b p7 e.data) } := by
    have := (upd_get S5.out.2.2.2.2.1 (fun p => { p with data := turned b p8 p.data })).1
    rw [this] at hp9
    simpa using hp9.symm
  subst hP9
  have S9 : Hid (Kept (fun _ => False) w6 w9 ∧ Reads w9 a9 l9 c9 (turned b p8 (turned b p7 e.data))) := ⟨m9.kept0 S8.out.1 (Nat.le_refl _) S8.out.2.1, ge9.reads⟩
  clear n9 m9 hp9 ge9 S8
  obtain ⟨W9, hW9⟩ : ∃ W9, W9 = w9.alloc (.cells #[.int .i64 e.fk, .int .i64 e.fi, .int .i64 e.tk, .int .i64 e.ti, .slice a9 l9 c9, .bool e.lost] 39) := ⟨_, rfl⟩
  have T9 : Hid (Kept (fun _ => False) w6 W9 ∧ Reads W9 a9 l9 c9 (turned b p8 (turned b p7 e.data)) ∧ Box W9 w9.heap.size (.int .i64 e.fk) (.int .i64 e.fi) (.int .i64 e.tk) (.int .i64 e.ti) (.slice a9 l9 c9) (.bool e.lost)) := by
    have KW : Kept (fun _ => False) w9 W9 := by rw [hW9]; exact alloc_kept0 _ _
    exact ⟨S9.out.1.trans KW (fun _ _ q => q), S9.out.2.kept' KW (fun _ _ q => q), by unfold Box; rw [hW9]; exact alloc_new _ _⟩
  have EW9 : Hid (W9 = w9.alloc (.cells #[.int .i64 e.fk, .int .i64 e.fi, .int .i64 e.tk, .int .i64 e.ti, .slice a9 l9 c9, .bool e.lost] 39)) := hW9
  clear hW9 S9
  go_wp2_with fail
  rw [← EW9.out]
  refine (copy_of w2.heap.size C g5 qs W9 (S6.out.1.net.kept0 T9.out.1) S5.out.2.2.2.1).mono ?_
  rintro x w10 ⟨C10, g10, rfl, n10, K10⟩
  have S10 : Hid (NetOf 67 W9.heap.size w10 C10 g10 qs ∧ Kept (fun _ => False) W9 w10) := ⟨n10, K10⟩
  clear n10 K10
  obtain ⟨q1, hq1⟩ : ∃ q1, q1 = upd qs i (fun p => { p with data := turned b p7 p.data }) := ⟨_, rfl⟩
  obtain ⟨q2, hq2⟩ : ∃ q2, q2 = upd q1 i (fun p => { p with data := turned b p8 p.data }) := ⟨_, rfl⟩
  obtain ⟨q3, hq3⟩ : ∃ q3, q3 = upd q2 i (fun p => { p with data := turned b p7 p.data }) := ⟨_, rfl⟩
  have HQ3 : Hid (i < q1.length ∧ i < q2.length ∧ i < q3.length ∧ q3[i]? = some { e with data := turned b p7 (turned b p8 (turned b p7 (turned b p7 e.data))) }) := by
    have x1 := (upd_get S5.out.2.2.2.2.1 (fun p => { p with data := turned b p7 p.data })).1
    rw [← hq1] at x1
    have x2 := (upd_get x1 (fun p => { p with data := turned b p8 p.data })).1
    rw [← hq2] at x2
    have x3 := (upd_get x2 (fun p => { p with data := turned b p7 p.data })).1
    rw [← hq3] at x3
    exact ⟨(List.getElem?_eq_some_iff.1 x1).1, (List.getElem?_eq_some_iff.1 x2).1, (List.getElem?_eq_some_iff.1 x3).1, x3⟩
  have EQ : Hid (q1 = upd qs i (fun p => { p with data := turned b p7 p.data }) ∧ q2 = upd q1 i (fun p => { p with data := turned b p8 p.data }) ∧ q3 = upd q2 i (fun p => { p with data := turned b p7 p.data })) := ⟨hq1, hq2, hq3⟩
  clear hq1 hq2 hq3
  go_wp2_with fail
  refine (nBurst W9.heap.size C10 g10 qs i b p7 w10 S10.out.1 S10.out.2.size (by omega) h7).mono ?_
  rintro x w11 ⟨v, rfl, D5⟩
  rw [aBurst_at _ i b p7 S5.out.2.2.2.2.2, ← EQ.out.1] at D5
  obtain ⟨rfl, g11, n5, m5⟩ := D5
  have S11 : Hid (NetOf 67 W9.heap.size w11 C10 g11 q1 ∧ Kept (fun _ => False) W9 w11) := ⟨n5, m5.kept0 S10.out.1 (Nat.le_refl _) S10.out.2⟩
  clear n5 m5 S10
  go_wp2_with fail
  refine (nBurst W9.heap.size C10 g11 q1 i b p8 w11 S11.out.1 S11.out.2.size (by omega) h8).mono ?_
  rintro x w12 ⟨v, rfl, D5⟩
  rw [aBurst_at _ i b p8 HQ3.out.1, ← EQ.out.2.1] at D5
  obtain ⟨rfl, g12, n5, m5⟩ := D5
  have S12 : Hid (NetOf 67 W9.heap.size w12 C10 g12 q2 ∧ Kept (fun _ => False) W9 w12) := ⟨n5, m5.kept0 S11.out.1 (Nat.le_refl _) S11.out.2⟩
  clear n5 m5 S11
  go_wp2_with fail
  refine (nBurst W9.heap.size C10 g12 q2 i b p7 w12 S12.out.1 S12.out.2.size (by omega) h7).mono ?_
  rintro x w13 ⟨v, rfl, D5⟩
  rw [aBurst_at _ i b p7 HQ3.out.2.1, ← EQ.out.2.2] at D5
  obtain ⟨rfl, g13, n5, m5⟩ := D5
  have S13 : Hid (NetOf 67 W9.heap.size w13 C10 g13 q3 ∧ Kept (fun _ => False) W9 w13) := ⟨n5, m5.kept0 S12.out.1 (Nat.le_refl _) S12.out.2⟩
  clear n5 m5 S12
  go_wp2_with fail
  refine (take_of W9.heap.size C10 g13 q3 i HQ3.out.2.2.1 w13 S13.out.1).mono ?_
  rintro x w14 ⟨⟨P14, a14, l14, c14⟩, rfl, hp14, ge14, n14, m14⟩
  have hP14 : P14 = { e with data := turned b p7 (turned b p8 (turned b p7 (turned b p7 e.data))) } := by
    rw [HQ3.out.2.2.2] at hp14
    simpa using hp14.symm
  subst hP14
  have S14 : Hid (Kept (fun _ => False) W9 w14 ∧ Reads w14 a14 l14 c14 (turned b p8 (turned b p7 e.data))) := ⟨m14.kept0 S13.out.1 (Nat.le_refl _) S13.out.2, by have := ge14.reads; rw [← turned_mix] at this; exact this⟩
  clear n14 m14 hp14 ge14 S13 HQ3 EQ
  obtain ⟨W, hW⟩ : ∃ W, W = w14.alloc (.cells #[.int .i64 e.fk, .int .i64 e.fi, .int .i64 e.tk, .int .i64 e.ti, .slice a14 l14 c14, .bool e.lost] 39) := ⟨_, rfl⟩
  have T : Hid (Kept (fun _ => False) w6 W ∧ Reads W a9 l9 c9 (turned b p8 (turned b p7 e.data)) ∧ Reads W a14 l14 c14 (turned b p8 (turned b p7 e.data)) ∧ Box W w9.heap.size (.int .i64 e.fk) (.int .i64 e.fi) (.int .i64 e.tk) (.int .i64 e.ti) (.slice a9 l9 c9) (.bool e.lost) ∧ Box W w14.heap.size (.int .i64 e.fk) (.int .i64 e.fi) (.int .i64 e.tk) (.int .i64 e.ti) (.slice a14 l14 c14) (.bool e.lost)) := by
    have KW : Kept (fun _ => False) w14 W := by rw [hW]; exact alloc_kept0 _ _
    have K9 := S14.out.1.trans KW (fun _ _ q => q)
    exact ⟨T9.out.1.trans K9 (fun _ _ q => q), T9.out.2.1.kept' K9 (fun _ _ q => q), S14.out.2.kept' KW (fun _ _ q => q), Box.kept T9.out.2.2 K9 (fun q => q), by unfold Box; rw [hW]; exact alloc_new _ _⟩
  have EW : Hid (W = w14.alloc (.cells #[.int .i64 e.fk, .int .i64 e.fi, .int .i64 e.tk, .int .i64 e.ti, .slice a14 l14 c14, .bool e.lost] 39)) := hW
  clear hW S14 T9
  have U : Hid (US w2 W C g5 p c R ps qs ∧ IsL w5.heap.size W p6 M c6 R6) := ⟨S6.out.1.quiet T.out.1, S6.out.2.1.kept0 T.out.1⟩
  obtain ⟨gp, ap, lp, cp, rfl, _, f0, f1, f2, f3, f4, f5, gr⟩ := (show IsL w2.heap.size W p m c R by have := U.out.1.list; rw [← HI.out.2] at this; exact this).at i hi e (by rw [U.out.1.same]; exact HE.out)
  obtain ⟨g6, am, lm, cm, rfl, _, y0, y1, y2, y3, y4, y5, gm⟩ := U.out.2.at m (by omega) e (by
    rw [S6.out.2.2, S5.out.2.1, upd_ne _ (by omega), HI.out.2]
    simp)
  obtain ⟨g6', ai, li, ci, e6, _, _, _, _, _, z4, _, gi⟩ := U.out.2.at i (by omega) _ (by rw [S6.out.2.2]; exact S5.out.2.2.2.2.1)
  cases e6
  have hli : li = lp := by
    have h1 := gi.length
    have h2 := gr.length
    simp only [turned_length] at h1 h2
    omega
  subst hli
  obtain ⟨x0, x1, x2, x3, x4, x5, _⟩ := cell6 _ _ _ _ _ _ _ _ T.out.2.2.2.1
  obtain ⟨v0, v1, v2, v3, v4, v5, _⟩ := cell6 _ _ _ _ _ _ _ _ T.out.2.2.2.2
  obtain ⟨hr1, hr2⟩ := own_room U.out.1.list.own
  obtain ⟨hr3, hr4⟩ := own_room U.out.2.own
  rw [← HI.out.2] at hr1
  unfold maxLen at hr2 hr4
  have V : Hid (Reads W ap li cp e.data ∧ Reads W am lm cm e.data ∧ Reads W ai li ci (turned b p7 e.data)) := ⟨gr.reads, gm.reads, gi.reads⟩
  have GB : Hid (∀ c ∈ e.data, c < 256) := gr.bytes
  have hl66 : li ≤ 66000 := gr.short
  clear gr gm gi
  have iM : (i : Int) < (M : Int) := by omega
  have mM : (m : Int) < (M : Int) := by omega
  have im : (i : Int) < (m : Int) := by omega
  go_upto_region 18 with fail
  rw [← EW.out]
  have RD : Hid (∀ W' : World, Kept (fun _ => False) W W' → Reads W' a9 l9 c9 (turned b p8 (turned b p7 e.data)) ∧ Reads W' a14 l14 c14 (turned b p8 (turned b p7 e.data)) ∧ Reads W' am lm cm e.data ∧ Reads W' ap li cp e.data) := fun W' K => ⟨T.out.2.1.kept' K (fun _ _ q => q), T.out.2.2.1.kept' K (fun _ _ q => q), V.out.2.1.kept' K (fun _ _ q => q), V.out.1.kept' K (fun _ _ q => q)⟩
  have KD : Hid (Kept (fun _ => False) W W.drew) := (Kept.refl (fun _ => False) W).drew
  go_region_held3 (fun w' => w'.cell? ⟨gp, i * 6, none⟩ = some (.int .i64 e.fk) ∧ w'.cell? ⟨gp, i * 6 + 1, none⟩ = some (.int .i64 e.fi) ∧ w'.cell? ⟨gp, i * 6 + 2, none⟩ = some (.int .i64 e.tk) ∧ w'.cell? ⟨gp, i * 6 + 3, none⟩ = some (.int .i64 e.ti) ∧ w'.cell? ⟨gp, i * 6 + 4, none⟩ = some (.slice ap li cp) ∧ w'.cell? ⟨gp, i * 6 + 5, none⟩ = some (.bool e.lost) ∧ w'.cell? ⟨g6, m * 6, none⟩ = some (.int .i64 e.fk) ∧ w'.cell? ⟨g6, m * 6 + 1, none⟩ = some (.int .i64 e.fi) ∧ w'.cell? ⟨g6, m * 6 + 2, none⟩ = some (.int .i64 e.tk) ∧ w'.cell? ⟨g6, m * 6 + 3, none⟩ = some (.int .i64 e.ti) ∧ w'.cell? ⟨g6, m * 6 + 4, none⟩ = some (.slice am lm cm) ∧ w'.cell? ⟨g6, m * 6 + 5, none⟩ = some (.bool e.lost) ∧ w'.cell? ⟨w9.heap.size, 0, none⟩ = some (.int .i64 e.fk) ∧ w'.cell? ⟨w9.heap.size, 1, none⟩ = some (.int .i64 e.fi) ∧ w'.cell? ⟨w9.heap.size, 2, none⟩ = some (.int .i64 e.tk) ∧ w'.cell? ⟨w9.heap.size, 3, none⟩ = some (.int .i64 e.ti) ∧ w'.cell? ⟨w9.heap.size, 4, none⟩ = some (.slice a9 l9 c9) ∧ w'.cell? ⟨w9.heap.size, 5, none⟩ = some (.bool e.lost) ∧ w'.cell? ⟨w14.heap.size, 0, none⟩ = some (.int .i64 e.fk) ∧ w'.cell? ⟨w14.heap.size, 1, none⟩ = some (.int .i64 e.fi) ∧ w'.cell? ⟨w14.heap.size, 2, none⟩ = some (.int .i64 e.tk) ∧ w'.cell? ⟨w14.heap.size, 3, none⟩ = some (.int .i64 e.ti) ∧ w'.cell? ⟨w14.heap.size, 4, none⟩ = some (.slice a14 l14 c14) ∧ w'.cell? ⟨w14.heap.size, 5, none⟩ = some (.bool e.lost) ∧ w'.cell? ⟨g6, i * 6 + 4, none⟩ = some (.slice ai li ci)) (first | go_keep)
    (first
      | (go_at_call 13; refine (samePacket e.fk e.fi e.tk e.ti e.lost e.data am lm cm ap li cp _ (RD.out _ KA.out).2.2.1 (RD.out _ KA.out).2.2.2).mono ?_; rintro _ w16 ⟨rfl, K3⟩
         have KB : Kept (fun _ => False) W w16 := KA.out.trans K3 (fun _ _ q => q)
         have kbf0 := KB.cell f0 (fun q => q)
         have kbf1 := KB.cell f1 (fun q => q)
         have kbf2 := KB.cell f2 (fun q => q)
         have kbf3 := KB.cell f3 (fun q => q)
         have kbf4 := KB.cell f4 (fun q => q)
         have kbf5 := KB.cell f5 (fun q => q)
         have kby0 := KB.cell y0 (fun q => q)
         have kby1 := KB.cell y1 (fun q => q)
         have kby2 := KB.cell y2 (fun q => q)
         have kby3 := KB.cell y3 (fun q => q)
         have kby4 := KB.cell y4 (fun q => q)
         have kby5 := KB.cell y5 (fun q => q)
         have kbx0 := KB.cell x0 (fun q => q)
         have kbx1 := KB.cell x1 (fun q => q)
         have kbx2 := KB.cell x2 (fun q => q)
         have kbx3 := KB.cell x3 (fun q => q)
         have kbx4 := KB.cell x4 (fun q => q)
         have kbx5 := KB.cell x5 (fun q => q)
         have kbv0 := KB.cell v0 (fun q => q)
         have kbv1 := KB.cell v1 (fun q => q)
         have kbv2 := KB.cell v2 (fun q => q)
         have kbv3 := KB.cell v3 (fun q => q)
         have kbv4 := KB.cell v4 (fun q => q)
         have kbv5 := KB.cell v5 (fun q => q)
         have kbz4 := KB.cell z4 (fun q => q)
         have KBH : Hid (Kept (fun _ => False) W w16) := KB
         clear K3 KB)
      | (go_at_call 13; refine (samePacket e.fk e.fi e.tk e.ti e.lost (turned b p8 (turned b p7 e.data)) a9 l9 c9 a14 l14 c14 _ (RD.out _ KD.out).1 (RD.out _ KD.out).2.1).mono ?_; rintro _ w15 ⟨rfl, K3⟩
         have KA0 : Kept (fun _ => False) W w15 := KD.out.trans K3 (fun _ _ q => q)
         have kaf0 := KA0.cell f0 (fun q => q)
         have kaf1 := KA0.cell f1 (fun q => q)
         have kaf2 := KA0.cell f2 (fun q => q)
         have kaf3 := KA0.cell f3 (fun q => q)
         have kaf4 := KA0.cell f4 (fun q => q)
         have kaf5 := KA0.cell f5 (fun q => q)
         have kay0 := KA0.cell y0 (fun q => q)
         have kay1 := KA0.cell y1 (fun q => q)
         have kay2 := KA0.cell y2 (fun q => q)
         have kay3 := KA0.cell y3 (fun q => q)
         have kay4 := KA0.cell y4 (fun q => q)
         have kay5 := KA0.cell y5 (fun q => q)
         have kax0 := KA0.cell x0 (fun q => q)
         have kax1 := KA0.cell x1 (fun q => q)
         have kax2 := KA0.cell x2 (fun q => q)
         have kax3 := KA0.cell x3 (fun q => q)
         have kax4 := KA0.cell x4 (fun q => q)
         have kax5 := KA0.cell x5 (fun q => q)
         have kav0 := KA0.cell v0 (fun q => q)
         have kav1 := KA0.cell v1 (fun q => q)
         have kav2 := KA0.cell v2 (fun q => q)
         have kav3 := KA0.cell v3 (fun q => q)
         have kav4 := KA0.cell v4 (fun q => q)
         have kav5 := KA0.cell v5 (fun q => q)
         have kaz4 := KA0.cell z4 (fun q => q)
         have KA : Hid (Kept (fun _ => False) W w15) := KA0
         clear K3 KA0)
      | fail)
  clear kaf0 kaf1 kaf2 kaf3 kaf4 kaf5 kay0 kay1 kay2 kay3 kay4 kay5 kax0 kax1 kax2 kax3 kax4 kax5 kav0 kav1 kav2 kav3 kav4 kav5 kbf0 kbf1 kbf2 kbf3 kbf5 kby0 kby1 kby2 kby3 kby4 kby5 kbx0 kbx1 kbx2 kbx3 kbx4 kbx5 kbv0 kbv1 kbv2 kbv3 kbv4 kbv5 kaz4 f0 f1 f2 f3 f4 f5 y0 y1 y2 y3 y4 y5 x0 x1 x2 x3 x4 x5 v0 v1 v2 v3 v4 v5 z4
  have Z : Hid (Kept (fun _ => False) W w16 ∧ Reads w16 ap li cp e.data ∧ Reads w16 ai li ci (turned b p7 e.data)) := ⟨KBH.out, V.out.1.kept' KBH.out (fun _ _ q => q), V.out.2.2.kept' KBH.out (fun _ _ q => q)⟩
  clear KA KBH RD KD
  go_wp2_with fail
  go_loopw [4, 19, 20, 21, 22, 157] (fun _ _ _ _ _ x wr => ∃ (j : Nat), x = .int .i64 (j : Int) ∧ j ≤ li ∧ Hid (Kept (fun _ => False) w16 wr)) (fun _ _ _ _ _ x _ => li - (intOf x).toNat)
  case atStart => exact ⟨0, rfl, Nat.zero_le _, Kept.refl _ _⟩
  case round =>
    obtain ⟨j, rfl, hj, Y⟩ := hrel
    by_cases hlt : j < li
    · have i1 : (j : Int) < (li : Int) := by omega
      go_wp2_with fail
      go_loopw [4, 20, 21, 22, 160] (fun _ _ _ _ x wr => ∃ (t : Nat), x = .int .i64 (t : Int) ∧ t ≤ 8 ∧ Hid (Kept (fun _ => False) w16 wr)) (fun _ _ _ _ x _ => 8 - (intOf x).toNat)
      case atStart => exact ⟨0, rfl, Nat.zero_le _, Y.out⟩
      case round =>
        obtain ⟨t, rfl, ht, Y2⟩ := hrel
        by_cases htl : t < 8
        · have i2 : (t : Int) < 8 := by omega
          have f4 := Y2.out.cell kbf4 (fun q => q)
          have z4 := Y2.out.cell kbz4 (fun q => q)
          obtain ⟨b1, o1, rfl, hc1⟩ := (Z.out.2.1.kept' Y2.out (fun _ _ q => q)).cells (by omega)
          obtain ⟨b2, o2, rfl, hc2⟩ := (Z.out.2.2.kept' Y2.out (fun _ _ q => q)).cells (by omega)
          obtain ⟨u1, hu1⟩ : ∃ u, u = e.data.getD j 0 := ⟨_, rfl⟩
          obtain ⟨u2, hu2⟩ : ∃ u, u = (turned b p7 e.data).getD j 0 := ⟨_, rfl⟩
          have d1 := hc1 j hlt
          have d2 := hc2 j hlt
          rw [← hu1] at d1
          rw [← hu2] at d2
          obtain ⟨X, hX⟩ : ∃ X, X = u2 ^^^ u1 := ⟨_, rfl⟩
          have hx : bits .xor .u8 (u2 : Int) (u1 : Int) = (X : Int) := by
            rw [hX, u8_xor_nat u2 u1 (by rw [hu2]; exact getD_lt _ (turned_bytes _ _ _ GB.out) _) (by rw [hu1]; exact getD_lt _ GB.out _)]
          have hX2 : X / 2 ^ t % 2 = if hitB li b p7 32 j t = true then 1 else 0 := by
            rw [hX, hu1, hu2, xor_bit, V.out.1.length]
          clear hc1 hc2 hu1 hu2 hX
          obtain ⟨A, hA⟩ : ∃ A : Nat, 8 * j = A := ⟨_, rfl⟩
          obtain ⟨B, hB⟩ : ∃ B : Nat, A + t = B := ⟨_, rfl⟩
          have wA : IntKind.i64.wrap (8 * (j : Int)) = (A : Int) := by rw [IntKind.wrap_i64]; omega
          have wB : IntKind.i64.wrap ((A : Int) + (t : Int)) = (B : Int) := by rw [IntKind.wrap_i64]; omega
          have t0 : ¬ ((t : Int) < 0) := by omega
          have hXB := tm2B X t _ hX2
          by_cases hrng : b ≤ B ∧ B < b + 32
          · obtain ⟨sn, hsn⟩ : ∃ sn : Nat, B - b = sn := ⟨_, rfl⟩
            have wS : IntKind.i64.wrap ((B : Int) - (b : Int)) = (sn : Int) := by rw [IntKind.wrap_i64]; omega
            have s1 : (0 : Int) ≤ (sn : Int) := by omega
            have s2 : (sn : Int) < 32 := by omega
            have s3 : ¬ ((sn : Int) < 0) := by omega
            have hh : hitB li b p7 32 j t = p7.testBit sn := by
              unfold hitB
              rw [decide_eq_true (by omega), Bool.true_and, ← hsn, ← hB, ← hA]
            rw [hh] at hXB
            have hPB : (((p7 : Int) / 2 ^ sn).tmod 2 == 1) = p7.testBit sn := tm2B p7 sn _ (by
              rw [Nat.testBit_eq_decide_div_mod_eq]
              split
              · rename_i q; exact of_decide_eq_true q
              · rename_i q; have : ¬ p7 / 2 ^ sn % 2 = 1 := fun z => q (decide_eq_true z)
                omega)
            obtain ⟨pb, hpb⟩ : ∃ pb, pb = p7.testBit sn := ⟨_, rfl⟩
            rw [← hpb] at hXB hPB
            clear hpb hh hX2 hsn hrng hA hB
            cases pb with
            | false =>
              go_wp2_with fail
              go_quiet (fail)
              have Y3 : Hid (∀ n, Kept (fun _ => False) w16 (wr.drewN n)) := fun n => Y2.out.drewN n
              go_wp2_with fail
              go_roundw
              case rel => exact ⟨t + 1, by go_num, by omega, Y3.out _⟩
              case measure => simp [intOf]; omega
            | true =>
              go_wp2_with fail
              go_quiet (fail)
              have Y3 : Hid (∀ n, Kept (fun _ => False) w16 (wr.drewN n)) := fun n => Y2.out.drewN n
              go_wp2_with fail
              go_roundw
              case rel => exact ⟨t + 1, by go_num, by omega, Y3.out _⟩
              case measure => simp [intOf]; omega
          · obtain ⟨sI, hsI⟩ : ∃ sI : Int, (B : Int) - (b : Int) = sI := ⟨_, rfl⟩
            have wS : IntKind.i64.wrap ((B : Int) - (b : Int)) = sI := by rw [IntKind.wrap_i64]; omega
            have hh : hitB li b p7 32 j t = false := by
              unfold hitB
              rw [decide_eq_false (by omega)]
              rfl
            rw [hh] at hXB
            by_cases s1 : (0 : Int) ≤ sI
            · have s2 : ¬ sI < 32 := by omega
              clear hh hX2 hsI hrng hA hB
              go_wp2_with fail
              go_quiet (fail)
              have Y3 : Hid (∀ n, Kept (fun _ => False) w16 (wr.drewN n)) := fun n => Y2.out.drewN n
              go_wp2_with fail
              go_roundw
              case rel => exact ⟨t + 1, by go_num, by omega, Y3.out _⟩
              case measure => simp [intOf]; omega
            · have s2 : sI < 0 := by omega
              clear hh hX2 hsI hrng hA hB
              go_wp2_with fail
              go_quiet (fail)
              have Y3 : Hid (∀ n, Kept (fun _ => False) w16 (wr.drewN n)) := fun n => Y2.out.drewN n
              go_wp2_with fail
              go_roundw
              case rel => exact ⟨t + 1, by go_num, by omega, Y3.out _⟩
              case measure => simp [intOf]; omega
        · have he : t = 8 := by omega
          subst he
          go_wp2_with fail
          go_roundw
          case rel => exact ⟨j + 1, by go_num, by omega, Y2.out⟩
          case measure => simp [intOf]; omega
    · have he : j = li := by omega
      subst he
      have i1 : ¬ (j : Int) < (j : Int) := by omega
      have U2 : Hid (US w2 wr C g5 (some ⟨gp, 0, none⟩) c R ps qs) := U.out.1.quiet (Z.out.1.trans Y.out (fun _ _ q => q))
      clear Z Y U kbf4 kbz4 S6 T
      go_wp2_with fail
      refine (nBurst w2.heap.size C g5 qs i b p7 wr U2.out.net U2.out.kept.size (by omega) h7).mono ?_
      rintro x w17 ⟨v, rfl, D5⟩
      rw [aBurst_at _ i b p7 S5.out.2.2.2.2.2] at D5
      obtain ⟨rfl, g17, n5, m5⟩ := D5
      have S17 : Hid (US w2 w17 C g17 (some ⟨gp, 0, none⟩) c R ps (ps ++ [e]) ∧ IsL w2.heap.size w17 (some ⟨gp, 0, none⟩) m c R) := by
        have eq : upd qs i (fun p => { p with data := turned b p7 p.data }) = ps ++ [e] := by
          rw [S5.out.2.1, upd_upd HQ.out.2.2.1]
          simp only [turned_back]
          apply List.ext_getElem?
          intro k
          by_cases hk : i = k
          · subst hk; rw [List.getElem?_set_self HQ.out.1]; exact HQ.out.2.2.1.symm
          · rw [List.getElem?_set_ne hk]
        rw [eq] at n5
        have u := U2.out.moved m5 n5
        exact ⟨u, by have := u.list; rw [← HI.out.2] at this; exact this⟩
      clear n5 m5 U2
      go_upto_region 33 with fail
      have BB : Hid ((ps ++ [e]).length ≤ Big ∧ m ≤ Big ∧ m + 1 ≤ Big ∧ w2.heap.size ≤ w17.heap.size) := ⟨by rw [HQ.out.2.1]; have := mB.out; omega, by have := mB.out; omega, by have := mB.out; omega, S17.out.1.kept.size⟩
      obtain ⟨gp', ap, lp, cp, e33, hRi, f0, f1, f2, f3, f4, f5, gr⟩ := S17.out.2.at i hi e (by rw [S17.out.1.same]; exact HE.out)
      cases e33
      have GE : Hid (Good w2.heap.size w17 ⟨e, ap, lp, cp⟩) := gr
      clear gr hRi
      go_cut [224] from 212 to 223 (fun s wc => s = .bool false ∧ Hid (US w2 wc C g17 (some ⟨gp, 0, none⟩) c R ps (ps ++ [e])))
      case first =>
        go_region_held_law (fun w' => w'.cell? ⟨gp, i * 6, none⟩ = some (.int .i64 e.fk) ∧ w'.cell? ⟨gp, i * 6 + 1, none⟩ = some (.int .i64 e.fi) ∧ w'.cell? ⟨gp, i * 6 + 2, none⟩ = some (.int .i64 e.tk) ∧ w'.cell? ⟨gp, i * 6 + 3, none⟩ = some (.int .i64 e.ti) ∧ w'.cell? ⟨gp, i * 6 + 4, none⟩ = some (.slice ap lp cp) ∧ w'.cell? ⟨gp, i * 6 + 5, none⟩ = some (.bool e.lost)) (first | go_keep)
          (first
            | (refine step_call_d _ (by rfl) 223 (by rfl) 14 [.tmp 213, .tmp 222] _ (by rfl) [.slice p18 M c18, .slice p20 (m + 1) c20] (by rfl) (enter14 _ _) ((same_M hM H20.out.2.1 H20.out.2.2 H20M.out).mono ?_); rintro x w21 ⟨rfl, K21⟩; refine ⟨_, rfl, ?_⟩
               have H21 : Hid (Kept (fun _ => False) w17 w21) := H20.out.1.trans K21 (fun _ _ q => q)
               have c21f0 := H21.out.cell f0 (fun q => q); have c21f1 := H21.out.cell f1 (fun q => q); have c21f2 := H21.out.cell f2 (fun q => q); have c21f3 := H21.out.cell f3 (fun q => q); have c21f4 := H21.out.cell f4 (fun q => q); have c21f5 := H21.out.cell f5 (fun q => q)
               clear K21)
            | (refine step_append_d _ (by rfl) 222 (by rfl) (.tmp 216) (.tmp 221) 27 39 27 _ 6 64 (by rfl) Try.underlying27 Try.info39 rfl w2.heap.size (.slice p19 m c19) m (rcells R) (by rfl) (HL19.out.2.1.kept0 (by repeat (first | with_reducible exact Kept.refl _ _ | with_reducible exact H19.out | with_reducible exact H18.out | with_reducible refine Kept.drew ?_ | with_reducible refine Kept.alloc ?_ _))).own _ 1 (Ent.cells ⟨e, ap, lp, cp⟩) (by rfl) (src_pk (by repeat (first | with_reducible exact alloc_new _ _ | with_reducible exact alloc_new2 _ _ _ _ | with_reducible exact alloc_newD _ _ _ | with_reducible exact alloc_newD2 _ _ _ _ | with_reducible refine get_alloc ?_ | with_reducible refine get_drew ?_ | with_reducible refine HL18.out.2.2.get ?_ (fun q => q) | with_reducible refine HG19.out _ _ ?_ (by have h5 := HL18.out.2.2.size; simp only [alloc_size, drew_size] at h5; omega)))) (big_max BB.out.2.2.1) (big_wide BB.out.2.2.1) (Nat.le_trans BB.out.2.2.2 (show Kept (fun _ => False) w17 _ from (by repeat (first | with_reducible exact Kept.refl _ _ | with_reducible exact H19.out | with_reducible exact H18.out | with_reducible refine Kept.drew ?_ | with_reducible refine Kept.alloc ?_ _))).size) ?_; intro p20 c20 w20 ho hg hn
               have H20 : Hid (Kept (fun _ => False) w17 w20 ∧ IsL _ w20 p18 M c18 R18 ∧ IsL w2.heap.size w20 p20 (m + 1) c20 (R ++ [⟨e, ap, lp, cp⟩])) := after2 H19.out (by repeat (first | with_reducible exact Kept.refl _ _ | with_reducible exact H19.out | with_reducible exact H18.out | with_reducible refine Kept.drew ?_ | with_reducible refine Kept.alloc ?_ _)) HL19.out.1 HL19.out.2.1 HL19.out.2.2 GE.out ho.out hg.out hn.out
               have H20M : Hid (R18.map Ent.p = (R ++ [(⟨e, ap, lp, cp⟩ : Ent)]).map Ent.p) := HL18.out.2.1.trans (map_snoc (e := ⟨e, ap, lp, cp⟩) S17.out.1.same).symm
               have c20f0 := H20.out.1.cell f0 (fun q => q); have c20f1 := H20.out.1.cell f1 (fun q => q); have c20f2 := H20.out.1.cell f2 (fun q => q); have c20f3 := H20.out.1.cell f3 (fun q => q); have c20f4 := H20.out.1.cell f4 (fun q => q); have c20f5 := H20.out.1.cell f5 (fun q => q)
               clear ho hg hn)
            | (refine step_append_d _ (by rfl) 216 (by rfl) (.tmp 214) (.tmp 215) 27 39 27 _ 6 64 (by rfl) Try.underlying27 Try.info39 rfl w17.heap.size _ 0 (rcells []) (by rfl) (own0 (by repeat (first | with_reducible exact alloc_new _ _ | with_reducible exact alloc_new2 _ _ _ _ | with_reducible exact alloc_newD _ _ _ | with_reducible exact alloc_newD2 _ _ _ _ | with_reducible refine get_alloc ?_ | with_reducible refine get_drew ?_ | with_reducible refine HL18.out.2.2.get ?_ (fun q => q))) (by have := H18.out.size; omega)) (.slice (some ⟨gp, 0, none⟩) m c) m (rcells R) (by rfl) ((S17.out.2.kept0 (by repeat (first | with_reducible exact Kept.refl _ _ | with_reducible exact H19.out | with_reducible exact H18.out | with_reducible refine Kept.drew ?_ | with_reducible refine Kept.alloc ?_ _))).src_all c) (by rw [Nat.zero_add]; exact big_max BB.out.2.1) (by rw [Nat.zero_add]; exact big_wide BB.out.2.1) (show Kept (fun _ => False) w17 _ from (by repeat (first | with_reducible exact Kept.refl _ _ | with_reducible exact H19.out | with_reducible exact H18.out | with_reducible refine Kept.drew ?_ | with_reducible refine Kept.alloc ?_ _))).size ?_; intro p19 c19 w19 ho hg hn
               rw [Nat.zero_add] at ho hn ⊢
               obtain ⟨H19, H19a, H19b, H19c, HG19⟩ := after1 BB.out.2.2.2 S17.out.2 (by repeat (first | with_reducible exact Kept.refl _ _ | with_reducible exact H19.out | with_reducible exact H18.out | with_reducible refine Kept.drew ?_ | with_reducible refine Kept.alloc ?_ _)) (by repeat (first | with_reducible exact Kept.refl _ _ | with_reducible exact H19.out | with_reducible exact H18.out | with_reducible refine Kept.drew ?_ | with_reducible refine Kept.alloc ?_ _)) HL18.out.1 (by repeat (first | with_reducible exact alloc_new _ _ | with_reducible exact alloc_new2 _ _ _ _ | with_reducible exact alloc_newD _ _ _ | with_reducible exact alloc_newD2 _ _ _ _ | with_reducible refine get_alloc ?_ | with_reducible refine get_drew ?_ | with_reducible refine HL18.out.2.2.get ?_ (fun q => q))) (by have := H18.out.size; omega) (fun k hk => by have h1 := HB18.out k hk; simp only [alloc_size, drew_size] at h1; have h2 := H18.out.size; omega) ho.out hg.out hn.out
               replace H19 : Hid (Kept (fun _ => False) w17 w19) := H19
               replace HG19 : Hid (∀ b o, _ → _ → w19.heap[b]? = some o) := HG19
               have HL19 : Hid (IsL _ w19 p18 M c18 R18 ∧ IsL w2.heap.size w19 p19 m c19 R ∧ (∀ k, blockOf p19 = some k → w17.heap.size ≤ k ∧ blockOf p18 ≠ some k)) := ⟨H19a, H19b, H19c⟩
               have c19f0 := H19.out.cell f0 (fun q => q); have c19f1 := H19.out.cell f1 (fun q => q); have c19f2 := H19.out.cell f2 (fun q => q); have c19f3 := H19.out.cell f3 (fun q => q); have c19f4 := H19.out.cell f4 (fun q => q); have c19f5 := H19.out.cell f5 (fun q => q)
               clear ho hg hn H19a H19b H19c)
            | (refine step_call_d _ (by rfl) 213 (by rfl) 10 [.tmp 212] _ (by rfl) [.pointer (some ⟨C, 0, none⟩)] (by rfl) (enter10 _ _) ((flight_of w2.heap.size C g17 (ps ++ [e]) _ (S17.out.1.net.kept0 (by repeat (first | with_reducible exact Kept.refl _ _ | with_reducible exact H19.out | with_reducible exact H18.out | with_reducible refine Kept.drew ?_ | with_reducible refine Kept.alloc ?_ _))) BB.out.1).mono ?_); rintro x w18 ⟨p18, c18, R18, rfl, hm18, L18, _, K18⟩; refine ⟨_, rfl, ?_⟩
               rw [show (ps ++ [e]).length = M from HQ.out.2.1.trans hM] at L18 ⊢
               have H18 : Hid (Kept (fun _ => False) w17 w18) := Kept.trans (by repeat (first | with_reducible exact Kept.refl _ _ | with_reducible exact H19.out | with_reducible exact H18.out | with_reducible refine Kept.drew ?_ | with_reducible refine Kept.alloc ?_ _)) K18 (fun _ _ q => q)
               have HL18 : Hid (IsL _ w18 p18 M c18 R18 ∧ R18.map Ent.p = ps ++ [e] ∧ Kept (fun _ => False) _ w18) := ⟨L18, hm18, K18⟩
               have HB18 : Hid (∀ k, blockOf p18 = some k → _ ≤ k ∧ k < w18.heap.size) := own_lt L18.own
               have c18f0 := H18.out.cell f0 (fun q => q); have c18f1 := H18.out.cell f1 (fun q => q); have c18f2 := H18.out.cell f2 (fun q => q); have c18f3 := H18.out.cell f3 (fun q => q); have c18f4 := H18.out.cell f4 (fun q => q); have c18f5 := H18.out.cell f5 (fun q => q)
               clear hm18 L18 K18)
            | fail)
        all_goals go_wp2_with fail
        all_goals go_meet
        all_goals exact ⟨rfl, S17.out.1.quiet H21.out⟩
      case rest =>
      clear S17 BB GE f0 f1 f2 f3 f4 f5
      obtain ⟨rfl, U3⟩ := hcut
      obtain ⟨y5, z5, s5, hy5, hz5, hq5, hs5⟩ := within400 sz
      obtain ⟨S7, hS7⟩ : ∃ S7 : Nat, s5 + 7 = S7 := ⟨_, rfl⟩
      have wS7 : IntKind.i64.wrap ((s5 : Int) + 7) = (S7 : Int) := by rw [IntKind.wrap_i64]; omega
      go_wp2_with fail
      refine (nCut w2.heap.size C g17 _ i S7 _ U3.out.net U3.out.kept.size).mono ?_
      rintro x w22 ⟨v, rfl, D5⟩
      rw [aCut_at _ i S7 HQ.out.1] at D5
      obtain ⟨rfl, g22, n5, m5⟩ := D5
      have U4 : Hid (US w2 w22 C g22 (some ⟨gp, 0, none⟩) c R ps (upd (ps ++ [e]) i (fun p => { p with data := p.data.take S7 }))) := U3.out.moved m5 n5
      clear n5 m5 U3 hy5 hz5 hq5
      go_wp2_with fail
      refine (nCut w2.heap.size C g22 _ i s5 _ U4.out.net U4.out.kept.size).mono ?_
      rintro x w23 ⟨v, rfl, D5⟩
      rw [aCut_at _ i s5 (by rw [upd_length]; exact HQ.out.1)] at D5
      obtain ⟨rfl, g23, n5, m5⟩ := D5
      obtain ⟨q5, hq5⟩ : ∃ q5, q5 = upd (upd (ps ++ [e]) i (fun p => { p with data := p.data.take S7 })) i (fun p => { p with data := p.data.take s5 }) := ⟨_, rfl⟩
      rw [← hq5] at n5
      have U5 : Hid (US w2 w23 C g23 (some ⟨gp, 0, none⟩) c R ps q5 ∧ i < q5.length ∧ q5[i]? = some { e with data := e.data.take s5 }) := by
        have h1 := (upd_get HQ.out.2.2.1 (fun p => { p with data := p.data.take S7 })).1
        have h2 := (upd_get h1 (fun p => { p with data := p.data.take s5 })).1
        rw [← hq5] at h2
        refine ⟨U4.out.moved m5 n5, (List.getElem?_eq_some_iff.1 h2).1, h2.trans ?_⟩
        simp only [List.take_take]
        rw [Nat.min_eq_left (by omega)]
      clear n5 m5 U4 hq5
      go_wp2_with fail
      refine (take_of w2.heap.size C g23 q5 i U5.out.2.1 w23 U5.out.1.net).mono ?_
      rintro x w24 ⟨⟨P24, a24, l24, c24⟩, rfl, hp24, ge24, n24, m24⟩
      have hP24 : P24 = { e with data := e.data.take s5 } := by
        rw [U5.out.2.2] at hp24
        simpa using hp24.symm
      subst hP24
      obtain ⟨W5, hW5⟩ : ∃ W5, W5 = w24.alloc (.cells #[.int .i64 e.fk, .int .i64 e.fi, .int .i64 e.tk, .int .i64 e.ti, .slice a24 l24 c24, .bool e.lost] 39) := ⟨_, rfl⟩
      have U6 : Hid (US w2 W5 C g23 (some ⟨gp, 0, none⟩) c R ps (q5.take i ++ q5.drop (i + 1)) ∧ Reads W5 a24 l24 c24 (e.data.take s5) ∧ Box W5 w24.heap.size (.int .i64 e.fk) (.int .i64 e.fi) (.int .i64 e.tk) (.int .i64 e.ti) (.slice a24 l24 c24) (.bool e.lost)) := by
        have KW : Kept (fun _ => False) w24 W5 := by rw [hW5]; exact alloc_kept0 _ _
        exact ⟨(U5.out.1.moved m24 n24).quiet KW, ge24.reads.kept' KW (fun _ _ q => q), by unfold Box; rw [hW5]; exact alloc_new _ _⟩
      have EW5 : Hid (W5 = w24.alloc (.cells #[.int .i64 e.fk, .int .i64 e.fi, .int .i64 e.tk, .int .i64 e.ti, .slice a24 l24 c24, .bool e.lost] 39)) := hW5
      clear hW5 n24 m24 hp24 ge24 U5
      obtain ⟨gp', ap2, lp2, cp2, e34, _, _, _, _, _, f4, _, gr⟩ := (show IsL w2.heap.size W5 (some ⟨gp, 0, none⟩) m c R by have := U6.out.1.list; rw [← HI.out.2] at this; exact this).at i hi e (by rw [U6.out.1.same]; exact HE.out)
      cases e34
      obtain ⟨mn, mn1, mn2, mn3, mn4⟩ : ∃ mn : Nat, (if (lp2 : Int) < (s5 : Int) then (lp2 : Int) else (s5 : Int)) = (mn : Int) ∧ (if lp2 < s5 then (lp2 : Int) else (s5 : Int)) = (mn : Int) ∧ mn ≤ lp2 ∧ e.data.take mn = e.data.take s5 := by
        have hl := gr.length
        simp only at hl
        by_cases h : lp2 < s5
        · exact ⟨lp2, by rw [if_pos (by omega)], by rw [if_pos (by omega)], Nat.le_refl _, by rw [List.take_of_length_le (by omega), List.take_of_length_le (by omega)]⟩
        · exact ⟨s5, by rw [if_neg (by omega)], by rw [if_neg (by omega)], by omega, rfl⟩
      have V6 : Hid (∀ W' : World, Kept (fun _ => False) W5 W' → (convert 30 9 (.slice a24 l24 c24)).run Try.prog W' = .ok (.string (str (e.data.take s5))) W' ∧ (convert 30 9 (.slice ap2 mn cp2)).run Try.prog W' = .ok (.string (str (e.data.take s5))) W') := fun W' K => by
        have r1 := (U6.out.2.1.kept' K (fun _ _ q => q)).string
        have r2 := ((gr.reads.take mn mn3).kept' K (fun _ _ q => q)).string
        rw [mn4] at r2
        exact ⟨r1, r2⟩
      have hc1 : mn ≤ cp2 := Nat.le_trans mn3 gr.reads.room
      have hc2 := gr.reads.small
      have hc3 : lp2 ≤ 66000 := gr.short
      unfold maxLen at hc2
      obtain ⟨ts, hts⟩ : ∃ ts, ts = str (e.data.take s5) := ⟨_, rfl⟩
      rw [← hts] at V6
      have x4 := cell_blk U6.out.2.2 4 rfl
      have sa := (V6.out W5 (Kept.refl _ _)).1
      have sb := (V6.out W5 (Kept.refl _ _)).2
      have sc := (V6.out W5.drew (Kept.refl _ _).drew).1
      have sd := (V6.out W5.drew (Kept.refl _ _).drew).2
      have mn5 : (0 : Int) ≤ (mn : Int) := by omega
      have mn6 : (mn : Int) ≤ (cp2 : Int) := by omega
      have im : (i : Int) < (m : Int) := by omega
      have KW0 : Hid (Kept (fun _ => False) w W5) := HQ.out.2.2.2.trans U6.out.1.kept (fun _ _ q => q)
      have slc : ∀ W : World, (Instr.slice 30 (.slice ap2 lp2 cp2) none (some (.int .i64 (mn : Int))) none).run Try.prog W = .ok (.slice ap2 mn cp2) W := fun W => slice_to gr.own mn mn3 W
      clear gr mn4 hts
      go_upto_region 39 with fail
      rw [← EW5.out]
      go_region_held3 (fun w' => w'.cell? ⟨w24.heap.size, 4, none⟩ = some (.slice a24 l24 c24) ∧ w'.cell? ⟨gp, i * 6 + 4, none⟩ = some (.slice ap2 lp2 cp2) ∧ (convert 30 9 (.slice a24 l24 c24)).run Try.prog w' = .ok (.string ts) w' ∧ (convert 30 9 (.slice ap2 mn cp2)).run Try.prog w' = .ok (.string ts) w') (first | exact ⟨x4, f4, sc, sd⟩ | exact ⟨ka, kb, kc, kd⟩ | go_keep)
        (first
          | (go_at_call 16; refine (taken _).mono ?_; rintro x w25 ⟨rfl, K25⟩
             have K25' : Kept (fun _ => False) W5 w25 := ((Kept.refl (fun _ => False) W5).drew).trans K25 (fun _ _ q => q)
             have ka := K25'.cell x4 (fun q => q)
             have kb := K25'.cell f4 (fun q => q)
             have kc := (V6.out w25 K25').1
             have kd := (V6.out w25 K25').2
             have KF : Hid (Kept (fun _ => False) w w25) := KW0.out.trans K25' (fun _ _ q => q)
             clear K25 K25')
          | fail)
      go_wp2_with fail
      go_ret
      exact ⟨by first | rfl | simp, KF.out⟩
end Go.Proofs.Ytojfnehdanhgiaa
