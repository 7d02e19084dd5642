import Derived.Test.YtojepeefphbekaaGreatKeep0J
import Derived.Test.YtojepeefphbekaaGreatSameU
import Derived.Deep.CutBlock
import Derived.Deep.DeepCutAuto
namespace Go.Proofs.YtojepeefphbekaaGreat
open Go.RowKit 

structure IReads (w : World) (a : Option Addr) (len cap : Nat) (l : List Int) : Prop where
  length : l.length = len
  room : len ≤ cap
  small : cap ≤ maxLen
  cells : 0 < len → ∃ b off, a = some ⟨b, off, none⟩ ∧ ∀ i, i < len → w.cell? ⟨b, off + i, none⟩ = some (.int .i64 (l.getD i 0))
theorem IReads.k0 {w w' : World} {a : Option Addr} {len cap : Nat} {l : List Int} (r : IReads w a len cap l) (K : Kept (fun _ => False) w w') : IReads w' a len cap l := by
  refine ⟨r.length, r.room, r.small, fun h0 => ?_⟩
  obtain ⟨b, off, e, hc⟩ := r.cells h0
  exact ⟨b, off, e, fun i hi => K.cell (hc i hi) (fun z => z)⟩
theorem own_some {w : World} {b0 : Nat} {p : Option Addr} {n c : Nat} {xs : List Value} (ow : w.ownsRow b0 28 5 (.slice p n c) n xs) (h : 0 < n) : ∃ g, p = some ⟨g, 0, none⟩ := by
  rcases ow.2 with ⟨_, hn⟩ | ⟨b, cap, cur, z, _⟩
  · omega
  · have z : Value.slice p n c = .slice (some ⟨b, 0, none⟩) n cap := z
    injection z with z1 _ z3
    exact ⟨b, z1⟩
theorem own_move {w : World} {b0 g n c : Nat} {L : List Mv} (ow : w.ownsRow b0 28 5 (.slice (some ⟨g, 0, none⟩) n c) n (mcells L)) {i : Nat} (h : i < L.length) : w.cell? ⟨g, i * 5, none⟩ = some (.int .i64 L[i].key) ∧ w.cell? ⟨g, i * 5 + 1, none⟩ = some (.bool L[i].fin) ∧ w.cell? ⟨g, i * 5 + 2, none⟩ = some (.bool L[i].both) ∧ w.cell? ⟨g, i * 5 + 3, none⟩ = some (.int .i64 L[i].c) ∧ w.cell? ⟨g, i * 5 + 4, none⟩ = some (.int .i64 L[i].k) := by
  have hc := ow.cells (g := g) rfl
  have cell : ∀ j v, j < 5 → (encM L[i])[j]? = some v → w.cell? ⟨g, i * 5 + j, none⟩ = some v := fun j v hj hv => by
    have := hc (i * 5 + j) v (by rw [mcells_get L i h j hj]; exact hv)
    rw [Addr.add_none, Nat.zero_add] at this
    exact this
  exact ⟨cell 0 _ (by omega) rfl, cell 1 _ (by omega) rfl, cell 2 _ (by omega) rfl, cell 3 _ (by omega) rfl, cell 4 _ (by omega) rfl⟩
theorem mdB (d k : Int) (h0 : 0 < k) (h1 : k < 1000000000000) : IntKind.i64.wrap (d.tmod k + k) = d.tmod k + k ∧ (d.tmod k + k).tmod k = d % k := by
  have t1 := Int.tmod_lt_of_pos d h0
  have t2 : -k < d.tmod k := by
    rcases Int.le_total 0 d with h | h
    · have := Int.tmod_nonneg k h; omega
    · have := Int.tmod_lt_of_pos (-d) h0
      rw [Int.neg_tmod] at this
      omega
  refine ⟨by rw [IntKind.wrap_i64]; omega, ?_⟩
  rw [Int.tmod_eq_emod_of_nonneg (by omega)]
  have e2 := Int.mul_tdiv_add_tmod d k
  have e3 : d.tmod k + k = d + (1 - d.tdiv k) * k := by
    rw [Int.sub_mul, Int.one_mul, Int.mul_comm (d.tdiv k) k]
    omega
  rw [e3, Int.add_mul_emod_self_right]
theorem src_mv {w : World} {b : Nat} {e : Mv} (h : w.heap[b]? = some (.cells (encM e).toArray 28 (0, 0))) : Src Tryz.prog 5 22 (.slice (some ⟨b, 0, none⟩) 1 1) 1 (encM e) w :=
  Src.ofSlice w Tryz.underlying22 ⟨b, 0, none⟩ 1 1 (encM e) rfl (fun j u hj => by
    rw [Addr.add_none, Nat.zero_add, cell_of_row w b j _ 28 (0, 0) h]
    simpa using hj) (fun v hv => by simp [encM] at hv; rcases hv with rfl | rfl | rfl | rfl | rfl <;> rfl)
theorem five_kept (w : World) (g a0 a1 a2 a3 a4 : Nat) (v0 v1 v2 v3 v4 : Value) : Kept (fun k => k = g) w (((((w.setCell ⟨g, a0, none⟩ v0).setCell ⟨g, a1, none⟩ v1).setCell ⟨g, a2, none⟩ v2).setCell ⟨g, a3, none⟩ v3).setCell ⟨g, a4, none⟩ v4) :=
  (((((Kept.refl (fun k => k = g) w).setCell (p := ⟨g, a0, none⟩) (fun _ => rfl) _).setCell (p := ⟨g, a1, none⟩) (fun _ => rfl) _).setCell (p := ⟨g, a2, none⟩) (fun _ => rfl) _).setCell (p := ⟨g, a3, none⟩) (fun _ => rfl) _).setCell (p := ⟨g, a4, none⟩) (fun _ => rfl) _
set_option maxRecDepth 100000 in
set_option maxHeartbeats 8000000 in
/-- TableTurns. -/
theorem turnsWalk (d : Int) (a : Option Addr) (len cap : Nat) (l : List Mv) (sa : Option Addr) (slen scap : Nat) (sl : List Int) (w : World) (r : MReads w a len cap l) (hl : len ≤ 1048576) (rs : IReads w sa slen scap sl) (hs : slen ≤ 1048576) : Calls Tryz.prog 5 #[.int .i64 d, .slice a len cap, .slice sa slen scap] w fun o w' => o = .returned (.bool true) ∧ Kept (fun _ => False) w w' := by
  obtain ⟨dd, hdd⟩ : ∃ dd, dd = d % 5 := ⟨_, rfl⟩
  have d0 : 0 ≤ dd := by rw [hdd]; exact Int.emod_nonneg d (by omega)
  have d4 : dd < 5 := by rw [hdd]; exact Int.emod_lt_of_pos d (by omega)
  have SM : Hid (∀ V : World, Calls Tryz.prog 8 #[.int .i64 d] V fun o w' => o = .returned (.int .i64 dd) ∧ w' = V) := by rw [hdd]; exact fun V => small d V
  have HM : Hid (MReads w a len cap l ∧ IReads w sa slen scap sl) := ⟨r, rs⟩
  clear hdd r rs
  go_enter Tryz.func5, Tryz.ntmps5
  go_wp2_with fail
  refine (SM.out w).mono ?_
  rintro o w0 ⟨rfl, rfl⟩
  go_wp2_with fail
  refine (tDone dd a len cap l w0 HM.out.1 (by omega) d0 (by omega)).mono ?_
  rintro o w1 ⟨tb, rfl, D1⟩
  obtain ⟨t, dst, et⟩ := D1.out
  have HD : Hid (Dst w0 w1 dd t l ∧ t.tb = tb ∧ l.length ≤ 4398046511104) := ⟨dst, et, by rw [HM.out.1.length]; omega⟩
  clear dst et D1
  have BL : Hid (0 + len ≤ maxLen ∧ ((0 + len) + (0 + len) / 4 + 192) * 32 ≤ 281474976710656) := by
    unfold maxLen
    exact ⟨by omega, by omega⟩
  go_upto_block 0 with
    (first
      | (at_builtin; refine wpList_append_all _ rfl (.tmp 27) (.tmp 28) 22 28 22 _ 5 32 rfl Tryz.underlying22 Tryz.info28c rfl w1.heap.size (.slice none 0 0) 0 [] rfl ⟨rfl, .inl ⟨rfl, rfl⟩⟩ _ len (mcells l) rfl (src_moves (HM.out.1.by HD.out.1.kept (fun _ _ z => z))) BL.out.1 BL.out.2 (Nat.le_refl _) ?_; intro p9 c9 w9 ho hg hn)
      | fail)
  have O0 : Hid (OS w1 w9 p9 len c9 l l) := by
    have h := ho.out
    rw [Nat.zero_add] at h
    refine ⟨HM.out.1.length, h, fun _ => Iff.rfl, ?_⟩
    exact (Kept.refl (fun _ => False) w1).grown hg.out (fun k _ z => by cases z)
  clear ho hg hn
  try rw [Nat.zero_add]
  have smS := HM.out.2.small
  have rmS := HM.out.2.room
  have smM := HM.out.1.small
  have rmM := HM.out.1.room
  unfold maxLen at smS smM
  go_cut [9] (fun u wc => ∃ p n c, u = .slice p n c ∧ n ≤ 2097152 ∧ ∃ L, Hid (OS w1 wc p n c l L))
  case first =>
    go_wp2_with fail
    go_loopw [9, 10, 11, 12, 13, 14, 32] (fun u9 _ _ _ _ _ u32 wr => ∃ (i n c : Nat) (p : Option Addr), u9 = .slice p n c ∧ u32 = .int .i64 (i : Int) ∧ i ≤ slen ∧ n = len + i ∧ ∃ L, Hid (OS w1 wr p n c l L)) (fun _ _ _ _ _ _ u32 _ => slen - (intOf u32).toNat)
    case atStart => exact ⟨0, len, c9, p9, rfl, rfl, Nat.zero_le _, rfl, l, O0⟩
    case round =>
      obtain ⟨i, n, c, p, rfl, rfl, hi, hn, L, S⟩ := hrel
      have HN : Hid (n = len + i) := hn
      have nb : n ≤ 2097152 := by omega
      have nl : len ≤ n := by omega
      clear O0 hn
      by_cases hlt : i < slen
      · have i1 : (i : Int) < (slen : Int) := by omega
        have kw : Kept (fun _ => False) w0 wr := HD.out.1.kept.and0 S.out.kept
        obtain ⟨sb', so, rfl, hc0⟩ := (HM.out.2.k0 kw).cells (by omega)
        obtain ⟨sv, hsv⟩ : ∃ sv, sv = sl.getD i 0 := ⟨_, rfl⟩
        have c0 := hc0 i hlt
        rw [← hsv] at c0
        clear hc0 hsv
        by_cases hz : len = 0
        · have hz' : (len : Int) = 0 := by omega
          have N2 : n ≤ 2097152 := by omega
          go_wp2_with fail
          go_meet
          exact ⟨p, n, c, rfl, N2, L, S⟩
        · have hz' : ¬ (len : Int) = 0 := by omega
          have lp : (0 : Int) < (len : Int) := by omega
          obtain ⟨j, hj⟩ : ∃ j : Nat, j = i % len := ⟨_, rfl⟩
          obtain ⟨k, hk⟩ : ∃ k : Nat, (k : Int) = sv % (len : Int) := ⟨(sv % (len : Int)).toNat, by have := Int.emod_nonneg sv hz'; omega⟩
          have jl : j < len := by rw [hj]; exact Nat.mod_lt _ (by omega)
          have kl : k < len := by have := Int.emod_lt_of_pos sv lp; omega
          have mj : Int.tmod (i : Int) (len : Int) = (j : Int) := by rw [Int.tmod_eq_emod_of_nonneg (by omega), hj]; omega
          obtain ⟨q1, q2⟩ := mdB sv (len : Int) lp (by omega)
          rw [← hk] at q2
          have j0 : (0 : Int) ≤ (j : Int) := by omega
          have j1 : (j : Int) < (n : Int) := by omega
          have k0 : (0 : Int) ≤ (k : Int) := by omega
          have k1 : (k : Int) < (n : Int) := by omega
          have k2 : (k : Int) < (len : Int) := by omega
          obtain ⟨g, rfl⟩ := own_some S.out.row (by omega)
          obtain ⟨mb, mo, rfl, hm0⟩ := (HM.out.1.by kw (fun _ _ z => z)).cells (by omega)
          clear hj hk
          go_upto_region 13 with fail
          have jL : j < L.length := by rw [S.out.len]; omega
          have kL : k < L.length := by rw [S.out.len]; omega
          obtain ⟨⟨x0, x1, x2, x3, x4⟩, ex⟩ : ∃ m, m = L[j] := ⟨_, rfl⟩
          obtain ⟨⟨y0, y1, y2, y3, y4⟩, ey⟩ : ∃ m, m = L[k] := ⟨_, rfl⟩
          obtain ⟨⟨z0, z1, z2, z3, z4⟩, ez⟩ : ∃ m, m = l.getD k Mv.zero := ⟨_, rfl⟩
          have SJ := own_move S.out.row jL
          rw [← ex] at SJ
          dsimp only at SJ
          obtain ⟨a0, a1, a2, a3, a4⟩ := SJ
          have gl := own_lt S.out.row g rfl
          have hm1 := hm0 k kl
          rw [← ez] at hm1
          dsimp only at hm1
          have mlt : mb < w0.heap.size := by
            obtain ⟨b', o', e', hc'⟩ := HM.out.1.cells (by omega)
            have e' : mb = b' := congrArg Addr.block (Option.some.inj e')
            rw [e']
            exact World.block_lt_of_cell? w0 _ (hc' 0 (by omega)).1
          have HX : Hid ((⟨x0, x1, x2, x3, x4⟩ : Mv) = L[j] ∧ (⟨y0, y1, y2, y3, y4⟩ : Mv) = L[k] ∧ (⟨z0, z1, z2, z3, z4⟩ : Mv) = l.getD k Mv.zero ∧ w1.heap.size ≤ g ∧ g < wr.heap.size ∧ mb < w0.heap.size ∧ Kept (fun _ => False) w0 wr ∧ (wr.cell? ⟨mb, mo + k * 5 + 0, none⟩ = some (.int .i64 z0) ∧ wr.cell? ⟨mb, mo + k * 5 + 1, none⟩ = some (.bool z1) ∧ wr.cell? ⟨mb, mo + k * 5 + 2, none⟩ = some (.bool z2) ∧ wr.cell? ⟨mb, mo + k * 5 + 3, none⟩ = some (.int .i64 z3) ∧ wr.cell? ⟨mb, mo + k * 5 + 4, none⟩ = some (.int .i64 z4))) := ⟨ex, ey, ez, gl.1, gl.2, mlt, kw, hm1⟩
          clear ex ey ez gl hm1 hm0 mlt kw c0
          go_upto_region 14 with fail
          obtain ⟨W1, hW1⟩ : ∃ W1, W1 = wr.alloc (.cells #[.int .i64 x0, .bool x1, .bool x2, .int .i64 x3, .int .i64 x4] 28) := ⟨_, rfl⟩
          obtain ⟨MB, hMB⟩ : ∃ B, B = wr.heap.size := ⟨_, rfl⟩
          have R1 : Hid (W1.ownsRow w1.heap.size 28 5 (.slice (some ⟨g, 0, none⟩) n c) n (mcells L) ∧ W1.heap[MB]? = some (.cells #[.int .i64 x0, .bool x1, .bool x2, .int .i64 x3, .int .i64 x4] 28 (0, 0)) ∧ Kept (fun _ => False) wr W1 ∧ MB ≠ g) := by
            rw [hW1, hMB]
            exact ⟨(k0_alloc wr _).owns S.out.row (fun _ _ z => z), heap_alloc_new _ _, k0_alloc _ _, by have := HX.out.2.2.2.2.1; omega⟩
          rw [← hW1, ← hMB]
          clear hW1 hMB a0 a1 a2 a3 a4
          have SJ := own_move R1.out.1 jL
          rw [← HX.out.1] at SJ
          dsimp only at SJ
          obtain ⟨a0, a1, a2, a3, a4⟩ := SJ
          have SK := own_move R1.out.1 kL
          rw [← HX.out.2.1] at SK
          dsimp only at SK
          obtain ⟨b0, b1, b2, b3, b4⟩ := SK
          have f0 := R1.out.1.frozenAt (j * 5)
          have f1 := R1.out.1.frozenAt (j * 5 + 1)
          have f2 := R1.out.1.frozenAt (j * 5 + 2)
          have f3 := R1.out.1.frozenAt (j * 5 + 3)
          have f4 := R1.out.1.frozenAt (j * 5 + 4)
          go_upto_region 15 with fail
          obtain ⟨W5, hW5⟩ : ∃ W5, W5 = (((((W1.setCell ⟨g, j * 5, none⟩ (.int .i64 y0)).setCell ⟨g, j * 5 + 1, none⟩ (.bool y1)).setCell ⟨g, j * 5 + 2, none⟩ (.bool y2)).setCell ⟨g, j * 5 + 3, none⟩ (.int .i64 y3)).setCell ⟨g, j * 5 + 4, none⟩ (.int .i64 y4)) := ⟨_, rfl⟩
          have R5 : Hid (W5.ownsRow w1.heap.size 28 5 (.slice (some ⟨g, 0, none⟩) n c) n (mcells (L.set j ⟨y0, y1, y2, y3, y4⟩)) ∧ W5.heap[MB]? = some (.cells #[.int .i64 x0, .bool x1, .bool x2, .int .i64 x3, .int .i64 x4] 28 (0, 0)) ∧ Kept (fun k => k = g) W1 W5) := by
            rw [hW5]
            exact ⟨row_set R1.out.1 j jL ⟨y0, y1, y2, y3, y4⟩, (five_kept _ _ _ _ _ _ _ _ _ _ _ _).get R1.out.2.1 R1.out.2.2.2, five_kept _ _ _ _ _ _ _ _ _ _ _ _⟩
          rw [← hW5]
          clear hW5 a0 a1 a2 a3 a4 b0 b1 b2 b3 b4 f0 f1 f2 f3 f4
          have kL5 : k < (L.set j ⟨y0, y1, y2, y3, y4⟩).length := by rw [List.length_set]; exact kL
          obtain ⟨⟨v0, v1, v2, v3, v4⟩, ev⟩ : ∃ m, m = (L.set j ⟨y0, y1, y2, y3, y4⟩)[k] := ⟨_, rfl⟩
          have SK := own_move R5.out.1 kL5
          rw [← ev] at SK
          clear ev
          dsimp only at SK
          obtain ⟨b0, b1, b2, b3, b4⟩ := SK
          have f0 := R5.out.1.frozenAt (k * 5)
          have f1 := R5.out.1.frozenAt (k * 5 + 1)
          have f2 := R5.out.1.frozenAt (k * 5 + 2)
          have f3 := R5.out.1.frozenAt (k * 5 + 3)
          have f4 := R5.out.1.frozenAt (k * 5 + 4)
          have m0 := cell_blk R5.out.2.1 0 (v := .int .i64 x0) rfl
          have m1 := cell_blk R5.out.2.1 1 (v := .bool x1) rfl
          have m2 := cell_blk R5.out.2.1 2 (v := .bool x2) rfl
          have m3 := cell_blk R5.out.2.1 3 (v := .int .i64 x3) rfl
          have m4 := cell_blk R5.out.2.1 4 (v := .int .i64 x4) rfl
          go_upto_region 16 with fail
          obtain ⟨W6, hW6⟩ : ∃ W6, W6 = (((((W5.setCell ⟨g, k * 5, none⟩ (.int .i64 x0)).setCell ⟨g, k * 5 + 1, none⟩ (.bool x1)).setCell ⟨g, k * 5 + 2, none⟩ (.bool x2)).setCell ⟨g, k * 5 + 3, none⟩ (.int .i64 x3)).setCell ⟨g, k * 5 + 4, none⟩ (.int .i64 x4)) := ⟨_, rfl⟩
          obtain ⟨L6, hL6⟩ : ∃ L6, L6 = (L.set j ⟨y0, y1, y2, y3, y4⟩).set k ⟨x0, x1, x2, x3, x4⟩ := ⟨_, rfl⟩
          have R6 : Hid (W6.ownsRow w1.heap.size 28 5 (.slice (some ⟨g, 0, none⟩) n c) n (mcells L6) ∧ L6.length = n ∧ (∀ m, m ∈ l ↔ m ∈ L6) ∧ Kept (fun k => k = g) wr W6 ∧ Kept (fun _ => False) w1 W6) := by
            have K1 : Kept (fun k => k = g) wr W6 := by
              rw [hW6]
              exact ((R1.out.2.2.1.mono (fun _ _ z => z.elim)).trans R5.out.2.2 (fun _ _ z => z)).trans (five_kept _ _ _ _ _ _ _ _ _ _ _ _) (fun _ _ z => z)
            refine ⟨by rw [hW6, hL6]; exact row_set R5.out.1 k kL5 ⟨x0, x1, x2, x3, x4⟩, by rw [hL6, List.length_set, List.length_set]; exact S.out.len, fun m => ?_, K1, S.out.kept.trans K1 (fun q hq z => ?_)⟩
            · rw [S.out.mem m, hL6, HX.out.1, HX.out.2.1]
              exact (swap_mem L j k jL kL m).symm
            · have z : q = g := z
              have := HX.out.2.2.2.1
              omega
          rw [← hW6]
          clear hW6 hL6 b0 b1 b2 b3 b4 f0 f1 f2 f3 f4 m0 m1 m2 m3 m4
          have ng : ¬ mb = g := by
            have := HX.out.2.2.2.1
            have := HX.out.2.2.2.2.2.1
            have := HD.out.1.kept.size
            omega
          have hz0 := HX.out.2.2.2.2.2.2.2
          have e0 := R6.out.2.2.2.1.cell hz0.1 ng
          have e1 := R6.out.2.2.2.1.cell hz0.2.1 ng
          have e2 := R6.out.2.2.2.1.cell hz0.2.2.1 ng
          have e3 := R6.out.2.2.2.1.cell hz0.2.2.2.1 ng
          have e4 := R6.out.2.2.2.1.cell hz0.2.2.2.2 ng
          rw [Nat.add_zero] at e0
          clear hz0
          have BL2 : Hid (n + 1 ≤ maxLen ∧ ((n + 1) + (n + 1) / 4 + 192) * 32 ≤ 281474976710656) := by
            unfold maxLen
            exact ⟨by omega, by omega⟩
          go_wp2_with
            (first
              | (at_builtin; refine wpList_append_all _ rfl (.tmp 69) (.tmp 74) 22 28 22 _ 5 32 rfl Tryz.underlying22 Tryz.info28c rfl w1.heap.size (.slice (some ⟨g, 0, none⟩) n c) n (mcells L6) rfl ((k0_alloc W6 _).owns R6.out.1 (fun _ _ z => z)) _ 1 (encM ⟨z0, z1, z2, z3, z4⟩) rfl (src_mv (heap_alloc_new W6 _)) BL2.out.1 BL2.out.2 (Nat.le_trans R6.out.2.2.2.2.size (k0_alloc W6 _).size) ?_; intro p8 c8 w8 ho hg hn')
              | fail)
          have T8 : Hid (OS w1 w8 p8 (n + 1) c8 l (L6 ++ [⟨z0, z1, z2, z3, z4⟩])) := by
            have KG : Kept (fun k => k = g) W6 w8 := ((Kept.refl (fun k => k = g) W6).alloc _).grown hg.out (fun k _ z => (Option.some.inj z).symm)
            refine ⟨by rw [List.length_append, R6.out.2.1]; rfl, ?_, fun m => ?_, R6.out.2.2.2.2.trans KG (fun q hq z => ?_)⟩
            · rw [mcells_append]
              have e0 : mcells [⟨z0, z1, z2, z3, z4⟩] = encM ⟨z0, z1, z2, z3, z4⟩ := by simp [mcells]
              rw [e0]
              exact ho.out
            · rw [List.mem_append, List.mem_singleton, R6.out.2.2.1 m]
              constructor
              · exact .inl
              · rintro (z | z)
                · exact z
                · rw [z, HX.out.2.2.1, ← R6.out.2.2.1]
                  have hkl : k < l.length := by rw [HM.out.1.length]; exact kl
                  rw [List.getD_eq_getElem?_getD, List.getElem?_eq_getElem hkl]
                  exact List.getElem_mem _
            · have z : q = g := z
              have := HX.out.2.2.2.1
              omega
          clear ho hg hn'
          go_roundw
          case rel => exact ⟨i + 1, n + 1, c8, p8, rfl, by go_num, by omega, by have := HN.out; omega, _, T8⟩
          case measure => simp [intOf] <;> omega
      · have i1 : ¬ (i : Int) < (slen : Int) := by omega
        have N2 : n ≤ 2097152 := by omega
        go_wp2_with fail
        go_meet
        exact ⟨p, n, c, rfl, N2, L, S⟩
  case rest =>
    obtain ⟨p, n, c, rfl, n2, L, S⟩ := hcut
    go_wp2_with fail
    refine (tDone dd p n c L wc (mreads_of S.out.row S.out.len) (by omega) d0 (by omega)).mono ?_
    rintro o w2 ⟨tb2, rfl, D2⟩
    obtain ⟨t2, dst2, et2⟩ := D2.out
    have SH := same_hist HD.out.1 dst2 d0 S.out.mem
    have E2 : Hid (Dst wc w2 dd t2 L ∧ t2.tb = tb2 ∧ L.length ≤ 4398046511104 ∧ Dst w0 w2 dd t l ∧ (∀ vs vs', AllOf t (datOf t) vs → AllOf t2 (datOf t2) vs' → vs = vs')) := ⟨dst2, et2, by rw [S.out.len]; omega, HD.out.1.k0 (S.out.kept.and0 dst2.kept), fun vs vs' h h' => all_one h h' SH.1 SH.2⟩
    clear dst2 et2 D2 SH
    go_wp2_with fail
    refine (dAll E2.out.2.2.2.1 HD.out.2.1 HD.out.2.2).mono ?_
    rintro o w3 ⟨p3, n3, c3, v3, rfl, A3⟩
    go_wp2_with fail
    refine (dAll (E2.out.1.k0 A3.out.2.2) E2.out.2.1 E2.out.2.2.1).mono ?_
    rintro o w4 ⟨p4, n4, c4, v4, rfl, A4⟩
    have SA : Hid (Calls Tryz.prog 17 #[.slice p3 n3 c3, .slice p4 n4 c4] w4 fun o w' => o = .returned (.bool true) ∧ Kept (fun _ => False) w4 w') := by
      refine (sameAllG p3 p4 n3 n4 c3 c4 v3 v4 w4 (A3.out.1.k0 A4.out.2.2) A4.out.1).mono ?_
      rintro o w' ⟨⟨yb, rfl, hyb⟩, K⟩
      have : yb = true := hyb.2 (E2.out.2.2.2.2 v3 v4 A3.out.2.1 A4.out.2.1)
      rw [this]
      exact ⟨rfl, K⟩
    have K24 : Hid (Kept (fun _ => False) w2 w4) := A3.out.2.2.and0 A4.out.2.2
    clear A3 A4
    go_wp2_with fail
    refine SA.out.mono ?_
    rintro o w5 ⟨rfl, K5⟩
    have K25 : Hid (Kept (fun _ => False) w2 w5) := K24.out.and0 K5
    clear K5 SA K24
    go_wp2_with fail
    refine (dUpdates (E2.out.2.2.2.1.k0 K25.out) HD.out.2.1 HD.out.2.2).mono ?_
    rintro o w6 ⟨p6, n6, c6, rfl, v6, U6⟩
    go_wp2_with fail
    refine (dUpdates (E2.out.1.k0 (K25.out.and0 U6.out.2.2)) E2.out.2.1 E2.out.2.2.1).mono ?_
    rintro o w7 ⟨p7, n7, c7, rfl, v7, U7⟩
    have SU : Hid (Calls Tryz.prog 25 #[.slice p6 n6 c6, .slice p7 n7 c7] w7 fun o w' => o = .returned (.bool true) ∧ Kept (fun _ => False) w7 w') := by
      have e := E2.out.2.2.2.2 v6 v7 U6.out.2.1 U7.out.2.1
      have u7 := U7.out.1
      rw [← e] at u7
      have en : n7 = n6 := by rw [← u7.len, ← U6.out.1.len]
      subst en
      exact sameUpdatesE 0 0 p6 p7 n7 c6 c7 (flat v6) w7 (U6.out.1.k0 U7.out.2.2) u7
    have K27 : Hid (Kept (fun _ => False) w0 w7) := ((E2.out.2.2.2.1.kept.and0 K25.out).and0 U6.out.2.2).and0 U7.out.2.2
    clear U6 U7 K25
    go_wp2_with fail
    refine SU.out.mono ?_
    rintro o w8 ⟨rfl, K8⟩
    have K28 : Hid (Kept (fun _ => False) w0 w8) := K27.out.and0 K8
    clear K8 SU K27
    go_wp2_with fail
    refine (taken w8).mono ?_
    rintro o w10 ⟨rfl, K10⟩
    have KE : Hid (Kept (fun _ => False) w0 w10) := K28.out.and0 K10
    clear K10
    go_wp2_with fail
    go_ret
    exact ⟨rfl, KE.out⟩
end Go.Proofs.YtojepeefphbekaaGreat
