import Derived.Test.YtojfnehdanhgiaaPlayE
import Derived.Deep.CutBlock
namespace Go.Proofs.Ytojfnehdanhgiaa
open Go.RowKit

/-- A script that was handed in. -/
structure Script (w : World) (q : Option Addr) (n cap : Nat) (O : List Opv) : Prop where
  length : O.length = n
  room : n ≤ cap
  small : cap ≤ maxLen
  cells : 0 < n → ∃ b off, q = some ⟨b, off, none⟩ ∧ ∀ i (h : i < O.length), ∀ c v, (O[i].cs)[c]? = some v → w.cell? ⟨b, off + i * 11 + c, none⟩ = some v
  ok : ∀ o ∈ O, OpOk w o ∧ (-9223372036854775808 ≤ o.nt ∧ o.nt < 9223372036854775808)
theorem OpOk.low {w : World} {o : Opv} (h : OpOk w o) : 0 < o.dl → ∀ p, o.a = some p → p.block < w.heap.size := fun h0 p hp => by
  obtain ⟨b, off, e, hc⟩ := h.reads.cells h0
  rw [hp] at e
  cases e
  exact World.block_lt_of_cell? w ⟨b, off + 0, none⟩ (hc 0 h0)
/-- The parity of a number. -/
theorem parity (x : Int) (hx : -9223372036854775808 ≤ x ∧ x < 9223372036854775808) : ∃ y z : Int, ∃ k j : Nat, x.tmod 2 = y ∧ IntKind.i64.wrap (y + 2) = z ∧ z.tmod 2 = (k : Int) ∧ IntKind.i64.wrap (1 - (k : Int)) = (j : Int) ∧ ((k = 0 ∧ j = 1) ∨ (k = 1 ∧ j = 0)) := by
  have a : -2 < x.tmod 2 ∧ x.tmod 2 < 2 := by
    rcases Int.le_total 0 x with h | h
    · rw [Int.tmod_eq_emod_of_nonneg h]; omega
    · have e : x.tmod 2 = -((-x).tmod 2) := by rw [Int.neg_tmod]; omega
      rw [e, Int.tmod_eq_emod_of_nonneg (by omega)]; omega
  have e : IntKind.i64.wrap (x.tmod 2 + 2) = x.tmod 2 + 2 := by rw [IntKind.wrap_i64]; omega
  obtain ⟨k, hk⟩ : ∃ k : Nat, (k : Int) = (x.tmod 2 + 2).tmod 2 := ⟨((x.tmod 2 + 2).tmod 2).toNat, by rw [Int.tmod_eq_emod_of_nonneg (by omega)]; omega⟩
  have hk2 : k < 2 := by rw [Int.tmod_eq_emod_of_nonneg (by omega)] at hk; omega
  refine ⟨_, _, k, 1 - k, rfl, e, hk.symm, by rw [IntKind.wrap_i64]; omega, by omega⟩
theorem NP.start (w : World) : NP w ((((((w.alloc (.cells #[.slice none 0 0] 67)).alloc (.cells #[.slice none 0 0] 67)).alloc (.cells #[.pointer (some ⟨w.heap.size, 0, none⟩), .pointer (some ⟨w.heap.size + 1, 0, none⟩)] 53)).alloc (.cells #[.slice none 0 0] 71)).alloc (.cells #[.slice none 0 0] 71)).alloc (.cells #[.pointer (some ⟨w.heap.size + 1 + 1 + 1, 0, none⟩), .pointer (some ⟨w.heap.size + 1 + 1 + 1 + 1, 0, none⟩)] 56)) (w.heap.size + 1 + 1) (w.heap.size + 1 + 1 + 1 + 1 + 1) 0 1
    (.pointer (some ⟨w.heap.size, 0, none⟩)) (.pointer (some ⟨w.heap.size + 1 + 1 + 1, 0, none⟩)) (.pointer (some ⟨w.heap.size + 1, 0, none⟩)) (.pointer (some ⟨w.heap.size + 1 + 1 + 1 + 1, 0, none⟩)) (some (w.heap.size, none)) (some (w.heap.size + 1 + 1 + 1, none)) (some (w.heap.size + 1, none)) (some (w.heap.size + 1 + 1 + 1 + 1, none)) [] [] := by
  obtain ⟨a1, h1⟩ : ∃ a1, a1 = w.alloc (.cells #[.slice none 0 0] 67) := ⟨_, rfl⟩
  obtain ⟨a2, h2⟩ : ∃ a2, a2 = a1.alloc (.cells #[.slice none 0 0] 67) := ⟨_, rfl⟩
  obtain ⟨a3, h3⟩ : ∃ a3, a3 = a2.alloc (.cells #[.pointer (some ⟨w.heap.size, 0, none⟩), .pointer (some ⟨w.heap.size + 1, 0, none⟩)] 53) := ⟨_, rfl⟩
  obtain ⟨a4, h4⟩ : ∃ a4, a4 = a3.alloc (.cells #[.slice none 0 0] 71) := ⟨_, rfl⟩
  obtain ⟨a5, h5⟩ : ∃ a5, a5 = a4.alloc (.cells #[.slice none 0 0] 71) := ⟨_, rfl⟩
  obtain ⟨a6, h6⟩ : ∃ a6, a6 = a5.alloc (.cells #[.pointer (some ⟨w.heap.size + 1 + 1 + 1, 0, none⟩), .pointer (some ⟨w.heap.size + 1 + 1 + 1 + 1, 0, none⟩)] 56) := ⟨_, rfl⟩
  rw [← h1, ← h2, ← h3, ← h4, ← h5, ← h6]
  have z1 : a1.heap.size = w.heap.size + 1 := by rw [h1]; exact alloc_size _ _
  have z2 : a2.heap.size = w.heap.size + 1 + 1 := by rw [h2, alloc_size, z1]
  have z3 : a3.heap.size = w.heap.size + 1 + 1 + 1 := by rw [h3, alloc_size, z2]
  have z4 : a4.heap.size = w.heap.size + 1 + 1 + 1 + 1 := by rw [h4, alloc_size, z3]
  have z5 : a5.heap.size = w.heap.size + 1 + 1 + 1 + 1 + 1 := by rw [h5, alloc_size, z4]
  have z6 : a6.heap.size = w.heap.size + 1 + 1 + 1 + 1 + 1 + 1 := by rw [h6, alloc_size, z5]
  have K5 : Kept (fun _ => False) a5 a6 := by rw [h6]; exact alloc_kept0 _ _
  have K4 : Kept (fun _ => False) a4 a6 := by rw [h6, h5]; exact ((Kept.refl _ a4).alloc _).alloc _
  have K3 : Kept (fun _ => False) a3 a6 := by rw [h6, h5, h4]; exact (((Kept.refl _ a3).alloc _).alloc _).alloc _
  have K2 : Kept (fun _ => False) a2 a6 := by rw [h6, h5, h4, h3]; exact ((((Kept.refl _ a2).alloc _).alloc _).alloc _).alloc _
  have K1 : Kept (fun _ => False) a1 a6 := by rw [h6, h5, h4, h3, h2]; exact (((((Kept.refl _ a1).alloc _).alloc _).alloc _).alloc _).alloc _
  have K0 : Kept (fun _ => False) w a6 := by rw [h6, h5, h4, h3, h2, h1]; exact ((((((Kept.refl _ w).alloc _).alloc _).alloc _).alloc _).alloc _).alloc _
  have n0 : NetOf 67 w.heap.size a6 w.heap.size none [] := (by rw [h1]; exact net_of_new w (Nat.le_refl _) (by decide) (by decide) : NetOf 67 w.heap.size a1 w.heap.size none []).kept0 K1
  have n1 : NetOf 67 w.heap.size a6 (w.heap.size + 1) none [] := (by rw [h2, ← z1]; exact net_of_new a1 (by omega) (by decide) (by decide) : NetOf 67 w.heap.size a2 (w.heap.size + 1) none []).kept0 K2
  have m0 : NetOf 71 w.heap.size a6 (w.heap.size + 1 + 1 + 1) none [] := (by rw [h4, ← z3]; exact net_of_new a3 (by omega) (by decide) (by decide) : NetOf 71 w.heap.size a4 (w.heap.size + 1 + 1 + 1) none []).kept0 K4
  have m1 : NetOf 71 w.heap.size a6 (w.heap.size + 1 + 1 + 1 + 1) none [] := (by rw [h5, ← z4]; exact net_of_new a4 (by omega) (by decide) (by decide) : NetOf 71 w.heap.size a5 (w.heap.size + 1 + 1 + 1 + 1) none []).kept0 K5
  have bA : a6.heap[w.heap.size + 1 + 1]? = some (.cells #[.pointer (some ⟨w.heap.size, 0, none⟩), .pointer (some ⟨w.heap.size + 1, 0, none⟩)] 53 (0, 0)) := K3.get (by rw [h3, ← z2]; exact alloc_new _ _) (fun q => q)
  have bB : a6.heap[w.heap.size + 1 + 1 + 1 + 1 + 1]? = some (.cells #[.pointer (some ⟨w.heap.size + 1 + 1 + 1, 0, none⟩), .pointer (some ⟨w.heap.size + 1 + 1 + 1 + 1, 0, none⟩)] 56 (0, 0)) := by rw [h6, ← z5]; exact alloc_new _ _
  have one : ∀ (C k : Nat), FP (some (C, none)) k → k = C := fun C k z => by
    rcases FP_some.1 z with y | y
    · exact y
    · cases y
  refine ⟨.inl ⟨rfl, rfl⟩, K0, ⟨_, bA, rfl, rfl, rfl⟩, ⟨_, bB, rfl, rfl, rfl⟩, ⟨by omega, by omega⟩, ⟨.inr ⟨_, _, rfl, rfl, n0⟩, .inr ⟨_, _, rfl, rfl, m0⟩, fun k x y => ?_, K0.size, rfl⟩, ⟨.inr ⟨_, _, rfl, rfl, n1⟩, .inr ⟨_, _, rfl, rfl, m1⟩, fun k x y => ?_, K0.size, rfl⟩, fun k x y => ?_⟩
  · have := one _ _ x; have := one _ _ y; omega
  · have := one _ _ x; have := one _ _ y; omega
  · rcases x with x | x <;> rcases y with y | y <;> (have := one _ _ x; have := one _ _ y; omega)
/-- Whichever is asked for comes first. -/
theorem NP.pick {w wr : World} {bA bB k j : Nat} {v r v' r' : Value} {sn sr sn' sr' : Option (Nat × Option Nat)} {ps ps' : List Pk} {i : Nat} (h : NP w wr bA bB 0 1 v r v' r' sn sr sn' sr' ps ps') (hl : ps.length ≤ i ∧ ps'.length ≤ i) (hkj : (k = 0 ∧ j = 1) ∨ (k = 1 ∧ j = 0)) :
    ∃ v r v' r' sn sr sn' sr' ps ps', NP w wr bA bB k j v r v' r' sn sr sn' sr' ps ps' ∧ ps.length ≤ i ∧ ps'.length ≤ i := by
  rcases hkj with ⟨rfl, rfl⟩ | ⟨rfl, rfl⟩
  · exact ⟨v, r, v', r', sn, sr, sn', sr', ps, ps', h, hl⟩
  · exact ⟨v', r', v, r, sn', sr', sn, sr, ps', ps, h.flip, hl.2, hl.1⟩
theorem NP.norm {w wr : World} {bA bB k j : Nat} {v r v' r' : Value} {sn sr sn' sr' : Option (Nat × Option Nat)} {ps ps' : List Pk} {i : Nat} (h : NP w wr bA bB k j v r v' r' sn sr sn' sr' ps ps') (hl : ps.length ≤ i ∧ ps'.length ≤ i) :
    ∃ v r v' r' sn sr sn' sr' ps ps', NP w wr bA bB 0 1 v r v' r' sn sr sn' sr' ps ps' ∧ ps.length ≤ i ∧ ps'.length ≤ i := by
  rcases h.kj with ⟨rfl, rfl⟩ | ⟨rfl, rfl⟩
  · exact ⟨v, r, v', r', sn, sr, sn', sr', ps, ps', h, hl⟩
  · exact ⟨v', r', v, r, sn', sr', sn, sr, ps', ps, h.flip, hl.2, hl.1⟩
set_option maxRecDepth 100000 in
set_option maxHeartbeats 4000000 in
theorem netPlays (q : Option Addr) (n cap : Nat) (O : List Opv) (w : World) (hO : Script w q n cap O) (hb : n + 1 ≤ Big) :
    Calls Try.prog 6 #[.slice q n cap] w fun x w' => x = .returned (.bool true) ∧ Kept (fun _ => False) w w' := by
  have HO : Hid (Script w q n cap O ∧ n + 1 ≤ Big) := ⟨hO, hb⟩
  have hl := hO.length
  have hr := hO.room
  have hs := hO.small
  unfold maxLen at hs
  clear hO hb
  go_enter Try.func6, Try.ntmps6
  go_wp2_with fail
  refine (nNew w).mono ?_
  rintro x w1 ⟨rfl, rfl⟩
  go_wp2_with fail
  refine (nNew _).mono ?_
  rintro x w2 ⟨rfl, rfl⟩
  go_wp2_with fail
  refine (rNew _).mono ?_
  rintro x w3 ⟨rfl, rfl⟩
  go_wp2_with fail
  refine (rNew _).mono ?_
  rintro x w4 ⟨rfl, rfl⟩
  have N0 : Hid (NP w ((((((w.alloc (.cells #[.slice none 0 0] 67)).alloc (.cells #[.slice none 0 0] 67)).alloc (.cells #[.pointer (some ⟨w.heap.size, 0, none⟩), .pointer (some ⟨w.heap.size + 1, 0, none⟩)] 53)).alloc (.cells #[.slice none 0 0] 71)).alloc (.cells #[.slice none 0 0] 71)).alloc (.cells #[.pointer (some ⟨w.heap.size + 1 + 1 + 1, 0, none⟩), .pointer (some ⟨w.heap.size + 1 + 1 + 1 + 1, 0, none⟩)] 56)) (w.heap.size + 1 + 1) (w.heap.size + 1 + 1 + 1 + 1 + 1) 0 1
    (.pointer (some ⟨w.heap.size, 0, none⟩)) (.pointer (some ⟨w.heap.size + 1 + 1 + 1, 0, none⟩)) (.pointer (some ⟨w.heap.size + 1, 0, none⟩)) (.pointer (some ⟨w.heap.size + 1 + 1 + 1 + 1, 0, none⟩)) (some (w.heap.size, none)) (some (w.heap.size + 1 + 1 + 1, none)) (some (w.heap.size + 1, none)) (some (w.heap.size + 1 + 1 + 1 + 1, none)) [] []) := NP.start w
  go_wp2_with fail
  go_loopw [2, 6, 7, 25] (fun _ _ _ x wr => ∃ (i : Nat), x = .int .i64 (i : Int) ∧ i ≤ n ∧ Hid (∃ v r v' r' sn sr sn' sr' ps ps', NP w wr (w.heap.size + 1 + 1) (w.heap.size + 1 + 1 + 1 + 1 + 1) 0 1 v r v' r' sn sr sn' sr' ps ps' ∧ ps.length ≤ i ∧ ps'.length ≤ i)) (fun _ _ _ x _ => n - (intOf x).toNat)
  case atStart => exact ⟨0, rfl, Nat.zero_le _, _, _, _, _, _, _, _, _, _, _, N0.out, Nat.le_refl _, Nat.le_refl _⟩
  case round =>
    obtain ⟨i, rfl, hi, S⟩ := hrel
    by_cases hlt : i < n
    · have i1 : (i : Int) < (n : Int) := by omega
      obtain ⟨b, off, rfl, hc⟩ := HO.out.1.cells (by omega)
      have hiO : i < O.length := by omega
      obtain ⟨o, ho⟩ : ∃ o, O[i] = o := ⟨_, rfl⟩
      obtain ⟨okO, ntO⟩ := HO.out.1.ok O[i] (List.getElem_mem hiO)
      have hc' := hc i hiO
      rw [ho] at hc' okO ntO
      obtain ⟨y, z, k, j, hy, hz, hq, hj, hkj⟩ := parity o.nt ntO
      obtain ⟨v0, r0, v0', r0', sn0, sr0, sn0', sr0', ps0, ps0', NPx, hps⟩ := S.out
      obtain ⟨v, r, v', r', sn, sr, sn', sr', ps, ps', N, hl1, hl2⟩ := NPx.pick hps hkj
      have kk : ∀ c vv, (o.cs)[c]? = some vv → wr.cell? ⟨b, off + i * 11 + c, none⟩ = some vv := fun c vv h => N.kept.cell (hc' c vv h) (fun q => q)
      have d0 : wr.cell? ⟨b, off + i * 11, none⟩ = some (.int .i64 o.kd) := kk 0 _ rfl
      have d1 : wr.cell? ⟨b, off + i * 11 + 1, none⟩ = some (.int .i64 o.nt) := kk 1 _ rfl
      have d2 : wr.cell? ⟨b, off + i * 11 + 2, none⟩ = some (.int .i64 o.fk) := kk 2 _ rfl
      have d3 : wr.cell? ⟨b, off + i * 11 + 3, none⟩ = some (.int .i64 o.fi) := kk 3 _ rfl
      have d4 : wr.cell? ⟨b, off + i * 11 + 4, none⟩ = some (.int .i64 o.tk) := kk 4 _ rfl
      have d5 : wr.cell? ⟨b, off + i * 11 + 5, none⟩ = some (.int .i64 o.ti) := kk 5 _ rfl
      have d6 : wr.cell? ⟨b, off + i * 11 + 6, none⟩ = some (.slice o.a o.dl o.dc) := kk 6 _ rfl
      have d7 : wr.cell? ⟨b, off + i * 11 + 7, none⟩ = some (.bool o.lost) := kk 7 _ rfl
      have d8 : wr.cell? ⟨b, off + i * 11 + 8, none⟩ = some (.int .i64 o.i) := kk 8 _ rfl
      have d9 : wr.cell? ⟨b, off + i * 11 + 9, none⟩ = some (.int .i64 o.n) := kk 9 _ rfl
      have d10 : wr.cell? ⟨b, off + i * 11 + 10, none⟩ = some (.int .u32 (o.pat : Int)) := kk 10 _ rfl
      have NH : Hid (NP w wr (w.heap.size + 1 + 1) (w.heap.size + 1 + 1 + 1 + 1 + 1) k j v r v' r' sn sr sn' sr' ps ps' ∧ ps.length ≤ i ∧ ps'.length ≤ i) := ⟨N, hl1, hl2⟩
      have OK : Hid (OpOk w o) := okO
      have iB : Hid (i + 2 ≤ Big) := by have := HO.out.2; show i + 2 ≤ Big; omega
      have k2 : (k : Int) < 2 := by omega
      have j2 : (j : Int) < 2 := by omega
      clear hc hc' kk N NPx S ho okO ntO hps hl1 hl2
      by_cases h8 : o.kd = 8
      · obtain ⟨W, hW⟩ : ∃ W, W = wr.alloc (.cells #[.int .i64 8, .int .i64 o.nt, .int .i64 o.fk, .int .i64 o.fi, .int .i64 o.tk, .int .i64 o.ti, .slice o.a o.dl o.dc, .bool o.lost, .int .i64 o.i, .int .i64 o.n, .int .u32 (o.pat : Int)] 58) := ⟨_, rfl⟩
        have NW : Hid (NP w W (w.heap.size + 1 + 1) (w.heap.size + 1 + 1 + 1 + 1 + 1) k j v r v' r' sn sr sn' sr' ps ps') := by show NP w W _ _ _ _ _ _ _ _ _ _ _ _ _ _; rw [hW]; exact NH.out.1.quiet (alloc_kept0 _ _)
        obtain ⟨a1, a2, a3⟩ := NW.out.boxA.cell
        have bW : W.heap[wr.heap.size]? = some (.cells #[.int .i64 8, .int .i64 o.nt, .int .i64 o.fk, .int .i64 o.fi, .int .i64 o.tk, .int .i64 o.ti, .slice o.a o.dl o.dc, .bool o.lost, .int .i64 o.i, .int .i64 o.n, .int .u32 (o.pat : Int)] 58) := by rw [hW]; exact alloc_new _ _
        have o0 := cell_blk bW 0 (v := .int .i64 8) rfl
        have o1 := cell_blk bW 1 (v := .int .i64 o.nt) rfl
        have EW : Hid (W = wr.alloc (.cells #[.int .i64 8, .int .i64 o.nt, .int .i64 o.fk, .int .i64 o.fi, .int .i64 o.tk, .int .i64 o.ti, .slice o.a o.dl o.dc, .bool o.lost, .int .i64 o.i, .int .i64 o.n, .int .u32 (o.pat : Int)] 58)) := hW
        rw [hW] at o0 o1 a1 a2 a3
        clear hW bW
        go_wp2_with fail
        rw [← EW.out]
        refine (side_copy67 NW.out.p.net (Nat.le_trans NH.out.2.1 (Nat.le_trans (Nat.le_add_right _ 2) iB.out))).mono ?_
        rintro x w5 ⟨v2, s2, rfl, n2, e2, K5⟩
        have N5 := NW.out.quiet K5
        obtain ⟨b1, b2, b3⟩ := N5.boxA.cell
        obtain ⟨c1, c2, c3⟩ := N5.boxB.cell
        have S5 : Hid (NSide 67 W.heap.size w5 v2 s2 ps ∧ sn.isSome = s2.isSome ∧ Kept (fun _ => False) W w5) := ⟨n2, e2, K5⟩
        have BB : Hid (NSide 71 w.heap.size (w5.setCell ⟨w.heap.size + 1 + 1, j, none⟩ v2) r sr ps) := by
          obtain ⟨csA, q1, _⟩ := N5.boxA
          have KA : Kept (fun x => x = w.heap.size + 1 + 1) w5 (w5.setCell ⟨w.heap.size + 1 + 1, j, none⟩ v2) := (Kept.refl (fun x => x = w.heap.size + 1 + 1) w5).setCell (p := ⟨w.heap.size + 1 + 1, j, none⟩) (fun _ => rfl) _
          have nA := N5.p.not q1 (by decide) (by decide) (by decide)
          exact N5.p.ref.kept KA (fun x hx z => nA (.inr (by have z : x = w.heap.size + 1 + 1 := z; rw [← z]; exact hx))) (fun x _ z => by rw [z]; intro cs f y; rw [q1] at y; simp at y)
        have vp : ∃ pp, v2 = .pointer pp := by
          rcases n2 with ⟨_, rfl⟩ | ⟨_, _, _, rfl, _⟩
          · exact ⟨none, rfl⟩
          · exact ⟨_, rfl⟩
        obtain ⟨pp, rfl⟩ := vp
        have lA5 : w.heap.size + 1 + 1 < w5.heap.size := World.block_lt_of_cell? w5 _ b1
        have nAB : ¬ (w.heap.size + 1 + 1 + 1 + 1 + 1 = w.heap.size + 1 + 1) := by omega
        clear N5 n2 e2 K5
        go_wp2_with fail
        refine (side_copy71 BB.out (Nat.le_trans NH.out.2.1 (Nat.le_trans (Nat.le_add_right _ 2) iB.out))).mono ?_
        rintro x w7 ⟨r2, t2, rfl, m2, f2, K7⟩
        have N8 : Hid (NP w (w7.setCell ⟨w.heap.size + 1 + 1 + 1 + 1 + 1, j, none⟩ r2) (w.heap.size + 1 + 1) (w.heap.size + 1 + 1 + 1 + 1 + 1) k j v r (.pointer pp) r2 sn sr s2 t2 ps ps) := NW.out.copied S5.out.1 S5.out.2.1 S5.out.2.2 m2 f2 K7
        have f7 : w7.cell? ⟨w.heap.size + 1 + 1 + 1 + 1 + 1, j, none⟩ = some r' ∧ w7.frozen? ⟨w.heap.size + 1 + 1 + 1 + 1 + 1, j, none⟩ = false := by
          have q0 := (NW.out.quiet S5.out.2.2).boxB
          have KA : Kept (fun x => x = w.heap.size + 1 + 1) w5 (w5.setCell ⟨w.heap.size + 1 + 1, j, none⟩ (.pointer pp)) := (Kept.refl (fun x => x = w.heap.size + 1 + 1) w5).setCell (p := ⟨w.heap.size + 1 + 1, j, none⟩) (fun _ => rfl) _
          obtain ⟨_, q2, q3⟩ := ((q0.kept KA (fun z => nAB z)).kept K7 (fun q => q)).cell
          exact ⟨q2, q3⟩
        obtain ⟨f71, f72⟩ := f7
        have rp : ∃ pr, r2 = .pointer pr := by
          rcases m2 with ⟨_, rfl⟩ | ⟨_, _, _, rfl, _⟩
          · exact ⟨none, rfl⟩
          · exact ⟨_, rfl⟩
        obtain ⟨pr, rfl⟩ := rp
        clear m2 f2 K7
        go_wp2_with fail
        go_roundw
        case rel => exact ⟨i + 1, by go_num, by omega, N8.out.norm ⟨Nat.le_succ_of_le NH.out.2.1, Nat.le_succ_of_le NH.out.2.1⟩⟩
        case measure => simp [intOf]; omega
      · obtain ⟨W, hW⟩ : ∃ W, W = wr.alloc (.cells #[.int .i64 o.kd, .int .i64 o.nt, .int .i64 o.fk, .int .i64 o.fi, .int .i64 o.tk, .int .i64 o.ti, .slice o.a o.dl o.dc, .bool o.lost, .int .i64 o.i, .int .i64 o.n, .int .u32 (o.pat : Int)] 58) := ⟨_, rfl⟩
        have NW : Hid (NP w W.drew (w.heap.size + 1 + 1) (w.heap.size + 1 + 1 + 1 + 1 + 1) k j v r v' r' sn sr sn' sr' ps ps') := by show NP w W.drew _ _ _ _ _ _ _ _ _ _ _ _ _ _; rw [hW]; exact NH.out.1.quiet ((alloc_kept0 _ _).drew)
        have aa : W.cell? ⟨w.heap.size + 1 + 1, k, none⟩ = some v := NW.out.boxA.cell.1
        have bb : W.cell? ⟨w.heap.size + 1 + 1 + 1 + 1 + 1, k, none⟩ = some r := NW.out.boxB.cell.1
        have bW : W.heap[wr.heap.size]? = some (.cells #[.int .i64 o.kd, .int .i64 o.nt, .int .i64 o.fk, .int .i64 o.fi, .int .i64 o.tk, .int .i64 o.ti, .slice o.a o.dl o.dc, .bool o.lost, .int .i64 o.i, .int .i64 o.n, .int .u32 (o.pat : Int)] 58) := by rw [hW]; exact alloc_new _ _
        have o0 := cell_blk bW 0 (v := .int .i64 o.kd) rfl
        have o1 := cell_blk bW 1 (v := .int .i64 o.nt) rfl
        have o2 := cell_blk bW 2 (v := .int .i64 o.fk) rfl
        have o3 := cell_blk bW 3 (v := .int .i64 o.fi) rfl
        have o4 := cell_blk bW 4 (v := .int .i64 o.tk) rfl
        have o5 := cell_blk bW 5 (v := .int .i64 o.ti) rfl
        have o6 := cell_blk bW 6 (v := .slice o.a o.dl o.dc) rfl
        have o7 := cell_blk bW 7 (v := .bool o.lost) rfl
        have o8 := cell_blk bW 8 (v := .int .i64 o.i) rfl
        have o9 := cell_blk bW 9 (v := .int .i64 o.n) rfl
        have o10 := cell_blk bW 10 (v := .int .u32 (o.pat : Int)) rfl
        have EW : Hid (W = wr.alloc (.cells #[.int .i64 o.kd, .int .i64 o.nt, .int .i64 o.fk, .int .i64 o.fi, .int .i64 o.tk, .int .i64 o.ti, .slice o.a o.dl o.dc, .bool o.lost, .int .i64 o.i, .int .i64 o.n, .int .u32 (o.pat : Int)] 58) ∧ W.heap[wr.heap.size]? = some (.cells #[.int .i64 o.kd, .int .i64 o.nt, .int .i64 o.fk, .int .i64 o.fi, .int .i64 o.tk, .int .i64 o.ti, .slice o.a o.dl o.dc, .bool o.lost, .int .i64 o.i, .int .i64 o.n, .int .u32 (o.pat : Int)] 58) ∧ ¬ (FP sn wr.heap.size ∨ FP sr wr.heap.size)) := ⟨hW, bW, fun z => by have := (NH.out.1.p.fp _ z).1; omega⟩
        clear bW
        go_upto_region 12 with fail
        rw [← hW]
        clear hW
        go_region_held3 (fun w'' => w''.cell? ⟨w.heap.size + 1 + 1, k, none⟩ = some v ∧ w''.cell? ⟨w.heap.size + 1 + 1 + 1 + 1 + 1, k, none⟩ = some r ∧ w''.cell? ⟨wr.heap.size, 0, none⟩ = some (.int .i64 o.kd) ∧ w''.cell? ⟨wr.heap.size, 1, none⟩ = some (.int .i64 o.nt) ∧ w''.cell? ⟨wr.heap.size, 2, none⟩ = some (.int .i64 o.fk) ∧ w''.cell? ⟨wr.heap.size, 3, none⟩ = some (.int .i64 o.fi) ∧ w''.cell? ⟨wr.heap.size, 4, none⟩ = some (.int .i64 o.tk) ∧ w''.cell? ⟨wr.heap.size, 5, none⟩ = some (.int .i64 o.ti) ∧ w''.cell? ⟨wr.heap.size, 6, none⟩ = some (.slice o.a o.dl o.dc) ∧ w''.cell? ⟨wr.heap.size, 7, none⟩ = some (.bool o.lost) ∧ w''.cell? ⟨wr.heap.size, 8, none⟩ = some (.int .i64 o.i) ∧ w''.cell? ⟨wr.heap.size, 9, none⟩ = some (.int .i64 o.n) ∧ w''.cell? ⟨wr.heap.size, 10, none⟩ = some (.int .u32 (o.pat : Int))) (first | go_keep)
          (first
            | (go_at_call 23; refine (plays w.heap.size w5 (.pointer none) (.pointer none) none none [] o ⟨.inl ⟨rfl, rfl⟩, .inl ⟨rfl, rfl⟩, fun k z => (FP_none k z).elim, NN5.out.1.kept.size, rfl⟩ (OK.out.kept0 NN5.out.1.kept) (by decide) OK.out.low).mono ?_; rintro x w6 ⟨rfl, d6⟩
               obtain ⟨_, _, _, _, K6, _⟩ := d6
               have K6' : Kept (fun _ => False) w5 w6 := K6.mono (fun k _ z => by rcases z with z | z <;> exact (FP_none k z).elim)
               have N6 := NN5.out.1.quiet K6'
               have q3 := N6.boxA.cell.1
               have q4 := N6.boxB.cell.1
               have b6 : w6.heap[wr.heap.size]? = some (.cells #[.int .i64 o.kd, .int .i64 o.nt, .int .i64 o.fk, .int .i64 o.fi, .int .i64 o.tk, .int .i64 o.ti, .slice o.a o.dl o.dc, .bool o.lost, .int .i64 o.i, .int .i64 o.n, .int .u32 (o.pat : Int)] 58) := K6'.get NN5.out.2.2 (fun q => q)
               have x60 := cell_blk b6 0 (v := .int .i64 o.kd) rfl
               have x61 := cell_blk b6 1 (v := .int .i64 o.nt) rfl
               have x62 := cell_blk b6 2 (v := .int .i64 o.fk) rfl
               have x63 := cell_blk b6 3 (v := .int .i64 o.fi) rfl
               have x64 := cell_blk b6 4 (v := .int .i64 o.tk) rfl
               have x65 := cell_blk b6 5 (v := .int .i64 o.ti) rfl
               have x66 := cell_blk b6 6 (v := .slice o.a o.dl o.dc) rfl
               have x67 := cell_blk b6 7 (v := .bool o.lost) rfl
               have x68 := cell_blk b6 8 (v := .int .i64 o.i) rfl
               have x69 := cell_blk b6 9 (v := .int .i64 o.n) rfl
               have x610 := cell_blk b6 10 (v := .int .u32 (o.pat : Int)) rfl
               have NN6 : Hid (NP w w6 (w.heap.size + 1 + 1) (w.heap.size + 1 + 1 + 1 + 1 + 1) k j v r v' r' sn5 sr5 sn' sr' ps5 ps' ∧ ps5.length ≤ ps.length + 1) := ⟨N6, NN5.out.2.1⟩
               clear K6 K6' N6 b6)
            | (go_at_call 23; refine (plays w.heap.size W.drew v r sn sr ps o NW.out.p (OK.out.kept0 NW.out.kept) (Nat.le_trans (Nat.succ_le_succ NH.out.2.1) (Nat.le_trans (Nat.le_succ _) iB.out)) OK.out.low).mono ?_; rintro x w5 ⟨rfl, d5⟩
               obtain ⟨sn5, sr5, ps5, N5, hl5, K5⟩ := NW.out.did d5
               have q1 := N5.boxA.cell.1
               have q2 := N5.boxB.cell.1
               have b5 : w5.heap[wr.heap.size]? = some (.cells #[.int .i64 o.kd, .int .i64 o.nt, .int .i64 o.fk, .int .i64 o.fi, .int .i64 o.tk, .int .i64 o.ti, .slice o.a o.dl o.dc, .bool o.lost, .int .i64 o.i, .int .i64 o.n, .int .u32 (o.pat : Int)] 58) := K5.get EW.out.2.1 EW.out.2.2
               have x50 := cell_blk b5 0 (v := .int .i64 o.kd) rfl
               have x51 := cell_blk b5 1 (v := .int .i64 o.nt) rfl
               have x52 := cell_blk b5 2 (v := .int .i64 o.fk) rfl
               have x53 := cell_blk b5 3 (v := .int .i64 o.fi) rfl
               have x54 := cell_blk b5 4 (v := .int .i64 o.tk) rfl
               have x55 := cell_blk b5 5 (v := .int .i64 o.ti) rfl
               have x56 := cell_blk b5 6 (v := .slice o.a o.dl o.dc) rfl
               have x57 := cell_blk b5 7 (v := .bool o.lost) rfl
               have x58 := cell_blk b5 8 (v := .int .i64 o.i) rfl
               have x59 := cell_blk b5 9 (v := .int .i64 o.n) rfl
               have x510 := cell_blk b5 10 (v := .int .u32 (o.pat : Int)) rfl
               have NN5 : Hid (NP w w5 (w.heap.size + 1 + 1) (w.heap.size + 1 + 1 + 1 + 1 + 1) k j v r v' r' sn5 sr5 sn' sr' ps5 ps' ∧ ps5.length ≤ ps.length + 1 ∧ w5.heap[wr.heap.size]? = some (.cells #[.int .i64 o.kd, .int .i64 o.nt, .int .i64 o.fk, .int .i64 o.fi, .int .i64 o.tk, .int .i64 o.ti, .slice o.a o.dl o.dc, .bool o.lost, .int .i64 o.i, .int .i64 o.n, .int .u32 (o.pat : Int)] 58)) := ⟨N5, hl5, b5⟩
               clear d5 N5 hl5 K5 b5)
            | fail)
        go_wp2_with fail
        go_roundw
        case rel => exact ⟨i + 1, by go_num, by omega, NN6.out.1.norm ⟨Nat.le_trans NN6.out.2 (Nat.succ_le_succ NH.out.2.1), Nat.le_succ_of_le NH.out.2.2⟩⟩
        case measure => simp [intOf]; omega
    · have i1 : ¬ (i : Int) < (n : Int) := by omega
      have SE : Hid (∃ v r v' r' sn sr sn' sr' ps ps', NP w wr (w.heap.size + 1 + 1) (w.heap.size + 1 + 1 + 1 + 1 + 1) 0 1 v r v' r' sn sr sn' sr' ps ps' ∧ ps.length ≤ n ∧ ps'.length ≤ n) := by
        obtain ⟨v, r, v', r', sn, sr, sn', sr', ps, ps', N, h1, h2⟩ := S.out
        exact ⟨v, r, v', r', sn, sr, sn', sr', ps, ps', N, Nat.le_trans h1 hi, Nat.le_trans h2 hi⟩
      clear S
      go_wp2_with fail
      go_loopw [2, 8, 66] (fun _ _ x wq => ∃ (m : Nat), x = .int .i64 (m : Int) ∧ m ≤ 2 ∧ Hid (∃ v r v' r' sn sr sn' sr' ps ps', NP w wq (w.heap.size + 1 + 1) (w.heap.size + 1 + 1 + 1 + 1 + 1) 0 1 v r v' r' sn sr sn' sr' ps ps' ∧ ps.length ≤ n ∧ ps'.length ≤ n)) (fun _ _ x _ => 2 - (intOf x).toNat)
      case atStart => exact ⟨0, rfl, Nat.zero_le _, SE.out⟩
      case round =>
        obtain ⟨m, rfl, hm, T⟩ := hrel
        by_cases hm2 : m < 2
        · have m1 : (m : Int) < 2 := by omega
          obtain ⟨v0, r0, v0', r0', sn0, sr0, sn0', sr0', ps0, ps0', NPx, hps⟩ := T.out
          obtain ⟨v, r, v', r', sn, sr, sn', sr', ps, ps', N, hl1, hl2⟩ := NPx.pick (k := m) (j := 1 - m) hps (by omega)
          have NW : Hid (NP w wr.drew (w.heap.size + 1 + 1) (w.heap.size + 1 + 1 + 1 + 1 + 1) m (1 - m) v r v' r' sn sr sn' sr' ps ps' ∧ ps.length ≤ Big) := ⟨N.quiet ((Kept.refl _ wr).drew), Nat.le_trans hl1 (Nat.le_of_succ_le HO.out.2)⟩
          have HL : Hid (ps.length ≤ n ∧ ps'.length ≤ n) := ⟨hl1, hl2⟩
          have a1 : wr.cell? ⟨w.heap.size + 1 + 1, m, none⟩ = some v := N.boxA.cell.1
          have a2 : wr.cell? ⟨w.heap.size + 1 + 1 + 1 + 1 + 1, m, none⟩ = some r := N.boxB.cell.1
          obtain ⟨d, hd⟩ : ∃ d, lenOf sn ps = d := ⟨_, rfl⟩
          have hd2 : lenOf sr ps = d := by rw [← hd]; unfold lenOf; rw [N.p.both]
          have HM : Hid (lenOf sn ps = d ∧ lenOf sr ps = d ∧ flyOf sn ps = flyOf sr ps) := ⟨hd, hd2, by unfold flyOf; rw [N.p.both]⟩
          clear T N NPx hps hd hd2 hl1 hl2
          go_upto_region 18 with fail
          go_region_held3 (fun w'' => w''.cell? ⟨w.heap.size + 1 + 1, m, none⟩ = some v ∧ w''.cell? ⟨w.heap.size + 1 + 1 + 1 + 1 + 1, m, none⟩ = some r) (first | go_keep)
            (first
              | (go_at_call 19; refine (side_len67 NW.out.1.p.net).mono ?_; rw [HM.out.1]; rintro x w5 ⟨rfl, rfl⟩)
              | (go_at_call 24; refine (side_len71 NW.out.1.p.ref).mono ?_; rw [HM.out.2.1]; rintro x w5 ⟨rfl, rfl⟩)
              | (go_at_call 10; refine (side_fly67 FR.out.1.p.net NW.out.2).mono ?_; rw [HM.out.1]; rintro x w7 ⟨p7, c7, R7, rfl, hm7, hL7, K7⟩
                 have FF : Hid (NP w w7 (w.heap.size + 1 + 1) (w.heap.size + 1 + 1 + 1 + 1 + 1) m (1 - m) v r v' r' sn sr sn' sr' ps ps' ∧ R7.map Ent.p = R6.map Ent.p ∧ IsL w6.heap.size w7 p7 d c7 R7 ∧ IsL wr.drew.heap.size w7 p6 d c6 R6) := ⟨FR.out.1.quiet K7, by rw [hm7, FR.out.2.1, HM.out.2.2], hL7, FR.out.2.2.kept0 K7⟩
                 have q1 := FF.out.1.boxA.cell.1
                 have q2 := FF.out.1.boxB.cell.1
                 clear hm7 hL7 K7)
              | (go_at_call 25; refine (side_fly71 FL.out.1.p.ref NW.out.2).mono ?_; rw [HM.out.2.1]; rintro x w7 ⟨p7, c7, R7, rfl, hm7, hL7, K7⟩
                 have FG : Hid (NP w w7 (w.heap.size + 1 + 1) (w.heap.size + 1 + 1 + 1 + 1 + 1) m (1 - m) v r v' r' sn sr sn' sr' ps ps' ∧ R6.map Ent.p = R7.map Ent.p ∧ IsL wr.drew.heap.size w7 p6 d c6 R6 ∧ IsL w6.heap.size w7 p7 d c7 R7) := ⟨FL.out.1.quiet K7, by rw [hm7, FL.out.2.1, HM.out.2.2], FL.out.2.2.kept0 K7, hL7⟩
                 have q1 := FG.out.1.boxA.cell.1
                 have q2 := FG.out.1.boxB.cell.1
                 clear hm7 hL7 K7)
              | (go_at_call 10; refine (side_fly67 NW.out.1.p.net NW.out.2).mono ?_; rw [HM.out.1]; rintro x w6 ⟨p6, c6, R6, rfl, hm6, hL6, K6⟩
                 have FL : Hid (NP w w6 (w.heap.size + 1 + 1) (w.heap.size + 1 + 1 + 1 + 1 + 1) m (1 - m) v r v' r' sn sr sn' sr' ps ps' ∧ R6.map Ent.p = flyOf sn ps ∧ IsL wr.drew.heap.size w6 p6 d c6 R6) := ⟨NW.out.1.quiet K6, hm6, hL6⟩
                 have q1 := FL.out.1.boxA.cell.1
                 have q2 := FL.out.1.boxB.cell.1
                 clear hm6 hL6 K6)
              | (go_at_call 25; refine (side_fly71 NW.out.1.p.ref NW.out.2).mono ?_; rw [HM.out.2.1]; rintro x w6 ⟨p6, c6, R6, rfl, hm6, hL6, K6⟩
                 have FR : Hid (NP w w6 (w.heap.size + 1 + 1) (w.heap.size + 1 + 1 + 1 + 1 + 1) m (1 - m) v r v' r' sn sr sn' sr' ps ps' ∧ R6.map Ent.p = flyOf sr ps ∧ IsL wr.drew.heap.size w6 p6 d c6 R6) := ⟨NW.out.1.quiet K6, hm6, hL6⟩
                 have q1 := FR.out.1.boxA.cell.1
                 have q2 := FR.out.1.boxB.cell.1
                 clear hm6 hL6 K6)
              | (go_at_call 14; refine (same _ _ p7 p6 d c7 c6 R7 R6 w7 FF.out.2.2.1 FF.out.2.2.2 FF.out.2.1).mono ?_; rintro x w8 ⟨rfl, K8⟩
                 have F8 : Hid (NP w w8 (w.heap.size + 1 + 1) (w.heap.size + 1 + 1 + 1 + 1 + 1) m (1 - m) v r v' r' sn sr sn' sr' ps ps') := FF.out.1.quiet K8
                 have q3 := F8.out.boxA.cell.1
                 have q4 := F8.out.boxB.cell.1
                 clear K8)
              | (go_at_call 14; refine (same _ _ p6 p7 d c6 c7 R6 R7 w7 FG.out.2.2.1 FG.out.2.2.2 FG.out.2.1).mono ?_; rintro x w8 ⟨rfl, K8⟩
                 have F8 : Hid (NP w w8 (w.heap.size + 1 + 1) (w.heap.size + 1 + 1 + 1 + 1 + 1) m (1 - m) v r v' r' sn sr sn' sr' ps ps') := FG.out.1.quiet K8
                 have q3 := F8.out.boxA.cell.1
                 have q4 := F8.out.boxB.cell.1
                 clear K8)
              | fail)
          all_goals go_wp2_with fail
          all_goals go_roundw
          case rel => exact ⟨m + 1, by go_num, by omega, F8.out.norm HL.out⟩
          case measure => simp [intOf]; omega
        · have m1 : ¬ (m : Int) < 2 := by omega
          have TE : Hid (Kept (fun _ => False) w wr) := by
            obtain ⟨_, _, _, _, _, _, _, _, _, _, N, _⟩ := T.out
            exact N.kept
          clear T SE
          go_wp2_with fail
          refine (taken _).mono ?_
          rintro x w9 ⟨rfl, K9⟩
          have TF : Hid (Kept (fun _ => False) w w9) := TE.out.trans K9 (fun _ _ q => q)
          clear K9
          go_wp2_with fail
          go_ret
          exact ⟨rfl, TF.out⟩
end Go.Proofs.Ytojfnehdanhgiaa
