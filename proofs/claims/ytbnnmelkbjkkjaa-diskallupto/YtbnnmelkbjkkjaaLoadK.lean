import Derived.Test.YtbnnmelkbjkkjaaLoadBJ
import Derived.Deep.CutRange
namespace Go.Proofs.Ytbnnmelkbjkkjaa
open Go.RowKit
set_option maxRecDepth 100000 in
set_option maxHeartbeats 8000000 in
theorem oneLoad (w wr : World) (pa : Option Addr) (pn pc : Nat) (L1 : List Pr) (x : Pr) (L2 : List Pr) (o : Opv) (s t : Nat) (h : OD w wr pa pn pc (L1 ++ x :: L2) s t) (hs : s ≤ Few) (ht : t ≤ Few) (hD : o.D % (pn : Int) = (L1.length : Int)) (hp : pn < 1000000000) (a0 : Option Addr) (n0 c0 : Nat) (l0 : List Nat) (a1 : Option Addr) (n1 c1 : Nat) (l1 : List Nat) (a2 : Option Addr) (n2 c2 : Nat) (ch : List Int) (hv0 : o.v0 = .slice a0 n0 c0) (hv1 : o.v1 = .slice a1 n1 c1) (hv2 : o.v2 = .slice a2 n2 c2) (rd0 : Reads w a0 n0 c0 l0) (rd1 : Reads w a1 n1 c1 l1) (rdc : IRd w a2 n2 c2 ch) (hb0 : n0 ≤ Lim) (hb1 : n1 ≤ Lim) (hb2 : n2 ≤ Lim) (rd : Reads w o.a o.n o.c o.l) (hn : o.n ≤ Lim) (hkk : o.kind = 10) :
    Calls Try.prog 32 #[.slice pa pn pc, .agg o.cs] wr fun y w' => ∃ pa' pn' pc' L', y = .returned (.tuple #[.slice pa' pn' pc', .bool true]) ∧ OD w w' pa' pn' pc' L' (s + o.wh) (t + 1) ∧ L'.length ≤ (L1 ++ x :: L2).length + 1 ∧ (L1 ++ x :: L2).length ≤ L'.length := by
  have OC : #[.int .i64 o.kind, .int .i64 o.D, .int .i64 o.slot, .slice o.a o.n o.c, .int .i64 o.N, .bool o.done, .slice a0 n0 c0, .slice a1 n1 c1, .slice a2 n2 c2] = o.cs := by unfold Opv.cs; rw [hv0, hv1, hv2]
  have SL : Hid o.Sl := ⟨a0, n0, c0, a1, n1, c1, a2, n2, c2, hv0, hv1, hv2⟩
  have hx : (L1 ++ x :: L2)[L1.length]? = some x := by rw [List.getElem?_append_right (Nat.le_refl _), Nat.sub_self]; rfl
  obtain ⟨g, hpa, hnl, r0, r1⟩ := row_pair h.row hx
  subst hpa
  have hpc := (own_room h.row).1
  have hpc2 := (own_room h.row).2
  unfold maxLen at hpc2
  obtain ⟨nn, hnn⟩ : ∃ nn, nn = L1.length := ⟨_, rfl⟩
  rw [← hnn] at hD hnl r0 r1
  obtain ⟨W, hW⟩ : ∃ W, W = wr.alloc (.cells o.cs 46) := ⟨_, rfl⟩
  have EW : Hid (W = wr.alloc (.cells #[.int .i64 o.kind, .int .i64 o.D, .int .i64 o.slot, .slice o.a o.n o.c, .int .i64 o.N, .bool o.done, .slice a0 n0 c0, .slice a1 n1 c1, .slice a2 n2 c2] 46)) := by show W = _; rw [OC]; exact hW
  have K1 : Kept (fun _ => False) wr W := by rw [hW]; exact alloc_kept0 _ _
  have b3 : W.heap[wr.heap.size]? = some (.cells o.cs 46 (0, 0)) := by rw [hW]; exact alloc_new _ _
  have e1 : W.cell? ⟨wr.heap.size, 1, none⟩ = some (.int .i64 o.D) := cell_blk b3 1 rfl
  have r0' := K1.cell r0 (fun z => z)
  have r1' := K1.cell r1 (fun z => z)
  obtain ⟨W7, hW7⟩ : ∃ W7, W7 = W.alloc (.cells #[.pointer (some ⟨x.bp, 0, none⟩), .pointer (some ⟨x.br, 0, none⟩)] 60) := ⟨_, rfl⟩
  have E7 : Hid (W7 = W.alloc (.cells #[.pointer (some ⟨x.bp, 0, none⟩), .pointer (some ⟨x.br, 0, none⟩)] 60)) := hW7
  have szW : W.heap.size = wr.heap.size + 1 := by rw [hW]; exact alloc_size _ _
  have K7 : Kept (fun _ => False) W W7 := by rw [hW7]; exact alloc_kept0 _ _
  have sz7 : W7.heap.size = wr.heap.size + 2 := by rw [hW7, alloc_size, szW]
  have Z : Hid (ON w W7 (some ⟨g, 0, none⟩) pn pc L1 x L2 o wr.heap.size W.heap.size (fun _ => False)) := by
    have K17 : Kept (fun _ => False) wr W7 := K1.trans K7 (fun _ _ z => z)
    refine ⟨(h.al.perm List.perm_middle).more K17 (fun k hk => ?_), K17.owns h.row (fun _ _ z => z), K7.get b3 (fun z => z), by rw [hW7]; exact alloc_new _ _, rd⟩
    rcases hk with z | z | z | z
    · exact z.elim
    · exact .inl z
    · exact .inr (by omega)
    · exact .inr (by omega)
  have SM : Hid ((∀ y ∈ L1 ++ x :: L2, y.d.ab = y.r.ab) ∧ (∀ y ∈ L1 ++ x :: L2, Fits y.d.ab s t) ∧ x.d.ab = x.r.ab ∧ x.d.ab.Ok ∧ Fits x.d.ab s t ∧ o.n ≤ Lim) := ⟨h.same, h.fits, h.same x (by simp), (h.fits x (by simp)).ok hs ht, h.fits x (by simp), hn⟩
  have V0 : Hid (o.v0 = .slice a0 n0 c0 ∧ o.v1 = .slice a1 n1 c1 ∧ o.v2 = .slice a2 n2 c2) := ⟨hv0, hv1, hv2⟩
  have OCH : Hid (#[.int .i64 o.kind, .int .i64 o.D, .int .i64 o.slot, .slice o.a o.n o.c, .int .i64 o.N, .bool o.done, .slice a0 n0 c0, .slice a1 n1 c1, .slice a2 n2 c2] = o.cs) := OC
  have m0 : ¬ ((pn : Int) = 0) := by omega
  have t1 := Int.tmod_lt_of_pos o.D (show (0 : Int) < (pn : Int) by omega)
  have t2 : -(pn : Int) < o.D.tmod (pn : Int) := by
    rcases Int.le_total 0 o.D with h1 | h1
    · have := Int.tmod_nonneg (pn : Int) h1; omega
    · have := Int.tmod_lt_of_pos (-o.D) (show (0 : Int) < (pn : Int) by omega)
      rw [Int.neg_tmod] at this
      omega
  obtain ⟨tm, htm⟩ : ∃ tm, o.D.tmod (pn : Int) = tm := ⟨_, rfl⟩
  have em : (nn : Int) = if tm < 0 then tm + (pn : Int) else tm := by
    rw [← hD, ← htm, Int.tmod_eq_emod]
    have e1 := Int.emod_nonneg o.D (show (pn : Int) ≠ 0 by omega)
    have e2 := Int.emod_lt_of_pos o.D (show (0 : Int) < (pn : Int) by omega)
    have e3 : ((pn : Int).natAbs : Int) = (pn : Int) := by omega
    by_cases h1 : 0 ≤ o.D ∨ (pn : Int) ∣ o.D
    · rw [if_pos h1]
      simp
      intro h2
      omega
    · rw [if_neg h1, e3]
      rw [if_pos (by omega)]
      omega
  rw [htm] at t1 t2
  have wt : IntKind.i64.wrap tm = tm := by rw [IntKind.wrap_i64]; omega
  have inn : (nn : Int) < (pn : Int) := by omega
  have inn0 : (0 : Int) ≤ (nn : Int) := by omega
  have GL : Hid (g < wr.heap.size) := (h.al.far g rfl).1
  have SZ : Hid (W.heap.size = wr.heap.size + 1) := szW
  have RD : Hid (Reads w a0 n0 c0 l0 ∧ Reads w a1 n1 c1 l1 ∧ IRd w a2 n2 c2 ch ∧ n0 ≤ Lim ∧ n1 ≤ Lim ∧ n2 ≤ Lim) := ⟨rd0, rd1, rdc, hb0, hb1, hb2⟩
  rw [← OC]
  clear rd0 rd1 rdc hb0 hb1 hb2 h hs ht hD rd hn hx r0 r1 hW K1 b3 hW7 K7 szW hv0 hv1 hv2 OC hnn
  have HKK : Hid (o.kind = 10) := hkk
  clear hkk
  by_cases hneg : tm < 0
  · rw [if_pos hneg] at em
    have en : nn = (tm + (pn : Int)).toNat := by omega
    subst en
    have wn : IntKind.i64.wrap (tm + (pn : Int)) = tm + (pn : Int) := by rw [IntKind.wrap_i64]; omega
    have i0 : 0 ≤ tm + (pn : Int) := by omega
    have i1 : tm + (pn : Int) < (pn : Int) := by omega
    clear em inn inn0
    go_enter Try.func32, Try.ntmps32
    go_upto_region 1 with fail
    rw [← EW.out]
    go_upto_region 5 with fail
    have SS : ON w W7 (some ⟨g, 0, none⟩) pn pc L1 x L2 o wr.heap.size W.heap.size (fun _ => False) := Z.out
    have k0 : W7.cell? ⟨wr.heap.size, 0, none⟩ = some (.int .i64 o.kind) := cell_blk SS.o3 0 rfl
    rw [← E7.out]
    have m0 : W7.cell? ⟨wr.heap.size, 0, none⟩ = some (.int .i64 o.kind) := cell_blk SS.o3 0 rfl
    have m1 : W7.cell? ⟨wr.heap.size, 1, none⟩ = some (.int .i64 o.D) := cell_blk SS.o3 1 rfl
    have m2 : W7.cell? ⟨wr.heap.size, 2, none⟩ = some (.int .i64 o.slot) := cell_blk SS.o3 2 rfl
    have m3 : W7.cell? ⟨wr.heap.size, 3, none⟩ = some (.slice o.a o.n o.c) := cell_blk SS.o3 3 rfl
    have m4 : W7.cell? ⟨wr.heap.size, 4, none⟩ = some (.int .i64 o.N) := cell_blk SS.o3 4 rfl
    have m5 : W7.cell? ⟨wr.heap.size, 5, none⟩ = some (.bool o.done) := cell_blk SS.o3 5 rfl
    have m6 : W7.cell? ⟨wr.heap.size, 6, none⟩ = some (.slice a0 n0 c0) := by rw [← V0.out.1]; exact cell_blk SS.o3 6 rfl
    have m7 : W7.cell? ⟨wr.heap.size, 7, none⟩ = some (.slice a1 n1 c1) := by rw [← V0.out.2.1]; exact cell_blk SS.o3 7 rfl
    have m8 : W7.cell? ⟨wr.heap.size, 8, none⟩ = some (.slice a2 n2 c2) := by rw [← V0.out.2.2]; exact cell_blk SS.o3 8 rfl
    have mp : W7.cell? ⟨W.heap.size, 0, none⟩ = some (.pointer (some ⟨x.bp, 0, none⟩)) := cell_blk SS.x7 0 rfl
    have mq : W7.cell? ⟨W.heap.size, 1, none⟩ = some (.pointer (some ⟨x.br, 0, none⟩)) := cell_blk SS.x7 1 rfl
    clear SS k0
    have kk1 : (1 : Int) ≤ o.kind := by have := HKK.out; omega
    have kk2 : ¬ o.kind ≤ 4 := by have := HKK.out; omega
    have kk3 : (o.kind == 8) = false := by rw [HKK.out]; rfl
    have kk4 : (5 : Int) ≤ o.kind := by have := HKK.out; omega
    have kk5 : ¬ o.kind ≤ 7 := by have := HKK.out; omega
    have kk6 : (o.kind == 9) = false := by rw [HKK.out]; rfl
    have kk7 : (o.kind == 10) = true := by rw [HKK.out]; rfl
    have R0 : Hid (∀ V : World, Kept (fun _ => False) W7 V → Reads V a0 n0 c0 l0) := fun V K => (RD.out.1.kept' Z.out.al.kept (fun _ _ z => z)).kept' K (fun _ _ z => z)
    have R1 : Hid (∀ V : World, Kept (fun _ => False) W7 V → Reads V a1 n1 c1 l1) := fun V K => (RD.out.2.1.kept' Z.out.al.kept (fun _ _ z => z)).kept' K (fun _ _ z => z)
    have l7a := block_lt Z.out.o3
    have nw6 : ¬ W7.heap.size = wr.heap.size := by omega
    have nw7 : ¬ wr.heap.size = W7.heap.size := by omega
    have nw8 : ¬ W7.drew.heap.size = wr.heap.size := nw6
    have nw9 : ¬ wr.heap.size = W7.drew.heap.size := nw7
    go_upto_region 26 with fail
    have SZ7 : Hid (W7.heap.size = wr.heap.size + 2) := sz7
    clear sz7
    go_cut [14] from 150 to 158 (fun y wc => ∃ (X : Nat) (pA pB : Option Addr) (qA qB : Nat), y = .pointer (some ⟨X, 0, none⟩) ∧ Hid (L4 w wc W7.heap.size (some ⟨g, 0, none⟩) pn pc L1 x L2 o wr.heap.size W.heap.size X pA n0 qA l0 pB n1 qB l1))
    case first =>
      go_region_held3 (fun w' => w'.cell? ⟨wr.heap.size, 6, none⟩ = some (.slice a0 n0 c0) ∧ w'.cell? ⟨wr.heap.size, 7, none⟩ = some (.slice a1 n1 c1)) (first | go_keep)
        (first
          | (go_at_call 10; refine (wide a1 n1 c1 l1 _ (R1.out _ (K2H.out.trans (by repeat (first | with_reducible exact Kept.refl _ _ | with_reducible refine Kept.drew ?_ | with_reducible refine Kept.alloc ?_ _)) (fun _ _ z => z))) RD.out.2.2.2.2.1).mono ?_; rintro y w3 ⟨pB, qB, rfl, oB, KB⟩
             have KBH : Hid _ := KB
             have KS3 : Hid (w2.heap.size ≤ w3.heap.size) := by first | exact KB.size | (have h9 := KB.size; rw [alloc_size] at h9; show w2.heap.size ≤ w3.heap.size; omega)
             have OBH : Hid _ := oB
             have j6 : w3.cell? ⟨wr.heap.size, 6, none⟩ = some (.slice a0 n0 c0) := (K2H.out.trans (Kept.trans (by repeat (first | with_reducible exact Kept.refl _ _ | with_reducible refine Kept.drew ?_ | with_reducible refine Kept.alloc ?_ _)) KB (fun _ _ z => z)) (fun _ _ z => z)).cell m6 (fun z => z)
             have j7 : w3.cell? ⟨wr.heap.size, 7, none⟩ = some (.slice a1 n1 c1) := (K2H.out.trans (Kept.trans (by repeat (first | with_reducible exact Kept.refl _ _ | with_reducible refine Kept.drew ?_ | with_reducible refine Kept.alloc ?_ _)) KB (fun _ _ z => z)) (fun _ _ z => z)).cell m7 (fun z => z)
             (try (have y0 : w3.heap[W7.heap.size]? = some (.cells #[.slice none 0 0, .slice none 0 0] 32 (0, 0)) := KB.get XB2.out (fun z => z); have XB3 : Hid (w3.heap[W7.heap.size]? = some (.cells #[.slice none 0 0, .slice none 0 0] 32 (0, 0))) := y0; have z0 : w3.cell? ⟨W7.heap.size, 0, none⟩ = some (.slice none 0 0) := cell_blk y0 0 rfl; have z1 : w3.cell? ⟨W7.heap.size, 1, none⟩ = some (.slice none 0 0) := cell_blk y0 1 rfl; have z2 := soft_blk y0 0; have z3 := soft_blk y0 1; have zd0 : w3.cell? ⟨W7.drew.heap.size, 0, none⟩ = some (.slice none 0 0) := z0; have zd1 : w3.cell? ⟨W7.drew.heap.size, 1, none⟩ = some (.slice none 0 0) := z1; have zd2 : w3.frozen? ⟨W7.drew.heap.size, 0, none⟩ = false := z2; have zd3 : w3.frozen? ⟨W7.drew.heap.size, 1, none⟩ = false := z3; clear y0))
             (try (have y0 : w3.heap[w2.heap.size]? = some (.cells #[.slice none 0 0, .slice none 0 0] 32 (0, 0)) := KB.get (alloc_new w2 _) (fun z => z); have XB4 : Hid (w3.heap[w2.heap.size]? = some (.cells #[.slice none 0 0, .slice none 0 0] 32 (0, 0))) := y0; have z0 := cell_blk y0 0 rfl; have z1 := cell_blk y0 1 rfl; have z2 := soft_blk y0 0; have z3 := soft_blk y0 1; clear y0))
             have za0 : (w3.alloc (.cells #[.slice none 0 0, .slice none 0 0] 32)).cell? ⟨w3.heap.size, 0, none⟩ = some (.slice none 0 0) := cell_blk (alloc_new w3 _) 0 rfl
             have za1 : (w3.alloc (.cells #[.slice none 0 0, .slice none 0 0] 32)).cell? ⟨w3.heap.size, 1, none⟩ = some (.slice none 0 0) := cell_blk (alloc_new w3 _) 1 rfl
             have za2 : (w3.alloc (.cells #[.slice none 0 0, .slice none 0 0] 32)).frozen? ⟨w3.heap.size, 0, none⟩ = false := soft_blk (alloc_new w3 _) 0
             have za3 : (w3.alloc (.cells #[.slice none 0 0, .slice none 0 0] 32)).frozen? ⟨w3.heap.size, 1, none⟩ = false := soft_blk (alloc_new w3 _) 1
             have nw4 : ¬ w3.heap.size = wr.heap.size := by have h1 := K2H.out.size; have h2 := KS3.out; omega
             have nw5 : ¬ wr.heap.size = w3.heap.size := by have h1 := K2H.out.size; have h2 := KS3.out; omega
             clear KB oB)
          | (go_at_call 10; refine (wide a0 n0 c0 l0 _ (R0.out _ (by repeat (first | with_reducible exact Kept.refl _ _ | with_reducible refine Kept.drew ?_ | with_reducible refine Kept.alloc ?_ _))) RD.out.2.2.2.1).mono ?_; rintro y w2 ⟨pA, qA, rfl, oA, KA⟩
             have KAH : Hid _ := KA
             have OAH : Hid _ := oA
             have K2H : Hid (Kept (fun _ => False) W7 w2) := Kept.trans (by repeat (first | with_reducible exact Kept.refl _ _ | with_reducible refine Kept.drew ?_ | with_reducible refine Kept.alloc ?_ _)) KA (fun _ _ z => z)
             have j6 : w2.cell? ⟨wr.heap.size, 6, none⟩ = some (.slice a0 n0 c0) := K2H.out.cell m6 (fun z => z)
             have j7 : w2.cell? ⟨wr.heap.size, 7, none⟩ = some (.slice a1 n1 c1) := K2H.out.cell m7 (fun z => z)
             (try (have y0 : w2.heap[W7.heap.size]? = some (.cells #[.slice none 0 0, .slice none 0 0] 32 (0, 0)) := KA.get (alloc_newD W7 _ _) (fun z => z); have XB2 : Hid (w2.heap[W7.heap.size]? = some (.cells #[.slice none 0 0, .slice none 0 0] 32 (0, 0))) := y0; clear y0))
             have nw2 : ¬ w2.heap.size = wr.heap.size := by have := K2H.out.size; omega
             have nw3 : ¬ wr.heap.size = w2.heap.size := by have := K2H.out.size; omega
             clear KA oA)
          | fail)
      all_goals go_wp2_with fail
      all_goals go_meet
      all_goals
        have a1 : w2.ownsRow _ 5 1 (.slice pA (n0 + 2) qA) (n0 + 2) (cellsOf (l0 ++ [193, 194])) := OAH.out
        have b1 : w3.ownsRow _ 5 1 (.slice pB (n1 + 2) qB) (n1 + 2) (cellsOf (l1 ++ [193, 194])) := OBH.out
        have s2 := K2H.out.size
        have s3 := KS3.out
        have KB' : Kept (fun _ => False) w2 w3 := by first | exact KBH.out | exact (alloc_kept0 w2 _).trans KBH.out (fun _ _ z => z)
        have K3 : Kept (fun _ => False) W7 w3 := K2H.out.trans KB' (fun _ _ z => z)
        have rA2 : w2.ownsRow W7.heap.size 5 1 (.slice pA (n0 + 2) qA) (n0 + 2) (cellsOf (l0 ++ [193, 194])) := own_down a1 (by first | exact Nat.le_refl _ | exact Nat.le_succ _ | (rw [alloc_size]; exact Nat.le_succ _) | (show _ ≤ (World.alloc W7 _).heap.size; rw [alloc_size]; exact Nat.le_succ _))
        have rA := KB'.owns rA2 (fun _ _ z => z)
        have rB2 : w3.ownsRow w2.heap.size 5 1 (.slice pB (n1 + 2) qB) (n1 + 2) (cellsOf (l1 ++ [193, 194])) := own_down b1 (by first | exact Nat.le_refl _ | exact Nat.le_succ _ | (rw [alloc_size]; exact Nat.le_succ _) | (show _ ≤ (World.alloc W7 _).heap.size; rw [alloc_size]; exact Nat.le_succ _))
        have rB := own_down rB2 s2
        have ne : ∀ k, blockOf pA = some k → blockOf pB ≠ some k := fun k h1 h2 => by
          have h3 := (own_lt rA2 k h1).2
          have h4 := (own_lt rB2 k h2).1
          omega
        first
          | exact ⟨_, pA, pB, qA, qB, rfl, L4.new Z.out K3 rA rB ne⟩
          | (refine ⟨_, pA, pB, qA, qB, rfl, L4.put Z.out K3 rA rB XB4.out ne s2 (fun k hk => ?_)⟩
             have b2 : w3.ownsRow (w2.heap.size + 1) 5 1 (.slice pB (n1 + 2) qB) (n1 + 2) (cellsOf (l1 ++ [193, 194])) := own_down b1 (by first | exact Nat.le_refl _ | (rw [alloc_size]; exact Nat.le_refl _) | (show _ ≤ (World.alloc W7 _).heap.size; rw [alloc_size]; exact Nat.le_refl _))
             rcases hk with q | q
             · have h3 := (own_lt rA2 k q).2; omega
             · have h3 := (own_lt b2 k q).1; omega)
          | (refine ⟨_, pA, pB, qA, qB, rfl, L4.put Z.out K3 rA rB XB3.out ne (Nat.le_refl _) (fun k hk => ?_)⟩
             have a2 : w2.ownsRow (W7.heap.size + 1) 5 1 (.slice pA (n0 + 2) qA) (n0 + 2) (cellsOf (l0 ++ [193, 194])) := own_down a1 (by first | exact Nat.le_refl _ | (rw [alloc_size]; exact Nat.le_refl _) | (show _ ≤ (World.alloc W7 _).heap.size; rw [alloc_size]; exact Nat.le_refl _))
             have h5 := block_lt XB2.out
             rcases hk with q | q
             · have h3 := (own_lt a2 k q).1; omega
             · have h3 := (own_lt rB2 k q).1; omega)
    case rest =>
      obtain ⟨X, pA, pB, qA, qB, rfl, Q⟩ := hcut
      have HRD : Hid (l0.length = n0 ∧ l1.length = n1 ∧ (∀ c ∈ l0, c < 256) ∧ (∀ c ∈ l1, c < 256) ∧ n0 ≤ Lim ∧ n1 ≤ Lim) := ⟨RD.out.1.length, RD.out.2.1.length, RD.out.1.bytes, RD.out.2.1.bytes, RD.out.2.2.2.1, RD.out.2.2.2.2.1⟩
      clear m0 m1 m2 m3 m4 m5 m6 m7 m8 mp mq R0 R1 nw6 nw7 nw8 nw9 l7a
      have PL : Hid (pn + 1 ≤ maxLen ∧ ((pn + 1) + (pn + 1) / 4 + 192) * 16 ≤ 281474976710656) := pair_lim hp
      have x0 : wc.cell? ⟨X, 0, none⟩ = some (.slice pA n0 qA) := cell_blk Q.out.xb 0 rfl
      have x1 : wc.cell? ⟨X, 1, none⟩ = some (.slice pB n1 qB) := cell_blk Q.out.xb 1 rfl
      by_cases hN : o.N = 0 ∨ o.N = 1
      · obtain ⟨cur, hcur, hc2⟩ : ∃ cur : Nat, o.N = (cur : Int) ∧ (cur = 0 ∨ cur = 1) := by
          rcases hN with e | e
          · exact ⟨0, e, .inl rfl⟩
          · exact ⟨1, e, .inr rfl⟩
        clear hN
        have HC : Hid (o.N = (cur : Int)) := hcur
        have k4 : wc.cell? ⟨wr.heap.size, 4, none⟩ = some (.int .i64 (cur : Int)) := by rw [← hcur]; exact cell_blk Q.out.on.o3 4 rfl
        clear hcur
        have FT : Hid (Fits ⟨l0, [], l1, [], cur, 0, false, 0, false⟩ (s + o.wh) (t + 1)) := fits_load V0.out HRD.out.1 HRD.out.2.1 s t cur
        have KD : Hid (Kept (fun _ => False) wc wc.drew) := (Kept.refl (fun _ => False) wc).drew
        have B1 : Hid (w.heap.size ≤ wc.heap.size) := Q.out.on.al.kept.size
        go_wp2_with fail
        refine (dLoadX w.heap.size pA n0 qA l0 pB n1 qB l1 cur wc B1.out (wide_reads HRD.out.1 HRD.out.2.2.1 Q.out.rA) (wide_reads HRD.out.2.1 HRD.out.2.2.2.1 Q.out.rB) HRD.out.2.2.2.2.1 HRD.out.2.2.2.2.2 (by omega)).mono ?_
        rintro y w2 ⟨F, df, rfl, i2, e2, K2, u2⟩
        have Q2 : Hid (L4 w w2 W7.heap.size (some ⟨g, 0, none⟩) pn pc L1 x L2 o wr.heap.size W.heap.size X pA n0 qA l0 pB n1 qB l1 ∧ IsD w.heap.size w2 F df) := ⟨Q.out.quiet K2, i2⟩
        have E2 : Hid (df.ab = ⟨l0, [], l1, [], cur, 0, false, 0, false⟩) := e2
        have U1 : Hid (∀ k, df.Uses F k → wc.heap.size ≤ k ∧ k < w2.heap.size) := fun k hk => ⟨u2 k hk, i2.lt hk⟩
        have UM : Hid (wc.heap.size ≤ w2.heap.size) := K2.size
        have B2 : Hid (w.heap.size ≤ w2.heap.size) := Nat.le_trans B1.out K2.size
        clear i2 e2 K2 u2 k4 x0 x1
        have k4 : w2.cell? ⟨wr.heap.size, 4, none⟩ = some (.int .i64 (cur : Int)) := by rw [← HC.out]; exact cell_blk Q2.out.1.on.o3 4 rfl
        have k6 : w2.cell? ⟨wr.heap.size, 6, none⟩ = some (.slice a0 n0 c0) := by rw [← V0.out.1]; exact cell_blk Q2.out.1.on.o3 6 rfl
        have k7 : w2.cell? ⟨wr.heap.size, 7, none⟩ = some (.slice a1 n1 c1) := by rw [← V0.out.2.1]; exact cell_blk Q2.out.1.on.o3 7 rfl
        go_wp2_with fail
        refine (rLoadX w.heap.size a0 n0 c0 l0 a1 n1 c1 l1 cur w2 B2.out (RD.out.1.kept' Q2.out.1.on.al.kept (fun _ _ z => z)) (RD.out.2.1.kept' Q2.out.1.on.al.kept (fun _ _ z => z)) HRD.out.2.2.2.2.1 HRD.out.2.2.2.2.2 hc2).mono ?_
        rintro y w3 ⟨G, rf, rfl, i3, e3, K3, u3⟩
        have Q3 : Hid (L4 w w3 W7.heap.size (some ⟨g, 0, none⟩) pn pc L1 x L2 o wr.heap.size W.heap.size X pA n0 qA l0 pB n1 qB l1 ∧ IsD w.heap.size w3 F df ∧ IsR w.heap.size w3 G rf) := ⟨Q2.out.1.quiet K3, Q2.out.2.kept0 K3, i3⟩
        have E3 : Hid (rf.ab = ⟨l0, [], l1, [], cur, 0, false, 0, false⟩) := e3
        have U2 : Hid (∀ k, rf.Uses G k → w2.heap.size ≤ k) := u3
        clear i3 e3 K3 u3 k4 k6 k7
        have y0 : w3.cell? ⟨X, 0, none⟩ = some (.slice pA n0 qA) := cell_blk Q3.out.1.xb 0 rfl
        have y1 : w3.cell? ⟨X, 1, none⟩ = some (.slice pB n1 qB) := cell_blk Q3.out.1.xb 1 rfl
        have y6 : w3.cell? ⟨wr.heap.size, 6, none⟩ = some (.slice a0 n0 c0) := by rw [← V0.out.1]; exact cell_blk Q3.out.1.on.o3 6 rfl
        have y7 : w3.cell? ⟨wr.heap.size, 7, none⟩ = some (.slice a1 n1 c1) := by rw [← V0.out.2.1]; exact cell_blk Q3.out.1.on.o3 7 rfl
        go_wp2_with fail
        refine (keptOK W7.heap.size pA qA a0 n0 c0 l0 w3 Q3.out.1.rA (RD.out.1.kept' Q3.out.1.on.al.kept (fun _ _ z => z)) HRD.out.2.2.2.2.1).mono ?_
        rintro y wz ⟨rfl, ez⟩
        rw [ez]
        clear ez wz
        go_wp2_with fail
        refine (keptOK W7.heap.size pB qB a1 n1 c1 l1 w3 Q3.out.1.rB (RD.out.2.1.kept' Q3.out.1.on.al.kept (fun _ _ z => z)) HRD.out.2.2.2.2.2).mono ?_
        rintro y wz ⟨rfl, ez⟩
        rw [ez]
        clear ez wz y6 y7
        go_wp2_with fail
        refine (over W7.heap.size pA n0 qA _ w3 (own_take Q3.out.1.rA n0 (by omega))).mono ?_
        rintro y w5 ⟨rfl, K5⟩
        have Q5 : Hid (ON w w5 (some ⟨g, 0, none⟩) pn pc L1 x L2 o wr.heap.size W.heap.size (fun k => k = X ∨ blockOf pA = some k ∨ blockOf pB = some k) ∧ w5.ownsRow W7.heap.size 5 1 (.slice pB (n1 + 2) qB) (n1 + 2) (cellsOf (l1 ++ [193, 194])) ∧ w5.heap[X]? = some (.cells #[.slice pA n0 qA, .slice pB n1 qB] 32 (0, 0)) ∧ IsD w.heap.size w5 F df ∧ IsR w.heap.size w5 G rf) := by
          obtain ⟨q1, q2, q3⟩ := L4.over1 Z.out Q3.out.1 K5
          exact ⟨q1, q2, q3, Q3.out.2.1.off K5 (fun k hk z => by have h1 := U1.out k hk; have h2 := (own_lt Q.out.rA k z).2; omega), Q3.out.2.2.off K5 (fun k hk z => by have h1 := U2.out k hk; have h2 := (own_lt Q.out.rA k z).2; have h3 := UM.out; omega)⟩
        have v1 : w5.cell? ⟨X, 1, none⟩ = some (.slice pB n1 qB) := cell_blk Q5.out.2.2.1 1 rfl
        clear K5 y0 y1
        go_wp2_with fail
        refine (over W7.heap.size pB n1 qB _ w5 (own_take Q5.out.2.1 n1 (by omega))).mono ?_
        rintro y w6 ⟨rfl, K6⟩
        have Q6 : Hid (ON w w6 (some ⟨g, 0, none⟩) pn pc L1 x L2 o wr.heap.size W.heap.size (fun k => k = X ∨ blockOf pA = some k ∨ blockOf pB = some k) ∧ IsD w.heap.size w6 F df ∧ IsR w.heap.size w6 G rf) := ⟨L4.over2 Z.out Q3.out.1 Q5.out.1 K6, Q5.out.2.2.2.1.off K6 (fun k hk z => by have h1 := U1.out k hk; have h2 := (own_lt Q.out.rB k z).2; omega), Q5.out.2.2.2.2.off K6 (fun k hk z => by have h1 := U2.out k hk; have h2 := (own_lt Q.out.rB k z).2; have h3 := UM.out; omega)⟩
        clear K6 v1
        have AJ : Hid (AL w w6 (⟨F, df, G, rf⟩ :: (L1 ++ x :: L2)) (fun k => blockOf (some (⟨g, 0, none⟩ : Addr)) = some k)) := join_new Q.out.on Q6.out.1 Q6.out.2.1 Q6.out.2.2 U1.out U2.out UM.out
        have SD : Hid (df.ab = rf.ab) := E2.out.trans E3.out.symm
        have FD : Hid (Fits df.ab (s + o.wh) (t + 1)) := by rw [E2.out]; exact FT.out
        go_wp2_with
          (first
            | (at_builtin; refine wpList_append_all _ rfl (.tmp 211) (.tmp 215) 61 60 61 _ 2 16 rfl Try.underlying61 Try.info60 rfl w.heap.size (.slice (some ⟨g, 0, none⟩) pn pc) pn (pcells (L1 ++ x :: L2)) rfl ((alloc_kept0 w6 _).owns Q6.out.1.row (fun _ _ z => z)) _ 1 (Pr.cells ⟨F, df, G, rf⟩) rfl (src_pair (v := .pointer (some ⟨F, 0, none⟩)) (u := .pointer (some ⟨G, 0, none⟩)) (alloc_new w6 _) rfl rfl) PL.out.1 PL.out.2 (Nat.le_trans Q6.out.1.al.kept.size (alloc_kept0 w6 _).size) ?_; intro p10 c10 w10 ho hg hn
               have N10 : Hid (OD w w10 p10 (pn + 1) c10 ((L1 ++ x :: L2) ++ [⟨F, df, G, rf⟩]) (s + o.wh) (t + 1)) := OD.one (S := fun k => blockOf (some (⟨g, 0, none⟩ : Addr)) = some k) AJ.out (fun k hk => hk) (alloc_kept0 w6 _) ho.out hg.out hn.out SM.out.1 SD.out (fun y hy => (SM.out.2.1 y hy).mono (by omega) (by omega)) FD.out
               clear ho hg hn)
            | fail)
        go_ret2
        exact ⟨p10, pn + 1, c10, _, rfl, N10.out, by simp only [List.length_append, List.length_cons, List.length_nil]; omega, by simp only [List.length_append, List.length_cons, List.length_nil]; omega⟩
      · have k4 : wc.cell? ⟨wr.heap.size, 4, none⟩ = some (.int .i64 o.N) := cell_blk Q.out.on.o3 4 rfl
        have NN : Hid (¬ (o.N = 0 ∨ o.N = 1)) := hN
        clear hN
        go_wp2_with fail
        refine (dLoad_off _ _ ⟨_, _, _, rfl⟩ ⟨_, _, _, rfl⟩ o.N NN.out wc).mono ?_
        rintro y w2 ⟨rfl, K2⟩
        have Q2 : Hid (L4 w w2 W7.heap.size (some ⟨g, 0, none⟩) pn pc L1 x L2 o wr.heap.size W.heap.size X pA n0 qA l0 pB n1 qB l1) := Q.out.quiet K2
        clear K2 k4 x0 x1
        have k4 : w2.cell? ⟨wr.heap.size, 4, none⟩ = some (.int .i64 o.N) := cell_blk Q2.out.on.o3 4 rfl
        have k6 : w2.cell? ⟨wr.heap.size, 6, none⟩ = some (.slice a0 n0 c0) := by rw [← V0.out.1]; exact cell_blk Q2.out.on.o3 6 rfl
        have k7 : w2.cell? ⟨wr.heap.size, 7, none⟩ = some (.slice a1 n1 c1) := by rw [← V0.out.2.1]; exact cell_blk Q2.out.on.o3 7 rfl
        go_wp2_with fail
        refine (rLoad_off _ _ ⟨_, _, _, rfl⟩ ⟨_, _, _, rfl⟩ o.N NN.out w2).mono ?_
        rintro y w3 ⟨rfl, K3⟩
        have Q3 : Hid (L4 w w3 W7.heap.size (some ⟨g, 0, none⟩) pn pc L1 x L2 o wr.heap.size W.heap.size X pA n0 qA l0 pB n1 qB l1 ∧ True) := ⟨Q2.out.quiet K3, trivial⟩
        clear K3 k4 k6 k7
        have y0 : w3.cell? ⟨X, 0, none⟩ = some (.slice pA n0 qA) := cell_blk Q3.out.1.xb 0 rfl
        have y1 : w3.cell? ⟨X, 1, none⟩ = some (.slice pB n1 qB) := cell_blk Q3.out.1.xb 1 rfl
        have y6 : w3.cell? ⟨wr.heap.size, 6, none⟩ = some (.slice a0 n0 c0) := by rw [← V0.out.1]; exact cell_blk Q3.out.1.on.o3 6 rfl
        have y7 : w3.cell? ⟨wr.heap.size, 7, none⟩ = some (.slice a1 n1 c1) := by rw [← V0.out.2.1]; exact cell_blk Q3.out.1.on.o3 7 rfl
        go_wp2_with fail
        refine (keptOK W7.heap.size pA qA a0 n0 c0 l0 w3 Q3.out.1.rA (RD.out.1.kept' Q3.out.1.on.al.kept (fun _ _ z => z)) HRD.out.2.2.2.2.1).mono ?_
        rintro y wz ⟨rfl, ez⟩
        rw [ez]
        clear ez wz
        go_wp2_with fail
        refine (keptOK W7.heap.size pB qB a1 n1 c1 l1 w3 Q3.out.1.rB (RD.out.2.1.kept' Q3.out.1.on.al.kept (fun _ _ z => z)) HRD.out.2.2.2.2.2).mono ?_
        rintro y wz ⟨rfl, ez⟩
        rw [ez]
        clear ez wz y6 y7
        go_wp2_with fail
        refine (over W7.heap.size pA n0 qA _ w3 (own_take Q3.out.1.rA n0 (by omega))).mono ?_
        rintro y w5 ⟨rfl, K5⟩
        have Q5 : Hid (ON w w5 (some ⟨g, 0, none⟩) pn pc L1 x L2 o wr.heap.size W.heap.size (fun k => k = X ∨ blockOf pA = some k ∨ blockOf pB = some k) ∧ w5.ownsRow W7.heap.size 5 1 (.slice pB (n1 + 2) qB) (n1 + 2) (cellsOf (l1 ++ [193, 194])) ∧ w5.heap[X]? = some (.cells #[.slice pA n0 qA, .slice pB n1 qB] 32 (0, 0))) := L4.over1 Z.out Q3.out.1 K5
        have v1 : w5.cell? ⟨X, 1, none⟩ = some (.slice pB n1 qB) := cell_blk Q5.out.2.2 1 rfl
        clear K5 y0 y1
        go_wp2_with fail
        refine (over W7.heap.size pB n1 qB _ w5 (own_take Q5.out.2.1 n1 (by omega))).mono ?_
        rintro y w6 ⟨rfl, K6⟩
        have Q6 : Hid (ON w w6 (some ⟨g, 0, none⟩) pn pc L1 x L2 o wr.heap.size W.heap.size (fun k => k = X ∨ blockOf pA = some k ∨ blockOf pB = some k)) := L4.over2 Z.out Q3.out.1 Q5.out.1 K6
        clear K6 v1
        have N10 : Hid (OD w w6 (some ⟨g, 0, none⟩) pn pc (L1 ++ x :: L2) (s + o.wh) (t + 1)) := ⟨Q6.out.back, Q6.out.row, SM.out.1, fun y hy => (SM.out.2.1 y hy).mono (by omega) (by omega)⟩
        go_wp2_with fail
        go_ret2
        exact ⟨_, pn, pc, _, rfl, N10.out, by omega, Nat.le_refl _⟩
  · rw [if_neg hneg] at em
    subst em
    go_enter Try.func32, Try.ntmps32
    go_upto_region 1 with fail
    rw [← EW.out]
    go_upto_region 5 with fail
    have SS : ON w W7 (some ⟨g, 0, none⟩) pn pc L1 x L2 o wr.heap.size W.heap.size (fun _ => False) := Z.out
    have k0 : W7.cell? ⟨wr.heap.size, 0, none⟩ = some (.int .i64 o.kind) := cell_blk SS.o3 0 rfl
    rw [← E7.out]
    have m0 : W7.cell? ⟨wr.heap.size, 0, none⟩ = some (.int .i64 o.kind) := cell_blk SS.o3 0 rfl
    have m1 : W7.cell? ⟨wr.heap.size, 1, none⟩ = some (.int .i64 o.D) := cell_blk SS.o3 1 rfl
    have m2 : W7.cell? ⟨wr.heap.size, 2, none⟩ = some (.int .i64 o.slot) := cell_blk SS.o3 2 rfl
    have m3 : W7.cell? ⟨wr.heap.size, 3, none⟩ = some (.slice o.a o.n o.c) := cell_blk SS.o3 3 rfl
    have m4 : W7.cell? ⟨wr.heap.size, 4, none⟩ = some (.int .i64 o.N) := cell_blk SS.o3 4 rfl
    have m5 : W7.cell? ⟨wr.heap.size, 5, none⟩ = some (.bool o.done) := cell_blk SS.o3 5 rfl
    have m6 : W7.cell? ⟨wr.heap.size, 6, none⟩ = some (.slice a0 n0 c0) := by rw [← V0.out.1]; exact cell_blk SS.o3 6 rfl
    have m7 : W7.cell? ⟨wr.heap.size, 7, none⟩ = some (.slice a1 n1 c1) := by rw [← V0.out.2.1]; exact cell_blk SS.o3 7 rfl
    have m8 : W7.cell? ⟨wr.heap.size, 8, none⟩ = some (.slice a2 n2 c2) := by rw [← V0.out.2.2]; exact cell_blk SS.o3 8 rfl
    have mp : W7.cell? ⟨W.heap.size, 0, none⟩ = some (.pointer (some ⟨x.bp, 0, none⟩)) := cell_blk SS.x7 0 rfl
    have mq : W7.cell? ⟨W.heap.size, 1, none⟩ = some (.pointer (some ⟨x.br, 0, none⟩)) := cell_blk SS.x7 1 rfl
    clear SS k0
    have kk1 : (1 : Int) ≤ o.kind := by have := HKK.out; omega
    have kk2 : ¬ o.kind ≤ 4 := by have := HKK.out; omega
    have kk3 : (o.kind == 8) = false := by rw [HKK.out]; rfl
    have kk4 : (5 : Int) ≤ o.kind := by have := HKK.out; omega
    have kk5 : ¬ o.kind ≤ 7 := by have := HKK.out; omega
    have kk6 : (o.kind == 9) = false := by rw [HKK.out]; rfl
    have kk7 : (o.kind == 10) = true := by rw [HKK.out]; rfl
    have R0 : Hid (∀ V : World, Kept (fun _ => False) W7 V → Reads V a0 n0 c0 l0) := fun V K => (RD.out.1.kept' Z.out.al.kept (fun _ _ z => z)).kept' K (fun _ _ z => z)
    have R1 : Hid (∀ V : World, Kept (fun _ => False) W7 V → Reads V a1 n1 c1 l1) := fun V K => (RD.out.2.1.kept' Z.out.al.kept (fun _ _ z => z)).kept' K (fun _ _ z => z)
    have l7a := block_lt Z.out.o3
    have nw6 : ¬ W7.heap.size = wr.heap.size := by omega
    have nw7 : ¬ wr.heap.size = W7.heap.size := by omega
    have nw8 : ¬ W7.drew.heap.size = wr.heap.size := nw6
    have nw9 : ¬ wr.heap.size = W7.drew.heap.size := nw7
    go_upto_region 26 with fail
    have SZ7 : Hid (W7.heap.size = wr.heap.size + 2) := sz7
    clear sz7
    go_cut [14] from 150 to 158 (fun y wc => ∃ (X : Nat) (pA pB : Option Addr) (qA qB : Nat), y = .pointer (some ⟨X, 0, none⟩) ∧ Hid (L4 w wc W7.heap.size (some ⟨g, 0, none⟩) pn pc L1 x L2 o wr.heap.size W.heap.size X pA n0 qA l0 pB n1 qB l1))
    case first =>
      go_region_held3 (fun w' => w'.cell? ⟨wr.heap.size, 6, none⟩ = some (.slice a0 n0 c0) ∧ w'.cell? ⟨wr.heap.size, 7, none⟩ = some (.slice a1 n1 c1)) (first | go_keep)
        (first
          | (go_at_call 10; refine (wide a1 n1 c1 l1 _ (R1.out _ (K2H.out.trans (by repeat (first | with_reducible exact Kept.refl _ _ | with_reducible refine Kept.drew ?_ | with_reducible refine Kept.alloc ?_ _)) (fun _ _ z => z))) RD.out.2.2.2.2.1).mono ?_; rintro y w3 ⟨pB, qB, rfl, oB, KB⟩
             have KBH : Hid _ := KB
             have KS3 : Hid (w2.heap.size ≤ w3.heap.size) := by first | exact KB.size | (have h9 := KB.size; rw [alloc_size] at h9; show w2.heap.size ≤ w3.heap.size; omega)
             have OBH : Hid _ := oB
             have j6 : w3.cell? ⟨wr.heap.size, 6, none⟩ = some (.slice a0 n0 c0) := (K2H.out.trans (Kept.trans (by repeat (first | with_reducible exact Kept.refl _ _ | with_reducible refine Kept.drew ?_ | with_reducible refine Kept.alloc ?_ _)) KB (fun _ _ z => z)) (fun _ _ z => z)).cell m6 (fun z => z)
             have j7 : w3.cell? ⟨wr.heap.size, 7, none⟩ = some (.slice a1 n1 c1) := (K2H.out.trans (Kept.trans (by repeat (first | with_reducible exact Kept.refl _ _ | with_reducible refine Kept.drew ?_ | with_reducible refine Kept.alloc ?_ _)) KB (fun _ _ z => z)) (fun _ _ z => z)).cell m7 (fun z => z)
             (try (have y0 : w3.heap[W7.heap.size]? = some (.cells #[.slice none 0 0, .slice none 0 0] 32 (0, 0)) := KB.get XB2.out (fun z => z); have XB3 : Hid (w3.heap[W7.heap.size]? = some (.cells #[.slice none 0 0, .slice none 0 0] 32 (0, 0))) := y0; have z0 : w3.cell? ⟨W7.heap.size, 0, none⟩ = some (.slice none 0 0) := cell_blk y0 0 rfl; have z1 : w3.cell? ⟨W7.heap.size, 1, none⟩ = some (.slice none 0 0) := cell_blk y0 1 rfl; have z2 := soft_blk y0 0; have z3 := soft_blk y0 1; have zd0 : w3.cell? ⟨W7.drew.heap.size, 0, none⟩ = some (.slice none 0 0) := z0; have zd1 : w3.cell? ⟨W7.drew.heap.size, 1, none⟩ = some (.slice none 0 0) := z1; have zd2 : w3.frozen? ⟨W7.drew.heap.size, 0, none⟩ = false := z2; have zd3 : w3.frozen? ⟨W7.drew.heap.size, 1, none⟩ = false := z3; clear y0))
             (try (have y0 : w3.heap[w2.heap.size]? = some (.cells #[.slice none 0 0, .slice none 0 0] 32 (0, 0)) := KB.get (alloc_new w2 _) (fun z => z); have XB4 : Hid (w3.heap[w2.heap.size]? = some (.cells #[.slice none 0 0, .slice none 0 0] 32 (0, 0))) := y0; have z0 := cell_blk y0 0 rfl; have z1 := cell_blk y0 1 rfl; have z2 := soft_blk y0 0; have z3 := soft_blk y0 1; clear y0))
             have za0 : (w3.alloc (.cells #[.slice none 0 0, .slice none 0 0] 32)).cell? ⟨w3.heap.size, 0, none⟩ = some (.slice none 0 0) := cell_blk (alloc_new w3 _) 0 rfl
             have za1 : (w3.alloc (.cells #[.slice none 0 0, .slice none 0 0] 32)).cell? ⟨w3.heap.size, 1, none⟩ = some (.slice none 0 0) := cell_blk (alloc_new w3 _) 1 rfl
             have za2 : (w3.alloc (.cells #[.slice none 0 0, .slice none 0 0] 32)).frozen? ⟨w3.heap.size, 0, none⟩ = false := soft_blk (alloc_new w3 _) 0
             have za3 : (w3.alloc (.cells #[.slice none 0 0, .slice none 0 0] 32)).frozen? ⟨w3.heap.size, 1, none⟩ = false := soft_blk (alloc_new w3 _) 1
             have nw4 : ¬ w3.heap.size = wr.heap.size := by have h1 := K2H.out.size; have h2 := KS3.out; omega
             have nw5 : ¬ wr.heap.size = w3.heap.size := by have h1 := K2H.out.size; have h2 := KS3.out; omega
             clear KB oB)
          | (go_at_call 10; refine (wide a0 n0 c0 l0 _ (R0.out _ (by repeat (first | with_reducible exact Kept.refl _ _ | with_reducible refine Kept.drew ?_ | with_reducible refine Kept.alloc ?_ _))) RD.out.2.2.2.1).mono ?_; rintro y w2 ⟨pA, qA, rfl, oA, KA⟩
             have KAH : Hid _ := KA
             have OAH : Hid _ := oA
             have K2H : Hid (Kept (fun _ => False) W7 w2) := Kept.trans (by repeat (first | with_reducible exact Kept.refl _ _ | with_reducible refine Kept.drew ?_ | with_reducible refine Kept.alloc ?_ _)) KA (fun _ _ z => z)
             have j6 : w2.cell? ⟨wr.heap.size, 6, none⟩ = some (.slice a0 n0 c0) := K2H.out.cell m6 (fun z => z)
             have j7 : w2.cell? ⟨wr.heap.size, 7, none⟩ = some (.slice a1 n1 c1) := K2H.out.cell m7 (fun z => z)
             (try (have y0 : w2.heap[W7.heap.size]? = some (.cells #[.slice none 0 0, .slice none 0 0] 32 (0, 0)) := KA.get (alloc_newD W7 _ _) (fun z => z); have XB2 : Hid (w2.heap[W7.heap.size]? = some (.cells #[.slice none 0 0, .slice none 0 0] 32 (0, 0))) := y0; clear y0))
             have nw2 : ¬ w2.heap.size = wr.heap.size := by have := K2H.out.size; omega
             have nw3 : ¬ wr.heap.size = w2.heap.size := by have := K2H.out.size; omega
             clear KA oA)
          | fail)
      all_goals go_wp2_with fail
      all_goals go_meet
      all_goals
        have a1 : w2.ownsRow _ 5 1 (.slice pA (n0 + 2) qA) (n0 + 2) (cellsOf (l0 ++ [193, 194])) := OAH.out
        have b1 : w3.ownsRow _ 5 1 (.slice pB (n1 + 2) qB) (n1 + 2) (cellsOf (l1 ++ [193, 194])) := OBH.out
        have s2 := K2H.out.size
        have s3 := KS3.out
        have KB' : Kept (fun _ => False) w2 w3 := by first | exact KBH.out | exact (alloc_kept0 w2 _).trans KBH.out (fun _ _ z => z)
        have K3 : Kept (fun _ => False) W7 w3 := K2H.out.trans KB' (fun _ _ z => z)
        have rA2 : w2.ownsRow W7.heap.size 5 1 (.slice pA (n0 + 2) qA) (n0 + 2) (cellsOf (l0 ++ [193, 194])) := own_down a1 (by first | exact Nat.le_refl _ | exact Nat.le_succ _ | (rw [alloc_size]; exact Nat.le_succ _) | (show _ ≤ (World.alloc W7 _).heap.size; rw [alloc_size]; exact Nat.le_succ _))
        have rA := KB'.owns rA2 (fun _ _ z => z)
        have rB2 : w3.ownsRow w2.heap.size 5 1 (.slice pB (n1 + 2) qB) (n1 + 2) (cellsOf (l1 ++ [193, 194])) := own_down b1 (by first | exact Nat.le_refl _ | exact Nat.le_succ _ | (rw [alloc_size]; exact Nat.le_succ _) | (show _ ≤ (World.alloc W7 _).heap.size; rw [alloc_size]; exact Nat.le_succ _))
        have rB := own_down rB2 s2
        have ne : ∀ k, blockOf pA = some k → blockOf pB ≠ some k := fun k h1 h2 => by
          have h3 := (own_lt rA2 k h1).2
          have h4 := (own_lt rB2 k h2).1
          omega
        first
          | exact ⟨_, pA, pB, qA, qB, rfl, L4.new Z.out K3 rA rB ne⟩
          | (refine ⟨_, pA, pB, qA, qB, rfl, L4.put Z.out K3 rA rB XB4.out ne s2 (fun k hk => ?_)⟩
             have b2 : w3.ownsRow (w2.heap.size + 1) 5 1 (.slice pB (n1 + 2) qB) (n1 + 2) (cellsOf (l1 ++ [193, 194])) := own_down b1 (by first | exact Nat.le_refl _ | (rw [alloc_size]; exact Nat.le_refl _) | (show _ ≤ (World.alloc W7 _).heap.size; rw [alloc_size]; exact Nat.le_refl _))
             rcases hk with q | q
             · have h3 := (own_lt rA2 k q).2; omega
             · have h3 := (own_lt b2 k q).1; omega)
          | (refine ⟨_, pA, pB, qA, qB, rfl, L4.put Z.out K3 rA rB XB3.out ne (Nat.le_refl _) (fun k hk => ?_)⟩
             have a2 : w2.ownsRow (W7.heap.size + 1) 5 1 (.slice pA (n0 + 2) qA) (n0 + 2) (cellsOf (l0 ++ [193, 194])) := own_down a1 (by first | exact Nat.le_refl _ | (rw [alloc_size]; exact Nat.le_refl _) | (show _ ≤ (World.alloc W7 _).heap.size; rw [alloc_size]; exact Nat.le_refl _))
             have h5 := block_lt XB2.out
             rcases hk with q | q
             · have h3 := (own_lt a2 k q).1; omega
             · have h3 := (own_lt rB2 k q).1; omega)
    case rest =>
      obtain ⟨X, pA, pB, qA, qB, rfl, Q⟩ := hcut
      have HRD : Hid (l0.length = n0 ∧ l1.length = n1 ∧ (∀ c ∈ l0, c < 256) ∧ (∀ c ∈ l1, c < 256) ∧ n0 ≤ Lim ∧ n1 ≤ Lim) := ⟨RD.out.1.length, RD.out.2.1.length, RD.out.1.bytes, RD.out.2.1.bytes, RD.out.2.2.2.1, RD.out.2.2.2.2.1⟩
      clear m0 m1 m2 m3 m4 m5 m6 m7 m8 mp mq R0 R1 nw6 nw7 nw8 nw9 l7a
      have PL : Hid (pn + 1 ≤ maxLen ∧ ((pn + 1) + (pn + 1) / 4 + 192) * 16 ≤ 281474976710656) := pair_lim hp
      have x0 : wc.cell? ⟨X, 0, none⟩ = some (.slice pA n0 qA) := cell_blk Q.out.xb 0 rfl
      have x1 : wc.cell? ⟨X, 1, none⟩ = some (.slice pB n1 qB) := cell_blk Q.out.xb 1 rfl
      by_cases hN : o.N = 0 ∨ o.N = 1
      · obtain ⟨cur, hcur, hc2⟩ : ∃ cur : Nat, o.N = (cur : Int) ∧ (cur = 0 ∨ cur = 1) := by
          rcases hN with e | e
          · exact ⟨0, e, .inl rfl⟩
          · exact ⟨1, e, .inr rfl⟩
        clear hN
        have HC : Hid (o.N = (cur : Int)) := hcur
        have k4 : wc.cell? ⟨wr.heap.size, 4, none⟩ = some (.int .i64 (cur : Int)) := by rw [← hcur]; exact cell_blk Q.out.on.o3 4 rfl
        clear hcur
        have FT : Hid (Fits ⟨l0, [], l1, [], cur, 0, false, 0, false⟩ (s + o.wh) (t + 1)) := fits_load V0.out HRD.out.1 HRD.out.2.1 s t cur
        have KD : Hid (Kept (fun _ => False) wc wc.drew) := (Kept.refl (fun _ => False) wc).drew
        have B1 : Hid (w.heap.size ≤ wc.heap.size) := Q.out.on.al.kept.size
        go_wp2_with fail
        refine (dLoadX w.heap.size pA n0 qA l0 pB n1 qB l1 cur wc B1.out (wide_reads HRD.out.1 HRD.out.2.2.1 Q.out.rA) (wide_reads HRD.out.2.1 HRD.out.2.2.2.1 Q.out.rB) HRD.out.2.2.2.2.1 HRD.out.2.2.2.2.2 (by omega)).mono ?_
        rintro y w2 ⟨F, df, rfl, i2, e2, K2, u2⟩
        have Q2 : Hid (L4 w w2 W7.heap.size (some ⟨g, 0, none⟩) pn pc L1 x L2 o wr.heap.size W.heap.size X pA n0 qA l0 pB n1 qB l1 ∧ IsD w.heap.size w2 F df) := ⟨Q.out.quiet K2, i2⟩
        have E2 : Hid (df.ab = ⟨l0, [], l1, [], cur, 0, false, 0, false⟩) := e2
        have U1 : Hid (∀ k, df.Uses F k → wc.heap.size ≤ k ∧ k < w2.heap.size) := fun k hk => ⟨u2 k hk, i2.lt hk⟩
        have UM : Hid (wc.heap.size ≤ w2.heap.size) := K2.size
        have B2 : Hid (w.heap.size ≤ w2.heap.size) := Nat.le_trans B1.out K2.size
        clear i2 e2 K2 u2 k4 x0 x1
        have k4 : w2.cell? ⟨wr.heap.size, 4, none⟩ = some (.int .i64 (cur : Int)) := by rw [← HC.out]; exact cell_blk Q2.out.1.on.o3 4 rfl
        have k6 : w2.cell? ⟨wr.heap.size, 6, none⟩ = some (.slice a0 n0 c0) := by rw [← V0.out.1]; exact cell_blk Q2.out.1.on.o3 6 rfl
        have k7 : w2.cell? ⟨wr.heap.size, 7, none⟩ = some (.slice a1 n1 c1) := by rw [← V0.out.2.1]; exact cell_blk Q2.out.1.on.o3 7 rfl
        go_wp2_with fail
        refine (rLoadX w.heap.size a0 n0 c0 l0 a1 n1 c1 l1 cur w2 B2.out (RD.out.1.kept' Q2.out.1.on.al.kept (fun _ _ z => z)) (RD.out.2.1.kept' Q2.out.1.on.al.kept (fun _ _ z => z)) HRD.out.2.2.2.2.1 HRD.out.2.2.2.2.2 hc2).mono ?_
        rintro y w3 ⟨G, rf, rfl, i3, e3, K3, u3⟩
        have Q3 : Hid (L4 w w3 W7.heap.size (some ⟨g, 0, none⟩) pn pc L1 x L2 o wr.heap.size W.heap.size X pA n0 qA l0 pB n1 qB l1 ∧ IsD w.heap.size w3 F df ∧ IsR w.heap.size w3 G rf) := ⟨Q2.out.1.quiet K3, Q2.out.2.kept0 K3, i3⟩
        have E3 : Hid (rf.ab = ⟨l0, [], l1, [], cur, 0, false, 0, false⟩) := e3
        have U2 : Hid (∀ k, rf.Uses G k → w2.heap.size ≤ k) := u3
        clear i3 e3 K3 u3 k4 k6 k7
        have y0 : w3.cell? ⟨X, 0, none⟩ = some (.slice pA n0 qA) := cell_blk Q3.out.1.xb 0 rfl
        have y1 : w3.cell? ⟨X, 1, none⟩ = some (.slice pB n1 qB) := cell_blk Q3.out.1.xb 1 rfl
        have y6 : w3.cell? ⟨wr.heap.size, 6, none⟩ = some (.slice a0 n0 c0) := by rw [← V0.out.1]; exact cell_blk Q3.out.1.on.o3 6 rfl
        have y7 : w3.cell? ⟨wr.heap.size, 7, none⟩ = some (.slice a1 n1 c1) := by rw [← V0.out.2.1]; exact cell_blk Q3.out.1.on.o3 7 rfl
        go_wp2_with fail
        refine (keptOK W7.heap.size pA qA a0 n0 c0 l0 w3 Q3.out.1.rA (RD.out.1.kept' Q3.out.1.on.al.kept (fun _ _ z => z)) HRD.out.2.2.2.2.1).mono ?_
        rintro y wz ⟨rfl, ez⟩
        rw [ez]
        clear ez wz
        go_wp2_with fail
        refine (keptOK W7.heap.size pB qB a1 n1 c1 l1 w3 Q3.out.1.rB (RD.out.2.1.kept' Q3.out.1.on.al.kept (fun _ _ z => z)) HRD.out.2.2.2.2.2).mono ?_
        rintro y wz ⟨rfl, ez⟩
        rw [ez]
        clear ez wz y6 y7
        go_wp2_with fail
        refine (over W7.heap.size pA n0 qA _ w3 (own_take Q3.out.1.rA n0 (by omega))).mono ?_
        rintro y w5 ⟨rfl, K5⟩
        have Q5 : Hid (ON w w5 (some ⟨g, 0, none⟩) pn pc L1 x L2 o wr.heap.size W.heap.size (fun k => k = X ∨ blockOf pA = some k ∨ blockOf pB = some k) ∧ w5.ownsRow W7.heap.size 5 1 (.slice pB (n1 + 2) qB) (n1 + 2) (cellsOf (l1 ++ [193, 194])) ∧ w5.heap[X]? = some (.cells #[.slice pA n0 qA, .slice pB n1 qB] 32 (0, 0)) ∧ IsD w.heap.size w5 F df ∧ IsR w.heap.size w5 G rf) := by
          obtain ⟨q1, q2, q3⟩ := L4.over1 Z.out Q3.out.1 K5
          exact ⟨q1, q2, q3, Q3.out.2.1.off K5 (fun k hk z => by have h1 := U1.out k hk; have h2 := (own_lt Q.out.rA k z).2; omega), Q3.out.2.2.off K5 (fun k hk z => by have h1 := U2.out k hk; have h2 := (own_lt Q.out.rA k z).2; have h3 := UM.out; omega)⟩
        have v1 : w5.cell? ⟨X, 1, none⟩ = some (.slice pB n1 qB) := cell_blk Q5.out.2.2.1 1 rfl
        clear K5 y0 y1
        go_wp2_with fail
        refine (over W7.heap.size pB n1 qB _ w5 (own_take Q5.out.2.1 n1 (by omega))).mono ?_
        rintro y w6 ⟨rfl, K6⟩
        have Q6 : Hid (ON w w6 (some ⟨g, 0, none⟩) pn pc L1 x L2 o wr.heap.size W.heap.size (fun k => k = X ∨ blockOf pA = some k ∨ blockOf pB = some k) ∧ IsD w.heap.size w6 F df ∧ IsR w.heap.size w6 G rf) := ⟨L4.over2 Z.out Q3.out.1 Q5.out.1 K6, Q5.out.2.2.2.1.off K6 (fun k hk z => by have h1 := U1.out k hk; have h2 := (own_lt Q.out.rB k z).2; omega), Q5.out.2.2.2.2.off K6 (fun k hk z => by have h1 := U2.out k hk; have h2 := (own_lt Q.out.rB k z).2; have h3 := UM.out; omega)⟩
        clear K6 v1
        have AJ : Hid (AL w w6 (⟨F, df, G, rf⟩ :: (L1 ++ x :: L2)) (fun k => blockOf (some (⟨g, 0, none⟩ : Addr)) = some k)) := join_new Q.out.on Q6.out.1 Q6.out.2.1 Q6.out.2.2 U1.out U2.out UM.out
        have SD : Hid (df.ab = rf.ab) := E2.out.trans E3.out.symm
        have FD : Hid (Fits df.ab (s + o.wh) (t + 1)) := by rw [E2.out]; exact FT.out
        go_wp2_with
          (first
            | (at_builtin; refine wpList_append_all _ rfl (.tmp 211) (.tmp 215) 61 60 61 _ 2 16 rfl Try.underlying61 Try.info60 rfl w.heap.size (.slice (some ⟨g, 0, none⟩) pn pc) pn (pcells (L1 ++ x :: L2)) rfl ((alloc_kept0 w6 _).owns Q6.out.1.row (fun _ _ z => z)) _ 1 (Pr.cells ⟨F, df, G, rf⟩) rfl (src_pair (v := .pointer (some ⟨F, 0, none⟩)) (u := .pointer (some ⟨G, 0, none⟩)) (alloc_new w6 _) rfl rfl) PL.out.1 PL.out.2 (Nat.le_trans Q6.out.1.al.kept.size (alloc_kept0 w6 _).size) ?_; intro p10 c10 w10 ho hg hn
               have N10 : Hid (OD w w10 p10 (pn + 1) c10 ((L1 ++ x :: L2) ++ [⟨F, df, G, rf⟩]) (s + o.wh) (t + 1)) := OD.one (S := fun k => blockOf (some (⟨g, 0, none⟩ : Addr)) = some k) AJ.out (fun k hk => hk) (alloc_kept0 w6 _) ho.out hg.out hn.out SM.out.1 SD.out (fun y hy => (SM.out.2.1 y hy).mono (by omega) (by omega)) FD.out
               clear ho hg hn)
            | fail)
        go_ret2
        exact ⟨p10, pn + 1, c10, _, rfl, N10.out, by simp only [List.length_append, List.length_cons, List.length_nil]; omega, by simp only [List.length_append, List.length_cons, List.length_nil]; omega⟩
      · have k4 : wc.cell? ⟨wr.heap.size, 4, none⟩ = some (.int .i64 o.N) := cell_blk Q.out.on.o3 4 rfl
        have NN : Hid (¬ (o.N = 0 ∨ o.N = 1)) := hN
        clear hN
        go_wp2_with fail
        refine (dLoad_off _ _ ⟨_, _, _, rfl⟩ ⟨_, _, _, rfl⟩ o.N NN.out wc).mono ?_
        rintro y w2 ⟨rfl, K2⟩
        have Q2 : Hid (L4 w w2 W7.heap.size (some ⟨g, 0, none⟩) pn pc L1 x L2 o wr.heap.size W.heap.size X pA n0 qA l0 pB n1 qB l1) := Q.out.quiet K2
        clear K2 k4 x0 x1
        have k4 : w2.cell? ⟨wr.heap.size, 4, none⟩ = some (.int .i64 o.N) := cell_blk Q2.out.on.o3 4 rfl
        have k6 : w2.cell? ⟨wr.heap.size, 6, none⟩ = some (.slice a0 n0 c0) := by rw [← V0.out.1]; exact cell_blk Q2.out.on.o3 6 rfl
        have k7 : w2.cell? ⟨wr.heap.size, 7, none⟩ = some (.slice a1 n1 c1) := by rw [← V0.out.2.1]; exact cell_blk Q2.out.on.o3 7 rfl
        go_wp2_with fail
        refine (rLoad_off _ _ ⟨_, _, _, rfl⟩ ⟨_, _, _, rfl⟩ o.N NN.out w2).mono ?_
        rintro y w3 ⟨rfl, K3⟩
        have Q3 : Hid (L4 w w3 W7.heap.size (some ⟨g, 0, none⟩) pn pc L1 x L2 o wr.heap.size W.heap.size X pA n0 qA l0 pB n1 qB l1 ∧ True) := ⟨Q2.out.quiet K3, trivial⟩
        clear K3 k4 k6 k7
        have y0 : w3.cell? ⟨X, 0, none⟩ = some (.slice pA n0 qA) := cell_blk Q3.out.1.xb 0 rfl
        have y1 : w3.cell? ⟨X, 1, none⟩ = some (.slice pB n1 qB) := cell_blk Q3.out.1.xb 1 rfl
        have y6 : w3.cell? ⟨wr.heap.size, 6, none⟩ = some (.slice a0 n0 c0) := by rw [← V0.out.1]; exact cell_blk Q3.out.1.on.o3 6 rfl
        have y7 : w3.cell? ⟨wr.heap.size, 7, none⟩ = some (.slice a1 n1 c1) := by rw [← V0.out.2.1]; exact cell_blk Q3.out.1.on.o3 7 rfl
        go_wp2_with fail
        refine (keptOK W7.heap.size pA qA a0 n0 c0 l0 w3 Q3.out.1.rA (RD.out.1.kept' Q3.out.1.on.al.kept (fun _ _ z => z)) HRD.out.2.2.2.2.1).mono ?_
        rintro y wz ⟨rfl, ez⟩
        rw [ez]
        clear ez wz
        go_wp2_with fail
        refine (keptOK W7.heap.size pB qB a1 n1 c1 l1 w3 Q3.out.1.rB (RD.out.2.1.kept' Q3.out.1.on.al.kept (fun _ _ z => z)) HRD.out.2.2.2.2.2).mono ?_
        rintro y wz ⟨rfl, ez⟩
        rw [ez]
        clear ez wz y6 y7
        go_wp2_with fail
        refine (over W7.heap.size pA n0 qA _ w3 (own_take Q3.out.1.rA n0 (by omega))).mono ?_
        rintro y w5 ⟨rfl, K5⟩
        have Q5 : Hid (ON w w5 (some ⟨g, 0, none⟩) pn pc L1 x L2 o wr.heap.size W.heap.size (fun k => k = X ∨ blockOf pA = some k ∨ blockOf pB = some k) ∧ w5.ownsRow W7.heap.size 5 1 (.slice pB (n1 + 2) qB) (n1 + 2) (cellsOf (l1 ++ [193, 194])) ∧ w5.heap[X]? = some (.cells #[.slice pA n0 qA, .slice pB n1 qB] 32 (0, 0))) := L4.over1 Z.out Q3.out.1 K5
        have v1 : w5.cell? ⟨X, 1, none⟩ = some (.slice pB n1 qB) := cell_blk Q5.out.2.2 1 rfl
        clear K5 y0 y1
        go_wp2_with fail
        refine (over W7.heap.size pB n1 qB _ w5 (own_take Q5.out.2.1 n1 (by omega))).mono ?_
        rintro y w6 ⟨rfl, K6⟩
        have Q6 : Hid (ON w w6 (some ⟨g, 0, none⟩) pn pc L1 x L2 o wr.heap.size W.heap.size (fun k => k = X ∨ blockOf pA = some k ∨ blockOf pB = some k)) := L4.over2 Z.out Q3.out.1 Q5.out.1 K6
        clear K6 v1
        have N10 : Hid (OD w w6 (some ⟨g, 0, none⟩) pn pc (L1 ++ x :: L2) (s + o.wh) (t + 1)) := ⟨Q6.out.back, Q6.out.row, SM.out.1, fun y hy => (SM.out.2.1 y hy).mono (by omega) (by omega)⟩
        go_wp2_with fail
        go_ret2
        exact ⟨_, pn, pc, _, rfl, N10.out, by omega, Nat.le_refl _⟩
end Go.Proofs.Ytbnnmelkbjkkjaa
