import Derived.Test.YtbnnmelkbjkkjaaOne
import Derived.Test.YtbnnmelkbjkkjaaOpenMoreJ
import Derived.Test.YtbnnmelkbjkkjaaNoneJ
namespace Go.Proofs.Ytbnnmelkbjkkjaa
open Go.RowKit

theorem OD.quiet {w wr w' : World} {pa : Option Addr} {pn pc : Nat} {L : List Pr} {s t : Nat} (h : OD w wr pa pn pc L s t) (K : Kept (fun _ => False) wr w') : OD w w' pa pn pc L s t := ⟨h.al.quiet K, K.owns h.row (fun _ _ z => z), h.same, h.fits⟩
/-- What 'one' (32) is to do at any step. -/
def OneOK : Prop := ∀ (w wr : World) (pa : Option Addr) (pn pc : Nat) (L : List Pr) (o : Opv) (s t : Nat), OD w wr pa pn pc L s t → s + o.wh ≤ Few → t + 1 ≤ Few → 0 < pn → pn < 1000000000 → o.Rd w → Reads w o.a o.n o.c o.l → -9223372036854775808 ≤ o.N → o.N < 9223372036854775808 →
  Calls Try.prog 32 #[.slice pa pn pc, .agg o.cs] wr fun y w' => ∃ pa' pn' pc' L', y = .returned (.tuple #[.slice pa' pn' pc', .bool true]) ∧ OD w w' pa' pn' pc' L' (s + o.wh) (t + 1) ∧ 0 < pn' ∧ pn' ≤ pn + 1
theorem row_one {w : World} {g base : Nat} {e : Pr} (hb : base ≤ g) (h : w.heap[g]? = some (.cells #[.pointer (some ⟨e.bp, 0, none⟩), .pointer (some ⟨e.br, 0, none⟩)] 60 (0, 0))) : w.ownsRow base 60 2 (.slice (some ⟨g, 0, none⟩) 1 1) 1 (pcells [e]) := by
  refine ⟨by rw [pcells_length]; rfl, .inr ⟨g, 1, _, rfl, hb, h, Nat.le_refl _, by unfold maxLen; omega, by simp, ?_⟩⟩
  rfl
set_option maxRecDepth 100000 in
set_option maxHeartbeats 8000000 in
theorem diskAll_of (one : OneOK) (q : Option Addr) (n cap : Nat) (O : List Opv) (w : World) (hO : Script w q n cap O) (hn : n + 4 ≤ 100000000) (hs : sumH O ≤ Few) (hR : ∀ o ∈ O, o.Rd w ∧ -9223372036854775808 ≤ o.N ∧ o.N < 9223372036854775808) :
    Calls Try.prog 8 #[.slice q n cap] w fun x w' => x = .returned (.bool true) ∧ Kept (fun _ => False) w w' := by
  have H : Hid (OneOK ∧ Script w q n cap O ∧ sumH O ≤ Few ∧ ∀ o ∈ O, o.Rd w ∧ -9223372036854775808 ≤ o.N ∧ o.N < 9223372036854775808) := ⟨one, hO, hs, hR⟩
  have hol := hO.length
  have hr := hO.room
  have hsm := hO.small
  unfold maxLen at hsm
  clear one hO hs hR
  go_enter Try.func8, Try.ntmps8
  go_wp2_with fail
  refine (dNew w).mono ?_
  rintro x w1 ⟨rfl, d, i1, e1, K1, u1⟩
  obtain ⟨bp, hbp⟩ : ∃ bp, bp = w.heap.size := ⟨_, rfl⟩
  have X1 : Hid (IsD w.heap.size w1 bp d ∧ d.ab = A1 ∧ Kept (fun _ => False) w w1 ∧ (∀ k, d.Uses bp k → k = bp) ∧ bp = w.heap.size ∧ bp < w1.heap.size) := by rw [hbp]; exact ⟨i1, e1, K1, u1, rfl, block_lt i1.blk⟩
  rw [← hbp]
  clear i1 e1 K1 u1 hbp
  go_wp2_with fail
  refine (noneOK w1).mono ?_
  rintro x w2 ⟨rfl, K2⟩
  have X2 : Hid (Kept (fun _ => False) w1 w2) := K2
  clear K2
  go_wp2_with fail
  refine (rNew w2).mono ?_
  rintro x w3 ⟨rfl, r, i3, e3, K3, u3⟩
  obtain ⟨br, hbr⟩ : ∃ br, br = w2.heap.size := ⟨_, rfl⟩
  have X3 : Hid (IsR w2.heap.size w3 br r ∧ r.ab = A1 ∧ Kept (fun _ => False) w2 w3 ∧ (∀ k, r.Uses br k → k = br) ∧ br = w2.heap.size) := by rw [hbr]; exact ⟨i3, e3, K3, u3, rfl⟩
  rw [← hbr]
  clear i3 e3 K3 u3 hbr
  obtain ⟨W, hW⟩ : ∃ W, W = w3.alloc (.cells #[.pointer (some ⟨bp, 0, none⟩), .pointer (some ⟨br, 0, none⟩)] 60) := ⟨_, rfl⟩
  have EW : Hid (W = w3.alloc (.cells #[.pointer (some ⟨bp, 0, none⟩), .pointer (some ⟨br, 0, none⟩)] 60)) := hW
  have S0 : Hid (OD w W (some ⟨w3.heap.size, 0, none⟩) 1 1 [⟨bp, d, br, r⟩] 0 0) := by
    have KW : Kept (fun _ => False) w3 W := by rw [hW]; exact alloc_kept0 _ _
    have K13 : Kept (fun _ => False) w1 w3 := X2.out.trans X3.out.2.2.1 (fun _ _ z => z)
    have hb : W.heap[w3.heap.size]? = some (.cells #[.pointer (some ⟨bp, 0, none⟩), .pointer (some ⟨br, 0, none⟩)] 60 (0, 0)) := by rw [hW]; exact alloc_new _ _
    have s1 := X1.out.2.2.1.size
    have s2 := X2.out.size
    have s3 := X3.out.2.2.1.size
    have hlt := block_lt hb
    have h5 := X1.out.2.2.2.2
    have h6 := X3.out.2.2.2.2
    have ibr : br < w3.heap.size := block_lt X3.out.1.blk
    refine ⟨⟨fun y hy => ?_, fun y hy => ?_, fun y hy => ?_, List.pairwise_singleton _ _, fun k hk => ?_, (X1.out.2.2.1.trans K13 (fun _ _ z => z)).trans KW (fun _ _ z => z)⟩, row_one (by omega) hb, fun y hy => ?_, fun y hy => ?_⟩
    · rw [List.mem_singleton.1 hy]
      exact (X1.out.1.kept0 K13).kept0 KW
    · rw [List.mem_singleton.1 hy]
      exact (X3.out.1.kept0 KW).mono (by omega)
    · rw [List.mem_singleton.1 hy]
      intro k a b
      have h1 := X1.out.2.2.2.1 k a
      have h2 := X3.out.2.2.2.1 k b
      omega
    · simp [blockOf] at hk
      subst hk
      refine ⟨hlt, by omega, fun y hy u => ?_⟩
      rw [List.mem_singleton.1 hy] at u
      rcases u with z | z
      · have := X1.out.2.2.2.1 _ z; omega
      · have := X3.out.2.2.2.1 _ z; omega
    · rw [List.mem_singleton.1 hy]
      exact X1.out.2.1.trans X3.out.2.1.symm
    · rw [List.mem_singleton.1 hy]
      show Fits d.ab 0 0
      rw [X1.out.2.1]
      exact ⟨Nat.zero_le _, Nat.zero_le _, Nat.zero_le _, Nat.zero_le _, by decide⟩
  clear hW
  go_upto_region 5 with fail
  rw [← EW.out]
  go_wp2_with fail
  go_loopw [4, 5, 6] (fun xl xo x wr => ∃ (i : Nat) (pa : Option Addr) (pn pc : Nat) (L : List Pr), x = .int .i64 (i : Int) ∧ xl = .slice pa pn pc ∧ xo = .bool true ∧ i ≤ n ∧ 0 < pn ∧ pn ≤ i + 1 ∧ Hid (OD w wr pa pn pc L (sumH (O.take i)) i)) (fun _ _ x _ => n - (intOf x).toNat)
  case atStart => exact ⟨0, _, 1, 1, _, rfl, rfl, rfl, Nat.zero_le _, by omega, by omega, S0.out⟩
  case round =>
    obtain ⟨i, pa, pn, pc, L, rfl, rfl, rfl, hi, hp0, hp1, S⟩ := hrel
    by_cases hlt : i < n
    · have i1 : (i : Int) < (n : Int) := by omega
      obtain ⟨o, ho⟩ : ∃ o, O[i]? = some o := ⟨_, List.getElem?_eq_getElem (by omega)⟩
      obtain ⟨b, off, rfl, hc⟩ := H.out.2.1.cells (by omega)
      have ord := H.out.2.2.2 o (List.mem_of_getElem? ho)
      obtain ⟨a0, n0, c0, l0, a1, n1, c1, l1, a2, n2, c2, ch, hv0, hv1, hv2, _⟩ := ord.1
      have OC : Hid (#[.int .i64 o.kind, .int .i64 o.D, .int .i64 o.slot, .slice o.a o.n o.c, .int .i64 o.N, .bool o.done, .slice a0 n0 c0, .slice a1 n1 c1, .slice a2 n2 c2] = o.cs) := by show _ = o.cs; unfold Opv.cs; rw [hv0, hv1, hv2]
      have f : ∀ j v, o.cs[j]? = some v → wr.cell? ⟨b, off + i * 9 + j, none⟩ = some v := fun j v hv => S.out.al.kept.cell (hc i o ho j v hv) (fun z => z)
      have f0 : wr.cell? ⟨b, off + i * 9, none⟩ = some (.int .i64 o.kind) := f 0 _ rfl
      have f1 : wr.cell? ⟨b, off + i * 9 + 1, none⟩ = some (.int .i64 o.D) := f 1 _ rfl
      have f2 : wr.cell? ⟨b, off + i * 9 + 2, none⟩ = some (.int .i64 o.slot) := f 2 _ rfl
      have f3 : wr.cell? ⟨b, off + i * 9 + 3, none⟩ = some (.slice o.a o.n o.c) := f 3 _ rfl
      have f4 : wr.cell? ⟨b, off + i * 9 + 4, none⟩ = some (.int .i64 o.N) := f 4 _ rfl
      have f5 : wr.cell? ⟨b, off + i * 9 + 5, none⟩ = some (.bool o.done) := f 5 _ rfl
      have f6 : wr.cell? ⟨b, off + i * 9 + 6, none⟩ = some (.slice a0 n0 c0) := by rw [← hv0]; exact f 6 _ rfl
      have f7 : wr.cell? ⟨b, off + i * 9 + 7, none⟩ = some (.slice a1 n1 c1) := by rw [← hv1]; exact f 7 _ rfl
      have f8 : wr.cell? ⟨b, off + i * 9 + 8, none⟩ = some (.slice a2 n2 c2) := by rw [← hv2]; exact f 8 _ rfl
      have SN : Hid (sumH (O.take (i + 1)) = sumH (O.take i) + o.wh ∧ sumH (O.take i) + o.wh ≤ Few ∧ i + 1 ≤ Few ∧ pn < 1000000000 ∧ o.Rd w ∧ Reads w o.a o.n o.c o.l ∧ -9223372036854775808 ≤ o.N ∧ o.N < 9223372036854775808) := by
        have q1 := sumH_take ho
        have q3 := sumH_le O (i + 1)
        have q4 := H.out.2.2.1
        exact ⟨q1, by omega, by unfold Few; omega, by omega, ord.1, H.out.2.1.reads o (List.mem_of_getElem? ho), ord.2⟩
      clear f hc ho ord hv0 hv1 hv2
      go_wp2_with fail
      rw [OC.out]
      refine (H.out.1 w wr pa pn pc L o (sumH (O.take i)) i S.out SN.out.2.1 SN.out.2.2.1 hp0 SN.out.2.2.2.1 SN.out.2.2.2.2.1 SN.out.2.2.2.2.2.1 SN.out.2.2.2.2.2.2.1 SN.out.2.2.2.2.2.2.2).mono ?_
      rintro x w5 ⟨pa', pn', pc', L', rfl, od, h0, h1⟩
      have S2 : Hid (OD w w5 pa' pn' pc' L' (sumH (O.take (i + 1))) (i + 1)) := by show OD _ _ _ _ _ _ _ _; rw [SN.out.1]; exact od
      clear od
      go_wp2_with fail
      go_roundw
      case rel => exact ⟨i + 1, pa', pn', pc', L', by go_num, rfl, rfl, by omega, h0, by omega, S2.out⟩
      case measure => simp [intOf]; omega
    · have i1 : ¬ (i : Int) < (n : Int) := by omega
      have OKS : Hid (∀ y ∈ L, y.d.ab.Ok) := fun y hy => (S.out.fits y hy).ok (Nat.le_trans (sumH_le O i) H.out.2.2.1) (by unfold Few; omega)
      obtain ⟨wq, rfl⟩ : ∃ wq, wq = wr := ⟨_, rfl⟩
      have LL : Hid (L.length = pn) := by have := S.out.row.1; rw [pcells_length] at this; show L.length = pn; omega
      have hpc := (own_room S.out.row).1
      have hpc2 := (own_room S.out.row).2
      unfold maxLen at hpc2
      go_wp2_with fail
      go_loopw [5, 7] (fun xo x wr => ∃ (j : Nat), x = .int .i64 (j : Int) ∧ xo = .bool true ∧ j ≤ pn ∧ Hid (Kept (fun _ => False) wq wr)) (fun _ x _ => pn - (intOf x).toNat)
      case atStart => exact ⟨0, rfl, rfl, Nat.zero_le _, Kept.refl _ _⟩
      case round =>
        obtain ⟨j, rfl, rfl, hj, KQ⟩ := hrel
        by_cases hjl : j < pn
        · have j1 : (j : Int) < (pn : Int) := by omega
          obtain ⟨y, hy⟩ : ∃ y, L[j]? = some y := ⟨_, List.getElem?_eq_getElem (by rw [LL.out]; exact hjl)⟩
          obtain ⟨wj, rfl⟩ : ∃ wj, wj = wr := ⟨_, rfl⟩
          have YM : Hid (y ∈ L) := List.mem_of_getElem? hy
          obtain ⟨g, hpa, _, r0, r1⟩ := row_pair S.out.row hy
          have R0 : Hid (wq.cell? ⟨g, j * 2, none⟩ = some (.pointer (some ⟨y.bp, 0, none⟩)) ∧ wq.cell? ⟨g, j * 2 + 1, none⟩ = some (.pointer (some ⟨y.br, 0, none⟩))) := ⟨r0, r1⟩
          clear r0 r1 hy
          go_wp2_with fail
          go_loopw [5, 8] (fun xo x wr => ∃ (k : Nat), x = .int .i64 (k : Int) ∧ xo = .bool true ∧ 5 ≤ k ∧ k ≤ 8 ∧ Hid (Kept (fun _ => False) wq wr)) (fun _ x _ => 8 - (intOf x).toNat)
          case atStart => exact ⟨5, rfl, rfl, by omega, by omega, KQ.out⟩
          case round =>
            obtain ⟨k, rfl, rfl, hk5, hk8, KR⟩ := hrel
            by_cases hk7 : k ≤ 7
            · have k1 : (k : Int) ≤ 7 := by omega
              have t0 := KR.out.cell R0.out.1 (fun z => z)
              have t1 := KR.out.cell R0.out.2 (fun z => z)
              rw [hpa]
              go_wp2_with fail
              refine (told w.heap.size y.bp y.d y.br y.r (k : Int) 0 1 none 0 0 0 false none 0 0 none 0 0 none 0 0 wr ((S.out.al.isd y YM.out).kept0 KR.out) ((S.out.al.isr y YM.out).kept0 KR.out) (S.out.same y YM.out) (OKS.out y YM.out)).mono ?_
              rintro x w6 ⟨rfl, K6⟩
              have K7 : Hid (Kept (fun _ => False) wq w6) := KR.out.trans K6 (fun _ _ z => z)
              clear K6
              go_wp2_with fail
              go_roundw
              case rel => exact ⟨k + 1, by go_num, rfl, by omega, by omega, K7.out⟩
              case measure => simp [intOf]; omega
            · have k1 : ¬ (k : Int) ≤ 7 := by omega
              go_wp2_with fail
              go_roundw
              case rel => exact ⟨j + 1, by go_num, rfl, by omega, KR.out⟩
              case measure => simp [intOf]; omega
        · have j1 : ¬ (j : Int) < (pn : Int) := by omega
          go_wp2_with fail
          go_ret
          exact ⟨rfl, S.out.al.kept.trans KQ.out (fun _ _ z => z)⟩
end Go.Proofs.Ytbnnmelkbjkkjaa
