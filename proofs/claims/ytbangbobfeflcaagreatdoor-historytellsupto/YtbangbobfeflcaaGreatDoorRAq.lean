import Derived.Test.YtbangbobfeflcaaGreatDoorRAp
import Derived.Deep.Cut
import Derived.BigQuiet
namespace Go.Proofs.YtbangbobfeflcaaGreatDoor
open Go.RowKit 

theorem mk_wrap {a : Nat} (_ : a ≤ 2000000000) : IntKind.u8.wrap (((a : Int) * 3) + 1) = (mkN a : Int) := by
  rw [IntKind.wrap_u8]
  unfold mkN
  omega
theorem src_one8 {W : World} {B d : Nat} (hB : W.heap[B]? = some (.cells #[.int .u8 (d : Int)] 5 (0, 0))) : Src Tryz.prog 1 34 (.slice (some ⟨B, 0, none⟩) 1 1) 1 (cellsOf [d]) W := src_row hB rfl rfl
theorem src_oneS {W : World} {B : Nat} {v : Value} (hB : W.heap[B]? = some (.cells #[v] 34 (0, 0))) (hv : v.oneCell' = true) : Src Tryz.prog 1 24 (.slice (some ⟨B, 0, none⟩) 1 1) 1 [v] W := by
  refine Src.ofSlice W Tryz.underlying24 ⟨B, 0, none⟩ 1 1 [v] rfl (fun j u hu => ?_) (fun u hu => ?_)
  · have : j = 0 := by
      have := (List.getElem?_eq_some_iff.1 hu).1
      simpa using this
    subst this
    have e : v = u := by simpa using hu
    subst e
    rw [Addr.add_none]
    exact cell_blk hB 0 rfl
  · rw [List.mem_singleton.1 hu]
    exact hv
theorem Tryz.info34c : (Tryz.prog.info? 34).map (fun i => (i.zero, i.size, i.bytes)) = some (some (.slice none 0 0), 1, 24) := by kernel_rfl
theorem A2.lat {b0 : Nat} {w W : World} {P : Option Addr} {n C : Nat} {R : List Rw} {Q : Option Addr} {D : Nat} {U : List Rw} {i k : Nat} (h : A2 b0 w W P n C R Q D U i k) {a : Nat} (ha : a < n) : ∃ g r, P = some ⟨g, 0, none⟩ ∧ R[a]? = some r ∧ W.cell? ⟨g, a, none⟩ = some (.slice r.p r.n r.c) := by
  have hl : R.length = n := by
    have q := h.all.1
    unfold slv at q
    rw [List.length_map] at q
    omega
  obtain ⟨r, hr⟩ : ∃ r, R[a]? = some r := ⟨_, List.getElem?_eq_getElem (by omega)⟩
  rcases h.all.2 with ⟨_, z⟩ | ⟨g, cap, cur, z, _⟩
  · omega
  · have z : Value.slice P n C = .slice (some ⟨g, 0, none⟩) n cap := z
    injection z with z1 _ _
    subst z1
    have q := h.all.cells (g := g) rfl a _ (slv_at hr)
    rw [Addr.add_none, Nat.zero_add] at q
    exact ⟨g, r, rfl, hr, q⟩
theorem A2.mat {b0 : Nat} {w W : World} {P : Option Addr} {n C : Nat} {R : List Rw} {Q : Option Addr} {D : Nat} {U : List Rw} {i k : Nat} (h : A2 b0 w W P n C R Q D U i k) {a : Nat} (ha : a < i) {y : Rw} (hy : U[a]? = some y) : ∃ g, Q = some ⟨g, 0, none⟩ ∧ W.cell? ⟨g, a, none⟩ = some (.slice y.p y.n y.c) := by
  rcases h.mor.2 with ⟨_, z⟩ | ⟨g, cap, cur, z, _⟩
  · omega
  · have z : Value.slice Q i D = .slice (some ⟨g, 0, none⟩) i cap := z
    injection z with z1 _ _
    subst z1
    have q := h.mor.cells (g := g) rfl a _ (slv_at (R := U.take i) (r := y) (by rw [List.getElem?_take_of_lt ha]; exact hy))
    rw [Addr.add_none, Nat.zero_add] at q
    exact ⟨g, rfl, q⟩
set_option maxRecDepth 100000 in
set_option maxHeartbeats 4000000 in
theorem hApart {w : World} {P : Option Addr} {n C : Nat} {R : List Rw} {b0 : Nat} (h0 : A1 b0 w w P n C R 0 0) (rs : RS w R) (hP : P ≠ none → ∃ g, P = some ⟨g, 0, none⟩ ∧ g < w.heap.size) (nb : n ≤ 2000000000) (hb0 : b0 ≤ w.heap.size) : Calls Tryz.prog 10 #[.slice P n C] w fun o w' => o = .returned (.bool true) ∧ Kept (fun b => ∃ (a : Nat) (r : Rw), R[a]? = some r ∧ blockOf r.p = some b) w w' := by
  have HR : Hid (RS w R ∧ (P ≠ none → ∃ g, P = some ⟨g, 0, none⟩ ∧ g < w.heap.size)) := ⟨rs, hP⟩
  have S0 : Hid (A1 b0 w w P n C R 0 0) := h0
  have HB : Hid (b0 ≤ w.heap.size) := hb0
  clear h0 rs hP hb0
  go_enter Tryz.func10, Tryz.ntmps10
  go_wp2_with fail
  go_loopw [3, 4] (fun u3 _ wr => ∃ i : Nat, u3 = .int .i64 (i : Int) ∧ i ≤ n ∧ Hid (A1 b0 w wr P n C R i 0)) (fun u3 _ _ => n - (intOf u3).toNat)
  case atStart => exact ⟨0, rfl, Nat.zero_le _, S0⟩
  case round =>
    clear S0
    obtain ⟨i, rfl, hi, S⟩ := hrel
    obtain ⟨wo, hwo⟩ : ∃ wo, wo = wr := ⟨_, rfl⟩
    rw [← hwo] at S ⊢
    clear hwo
    by_cases hlt : i < n
    · have lti : (i : Int) < (n : Int) := by omega
      obtain ⟨g, r, eP, hr, -⟩ := S.out.at hlt
      subst eP
      have HI : Hid (R[i]? = some r ∧ r.xs.length = r.n) := ⟨hr, HR.out.1.xs i r hr⟩
      have rn : r.n ≤ 1000000000 := HR.out.1.sm i r hr
      have m1 : IntKind.u8.wrap ((i : Int) * 3 + 1) = (mkN i : Int) := mk_wrap (by omega)
      have m2 : IntKind.i64.wrap ((i : Int) * 3) = (i : Int) * 3 := by rw [IntKind.wrap_i64]; omega
      have m3 : IntKind.i64.wrap ((i : Int) * 3 + 1) = (i : Int) * 3 + 1 := by rw [IntKind.wrap_i64]; omega
      clear hr
      obtain ⟨rp, rN, rc, rxs⟩ := r
      simp only at rn
      go_upto_region 5 with fail
      go_loopw [4] (fun u4 wr => ∃ j : Nat, u4 = .int .i64 (j : Int) ∧ j ≤ rN ∧ Hid (A1 b0 w wr (some ⟨g, 0, none⟩) n C R i j)) (fun u4 _ => rN - (intOf u4).toNat)
      case atStart => exact ⟨0, rfl, Nat.zero_le _, S⟩
      case round =>
        clear S
        obtain ⟨j, rfl, hj, S⟩ := hrel
        obtain ⟨wq, hwq⟩ : ∃ wq, wq = wr := ⟨_, rfl⟩
        rw [← hwq] at S ⊢
        clear hwq
        have cc : wq.cell? ⟨g, i, none⟩ = some (.slice rp rN rc) := by
          obtain ⟨g', r', e1, e2, e3⟩ := S.out.at hlt
          have e1 : g = g' := by simpa using e1
          subst e1
          rw [HI.out.1] at e2
          obtain rfl := Option.some.inj e2
          exact e3
        by_cases hjt : j < rN
        · have ltj : (j : Int) < (rN : Int) := by omega
          obtain ⟨gr, er, N, ⟨v, cv⟩, cf⟩ := S.out.put HR.out.1.ne HI.out.1 hjt HI.out.2
          have er : rp = some ⟨gr, 0, none⟩ := er
          subst er
          have N9 : Hid (A1 b0 w (wq.setCell ⟨gr, j, none⟩ (mkV i)) (some ⟨g, 0, none⟩) n C R i (j + 1)) := N
          unfold mkV at N9
          clear N S
          go_wp2_with fail
          go_roundw
          case rel => exact ⟨j + 1, by go_num, by omega, N9⟩
          case measure => simp [intOf] <;> omega
        · have ltj : ¬ (j : Int) < (rN : Int) := by omega
          obtain rfl : j = rN := by omega
          have N9 : Hid (A1 b0 w wq (some ⟨g, 0, none⟩) n C R (i + 1) 0) := A1.next (r := ⟨rp, j, rc, rxs⟩) S.out HI.out.1 HI.out.2 hlt
          clear S
          go_wp2_with fail
          go_roundw
          case rel => exact ⟨i + 1, by go_num, by omega, N9⟩
          case measure => simp [intOf] <;> omega
    · have lti : ¬ (i : Int) < (n : Int) := by omega
      obtain rfl : i = n := by omega
      have T0 : Hid (A2 b0 w wo P i C R none 0 (fillR R) 0 0) := S.out.done HR.out.1
      clear S
      go_upto_region 10 with fail
      go_loopw [5, 6, 7, 8] (fun u5 u6 _ _ wr => ∃ (q : Nat) (Q : Option Addr) (D : Nat) (U : List Rw), u5 = .slice Q q D ∧ u6 = .int .i64 (q : Int) ∧ q ≤ i ∧ Hid (A2 b0 w wr P i C R Q D U q 0)) (fun _ u6 _ _ _ => i - (intOf u6).toNat)
      case atStart => exact ⟨0, none, 0, _, rfl, rfl, Nat.zero_le _, T0⟩
      case round =>
        clear T0
        obtain ⟨q, Q, D, U, rfl, rfl, hq, S⟩ := hrel
        obtain ⟨wq, hwq⟩ : ∃ wq, wq = wr := ⟨_, rfl⟩
        rw [← hwq] at S ⊢
        clear hwq
        by_cases hqt : q < i
        · have ltq : (q : Int) < (i : Int) := by omega
          obtain ⟨g, r, eP, hr, cl⟩ := S.out.lat hqt
          subst eP
          obtain ⟨y, hy, yn, yx, yf, -⟩ := S.out.at_ q r hr
          obtain ⟨yp, yc⟩ := yf (.inr ⟨rfl, rfl⟩)
          have yn : y.n = r.n := by
            rw [yn, if_neg (Nat.lt_irrefl _), if_pos rfl]
            rfl
          rw [← yp, ← yn, ← yc] at cl
          have HI : Hid (R[q]? = some r) := hr
          have rn : r.n ≤ 1000000000 := HR.out.1.sm q r hr
          have m1 : IntKind.u8.wrap ((q : Int) * 3 + 1) = (mkN q : Int) := mk_wrap (by omega)
          have m2 : IntKind.i64.wrap ((q : Int) * 3) = (q : Int) * 3 := by rw [IntKind.wrap_i64]; omega
          have m3 : IntKind.i64.wrap ((q : Int) * 3 + 1) = (q : Int) * 3 + 1 := by rw [IntKind.wrap_i64]; omega
          have ST : Hid (A2 b0 w wq (some ⟨g, 0, none⟩) i C R Q D U q 0 ∧ U[q]? = some y) := ⟨S.out, hy⟩
          have yl : y.n ≤ r.n + 0 := by omega
          clear S hr hy yx yp yc yf
          obtain ⟨yp, yN, yC, yxs⟩ := y
          simp only at cl yl yn
          go_upto_region 14 with fail
          clear cl
          go_loopw [7, 8] (fun u7 u8 wr => ∃ (k : Nat) (V : List Rw) (z : Rw), u7 = .slice z.p z.n z.c ∧ u8 = .int .i64 (k : Int) ∧ k ≤ 70 ∧ z.n ≤ r.n + k ∧ Hid (A2 b0 w wr (some ⟨g, 0, none⟩) i C R Q D V q k ∧ V[q]? = some z)) (fun _ u8 _ => 70 - (intOf u8).toNat)
          case atStart => exact ⟨0, U, ⟨yp, yN, yC, yxs⟩, by first | rfl | (simp [yn]), rfl, by omega, yl, ST⟩
          case round =>
            clear ST yl yn
            obtain ⟨k, V, z, rfl, rfl, hk, zn, S⟩ := hrel
            obtain ⟨wz, hwz⟩ : ∃ wz, wz = wr := ⟨_, rfl⟩
            rw [← hwz] at S ⊢
            clear hwz
            obtain ⟨zp, zN, zC, zxs⟩ := z
            simp only at zn
            by_cases hkt : k < 70
            · have ltk : (k : Int) < 70 := by omega
              obtain ⟨X, hX⟩ : ∃ X, wz.alloc (.cells #[.int .u8 (mkN q : Int)] 5) = X := ⟨_, rfl⟩
              have A : Hid (A2 b0 w X (some ⟨g, 0, none⟩) i C R Q D V q k ∧ b0 ≤ X.heap.size) := by
                rw [← hX]
                have q1 := S.out.1.k0 ((Kept.refl (fun _ => False) wz).alloc (.cells #[.int .u8 (mkN q : Int)] 5))
                exact ⟨q1, Nat.le_trans HB.out q1.kept.size⟩
              have OW : Hid (X.ownsRow b0 5 1 (.slice zp zN zC) zN zxs) := A.out.1.rb.own q _ S.out.2
              have SR : Hid (Src Tryz.prog 1 34 (.slice (some ⟨wz.heap.size, 0, none⟩) 1 1) 1 [mkV q] X) := by rw [← hX]; exact src_one8 (alloc_new _ _)
              have EX : Hid (wz.alloc (.cells #[.int .u8 (mkN q : Int)] 5) = X) := hX
              have ZQ : Hid (V[q]? = some ⟨zp, zN, zC, zxs⟩) := S.out.2
              clear hX S
              go_upto_region 16 with fail
              go_upto_region 15 with
                (first
                  | (at_builtin; rw [EX.out]; refine wpList_append_all _ rfl (.tmp 50) (.tmp 55) 34 5 34 _ 1 1 rfl Tryz.underlying34 Tryz.info5 rfl b0 (.slice zp zN zC) zN zxs rfl OW.out _ 1 [mkV q] rfl SR.out (by unfold maxLen; omega) (by omega) A.out.2 ?_; intro p9 c9 w9 ho hg hn9)
                  | fail)
              have N9 : Hid (A2 b0 w w9 (some ⟨g, 0, none⟩) i C R Q D (V.set q ⟨p9, zN + 1, c9, zxs ++ [mkV q]⟩) q (k + 1) ∧ (V.set q ⟨p9, zN + 1, c9, zxs ++ [mkV q]⟩)[q]? = some ⟨p9, zN + 1, c9, zxs ++ [mkV q]⟩) := ⟨A.out.1.app HR.out.1 HI.out ZQ.out ho.out hg.out hn9.out, List.getElem?_set_self (List.getElem?_eq_some_iff.1 ZQ.out).1⟩
              clear ho hg hn9 A OW SR EX ZQ
              go_wp2_with fail
              go_roundw
              case rel => exact ⟨k + 1, _, ⟨p9, zN + 1, c9, zxs ++ [mkV q]⟩, rfl, by go_num, by omega, by show zN + 1 ≤ _; omega, N9⟩
              case measure => simp [intOf] <;> omega
            · have ltk : ¬ (k : Int) < 70 := by omega
              obtain rfl : k = 70 := by omega
              obtain ⟨X, hX⟩ : ∃ X, wz.alloc (.cells #[.slice zp zN zC] 34) = X := ⟨_, rfl⟩
              have A : Hid (A2 b0 w X (some ⟨g, 0, none⟩) i C R Q D V q 70 ∧ w.heap.size ≤ X.heap.size) := by
                rw [← hX]
                have q1 := S.out.1.k0 ((Kept.refl (fun _ => False) wz).alloc (.cells #[.slice zp zN zC] 34))
                exact ⟨q1, q1.kept.size⟩
              have SR : Hid (Src Tryz.prog 1 24 (.slice (some ⟨wz.heap.size, 0, none⟩) 1 1) 1 [.slice zp zN zC] X) := by rw [← hX]; exact src_oneS (alloc_new _ _) rfl
              have EX : Hid (wz.alloc (.cells #[.slice zp zN zC] 34) = X) := hX
              have ZQ : Hid (V[q]? = some ⟨zp, zN, zC, zxs⟩) := S.out.2
              clear hX S
              go_upto_region 17 with fail
              go_upto_region 11 with
                (first
                  | (at_builtin; rw [EX.out]; refine wpList_append_all _ rfl (.tmp 57) (.tmp 59) 24 34 24 _ 1 24 rfl Tryz.underlying24 Tryz.info34c rfl w.heap.size (.slice Q q D) q (slv (V.take q)) rfl A.out.1.mor _ 1 [.slice zp zN zC] rfl SR.out (by unfold maxLen; omega) (by omega) A.out.2 ?_; intro p9 c9 w9 ho hg hn9)
                  | fail)
              have N9 : Hid (A2 b0 w w9 (some ⟨g, 0, none⟩) i C R p9 c9 V (q + 1) 0) := A.out.1.push ZQ.out ho.out hg.out HR.out.2 HR.out.1.lt
              clear ho hg hn9 A SR EX ZQ
              go_wp2_with fail
              go_roundw
              case rel => exact ⟨q + 1, p9, c9, V, rfl, by go_num, by omega, N9⟩
              case measure => simp [intOf] <;> omega
        · have ltq : ¬ (q : Int) < (i : Int) := by omega
          obtain rfl : q = i := by omega
          go_upto_region 19 with fail
          go_loopw [9, 10] (fun u9 _ wr => ∃ a : Nat, u9 = .int .i64 (a : Int) ∧ a ≤ q ∧ wr = wq) (fun u9 _ _ => q - (intOf u9).toNat)
          case atStart => exact ⟨0, rfl, Nat.zero_le _, by first | rfl | trivial⟩
          case round =>
            obtain ⟨a, rfl, ha, rfl⟩ := hrel
            by_cases hat : a < q
            · have lta : (a : Int) < (q : Int) := by omega
              obtain ⟨g, r, eP, hr, cl⟩ := S.out.lat hat
              subst eP
              obtain ⟨y, hy, yn, yx, -, -⟩ := S.out.at_ a r hr
              rw [if_pos hat] at yn
              obtain ⟨gm, eQ, cm⟩ := S.out.mat hat hy
              subst eQ
              have rn : r.n ≤ 1000000000 := HR.out.1.sm a r hr
              have HY : Hid (∀ j, j < y.n → ∃ gy, y.p = some ⟨gy, 0, none⟩ ∧ wr.cell? ⟨gy, j, none⟩ = some (.int .u8 (mkN a : Int))) := fun j hj => by
                have o := S.out.rb.own a y hy
                rcases o.2 with ⟨_, z⟩ | ⟨gy, cap, cur, z, _⟩
                · omega
                · have z : Value.slice y.p y.n y.c = .slice (some ⟨gy, 0, none⟩) y.n cap := z
                  injection z with z1 _ _
                  rw [z1] at o
                  have c := o.cells (g := gy) rfl j (mkV a) (by rw [yx, List.getElem?_replicate, if_pos hj])
                  rw [Addr.add_none, Nat.zero_add] at c
                  exact ⟨gy, z1, c⟩
              have HJ : Hid (∀ j, j < r.n → ∃ gr, r.p = some ⟨gr, 0, none⟩ ∧ wr.cell? ⟨gr, j, none⟩ = some (.int .u8 (mkN a : Int))) := fun j hj => by
                obtain ⟨gr, e1⟩ := HR.out.1.fm a r hr (by omega)
                exact ⟨gr, e1, S.out.rd a r hr gr e1 j hj⟩
              have m1 : IntKind.u8.wrap ((a : Int) * 3 + 1) = (mkN a : Int) := mk_wrap (by omega)
              have m2 : IntKind.i64.wrap ((a : Int) * 3) = (a : Int) * 3 := by rw [IntKind.wrap_i64]; omega
              have m3 : IntKind.i64.wrap ((a : Int) * 3 + 1) = (a : Int) * 3 + 1 := by rw [IntKind.wrap_i64]; omega
              obtain ⟨mm, hmm⟩ : ∃ mm, mkN a = mm := ⟨_, rfl⟩
              rw [hmm] at HY HJ m1
              have HS : Hid (A2 b0 w wr (some ⟨g, 0, none⟩) q C R (some ⟨gm, 0, none⟩) D U q 0) := S.out
              clear S hr hy yx hmm
              obtain ⟨yp, yN, yC, yxs⟩ := y
              obtain ⟨rp, rN, rC, rxs⟩ := r
              simp only at cl cm yn rn HY HJ
              go_upto_region 22 with fail
              go_loopw [10] (fun u10 wr' => ∃ j : Nat, u10 = .int .i64 (j : Int) ∧ j ≤ yN ∧ wr' = wr) (fun u10 _ => yN - (intOf u10).toNat)
              case atStart => exact ⟨0, rfl, Nat.zero_le _, by first | rfl | trivial⟩
              case round =>
                obtain ⟨j, rfl, hj, rfl⟩ := hrel
                by_cases hjt : j < yN
                · have ltj : (j : Int) < (yN : Int) := by omega
                  obtain ⟨gy, ey, cy⟩ := HY.out j hjt
                  subst ey
                  by_cases hjr : j < rN
                  · have ltr : (j : Int) < (rN : Int) := by omega
                    obtain ⟨gr, er, cr⟩ := HJ.out j hjr
                    subst er
                    clear HY HJ
                    go_wp2_with fail
                    go_roundw
                    case rel => exact ⟨j + 1, by go_num, by omega, by trivial⟩
                    case measure => simp [intOf] <;> omega
                  · have ltr : ¬ (j : Int) < (rN : Int) := by omega
                    clear HY HJ
                    go_wp2_with fail
                    go_roundw
                    case rel => exact ⟨j + 1, by go_num, by omega, by trivial⟩
                    case measure => simp [intOf] <;> omega
                · have ltj : ¬ (j : Int) < (yN : Int) := by omega
                  clear HY HJ
                  go_wp2_with fail
                  go_roundw
                  case rel => exact ⟨a + 1, by go_num, by omega, by trivial⟩
                  case measure => simp [intOf] <;> omega
            · have lta : ¬ (a : Int) < (q : Int) := by omega
              have KF : Hid (Kept (fun b => ∃ (a : Nat) (r : Rw), R[a]? = some r ∧ blockOf r.p = some b) w wr) := S.out.kept
              clear S
              go_wp2_with fail
              go_ret
              exact ⟨by first | rfl | simp, KF.out⟩
end Go.Proofs.YtbangbobfeflcaaGreatDoor
