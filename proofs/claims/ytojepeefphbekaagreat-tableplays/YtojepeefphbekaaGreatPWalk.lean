import Derived.Test.YtojepeefphbekaaGreatPOpzJ
import Derived.Deep.CutBlock
namespace Go.Proofs.YtojepeefphbekaaGreat
open Go.RowKit 

theorem MW.low2 {w0 w : World} {A n k j : Nat} {p q p' q' : Option Addr} {o o' : Option PD} (h : MW w0 w A n k j p q p' q' o o') : A + 2 ≤ w.heap.size := h.cB.2.2.2
set_option maxRecDepth 100000 in
set_option maxHeartbeats 16000000 in
theorem tablePlaysWalk (d : Int) (q : Option Addr) (n cap : Nat) (O : List Opz) (w : World) (hO : Script w q n cap O) (hb : n ≤ 1099511627744) :
    Calls Tryz.prog 7 #[.int .i64 d, .slice q n cap] w fun x w' => x = .returned (.bool true) ∧ Kept (fun _ => False) w w' := by
  have HO : Hid (Script w q n cap O ∧ n ≤ 1099511627744) := ⟨hO, hb⟩
  have hl := hO.length
  have hr := hO.room
  have hs := hO.small
  unfold maxLen at hs
  clear hO hb
  go_enter Tryz.func7, Tryz.ntmps7
  have N0 : Hid (MP w ((w.alloc (.cells #[.pointer none, .pointer none] 72)).alloc (.cells #[.pointer none, .pointer none] 74)) w.heap.size 0) := MP.start w
  go_upto_region 4 with fail
  go_loopw [4, 7, 8, 9, 10, 11, 19] (fun _ _ _ _ _ _ x wr => ∃ (i : Nat), x = .int .i64 (i : Int) ∧ i ≤ 2 ∧ Hid (MP w wr w.heap.size 0)) (fun _ _ _ _ _ _ x _ => 2 - (intOf x).toNat)
  case atStart => exact ⟨0, rfl, Nat.zero_le _, N0.out⟩
  case round =>
    obtain ⟨i, rfl, hi, S⟩ := hrel
    by_cases hlt : i < 2
    · have i1 : (i : Int) < 2 := by omega
      obtain ⟨p, p', M⟩ := S.out.pick (k := 1 - i) (j := i) (by omega)
      have MH : Hid (MW w wr w.heap.size 0 (1 - i) i (PV p) (QV p) (PV p') (QV p') p p') := M
      clear M S
      have nAB : ¬ (w.heap.size + 1 = w.heap.size) := by omega
      by_cases hd : 0 ≤ d ∧ d ≤ 4611686018427387903
      · have GD : Hid (0 ≤ d ∧ d ≤ 4611686018427387903) := hd
        clear hd
        go_wp2_with fail
        refine (rNew_good d wr GD.out.1 GD.out.2).mono ?_
        rintro x w1 ⟨nb, rfl, R1, K1, hn1⟩
        have H1 : Hid (RTab wr.heap.size w1 nb d none 0 0 [] [] ∧ Kept (fun _ => False) wr w1 ∧ wr.heap.size ≤ nb) := ⟨R1, K1, hn1⟩
        clear R1 K1 hn1
        go_wp2_with fail
        refine (new_good d w1 GD.out.1 GD.out.2).mono ?_
        rintro x w2 ⟨tb, rb, rfl, T2, K2, l1, l2⟩
        have H2 : Hid (IsT w2 0 ⟨tb, rb, d, fun _ => none⟩ ∧ Kept (fun _ => False) w1 w2 ∧ w1.heap.size ≤ tb ∧ w1.heap.size ≤ rb) := ⟨T2, K2, l1, l2⟩
        obtain ⟨a1, a2, a3, a4⟩ := (MH.out.k (H1.out.2.1.and0 K2)).cA
        obtain ⟨b1, b2, b3, b4⟩ := (MH.out.k (H1.out.2.1.and0 K2)).cB
        clear T2 K2 l1 l2 a1 b1
        go_wp2_with fail
        go_roundw
        case rel => exact ⟨i + 1, by go_num, by omega, MH.out.newGood GD.out.1 H1.out.1 H1.out.2.2 H1.out.2.1 H2.out.1 H2.out.2.1 H2.out.2.2.1 H2.out.2.2.2⟩
        case measure => simp [intOf]; omega
      · have GB : Hid (d < 0 ∨ 4611686018427387903 < d) := by show d < 0 ∨ 4611686018427387903 < d; omega
        clear hd
        obtain ⟨a1, a2, a3, a4⟩ := MH.out.cA
        obtain ⟨b1, b2, b3, b4⟩ := MH.out.cB
        clear a1 b1
        go_wp2_with fail
        refine (rNew_bad d wr GB.out).mono ?_
        rintro x w1 ⟨rfl, rfl⟩
        go_wp2_with fail
        refine (new_bad d _ GB.out).mono ?_
        rintro x w2 ⟨rfl, rfl⟩
        go_wp2_with fail
        go_roundw
        case rel => exact ⟨i + 1, by go_num, by omega, MH.out.newBad⟩
        case measure => simp [intOf]; omega
    · have i1 : ¬ (i : Int) < 2 := by omega
      have S2 : Hid (MP w wr w.heap.size 0) := S.out
      clear S
      go_upto_region 14 with fail
      go_loopw [4, 13, 14, 15, 16, 17, 18, 51] (fun _ _ _ _ _ _ _ x wq => ∃ (m : Nat), x = .int .i64 (m : Int) ∧ m ≤ n ∧ Hid (MP w wq w.heap.size m)) (fun _ _ _ _ _ _ _ x _ => n - (intOf x).toNat)
      case atStart => exact ⟨0, rfl, Nat.zero_le _, S2.out⟩
      case round =>
        clear hi i1 S2
        obtain ⟨i, rfl, hi, S⟩ := hrel
        by_cases hlt : i < n
        · have i1 : (i : Int) < (n : Int) := by omega
          obtain ⟨b, off, rfl, hc⟩ := HO.out.1.cells (by omega)
          have hiO : i < O.length := by omega
          obtain ⟨o, ho⟩ : ∃ o, O[i] = o := ⟨_, rfl⟩
          have okO := HO.out.1.ok O[i] (List.getElem_mem hiO)
          have hc' := hc i hiO
          rw [ho] at hc' okO
          obtain ⟨y, z, k, j, hy, hz, hq, hj, hkj⟩ := parity o.ot okO.t
          obtain ⟨p, p', M⟩ := S.out.pick hkj
          have kk : ∀ c vv, (o.cs)[c]? = some vv → wr.cell? ⟨b, off + i * 13 + c, none⟩ = some vv := fun c vv h => M.k0.cell (hc' c vv h) (fun q => q)
          have d0 : wr.cell? ⟨b, off + i * 13, none⟩ = some (.int .i64 o.ok) := kk 0 _ rfl
          have d1 : wr.cell? ⟨b, off + i * 13 + 1, none⟩ = some (.int .i64 o.ot) := kk 1 _ rfl
          have d2 : wr.cell? ⟨b, off + i * 13 + 2, none⟩ = some (.int .i64 o.uk) := kk 2 _ rfl
          have d3 : wr.cell? ⟨b, off + i * 13 + 3, none⟩ = some (.string o.ukey) := kk 3 _ rfl
          have d4 : wr.cell? ⟨b, off + i * 13 + 4, none⟩ = some (.int .i64 o.ux) := kk 4 _ rfl
          have d5 : wr.cell? ⟨b, off + i * 13 + 5, none⟩ = some (.int .i64 o.uy) := kk 5 _ rfl
          have d6 : wr.cell? ⟨b, off + i * 13 + 6, none⟩ = some (.bool o.uf) := kk 6 _ rfl
          have d7 : wr.cell? ⟨b, off + i * 13 + 7, none⟩ = some (.bool o.uh) := kk 7 _ rfl
          have d8 : wr.cell? ⟨b, off + i * 13 + 8, none⟩ = some (.slice o.ua o.un o.uc) := kk 8 _ rfl
          have d9 : wr.cell? ⟨b, off + i * 13 + 9, none⟩ = some (.string o.key) := kk 9 _ rfl
          have d10 : wr.cell? ⟨b, off + i * 13 + 10, none⟩ = some (.int .i64 o.gx) := kk 10 _ rfl
          have d11 : wr.cell? ⟨b, off + i * 13 + 11, none⟩ = some (.int .i64 o.gy) := kk 11 _ rfl
          have d12 : wr.cell? ⟨b, off + i * 13 + 12, none⟩ = some (.int .i64 o.oN) := kk 12 _ rfl
          have MH : Hid (MW w wr w.heap.size i k j (PV p) (QV p) (PV p') (QV p') p p') := M
          have OK : Hid (OpzOk w o) := okO
          have iB : Hid (i + 3 < 1099511627775) := by have := HO.out.2; show i + 3 < 1099511627775; omega
          have iC : Hid (i ≤ 1099511627776) := by have := HO.out.2; show i ≤ 1099511627776; omega
          have k2 : (k : Int) < 2 := by omega
          have j2 : (j : Int) < 2 := by omega
          have nAB : ¬ (w.heap.size + 1 = w.heap.size) := by omega
          clear hc hc' kk M S ho okO hlt
          by_cases h4 : o.ok = 4
          · rw [h4] at d0
            obtain ⟨W, hW⟩ : ∃ W, W = wr.alloc (.cells #[.int .i64 4, .int .i64 o.ot, .int .i64 o.uk, .string o.ukey, .int .i64 o.ux, .int .i64 o.uy, .bool o.uf, .bool o.uh, .slice o.ua o.un o.uc, .string o.key, .int .i64 o.gx, .int .i64 o.gy, .int .i64 o.oN] 78) := ⟨_, rfl⟩
            have NW : Hid (MW w W w.heap.size i k j (PV p) (QV p) (PV p') (QV p') p p') := by show MW w W _ _ _ _ _ _ _ _ _ _; rw [hW]; exact MH.out.k (k0_alloc _ _)
            have bW : W.heap[wr.heap.size]? = some (.cells #[.int .i64 4, .int .i64 o.ot, .int .i64 o.uk, .string o.ukey, .int .i64 o.ux, .int .i64 o.uy, .bool o.uf, .bool o.uh, .slice o.ua o.un o.uc, .string o.key, .int .i64 o.gx, .int .i64 o.gy, .int .i64 o.oN] 78 (0, 0)) := by rw [hW]; exact heap_alloc_new _ _
            have EW : Hid (W = wr.alloc (.cells #[.int .i64 4, .int .i64 o.ot, .int .i64 o.uk, .string o.ukey, .int .i64 o.ux, .int .i64 o.uy, .bool o.uf, .bool o.uh, .slice o.ua o.un o.uc, .string o.key, .int .i64 o.gx, .int .i64 o.gy, .int .i64 o.oN] 78)) := hW
            have o0 := cell_blk bW 0 (v := .int .i64 4) rfl
            have o1 := cell_blk bW 1 (v := .int .i64 o.ot) rfl
            obtain ⟨a1, a2, a3, a4⟩ := NW.out.cA
            rw [hW] at o0 o1 a1
            clear hW bW a2 a3 a4
            go_wp2_with fail
            rw [← EW.out]
            refine (oCopy1 NW.out.st iC.out).mono ?_
            rintro x w5 ⟨a, rfl, Q5⟩
            obtain ⟨a1, a2, a3, a4⟩ := (NW.out.k Q5.out.1).cA
            obtain ⟨b1, b2, b3, b4⟩ := (NW.out.k Q5.out.1).cB
            clear a1 b2 b3 b4
            go_wp2_with fail
            refine (oCopy2 ((NW.out.k Q5.out.1).drop.setA a).st iC.out).mono ?_
            rintro x w7 ⟨c, rfl, Q7⟩
            obtain ⟨b1, b2, b3, b4⟩ := (((NW.out.k Q5.out.1).drop.setA a).k Q7.out.1).cB
            clear b1
            go_wp2_with fail
            go_roundw
            case rel => exact ⟨i + 1, by go_num, by omega, (NW.out.copied Q5.out.1 Q5.out.2 Q7.out.1 Q7.out.2).mono (Nat.le_succ i)⟩
            case measure => simp [intOf]; omega
          · by_cases h5 : o.ok = 5
            · rw [h5] at d0
              clear h4 h5
              by_cases hd : 0 ≤ o.oN ∧ o.oN ≤ 4611686018427387903
              · have GD : Hid (0 ≤ o.oN ∧ o.oN ≤ 4611686018427387903) := hd
                clear hd
                obtain ⟨W, hW⟩ : ∃ W, W = wr.alloc (.cells #[.int .i64 5, .int .i64 o.ot, .int .i64 o.uk, .string o.ukey, .int .i64 o.ux, .int .i64 o.uy, .bool o.uf, .bool o.uh, .slice o.ua o.un o.uc, .string o.key, .int .i64 o.gx, .int .i64 o.gy, .int .i64 o.oN] 78) := ⟨_, rfl⟩
                have NW : Hid (MW w W w.heap.size i k j (PV p) (QV p) (PV p') (QV p') p p') := by show MW w W _ _ _ _ _ _ _ _ _ _; rw [hW]; exact MH.out.k (k0_alloc _ _)
                have bW : W.heap[wr.heap.size]? = some (.cells #[.int .i64 5, .int .i64 o.ot, .int .i64 o.uk, .string o.ukey, .int .i64 o.ux, .int .i64 o.uy, .bool o.uf, .bool o.uh, .slice o.ua o.un o.uc, .string o.key, .int .i64 o.gx, .int .i64 o.gy, .int .i64 o.oN] 78 (0, 0)) := by rw [hW]; exact heap_alloc_new _ _
                have EW : Hid (W = wr.alloc (.cells #[.int .i64 5, .int .i64 o.ot, .int .i64 o.uk, .string o.ukey, .int .i64 o.ux, .int .i64 o.uy, .bool o.uf, .bool o.uh, .slice o.ua o.un o.uc, .string o.key, .int .i64 o.gx, .int .i64 o.gy, .int .i64 o.oN] 78)) := hW
                have o0 := cell_blk bW 0 (v := .int .i64 5) rfl
                have o1 := cell_blk bW 1 (v := .int .i64 o.ot) rfl
                have o12 := cell_blk bW 12 (v := .int .i64 o.oN) rfl
                have OC : Hid (W.cell? ⟨wr.heap.size, 12, none⟩ = some (.int .i64 o.oN)) := o12
                rw [hW] at o0 o1 o12
                clear hW bW
                go_wp2_with fail
                rw [← EW.out]
                refine (rNew_good o.oN W GD.out.1 GD.out.2).mono ?_
                rintro x w1 ⟨nb, rfl, R1, K1, hn1⟩
                have H1 : Hid (RTab W.heap.size w1 nb o.oN none 0 0 [] [] ∧ Kept (fun _ => False) W w1 ∧ W.heap.size ≤ nb) := ⟨R1, K1, hn1⟩
                have o13 := K1.cell OC.out (fun z => z)
                clear R1 K1 hn1
                go_wp2_with fail
                refine (new_good o.oN w1 GD.out.1 GD.out.2).mono ?_
                rintro x w2 ⟨tb, rb, rfl, T2, K2, l1, l2⟩
                have H2 : Hid (IsT w2 0 ⟨tb, rb, o.oN, fun _ => none⟩ ∧ Kept (fun _ => False) w1 w2 ∧ w1.heap.size ≤ tb ∧ w1.heap.size ≤ rb) := ⟨T2, K2, l1, l2⟩
                obtain ⟨a1, a2, a3, a4⟩ := (NW.out.k (H1.out.2.1.and0 K2)).cA
                obtain ⟨b1, b2, b3, b4⟩ := (NW.out.k (H1.out.2.1.and0 K2)).cB
                clear T2 K2 l1 l2 a1 b1
                go_wp2_with fail
                go_roundw
                case rel => exact ⟨i + 1, by go_num, by omega, (NW.out.newGood GD.out.1 H1.out.1 H1.out.2.2 H1.out.2.1 H2.out.1 H2.out.2.1 H2.out.2.2.1 H2.out.2.2.2).mono (Nat.le_succ i)⟩
                case measure => simp [intOf]; omega
              · have GB : Hid (o.oN < 0 ∨ 4611686018427387903 < o.oN) := by show o.oN < 0 ∨ 4611686018427387903 < o.oN; omega
                clear hd
                obtain ⟨W, hW⟩ : ∃ W, W = wr.alloc (.cells #[.int .i64 5, .int .i64 o.ot, .int .i64 o.uk, .string o.ukey, .int .i64 o.ux, .int .i64 o.uy, .bool o.uf, .bool o.uh, .slice o.ua o.un o.uc, .string o.key, .int .i64 o.gx, .int .i64 o.gy, .int .i64 o.oN] 78) := ⟨_, rfl⟩
                have NW : Hid (MW w W w.heap.size i k j (PV p) (QV p) (PV p') (QV p') p p') := by show MW w W _ _ _ _ _ _ _ _ _ _; rw [hW]; exact MH.out.k (k0_alloc _ _)
                have bW : W.heap[wr.heap.size]? = some (.cells #[.int .i64 5, .int .i64 o.ot, .int .i64 o.uk, .string o.ukey, .int .i64 o.ux, .int .i64 o.uy, .bool o.uf, .bool o.uh, .slice o.ua o.un o.uc, .string o.key, .int .i64 o.gx, .int .i64 o.gy, .int .i64 o.oN] 78 (0, 0)) := by rw [hW]; exact heap_alloc_new _ _
                have EW : Hid (W = wr.alloc (.cells #[.int .i64 5, .int .i64 o.ot, .int .i64 o.uk, .string o.ukey, .int .i64 o.ux, .int .i64 o.uy, .bool o.uf, .bool o.uh, .slice o.ua o.un o.uc, .string o.key, .int .i64 o.gx, .int .i64 o.gy, .int .i64 o.oN] 78)) := hW
                have o0 := cell_blk bW 0 (v := .int .i64 5) rfl
                have o1 := cell_blk bW 1 (v := .int .i64 o.ot) rfl
                have o12 := cell_blk bW 12 (v := .int .i64 o.oN) rfl
                have OC : Hid (W.cell? ⟨wr.heap.size, 12, none⟩ = some (.int .i64 o.oN)) := o12
                rw [hW] at o0 o1 o12
                clear hW bW
                go_wp2_with fail
                rw [← EW.out]
                refine (rNew_bad o.oN W GB.out).mono ?_
                rintro x w1 ⟨rfl, rfl⟩
                have o13 := OC.out
                go_wp2_with fail
                refine (new_bad o.oN _ GB.out).mono ?_
                rintro x w2 ⟨rfl, rfl⟩
                obtain ⟨a1, a2, a3, a4⟩ := NW.out.cA
                obtain ⟨b1, b2, b3, b4⟩ := NW.out.cB
                clear a1 b1
                go_wp2_with fail
                go_roundw
                case rel => exact ⟨i + 1, by go_num, by omega, NW.out.newBad.mono (Nat.le_succ i)⟩
                case measure => simp [intOf]; omega
            · skip
              obtain ⟨W, hW⟩ : ∃ W, W = wr.alloc (.cells #[.int .i64 o.ok, .int .i64 o.ot, .int .i64 o.uk, .string o.ukey, .int .i64 o.ux, .int .i64 o.uy, .bool o.uf, .bool o.uh, .slice o.ua o.un o.uc, .string o.key, .int .i64 o.gx, .int .i64 o.gy, .int .i64 o.oN] 78) := ⟨_, rfl⟩
              have NW : Hid (MW w W.drew w.heap.size i k j (PV p) (QV p) (PV p') (QV p') p p') := by show MW w W.drew _ _ _ _ _ _ _ _ _ _; rw [hW]; exact MH.out.k ((k0_alloc _ _).drew)
              have bW : W.heap[wr.heap.size]? = some (.cells #[.int .i64 o.ok, .int .i64 o.ot, .int .i64 o.uk, .string o.ukey, .int .i64 o.ux, .int .i64 o.uy, .bool o.uf, .bool o.uh, .slice o.ua o.un o.uc, .string o.key, .int .i64 o.gx, .int .i64 o.gy, .int .i64 o.oN] 78 (0, 0)) := by rw [hW]; exact heap_alloc_new _ _
              have EW : Hid (W.heap[wr.heap.size]? = some (.cells #[.int .i64 o.ok, .int .i64 o.ot, .int .i64 o.uk, .string o.ukey, .int .i64 o.ux, .int .i64 o.uy, .bool o.uf, .bool o.uh, .slice o.ua o.un o.uc, .string o.key, .int .i64 o.gx, .int .i64 o.gy, .int .i64 o.oN] 78 (0, 0)) ∧ ¬ OwnO p wr.heap.size) := ⟨bW, fun z => by have := (ownO_lt MH.out.st z).2; omega⟩
              have aa : W.cell? ⟨w.heap.size, k, none⟩ = some (.pointer (PV p)) := NW.out.cA.1
              have bb : W.cell? ⟨w.heap.size + 1, k, none⟩ = some (.pointer (QV p)) := NW.out.cB.1
              have o0 := cell_blk bW 0 (v := .int .i64 o.ok) rfl
              have o1 := cell_blk bW 1 (v := .int .i64 o.ot) rfl
              have o2 := cell_blk bW 2 (v := .int .i64 o.uk) rfl
              have o3 := cell_blk bW 3 (v := .string o.ukey) rfl
              have o4 := cell_blk bW 4 (v := .int .i64 o.ux) rfl
              have o5 := cell_blk bW 5 (v := .int .i64 o.uy) rfl
              have o6 := cell_blk bW 6 (v := .bool o.uf) rfl
              have o7 := cell_blk bW 7 (v := .bool o.uh) rfl
              have o8 := cell_blk bW 8 (v := .slice o.ua o.un o.uc) rfl
              have o9 := cell_blk bW 9 (v := .string o.key) rfl
              have o10 := cell_blk bW 10 (v := .int .i64 o.gx) rfl
              have o11 := cell_blk bW 11 (v := .int .i64 o.gy) rfl
              have o12 := cell_blk bW 12 (v := .int .i64 o.oN) rfl
              clear bW
              go_upto_region 18 with fail
              rw [← hW]
              clear hW
              go_region_held3 (fun w'' => w''.cell? ⟨w.heap.size, k, none⟩ = some (.pointer (PV p)) ∧ w''.cell? ⟨w.heap.size + 1, k, none⟩ = some (.pointer (QV p)) ∧ w''.cell? ⟨wr.heap.size, 0, none⟩ = some (.int .i64 o.ok) ∧ w''.cell? ⟨wr.heap.size, 1, none⟩ = some (.int .i64 o.ot) ∧ w''.cell? ⟨wr.heap.size, 2, none⟩ = some (.int .i64 o.uk) ∧ w''.cell? ⟨wr.heap.size, 3, none⟩ = some (.string o.ukey) ∧ w''.cell? ⟨wr.heap.size, 4, none⟩ = some (.int .i64 o.ux) ∧ w''.cell? ⟨wr.heap.size, 5, none⟩ = some (.int .i64 o.uy) ∧ w''.cell? ⟨wr.heap.size, 6, none⟩ = some (.bool o.uf) ∧ w''.cell? ⟨wr.heap.size, 7, none⟩ = some (.bool o.uh) ∧ w''.cell? ⟨wr.heap.size, 8, none⟩ = some (.slice o.ua o.un o.uc) ∧ w''.cell? ⟨wr.heap.size, 9, none⟩ = some (.string o.key) ∧ w''.cell? ⟨wr.heap.size, 10, none⟩ = some (.int .i64 o.gx) ∧ w''.cell? ⟨wr.heap.size, 11, none⟩ = some (.int .i64 o.gy) ∧ w''.cell? ⟨wr.heap.size, 12, none⟩ = some (.int .i64 o.oN)) (first | go_keep)
                (first
                  | (go_at_call 31; refine (nPlays o.ok o.ot o.uk o.ukey o.ux o.uy o.uf o.uh o.ua o.un o.uc o.key o.gx o.gy o.oN o.l w5 (OK.out.rd.kept N5.out.1.k0 (fun _ _ z => z)) OK.out.few).mono ?_; rintro x w6 ⟨rfl, K6⟩
                     have N6 : Hid (MW w w6 w.heap.size (i + 1) k j (PV p5) (QV p5) (PV p') (QV p') p5 p') := N5.out.1.k K6
                     have q3 : w6.cell? ⟨w.heap.size, k, none⟩ = some (.pointer (PV p)) := by rw [← N5.out.2.2.1]; exact N6.out.cA.1
                     have q4 : w6.cell? ⟨w.heap.size + 1, k, none⟩ = some (.pointer (QV p)) := by rw [← N5.out.2.2.2]; exact N6.out.cB.1
                     have b6 := K6.get N5.out.2.1 (fun z => z)
                     have y0 := cell_blk b6 0 (v := .int .i64 o.ok) rfl
                     have y1 := cell_blk b6 1 (v := .int .i64 o.ot) rfl
                     have y2 := cell_blk b6 2 (v := .int .i64 o.uk) rfl
                     have y3 := cell_blk b6 3 (v := .string o.ukey) rfl
                     have y4 := cell_blk b6 4 (v := .int .i64 o.ux) rfl
                     have y5 := cell_blk b6 5 (v := .int .i64 o.uy) rfl
                     have y6 := cell_blk b6 6 (v := .bool o.uf) rfl
                     have y7 := cell_blk b6 7 (v := .bool o.uh) rfl
                     have y8 := cell_blk b6 8 (v := .slice o.ua o.un o.uc) rfl
                     have y9 := cell_blk b6 9 (v := .string o.key) rfl
                     have y10 := cell_blk b6 10 (v := .int .i64 o.gx) rfl
                     have y11 := cell_blk b6 11 (v := .int .i64 o.gy) rfl
                     have y12 := cell_blk b6 12 (v := .int .i64 o.oN) rfl
                     clear K6 b6)
                  | (go_at_call 31; refine (oPlays NW.out.st NW.out.k0 (Nat.le_add_right _ 2) o.ok o.ot o.uk o.ukey o.ux o.uy o.uf o.uh o.ua o.un o.uc o.key o.gx o.gy o.oN o.l OK.out.rd OK.out.few OK.out.k1 OK.out.f1 OK.out.k2 OK.out.f2 iB.out).mono ?_; rintro x w5 ⟨rfl, p5, m5⟩
                     have b5 := m5.kept.get EW.out.1 EW.out.2
                     have N5 : Hid (MW w w5 w.heap.size (i + 1) k j (PV p5) (QV p5) (PV p') (QV p') p5 p' ∧ w5.heap[wr.heap.size]? = some (.cells #[.int .i64 o.ok, .int .i64 o.ot, .int .i64 o.uk, .string o.ukey, .int .i64 o.ux, .int .i64 o.uy, .bool o.uf, .bool o.uh, .slice o.ua o.un o.uc, .string o.key, .int .i64 o.gx, .int .i64 o.gy, .int .i64 o.oN] 78 (0, 0)) ∧ PV p5 = PV p ∧ QV p5 = QV p) := ⟨OMv.to NW.out m5, b5, m5.pv, m5.qv⟩
                     have q1 : w5.cell? ⟨w.heap.size, k, none⟩ = some (.pointer (PV p)) := by rw [← N5.out.2.2.1]; exact N5.out.1.cA.1
                     have q2 : w5.cell? ⟨w.heap.size + 1, k, none⟩ = some (.pointer (QV p)) := by rw [← N5.out.2.2.2]; exact N5.out.1.cB.1
                     have x0 := cell_blk b5 0 (v := .int .i64 o.ok) rfl
                     have x1 := cell_blk b5 1 (v := .int .i64 o.ot) rfl
                     have x2 := cell_blk b5 2 (v := .int .i64 o.uk) rfl
                     have x3 := cell_blk b5 3 (v := .string o.ukey) rfl
                     have x4 := cell_blk b5 4 (v := .int .i64 o.ux) rfl
                     have x5 := cell_blk b5 5 (v := .int .i64 o.uy) rfl
                     have x6 := cell_blk b5 6 (v := .bool o.uf) rfl
                     have x7 := cell_blk b5 7 (v := .bool o.uh) rfl
                     have x8 := cell_blk b5 8 (v := .slice o.ua o.un o.uc) rfl
                     have x9 := cell_blk b5 9 (v := .string o.key) rfl
                     have x10 := cell_blk b5 10 (v := .int .i64 o.gx) rfl
                     have x11 := cell_blk b5 11 (v := .int .i64 o.gy) rfl
                     have x12 := cell_blk b5 12 (v := .int .i64 o.oN) rfl
                     clear m5 b5)
                  | fail)
              go_wp2_with fail
              go_roundw
              case rel => exact ⟨i + 1, by go_num, by omega, N6.out.norm⟩
              case measure => simp [intOf]; omega
        · have i1 : ¬ (i : Int) < (n : Int) := by omega
          obtain ⟨p, p', M⟩ := S.out
          have MH : Hid (MW w wr w.heap.size i 0 1 (PV p) (QV p) (PV p') (QV p') p p') := M
          have iC : Hid (i ≤ 1099511627776) := by have := HO.out.2; show i ≤ 1099511627776; omega
          obtain ⟨a1, _, _, _⟩ := M.cA
          obtain ⟨b1, _, _, _⟩ := M.cB
          clear M S
          go_wp2_with fail
          refine (oTells MH.out.st iC.out).mono ?_
          rintro x w5 ⟨rfl, K5⟩
          have M5 : Hid (MW w w5 w.heap.size i 0 1 (PV p) (QV p) (PV p') (QV p') p p') := MH.out.k K5
          obtain ⟨_, a2, _, _⟩ := M5.out.cA
          obtain ⟨_, b2, _, _⟩ := M5.out.cB
          clear K5
          go_wp2_with fail
          refine (oTells M5.out.st' iC.out).mono ?_
          rintro x w6 ⟨rfl, K6⟩
          have M6 : Hid (Kept (fun _ => False) w w6) := M5.out.k0.and0 K6
          clear K6
          go_wp2_with fail
          refine (taken _).mono ?_
          rintro x w9 ⟨rfl, K9⟩
          have M9 : Hid (Kept (fun _ => False) w w9) := M6.out.and0 K9
          clear K9
          go_wp2_with fail
          go_ret
          exact ⟨rfl, M9.out⟩
end Go.Proofs.YtojepeefphbekaaGreat
