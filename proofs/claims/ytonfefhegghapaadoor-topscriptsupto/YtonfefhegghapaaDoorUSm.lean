import Derived.Test.YtonfefhegghapaaDoorTSs
namespace Go.Proofs.YtonfefhegghapaaDoor
open Go.RowKit 

set_option maxRecDepth 100000 in
set_option maxHeartbeats 2000000 in
/-- sameBytes, where they are. -/
theorem hSB {w : World} {p p' : Option Addr} {n c c' : Nat} {l : List UInt8} (A : BRd w p n c l) (B : BRd w p' n c' l) : Calls Tryd.prog 50 #[.slice p n c, .slice p' n c'] w fun o w' => o = .returned (.bool true) ∧ Kept (fun _ => False) w w' := by
  have hn : n ≤ 9223372036854775807 := by have h1 := A.room; have h2 := A.small; unfold maxLen at h2; omega
  have H : Hid (BRd w p n c l ∧ BRd w p' n c' l) := ⟨A, B⟩
  clear A B
  go_enter Tryd.func50, Tryd.ntmps50
  go_upto_region 4 with fail
  go_loopw [5, 13] (fun _ u13 wr => ∃ i : Nat, u13 = .int .i64 (i : Int) ∧ i ≤ n ∧ Hid (Kept (fun _ => False) w wr)) (fun _ u13 _ => n - (intOf u13).toNat)
  case atStart => exact ⟨0, rfl, Nat.zero_le _, Kept.refl _ _⟩
  case round =>
    obtain ⟨i, rfl, hi, S2⟩ := hrel
    obtain ⟨wo, hwo⟩ : ∃ wo, wo = wr := ⟨_, rfl⟩
    rw [← hwo] at S2 ⊢
    clear hwo
    by_cases hlt : i < n
    · have i1 : (i : Int) < (n : Int) := by omega
      obtain ⟨z, hz⟩ : ∃ z, l[i]? = some z := ⟨_, List.getElem?_eq_getElem (by rw [H.out.1.len]; exact hlt)⟩
      obtain ⟨p1, o1, rfl, h1⟩ := H.out.1.cells (by omega)
      obtain ⟨p2, o2, rfl, h2⟩ := H.out.2.cells (by omega)
      have z1 := S2.out.cell (h1 i z hz) (fun z => z)
      have z2 := S2.out.cell (h2 i z hz) (fun z => z)
      clear h1 h2 hz
      go_upto_region 6 with fail
      go_quiet (fail)
      go_wp2_with fail
      go_roundw
      case rel => exact ⟨i + 1, by go_num, by omega, S2.out.drewN _⟩
      case measure => simp [intOf] <;> omega
    · have i1 : ¬ (i : Int) < (n : Int) := by omega
      go_wp2_with fail
      go_ret
      exact ⟨by first | rfl | simp, S2.out⟩
set_option maxRecDepth 100000 in
set_option maxHeartbeats 2000000 in
/-- sameInts, where they are. -/
theorem hSI {w : World} {p p' : Option Addr} {n c c' : Nat} {l : List Int} (A : IRd w p n c l) (B : IRd w p' n c' l) : Calls Tryd.prog 51 #[.slice p n c, .slice p' n c'] w fun o w' => o = .returned (.bool true) ∧ Kept (fun _ => False) w w' := by
  have hn : n ≤ 9223372036854775807 := by have h1 := A.room; have h2 := A.small; unfold maxLen at h2; omega
  have H : Hid (IRd w p n c l ∧ IRd w p' n c' l) := ⟨A, B⟩
  clear A B
  go_enter Tryd.func51, Tryd.ntmps51
  go_upto_region 4 with fail
  go_loopw [5, 13] (fun _ u13 wr => ∃ i : Nat, u13 = .int .i64 (i : Int) ∧ i ≤ n ∧ Hid (Kept (fun _ => False) w wr)) (fun _ u13 _ => n - (intOf u13).toNat)
  case atStart => exact ⟨0, rfl, Nat.zero_le _, Kept.refl _ _⟩
  case round =>
    obtain ⟨i, rfl, hi, S2⟩ := hrel
    obtain ⟨wo, hwo⟩ : ∃ wo, wo = wr := ⟨_, rfl⟩
    rw [← hwo] at S2 ⊢
    clear hwo
    by_cases hlt : i < n
    · have i1 : (i : Int) < (n : Int) := by omega
      obtain ⟨z, hz⟩ : ∃ z, l[i]? = some z := ⟨_, List.getElem?_eq_getElem (by rw [H.out.1.len]; exact hlt)⟩
      obtain ⟨p1, o1, rfl, h1⟩ := H.out.1.cells (by omega)
      obtain ⟨p2, o2, rfl, h2⟩ := H.out.2.cells (by omega)
      have z1 := S2.out.cell (h1 i z hz) (fun z => z)
      have z2 := S2.out.cell (h2 i z hz) (fun z => z)
      clear h1 h2 hz
      go_upto_region 6 with fail
      go_quiet (fail)
      go_wp2_with fail
      go_roundw
      case rel => exact ⟨i + 1, by go_num, by omega, S2.out.drewN _⟩
      case measure => simp [intOf] <;> omega
    · have i1 : ¬ (i : Int) < (n : Int) := by omega
      go_wp2_with fail
      go_ret
      exact ⟨by first | rfl | simp, S2.out⟩
set_option maxRecDepth 100000 in
set_option maxHeartbeats 8000000 in
/-- sameSteps, where they are. -/
theorem hSS {w : World} {p p' : Option Addr} {k c c' : Nat} {L L' : List Sm} {ss : List St} (X : SLs w p k c L ss) (Y : SLs w p' k c' L' ss) : Calls Tryd.prog 27 #[.slice p k c, .slice p' k c'] w fun o w' => o = .returned (.bool true) ∧ Kept (fun _ => False) w w' := by
  have hk : k ≤ 9223372036854775807 := by have h1 := X.room; have h2 := X.small; unfold maxLen at h2; omega
  have H : Hid (SLs w p k c L ss ∧ SLs w p' k c' L' ss) := ⟨X, Y⟩
  clear X Y
  go_enter Tryd.func27, Tryd.ntmps27
  go_upto_region 4 with fail
  go_loopw [5, 6, 7, 15] (fun _ _ _ u15 wr => ∃ i : Nat, u15 = .int .i64 (i : Int) ∧ i ≤ k ∧ Hid (Kept (fun _ => False) w wr)) (fun _ _ _ u15 _ => k - (intOf u15).toNat)
  case atStart => exact ⟨0, rfl, Nat.zero_le _, Kept.refl _ _⟩
  case round =>
    obtain ⟨i, rfl, hi, S2⟩ := hrel
    obtain ⟨wo, hwo⟩ : ∃ wo, wo = wr := ⟨_, rfl⟩
    rw [← hwo] at S2 ⊢
    clear hwo
    by_cases hlt : i < k
    · have i1 : (i : Int) < (k : Int) := by omega
      obtain ⟨pb, po, x, s, rfl, hs, X1, ks, hx⟩ := (H.out.1.kept S2.out).at hlt
      obtain ⟨qb, qo, y, t, rfl, ht, Y1, kt, hy⟩ := (H.out.2.kept S2.out).at hlt
      have e : s = t := by rw [hs] at ht; simpa using ht
      subst e
      have HX : Hid (SRd wo x s ∧ SRd wo y s) := ⟨X1, Y1⟩
      clear ks kt hs ht
      obtain ⟨kind, a, b, key, va, vn, vc, la, ln, lc⟩ := x
      obtain ⟨kind', a', b', key', va', vn', vc', la', ln', lc'⟩ := y
      obtain rfl : kind = kind' := X1.kind.trans Y1.kind.symm
      obtain rfl : a = a' := X1.a.trans Y1.a.symm
      obtain rfl : b = b' := X1.b.trans Y1.b.symm
      obtain rfl : key = key' := X1.key.trans Y1.key.symm
      obtain rfl : vn = vn' := X1.v.len.symm.trans Y1.v.len
      obtain rfl : ln = ln' := X1.l.len.symm.trans Y1.l.len
      have C1 : Hid (∀ V, Kept (fun _ => False) wo V → Calls Tryd.prog 50 #[.slice va vn vc, .slice va' vn vc'] V fun o w' => o = .returned (.bool true) ∧ Kept (fun _ => False) V w') := fun V K => hSB (HX.out.1.kept K).v (HX.out.2.kept K).v
      have C2 : Hid (∀ V, Kept (fun _ => False) wo V → Calls Tryd.prog 51 #[.slice la ln lc, .slice la' ln lc'] V fun o w' => o = .returned (.bool true) ∧ Kept (fun _ => False) V w') := fun V K => hSI (HX.out.1.kept K).l (HX.out.2.kept K).l
      clear X1 Y1
      have x0 := hx 0 (.int .i64 kind) rfl
      have x1 := hx 1 (.int .i64 a) rfl
      have x2 := hx 2 (.int .i64 b) rfl
      have x3 := hx 3 (.string key) rfl
      have x4 := hx 4 (.slice va vn vc) rfl
      have x5 := hx 5 (.slice la ln lc) rfl
      have y0 := hy 0 (.int .i64 kind) rfl
      have y1 := hy 1 (.int .i64 a) rfl
      have y2 := hy 2 (.int .i64 b) rfl
      have y3 := hy 3 (.string key) rfl
      have y4 := hy 4 (.slice va' vn vc') rfl
      have y5 := hy 5 (.slice la' ln lc') rfl
      rw [Nat.add_zero] at x0 y0
      clear hx hy
      go_upto_region 6 with fail
      go_cut [6, 7] from 18 to 68 (fun u6 u7 wc => ∃ P Q, u6 = .pointer (some ⟨P, 0, none⟩) ∧ u7 = .pointer (some ⟨Q, 0, none⟩) ∧ Hid (Kept (fun _ => False) wo wc ∧ wc.heap[P]? = some (.cells #[.int .i64 kind, .int .i64 a, .int .i64 b, .string key, .slice va vn vc, .slice la ln lc] 38 (0, 0)) ∧ wc.heap[Q]? = some (.cells #[.int .i64 kind, .int .i64 a, .int .i64 b, .string key, .slice va' vn vc', .slice la' ln lc'] 38 (0, 0))))
      case first =>
        have kxZ := ((Kept.refl (fun _ => False) wo).alloc (.cells #[.int .i64 0, .int .i64 0, .int .i64 0, .string ⟨#[]⟩, .slice none 0 0, .slice none 0 0] 38))
        have xZ0 := kxZ.cell x0 (fun z => z)
        have xZ1 := kxZ.cell x1 (fun z => z)
        have xZ2 := kxZ.cell x2 (fun z => z)
        have xZ3 := kxZ.cell x3 (fun z => z)
        have xZ4 := kxZ.cell x4 (fun z => z)
        have xZ5 := kxZ.cell x5 (fun z => z)
        clear kxZ
        have kxY := ((Kept.refl (fun _ => False) wo).alloc (.cells #[.int .i64 kind, .int .i64 a, .int .i64 b, .string key, .slice va' vn vc', .slice la' ln lc'] 38))
        have xY0 := kxY.cell x0 (fun z => z)
        have xY1 := kxY.cell x1 (fun z => z)
        have xY2 := kxY.cell x2 (fun z => z)
        have xY3 := kxY.cell x3 (fun z => z)
        have xY4 := kxY.cell x4 (fun z => z)
        have xY5 := kxY.cell x5 (fun z => z)
        clear kxY
        have kxZZ := (((Kept.refl (fun _ => False) wo).alloc (.cells #[.int .i64 0, .int .i64 0, .int .i64 0, .string ⟨#[]⟩, .slice none 0 0, .slice none 0 0] 38)).alloc (.cells #[.int .i64 0, .int .i64 0, .int .i64 0, .string ⟨#[]⟩, .slice none 0 0, .slice none 0 0] 38))
        have xZZ0 := kxZZ.cell x0 (fun z => z)
        have xZZ1 := kxZZ.cell x1 (fun z => z)
        have xZZ2 := kxZZ.cell x2 (fun z => z)
        have xZZ3 := kxZZ.cell x3 (fun z => z)
        have xZZ4 := kxZZ.cell x4 (fun z => z)
        have xZZ5 := kxZZ.cell x5 (fun z => z)
        clear kxZZ
        have kxZY := (((Kept.refl (fun _ => False) wo).alloc (.cells #[.int .i64 0, .int .i64 0, .int .i64 0, .string ⟨#[]⟩, .slice none 0 0, .slice none 0 0] 38)).alloc (.cells #[.int .i64 kind, .int .i64 a, .int .i64 b, .string key, .slice va' vn vc', .slice la' ln lc'] 38))
        have xZY0 := kxZY.cell x0 (fun z => z)
        have xZY1 := kxZY.cell x1 (fun z => z)
        have xZY2 := kxZY.cell x2 (fun z => z)
        have xZY3 := kxZY.cell x3 (fun z => z)
        have xZY4 := kxZY.cell x4 (fun z => z)
        have xZY5 := kxZY.cell x5 (fun z => z)
        clear kxZY
        have kxYZ := (((Kept.refl (fun _ => False) wo).alloc (.cells #[.int .i64 kind, .int .i64 a, .int .i64 b, .string key, .slice va' vn vc', .slice la' ln lc'] 38)).alloc (.cells #[.int .i64 0, .int .i64 0, .int .i64 0, .string ⟨#[]⟩, .slice none 0 0, .slice none 0 0] 38))
        have xYZ0 := kxYZ.cell x0 (fun z => z)
        have xYZ1 := kxYZ.cell x1 (fun z => z)
        have xYZ2 := kxYZ.cell x2 (fun z => z)
        have xYZ3 := kxYZ.cell x3 (fun z => z)
        have xYZ4 := kxYZ.cell x4 (fun z => z)
        have xYZ5 := kxYZ.cell x5 (fun z => z)
        clear kxYZ
        have kyZ := ((Kept.refl (fun _ => False) wo).alloc (.cells #[.int .i64 0, .int .i64 0, .int .i64 0, .string ⟨#[]⟩, .slice none 0 0, .slice none 0 0] 38))
        have yZ0 := kyZ.cell y0 (fun z => z)
        have yZ1 := kyZ.cell y1 (fun z => z)
        have yZ2 := kyZ.cell y2 (fun z => z)
        have yZ3 := kyZ.cell y3 (fun z => z)
        have yZ4 := kyZ.cell y4 (fun z => z)
        have yZ5 := kyZ.cell y5 (fun z => z)
        clear kyZ
        have kyX := ((Kept.refl (fun _ => False) wo).alloc (.cells #[.int .i64 kind, .int .i64 a, .int .i64 b, .string key, .slice va vn vc, .slice la ln lc] 38))
        have yX0 := kyX.cell y0 (fun z => z)
        have yX1 := kyX.cell y1 (fun z => z)
        have yX2 := kyX.cell y2 (fun z => z)
        have yX3 := kyX.cell y3 (fun z => z)
        have yX4 := kyX.cell y4 (fun z => z)
        have yX5 := kyX.cell y5 (fun z => z)
        clear kyX
        have kyZZ := (((Kept.refl (fun _ => False) wo).alloc (.cells #[.int .i64 0, .int .i64 0, .int .i64 0, .string ⟨#[]⟩, .slice none 0 0, .slice none 0 0] 38)).alloc (.cells #[.int .i64 0, .int .i64 0, .int .i64 0, .string ⟨#[]⟩, .slice none 0 0, .slice none 0 0] 38))
        have yZZ0 := kyZZ.cell y0 (fun z => z)
        have yZZ1 := kyZZ.cell y1 (fun z => z)
        have yZZ2 := kyZZ.cell y2 (fun z => z)
        have yZZ3 := kyZZ.cell y3 (fun z => z)
        have yZZ4 := kyZZ.cell y4 (fun z => z)
        have yZZ5 := kyZZ.cell y5 (fun z => z)
        clear kyZZ
        have kyZX := (((Kept.refl (fun _ => False) wo).alloc (.cells #[.int .i64 0, .int .i64 0, .int .i64 0, .string ⟨#[]⟩, .slice none 0 0, .slice none 0 0] 38)).alloc (.cells #[.int .i64 kind, .int .i64 a, .int .i64 b, .string key, .slice va vn vc, .slice la ln lc] 38))
        have yZX0 := kyZX.cell y0 (fun z => z)
        have yZX1 := kyZX.cell y1 (fun z => z)
        have yZX2 := kyZX.cell y2 (fun z => z)
        have yZX3 := kyZX.cell y3 (fun z => z)
        have yZX4 := kyZX.cell y4 (fun z => z)
        have yZX5 := kyZX.cell y5 (fun z => z)
        clear kyZX
        have kyXZ := (((Kept.refl (fun _ => False) wo).alloc (.cells #[.int .i64 kind, .int .i64 a, .int .i64 b, .string key, .slice va vn vc, .slice la ln lc] 38)).alloc (.cells #[.int .i64 0, .int .i64 0, .int .i64 0, .string ⟨#[]⟩, .slice none 0 0, .slice none 0 0] 38))
        have yXZ0 := kyXZ.cell y0 (fun z => z)
        have yXZ1 := kyXZ.cell y1 (fun z => z)
        have yXZ2 := kyXZ.cell y2 (fun z => z)
        have yXZ3 := kyXZ.cell y3 (fun z => z)
        have yXZ4 := kyXZ.cell y4 (fun z => z)
        have yXZ5 := kyXZ.cell y5 (fun z => z)
        clear kyXZ
        go_region
        · go_wp2_with fail
          go_meet
          exact ⟨wo.heap.size, wo.heap.size + 1, rfl, rfl, (((Kept.refl _ _).alloc (.cells #[.int .i64 kind, .int .i64 a, .int .i64 b, .string key, .slice va vn vc, .slice la ln lc] 38)).alloc (.cells #[.int .i64 kind, .int .i64 a, .int .i64 b, .string key, .slice va' vn vc', .slice la' ln lc'] 38)).drew, alloc_old _ (alloc_new wo _), alloc_new2 wo _ _ _⟩
        · go_wp2_with fail
          go_meet
          exact ⟨wo.heap.size + 1, wo.heap.size, rfl, rfl, (((Kept.refl _ _).alloc (.cells #[.int .i64 kind, .int .i64 a, .int .i64 b, .string key, .slice va' vn vc', .slice la' ln lc'] 38)).alloc (.cells #[.int .i64 kind, .int .i64 a, .int .i64 b, .string key, .slice va vn vc, .slice la ln lc] 38)).drew, alloc_new2 wo _ _ _, alloc_old _ (alloc_new wo _)⟩
      case rest =>
        obtain ⟨P, Q, rfl, rfl, S3⟩ := hcut
        clear x0 x1 x2 x3 x4 x5 y0 y1 y2 y3 y4 y5
        have pc0 := cell_blk S3.out.2.1 0 (v := .int .i64 kind) rfl
        have pc1 := cell_blk S3.out.2.1 1 (v := .int .i64 a) rfl
        have pc2 := cell_blk S3.out.2.1 2 (v := .int .i64 b) rfl
        have pc3 := cell_blk S3.out.2.1 3 (v := .string key) rfl
        have pc4 := cell_blk S3.out.2.1 4 (v := .slice va vn vc) rfl
        have pc5 := cell_blk S3.out.2.1 5 (v := .slice la ln lc) rfl
        have qc0 := cell_blk S3.out.2.2 0 (v := .int .i64 kind) rfl
        have qc1 := cell_blk S3.out.2.2 1 (v := .int .i64 a) rfl
        have qc2 := cell_blk S3.out.2.2 2 (v := .int .i64 b) rfl
        have qc3 := cell_blk S3.out.2.2 3 (v := .string key) rfl
        have qc4 := cell_blk S3.out.2.2 4 (v := .slice va' vn vc') rfl
        have qc5 := cell_blk S3.out.2.2 5 (v := .slice la' ln lc') rfl
        go_wp2_with fail
        refine (C1.out _ S3.out.1).mono ?_
        rintro o w5 ⟨rfl, K5⟩
        have S5 : Hid (Kept (fun _ => False) wo w5 ∧ w5.heap[P]? = some (.cells #[.int .i64 kind, .int .i64 a, .int .i64 b, .string key, .slice va vn vc, .slice la ln lc] 38 (0, 0)) ∧ w5.heap[Q]? = some (.cells #[.int .i64 kind, .int .i64 a, .int .i64 b, .string key, .slice va' vn vc', .slice la' ln lc'] 38 (0, 0))) := ⟨S3.out.1.trans K5 (fun _ _ z => z), K5.get S3.out.2.1 (fun z => z), K5.get S3.out.2.2 (fun z => z)⟩
        clear K5 S3 pc0 pc1 pc2 pc3 pc4 pc5 qc0 qc1 qc2 qc3 qc4 qc5
        have pc5 := cell_blk S5.out.2.1 5 (v := .slice la ln lc) rfl
        have qc5 := cell_blk S5.out.2.2 5 (v := .slice la' ln lc') rfl
        go_wp2_with fail
        refine (C2.out _ S5.out.1).mono ?_
        rintro o w6 ⟨rfl, K6⟩
        have S6 : Hid (Kept (fun _ => False) w w6) := (S2.out.trans S5.out.1 (fun _ _ z => z)).trans K6 (fun _ _ z => z)
        clear K6 S5 pc5 qc5
        go_wp2_with fail
        go_roundw
        case rel => exact ⟨i + 1, by go_num, by omega, S6⟩
        case measure => simp [intOf] <;> omega
    · have i1 : ¬ (i : Int) < (k : Int) := by omega
      go_wp2_with fail
      go_ret
      exact ⟨by first | rfl | simp, S2.out⟩
end Go.Proofs.YtonfefhegghapaaDoor
