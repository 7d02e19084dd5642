import Derived.Test.YtonfefhegghapaaDoorABy
import Derived.Test.YtonfefhegghapaaDoorAPtJ
import Derived.Test.YtonfefhegghapaaDoorALn
import Derived.Test.YtonfefhegghapaaDoorTSsJ
namespace Go.Proofs.YtonfefhegghapaaDoor
open Go.RowKit 

/-- The words behind the first one. -/
def wd (R : List UInt8) : List (List UInt8) := if R = [] then [] else prtL 32 R.tail
theorem prt_bl {x R : List UInt8} (h : (32 : UInt8) ∉ x) (b : Bl R) : prtL 32 (x ++ R) = x :: wd R := by
  rcases b with rfl | ⟨q, rfl⟩
  · rw [List.append_nil, prt_last h]
    rfl
  · rw [prt_at q h]
    rfl
theorem wd_bl {x R : List UInt8} (h : (32 : UInt8) ∉ x) (b : Bl R) : wd (32 :: x ++ R) = x :: wd R := by
  have e : wd (32 :: x ++ R) = prtL 32 (x ++ R) := rfl
  rw [e, prt_bl h b]
theorem no32 {x : List UInt8} (h : ∀ c ∈ x, c ≠ 32) : (32 : UInt8) ∉ x := fun z => h _ z rfl
theorem wd_num {z : Int} {R : List UInt8} (b : Bl R) : wd (numL [z] ++ R) = Lib.itoa z :: wd R := by
  have e : numL [z] = 32 :: Lib.itoa z := by unfold numL; simp
  rw [e]
  exact wd_bl (no32 fun c hc => (itoa_plain z c hc).1) b
theorem wd_byt {l R : List UInt8} (b : Bl R) : wd (bytL l ++ R) = bytW l :: wd R := by
  rw [bytL_w]
  exact wd_bl (no32 fun c hc => (bytW_plain l c hc).1) b
theorem wd_nums : ∀ l : List Int, wd (numL l) = l.map Lib.itoa
  | [] => rfl
  | z :: r => by
    have e : numL (z :: r) = numL [z] ++ numL r := by rw [numL_cons, numL_cons]; simp [numL]
    rw [e, wd_num (bl_num r), wd_nums r]
    rfl
/-- What a kind's line has, by the document. -/
def lsA (k : Nat) : Bool := decide ((k : Int) ≠ 16)
def lsB (k : Nat) : Bool := decide ((k : Int) = 9 ∨ (k : Int) = 10 ∨ (k : Int) = 14 ∨ (k : Int) = 16)
def lsK (k : Nat) : Bool := decide ((k : Int) = 1 ∨ (k : Int) = 2)
def lsV (k : Nat) : Bool := decide ((k : Int) = 1)
def lsL (k : Nat) : Bool := decide ((k : Int) = 9 ∨ (k : Int) = 12 ∨ (k : Int) = 14 ∨ (k : Int) = 16)
/-- One word taken, if it is asked for and there. -/
def tkW (h : Bool) (ws : List (List UInt8)) : Option (List UInt8) × List (List UInt8) := match h, ws with | true, x :: r => (some x, r) | _, ws => (none, ws)
theorem tk_yes {h : Bool} {x : List UInt8} {r : List (List UInt8)} (hh : h = true) : tkW h (x :: r) = (some x, r) := by rw [hh]; rfl
theorem tk_no {h : Bool} {r : List (List UInt8)} (hh : h = false) : tkW h r = (none, r) := by rw [hh]; cases r <;> rfl
theorem tk_nil {h : Bool} : tkW h [] = (none, []) := by cases h <;> rfl
/-- The document's loose, as a function of the words. -/
def looK (k : Nat) (ws : List (List UInt8)) : St :=
  let p1 := tkW (lsA k) ws
  let p2 := tkW (lsB k) p1.2
  let p3 := tkW (lsK k) p2.2
  let p4 := tkW (lsV k) p3.2
  ⟨(k : Int), (p1.1.map numV).getD 0, (p2.1.map numV).getD 0, (p3.1.map hexR).getD [], (p4.1.map hexR).getD [], if lsL k then p4.2.map numV else []⟩
def looL (t : List UInt8) : St := looK (kindL (prtL 32 t).head!) (prtL 32 t).tail
theorem ls_use {k : Nat} (h1 : 1 ≤ k) (h2 : k ≤ 16) : (lsA k = true ↔ useN k % 2 = 1) ∧ (lsB k = true ↔ useN k / 2 % 2 = 1) ∧ (lsK k = true ↔ useN k / 4 % 2 = 1) ∧ (lsV k = true ↔ useN k / 8 % 2 = 1) ∧ (lsL k = true ↔ useN k / 16 % 2 = 1) := by
  obtain rfl | rfl | rfl | rfl | rfl | rfl | rfl | rfl | rfl | rfl | rfl | rfl | rfl | rfl | rfl | rfl : k = 1 ∨ k = 2 ∨ k = 3 ∨ k = 4 ∨ k = 5 ∨ k = 6 ∨ k = 7 ∨ k = 8 ∨ k = 9 ∨ k = 10 ∨ k = 11 ∨ k = 12 ∨ k = 13 ∨ k = 14 ∨ k = 15 ∨ k = 16 := by omega
  all_goals decide
theorem map_num {l : List Int} (h : ∀ z ∈ l, KI z) : (l.map Lib.itoa).map numV = l := by
  rw [List.map_map]
  conv => rhs; rw [← List.map_id l]
  exact List.map_congr_left fun z hz => numV_back z (h z hz)
/-- The step of a step's line is that step, by the document. -/
theorem loo_line {s : St} (h : chkS s = 0) (K : KS s) : looL (lineL s) = s := by
  obtain ⟨k1, k2, z1, z2, z3, z4, z5⟩ := chk_zero h
  obtain ⟨kind, a, b, key, val, l⟩ := s
  dsimp only at k1 k2 z1 z2 z3 z4 z5
  obtain ⟨k, rfl⟩ : ∃ k : Nat, kind = (k : Int) := ⟨kind.toNat, by omega⟩
  rw [Int.toNat_natCast] at z1 z2 z3 z4 z5
  have kk : k < 17 := by omega
  obtain ⟨kp, kq⟩ := kw_all kk
  obtain ⟨kq, _⟩ := kq (by omega)
  obtain ⟨u1, u2, u3, u4, u5⟩ := ls_use (k := k) (by omega) (by omega)
  unfold lineL
  dsimp only
  rw [Int.toNat_natCast]
  generalize hu : useN k = u at z1 z2 z3 z4 z5 u1 u2 u3 u4 u5
  unfold tailU
  dsimp only
  generalize h4 : (if u / 16 % 2 = 1 then numL l else []) = R4
  have b4 : Bl R4 := by rw [← h4]; exact bl_if (bl_num l)
  generalize h3 : (if u / 8 % 2 = 1 then bytL val else []) ++ R4 = R3
  have b3 : Bl R3 := by rw [← h3]; exact (bl_if (bl_byt val)).app b4
  generalize h2 : (if u / 4 % 2 = 1 then bytL key else []) ++ R3 = R2
  have b2 : Bl R2 := by rw [← h2]; exact (bl_if (bl_byt key)).app b3
  generalize h1 : (if u / 2 % 2 = 1 then numL [b] else []) ++ R2 = R1
  have b1 : Bl R1 := by rw [← h1]; exact (bl_if (bl_num _)).app b2
  generalize h0 : (if u % 2 = 1 then numL [a] else []) ++ R1 = R0
  have b0 : Bl R0 := by rw [← h0]; exact (bl_if (bl_num _)).app b1
  unfold looL
  rw [prt_bl (no32 fun c hc => (kp c hc).1) b0]
  show looK (kindL (kw k)) (wd R0) = _
  rw [kq]
  unfold looK
  dsimp only
  have p1 : tkW (lsA k) (wd R0) = (if u % 2 = 1 then some (Lib.itoa a) else none, wd R1) := by
    rw [← h0]
    by_cases q : u % 2 = 1
    · rw [if_pos q, if_pos q, wd_num b1, tk_yes (u1.2 q)]
    · rw [if_neg q, if_neg q, List.nil_append]
      exact tk_no (by rw [← Bool.not_eq_true]; exact fun z => q (u1.1 z))
  rw [p1]
  dsimp only
  have p2 : tkW (lsB k) (wd R1) = (if u / 2 % 2 = 1 then some (Lib.itoa b) else none, wd R2) := by
    rw [← h1]
    by_cases q : u / 2 % 2 = 1
    · rw [if_pos q, if_pos q, wd_num b2, tk_yes (u2.2 q)]
    · rw [if_neg q, if_neg q, List.nil_append]
      exact tk_no (by rw [← Bool.not_eq_true]; exact fun z => q (u2.1 z))
  rw [p2]
  dsimp only
  have p3 : tkW (lsK k) (wd R2) = (if u / 4 % 2 = 1 then some (bytW key) else none, wd R3) := by
    rw [← h2]
    by_cases q : u / 4 % 2 = 1
    · rw [if_pos q, if_pos q, wd_byt b3, tk_yes (u3.2 q)]
    · rw [if_neg q, if_neg q, List.nil_append]
      exact tk_no (by rw [← Bool.not_eq_true]; exact fun z => q (u3.1 z))
  rw [p3]
  dsimp only
  have p4 : tkW (lsV k) (wd R3) = (if u / 8 % 2 = 1 then some (bytW val) else none, wd R4) := by
    rw [← h3]
    by_cases q : u / 8 % 2 = 1
    · rw [if_pos q, if_pos q, wd_byt b4, tk_yes (u4.2 q)]
    · rw [if_neg q, if_neg q, List.nil_append]
      exact tk_no (by rw [← Bool.not_eq_true]; exact fun z => q (u4.1 z))
  rw [p4]
  dsimp only
  have p5 : (if lsL k = true then (wd R4).map numV else []) = l := by
    rw [← h4]
    by_cases q : u / 16 % 2 = 1
    · rw [if_pos q, if_pos (u5.2 q), wd_nums, map_num K.l]
    · rw [if_neg (fun z => q (u5.1 z)), z5 q]
  rw [p5]
  have e1 : (Option.map numV (if u % 2 = 1 then some (Lib.itoa a) else none)).getD 0 = a := by
    by_cases q : u % 2 = 1
    · rw [if_pos q]
      exact numV_back a K.a
    · rw [if_neg q, z1 q]
      rfl
  have e2 : (Option.map numV (if u / 2 % 2 = 1 then some (Lib.itoa b) else none)).getD 0 = b := by
    by_cases q : u / 2 % 2 = 1
    · rw [if_pos q]
      exact numV_back b K.b
    · rw [if_neg q, z2 q]
      rfl
  have e3 : (Option.map hexR (if u / 4 % 2 = 1 then some (bytW key) else none)).getD [] = key := by
    by_cases q : u / 4 % 2 = 1
    · rw [if_pos q]
      exact hexR_w key
    · rw [if_neg q, z3 q]
      rfl
  have e4 : (Option.map hexR (if u / 8 % 2 = 1 then some (bytW val) else none)).getD [] = val := by
    by_cases q : u / 8 % 2 = 1
    · rw [if_pos q]
      exact hexR_w val
    · rw [if_neg q, z4 q]
      rfl
  rw [e1, e2, e3, e4]
/-- A line is taken by the document just where it is by the program, and as the same step. -/
theorem loo_ok (t : List UInt8) (K : KS (looL t)) : (chkS (looL t) = 0 ∧ lineL (looL t) = t ↔ okL t) ∧ (okL t → looL t = gs t) := by
  have back : okL t → looL t = gs t := fun z => by
    have q := loo_line z.1 ⟨(gs_small t).a, (gs_small t).b, (gs_small t).ki⟩
    rw [z.2] at q
    exact q
  refine ⟨⟨fun z => ?_, fun z => ?_⟩, back⟩
  · have q := gs_line z.1 K
    rw [z.2] at q
    unfold okL
    rw [q]
    exact z
  · rw [back z]
    exact z
end Go.Proofs.YtonfefhegghapaaDoor

namespace Go.Proofs.YtonfefhegghapaaDoor
open Go.RowKit 

set_option maxRecDepth 100000 in
set_option maxHeartbeats 2000000 in
/-- sameBytes, where they are. -/
theorem hSB {w : World} {p p' : Option Addr} {n c c' : Nat} {l : List UInt8} (A : BRd w p n c l) (B : BRd w p' n c' l) : Calls Tryd.prog 50 #[.slice p n c, .slice p' n c'] w fun o w' => o = .returned (.bool true) ∧ Kept (fun _ => False) w w' := by
  have hn : n ≤ 9223372036854775807 := by have h1 := A.room; have h2 := A.small; unfold maxLen at h2; omega
  have H : Hid (BRd w p n c l ∧ BRd w p' n c' l) := ⟨A, B⟩
  clear A B
  go_enter Tryd.func50, Tryd.ntmps50
  go_upto_region 4 with fail
  go_loopw [5, 13] (fun _ u13 wr => ∃ i : Nat, u13 = .int .i64 (i : Int) ∧ i ≤ n ∧ Hid (Kept (fun _ => False) w wr)) (fun _ u13 _ => n - (intOf u13).toNat)
  case atStart => exact ⟨0, rfl, Nat.zero_le _, Kept.refl _ _⟩
  case round =>
    obtain ⟨i, rfl, hi, S2⟩ := hrel
    obtain ⟨wo, hwo⟩ : ∃ wo, wo = wr := ⟨_, rfl⟩
    rw [← hwo] at S2 ⊢
    clear hwo
    by_cases hlt : i < n
    · have i1 : (i : Int) < (n : Int) := by omega
      obtain ⟨z, hz⟩ : ∃ z, l[i]? = some z := ⟨_, List.getElem?_eq_getElem (by rw [H.out.1.len]; exact hlt)⟩
      obtain ⟨p1, o1, rfl, h1⟩ := H.out.1.cells (by omega)
      obtain ⟨p2, o2, rfl, h2⟩ := H.out.2.cells (by omega)
      have z1 := S2.out.cell (h1 i z hz) (fun z => z)
      have z2 := S2.out.cell (h2 i z hz) (fun z => z)
      clear h1 h2 hz
      go_upto_region 6 with fail
      go_quiet (fail)
      go_wp2_with fail
      go_roundw
      case rel => exact ⟨i + 1, by go_num, by omega, S2.out.drewN _⟩
      case measure => simp [intOf] <;> omega
    · have i1 : ¬ (i : Int) < (n : Int) := by omega
      go_wp2_with fail
      go_ret
      exact ⟨by first | rfl | simp, S2.out⟩
set_option maxRecDepth 100000 in
set_option maxHeartbeats 2000000 in
/-- sameInts, where they are. -/
theorem hSI {w : World} {p p' : Option Addr} {n c c' : Nat} {l : List Int} (A : IRd w p n c l) (B : IRd w p' n c' l) : Calls Tryd.prog 51 #[.slice p n c, .slice p' n c'] w fun o w' => o = .returned (.bool true) ∧ Kept (fun _ => False) w w' := by
  have hn : n ≤ 9223372036854775807 := by have h1 := A.room; have h2 := A.small; unfold maxLen at h2; omega
  have H : Hid (IRd w p n c l ∧ IRd w p' n c' l) := ⟨A, B⟩
  clear A B
  go_enter Tryd.func51, Tryd.ntmps51
  go_upto_region 4 with fail
  go_loopw [5, 13] (fun _ u13 wr => ∃ i : Nat, u13 = .int .i64 (i : Int) ∧ i ≤ n ∧ Hid (Kept (fun _ => False) w wr)) (fun _ u13 _ => n - (intOf u13).toNat)
  case atStart => exact ⟨0, rfl, Nat.zero_le _, Kept.refl _ _⟩
  case round =>
    obtain ⟨i, rfl, hi, S2⟩ := hrel
    obtain ⟨wo, hwo⟩ : ∃ wo, wo = wr := ⟨_, rfl⟩
    rw [← hwo] at S2 ⊢
    clear hwo
    by_cases hlt : i < n
    · have i1 : (i : Int) < (n : Int) := by omega
      obtain ⟨z, hz⟩ : ∃ z, l[i]? = some z := ⟨_, List.getElem?_eq_getElem (by rw [H.out.1.len]; exact hlt)⟩
      obtain ⟨p1, o1, rfl, h1⟩ := H.out.1.cells (by omega)
      obtain ⟨p2, o2, rfl, h2⟩ := H.out.2.cells (by omega)
      have z1 := S2.out.cell (h1 i z hz) (fun z => z)
      have z2 := S2.out.cell (h2 i z hz) (fun z => z)
      clear h1 h2 hz
      go_upto_region 6 with fail
      go_quiet (fail)
      go_wp2_with fail
      go_roundw
      case rel => exact ⟨i + 1, by go_num, by omega, S2.out.drewN _⟩
      case measure => simp [intOf] <;> omega
    · have i1 : ¬ (i : Int) < (n : Int) := by omega
      go_wp2_with fail
      go_ret
      exact ⟨by first | rfl | simp, S2.out⟩
set_option maxRecDepth 100000 in
set_option maxHeartbeats 8000000 in
/-- sameSteps, where they are. -/
theorem hSS {w : World} {p p' : Option Addr} {k c c' : Nat} {L L' : List Sm} {ss : List St} (X : SLs w p k c L ss) (Y : SLs w p' k c' L' ss) : Calls Tryd.prog 27 #[.slice p k c, .slice p' k c'] w fun o w' => o = .returned (.bool true) ∧ Kept (fun _ => False) w w' := by
  have hk : k ≤ 9223372036854775807 := by have h1 := X.room; have h2 := X.small; unfold maxLen at h2; omega
  have H : Hid (SLs w p k c L ss ∧ SLs w p' k c' L' ss) := ⟨X, Y⟩
  clear X Y
  go_enter Tryd.func27, Tryd.ntmps27
  go_upto_region 4 with fail
  go_loopw [5, 6, 7, 15] (fun _ _ _ u15 wr => ∃ i : Nat, u15 = .int .i64 (i : Int) ∧ i ≤ k ∧ Hid (Kept (fun _ => False) w wr)) (fun _ _ _ u15 _ => k - (intOf u15).toNat)
  case atStart => exact ⟨0, rfl, Nat.zero_le _, Kept.refl _ _⟩
  case round =>
    obtain ⟨i, rfl, hi, S2⟩ := hrel
    obtain ⟨wo, hwo⟩ : ∃ wo, wo = wr := ⟨_, rfl⟩
    rw [← hwo] at S2 ⊢
    clear hwo
    by_cases hlt : i < k
    · have i1 : (i : Int) < (k : Int) := by omega
      obtain ⟨pb, po, x, s, rfl, hs, X1, ks, hx⟩ := (H.out.1.kept S2.out).at hlt
      obtain ⟨qb, qo, y, t, rfl, ht, Y1, kt, hy⟩ := (H.out.2.kept S2.out).at hlt
      have e : s = t := by rw [hs] at ht; simpa using ht
      subst e
      have HX : Hid (SRd wo x s ∧ SRd wo y s) := ⟨X1, Y1⟩
      clear ks kt hs ht
      obtain ⟨kind, a, b, key, va, vn, vc, la, ln, lc⟩ := x
      obtain ⟨kind', a', b', key', va', vn', vc', la', ln', lc'⟩ := y
      obtain rfl : kind = kind' := X1.kind.trans Y1.kind.symm
      obtain rfl : a = a' := X1.a.trans Y1.a.symm
      obtain rfl : b = b' := X1.b.trans Y1.b.symm
      obtain rfl : key = key' := X1.key.trans Y1.key.symm
      obtain rfl : vn = vn' := X1.v.len.symm.trans Y1.v.len
      obtain rfl : ln = ln' := X1.l.len.symm.trans Y1.l.len
      have C1 : Hid (∀ V, Kept (fun _ => False) wo V → Calls Tryd.prog 50 #[.slice va vn vc, .slice va' vn vc'] V fun o w' => o = .returned (.bool true) ∧ Kept (fun _ => False) V w') := fun V K => hSB (HX.out.1.kept K).v (HX.out.2.kept K).v
      have C2 : Hid (∀ V, Kept (fun _ => False) wo V → Calls Tryd.prog 51 #[.slice la ln lc, .slice la' ln lc'] V fun o w' => o = .returned (.bool true) ∧ Kept (fun _ => False) V w') := fun V K => hSI (HX.out.1.kept K).l (HX.out.2.kept K).l
      clear X1 Y1
      have x0 := hx 0 (.int .i64 kind) rfl
      have x1 := hx 1 (.int .i64 a) rfl
      have x2 := hx 2 (.int .i64 b) rfl
      have x3 := hx 3 (.string key) rfl
      have x4 := hx 4 (.slice va vn vc) rfl
      have x5 := hx 5 (.slice la ln lc) rfl
      have y0 := hy 0 (.int .i64 kind) rfl
      have y1 := hy 1 (.int .i64 a) rfl
      have y2 := hy 2 (.int .i64 b) rfl
      have y3 := hy 3 (.string key) rfl
      have y4 := hy 4 (.slice va' vn vc') rfl
      have y5 := hy 5 (.slice la' ln lc') rfl
      rw [Nat.add_zero] at x0 y0
      clear hx hy
      go_upto_region 6 with fail
      go_cut [6, 7] from 18 to 68 (fun u6 u7 wc => ∃ P Q, u6 = .pointer (some ⟨P, 0, none⟩) ∧ u7 = .pointer (some ⟨Q, 0, none⟩) ∧ Hid (Kept (fun _ => False) wo wc ∧ wc.heap[P]? = some (.cells #[.int .i64 kind, .int .i64 a, .int .i64 b, .string key, .slice va vn vc, .slice la ln lc] 38 (0, 0)) ∧ wc.heap[Q]? = some (.cells #[.int .i64 kind, .int .i64 a, .int .i64 b, .string key, .slice va' vn vc', .slice la' ln lc'] 38 (0, 0))))
      case first =>
        have kxZ := ((Kept.refl (fun _ => False) wo).alloc (.cells #[.int .i64 0, .int .i64 0, .int .i64 0, .string ⟨#[]⟩, .slice none 0 0, .slice none 0 0] 38))
        have xZ0 := kxZ.cell x0 (fun z => z)
        have xZ1 := kxZ.cell x1 (fun z => z)
        have xZ2 := kxZ.cell x2 (fun z => z)
        have xZ3 := kxZ.cell x3 (fun z => z)
        have xZ4 := kxZ.cell x4 (fun z => z)
        have xZ5 := kxZ.cell x5 (fun z => z)
        clear kxZ
        have kxY := ((Kept.refl (fun _ => False) wo).alloc (.cells #[.int .i64 kind, .int .i64 a, .int .i64 b, .string key, .slice va' vn vc', .slice la' ln lc'] 38))
        have xY0 := kxY.cell x0 (fun z => z)
        have xY1 := kxY.cell x1 (fun z => z)
        have xY2 := kxY.cell x2 (fun z => z)
        have xY3 := kxY.cell x3 (fun z => z)
        have xY4 := kxY.cell x4 (fun z => z)
        have xY5 := kxY.cell x5 (fun z => z)
        clear kxY
        have kxZZ := (((Kept.refl (fun _ => False) wo).alloc (.cells #[.int .i64 0, .int .i64 0, .int .i64 0, .string ⟨#[]⟩, .slice none 0 0, .slice none 0 0] 38)).alloc (.cells #[.int .i64 0, .int .i64 0, .int .i64 0, .string ⟨#[]⟩, .slice none 0 0, .slice none 0 0] 38))
        have xZZ0 := kxZZ.cell x0 (fun z => z)
        have xZZ1 := kxZZ.cell x1 (fun z => z)
        have xZZ2 := kxZZ.cell x2 (fun z => z)
        have xZZ3 := kxZZ.cell x3 (fun z => z)
        have xZZ4 := kxZZ.cell x4 (fun z => z)
        have xZZ5 := kxZZ.cell x5 (fun z => z)
        clear kxZZ
        have kxZY := (((Kept.refl (fun _ => False) wo).alloc (.cells #[.int .i64 0, .int .i64 0, .int .i64 0, .string ⟨#[]⟩, .slice none 0 0, .slice none 0 0] 38)).alloc (.cells #[.int .i64 kind, .int .i64 a, .int .i64 b, .string key, .slice va' vn vc', .slice la' ln lc'] 38))
        have xZY0 := kxZY.cell x0 (fun z => z)
        have xZY1 := kxZY.cell x1 (fun z => z)
        have xZY2 := kxZY.cell x2 (fun z => z)
        have xZY3 := kxZY.cell x3 (fun z => z)
        have xZY4 := kxZY.cell x4 (fun z => z)
        have xZY5 := kxZY.cell x5 (fun z => z)
        clear kxZY
        have kxYZ := (((Kept.refl (fun _ => False) wo).alloc (.cells #[.int .i64 kind, .int .i64 a, .int .i64 b, .string key, .slice va' vn vc', .slice la' ln lc'] 38)).alloc (.cells #[.int .i64 0, .int .i64 0, .int .i64 0, .string ⟨#[]⟩, .slice none 0 0, .slice none 0 0] 38))
        have xYZ0 := kxYZ.cell x0 (fun z => z)
        have xYZ1 := kxYZ.cell x1 (fun z => z)
        have xYZ2 := kxYZ.cell x2 (fun z => z)
        have xYZ3 := kxYZ.cell x3 (fun z => z)
        have xYZ4 := kxYZ.cell x4 (fun z => z)
        have xYZ5 := kxYZ.cell x5 (fun z => z)
        clear kxYZ
        have kyZ := ((Kept.refl (fun _ => False) wo).alloc (.cells #[.int .i64 0, .int .i64 0, .int .i64 0, .string ⟨#[]⟩, .slice none 0 0, .slice none 0 0] 38))
        have yZ0 := kyZ.cell y0 (fun z => z)
        have yZ1 := kyZ.cell y1 (fun z => z)
        have yZ2 := kyZ.cell y2 (fun z => z)
        have yZ3 := kyZ.cell y3 (fun z => z)
        have yZ4 := kyZ.cell y4 (fun z => z)
        have yZ5 := kyZ.cell y5 (fun z => z)
        clear kyZ
        have kyX := ((Kept.refl (fun _ => False) wo).alloc (.cells #[.int .i64 kind, .int .i64 a, .int .i64 b, .string key, .slice va vn vc, .slice la ln lc] 38))
        have yX0 := kyX.cell y0 (fun z => z)
        have yX1 := kyX.cell y1 (fun z => z)
        have yX2 := kyX.cell y2 (fun z => z)
        have yX3 := kyX.cell y3 (fun z => z)
        have yX4 := kyX.cell y4 (fun z => z)
        have yX5 := kyX.cell y5 (fun z => z)
        clear kyX
        have kyZZ := (((Kept.refl (fun _ => False) wo).alloc (.cells #[.int .i64 0, .int .i64 0, .int .i64 0, .string ⟨#[]⟩, .slice none 0 0, .slice none 0 0] 38)).alloc (.cells #[.int .i64 0, .int .i64 0, .int .i64 0, .string ⟨#[]⟩, .slice none 0 0, .slice none 0 0] 38))
        have yZZ0 := kyZZ.cell y0 (fun z => z)
        have yZZ1 := kyZZ.cell y1 (fun z => z)
        have yZZ2 := kyZZ.cell y2 (fun z => z)
        have yZZ3 := kyZZ.cell y3 (fun z => z)
        have yZZ4 := kyZZ.cell y4 (fun z => z)
        have yZZ5 := kyZZ.cell y5 (fun z => z)
        clear kyZZ
        have kyZX := (((Kept.refl (fun _ => False) wo).alloc (.cells #[.int .i64 0, .int .i64 0, .int .i64 0, .string ⟨#[]⟩, .slice none 0 0, .slice none 0 0] 38)).alloc (.cells #[.int .i64 kind, .int .i64 a, .int .i64 b, .string key, .slice va vn vc, .slice la ln lc] 38))
        have yZX0 := kyZX.cell y0 (fun z => z)
        have yZX1 := kyZX.cell y1 (fun z => z)
        have yZX2 := kyZX.cell y2 (fun z => z)
        have yZX3 := kyZX.cell y3 (fun z => z)
        have yZX4 := kyZX.cell y4 (fun z => z)
        have yZX5 := kyZX.cell y5 (fun z => z)
        clear kyZX
        have kyXZ := (((Kept.refl (fun _ => False) wo).alloc (.cells #[.int .i64 kind, .int .i64 a, .int .i64 b, .string key, .slice va vn vc, .slice la ln lc] 38)).alloc (.cells #[.int .i64 0, .int .i64 0, .int .i64 0, .string ⟨#[]⟩, .slice none 0 0, .slice none 0 0] 38))
        have yXZ0 := kyXZ.cell y0 (fun z => z)
        have yXZ1 := kyXZ.cell y1 (fun z => z)
        have yXZ2 := kyXZ.cell y2 (fun z => z)
        have yXZ3 := kyXZ.cell y3 (fun z => z)
        have yXZ4 := kyXZ.cell y4 (fun z => z)
        have yXZ5 := kyXZ.cell y5 (fun z => z)
        clear kyXZ
        go_region
        · go_wp2_with fail
          go_meet
          exact ⟨wo.heap.size, wo.heap.size + 1, rfl, rfl, (((Kept.refl _ _).alloc (.cells #[.int .i64 kind, .int .i64 a, .int .i64 b, .string key, .slice va vn vc, .slice la ln lc] 38)).alloc (.cells #[.int .i64 kind, .int .i64 a, .int .i64 b, .string key, .slice va' vn vc', .slice la' ln lc'] 38)).drew, alloc_old _ (alloc_new wo _), alloc_new2 wo _ _ _⟩
        · go_wp2_with fail
          go_meet
          exact ⟨wo.heap.size + 1, wo.heap.size, rfl, rfl, (((Kept.refl _ _).alloc (.cells #[.int .i64 kind, .int .i64 a, .int .i64 b, .string key, .slice va' vn vc', .slice la' ln lc'] 38)).alloc (.cells #[.int .i64 kind, .int .i64 a, .int .i64 b, .string key, .slice va vn vc, .slice la ln lc] 38)).drew, alloc_new2 wo _ _ _, alloc_old _ (alloc_new wo _)⟩
      case rest =>
        obtain ⟨P, Q, rfl, rfl, S3⟩ := hcut
        clear x0 x1 x2 x3 x4 x5 y0 y1 y2 y3 y4 y5
        have pc0 := cell_blk S3.out.2.1 0 (v := .int .i64 kind) rfl
        have pc1 := cell_blk S3.out.2.1 1 (v := .int .i64 a) rfl
        have pc2 := cell_blk S3.out.2.1 2 (v := .int .i64 b) rfl
        have pc3 := cell_blk S3.out.2.1 3 (v := .string key) rfl
        have pc4 := cell_blk S3.out.2.1 4 (v := .slice va vn vc) rfl
        have pc5 := cell_blk S3.out.2.1 5 (v := .slice la ln lc) rfl
        have qc0 := cell_blk S3.out.2.2 0 (v := .int .i64 kind) rfl
        have qc1 := cell_blk S3.out.2.2 1 (v := .int .i64 a) rfl
        have qc2 := cell_blk S3.out.2.2 2 (v := .int .i64 b) rfl
        have qc3 := cell_blk S3.out.2.2 3 (v := .string key) rfl
        have qc4 := cell_blk S3.out.2.2 4 (v := .slice va' vn vc') rfl
        have qc5 := cell_blk S3.out.2.2 5 (v := .slice la' ln lc') rfl
        go_wp2_with fail
        refine (C1.out _ S3.out.1).mono ?_
        rintro o w5 ⟨rfl, K5⟩
        have S5 : Hid (Kept (fun _ => False) wo w5 ∧ w5.heap[P]? = some (.cells #[.int .i64 kind, .int .i64 a, .int .i64 b, .string key, .slice va vn vc, .slice la ln lc] 38 (0, 0)) ∧ w5.heap[Q]? = some (.cells #[.int .i64 kind, .int .i64 a, .int .i64 b, .string key, .slice va' vn vc', .slice la' ln lc'] 38 (0, 0))) := ⟨S3.out.1.trans K5 (fun _ _ z => z), K5.get S3.out.2.1 (fun z => z), K5.get S3.out.2.2 (fun z => z)⟩
        clear K5 S3 pc0 pc1 pc2 pc3 pc4 pc5 qc0 qc1 qc2 qc3 qc4 qc5
        have pc5 := cell_blk S5.out.2.1 5 (v := .slice la ln lc) rfl
        have qc5 := cell_blk S5.out.2.2 5 (v := .slice la' ln lc') rfl
        go_wp2_with fail
        refine (C2.out _ S5.out.1).mono ?_
        rintro o w6 ⟨rfl, K6⟩
        have S6 : Hid (Kept (fun _ => False) w w6) := (S2.out.trans S5.out.1 (fun _ _ z => z)).trans K6 (fun _ _ z => z)
        clear K6 S5 pc5 qc5
        go_wp2_with fail
        go_roundw
        case rel => exact ⟨i + 1, by go_num, by omega, S6⟩
        case measure => simp [intOf] <;> omega
    · have i1 : ¬ (i : Int) < (k : Int) := by omega
      go_wp2_with fail
      go_ret
      exact ⟨by first | rfl | simp, S2.out⟩
end Go.Proofs.YtonfefhegghapaaDoor
