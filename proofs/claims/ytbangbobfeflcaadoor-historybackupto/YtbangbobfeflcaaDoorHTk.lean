import Derived.Test.YtbangbobfeflcaaDoorHPs
import Derived.Test.YtbangbobfeflcaaDoorHClJ
namespace Go.Proofs.YtbangbobfeflcaaDoor
open Go.RowKit 

theorem evs_chk (p1 p4 : Option Addr) (c1 c4 : Nat) : chkE (evs p1 p4 c1 c4) noM 0 = (-1, 0) := by kernel_rfl
theorem evs_calls (p1 p4 : Option Addr) (c1 c4 : Nat) : callsE (evs p1 p4 c1 c4) = [some ⟨1, 1, true, ⟨#[107]⟩, [120], 77, 0, -1, true, 1, 1⟩, some ⟨2, 1, false, ⟨#[107]⟩, [120], 0, 1, 3, false, 1, 1⟩] := by kernel_rfl
theorem two_of {L : List Ca} {a b : Cc} (h : L.map (fun x => some x.cc) = [some a, some b]) : ∃ x y, L = [x, y] ∧ x.cc = a ∧ y.cc = b := by
  match L, h with
  | [x, y], h =>
    simp at h
    exact ⟨x, y, rfl, h.1, h.2⟩
theorem PS.rd {w wr : World} {p : Option Addr} {c : Nat} {p1 p4 : Option Addr} {c1 c4 : Nat} (h : PS w wr p 4 c (evs p1 p4 c1 c4)) : ERd wr p 4 c (evs p1 p4 c1 c4) := h.row.erd (fun e he => reads_own (h.val e he) (fun x hx => by
  unfold evs at he
  simp at he
  rcases he with rfl | rfl | rfl | rfl <;> simp at hx <;> omega))
set_option maxRecDepth 100000 in
set_option maxHeartbeats 4000000 in
theorem hTaken (w : World) (G : Glob w) : Calls Tryd.prog 5 #[] w fun o w' => o = .returned (.bool true) ∧ Kept (fun _ => False) w w' := by
  have C7 : Hid (Calls Tryd.prog 7 #[.string rst0] w (RetPs w)) := hParse w G
  unfold rst0 at C7
  clear G
  go_enter Tryd.func5, Tryd.ntmps5
  go_wp2_with fail
  refine C7.out.mono ?_
  rintro o w1 ⟨p, c, p1, p4, c1, c4, rfl, S'⟩
  have S : Hid (PS w w1 p 4 c (evs p1 p4 c1 c4)) := S'
  clear S' C7
  have C11 : Hid (Calls Tryd.prog 11 #[.slice p 4 c] w1 (RetK (ClQ w1 (evs p1 p4 c1 c4)))) := hCalls S.out.rd (by omega) (fun e he => by
    unfold evs at he
    simp at he
    unfold KI
    rcases he with rfl | rfl | rfl | rfl <;> simp) (fun e he => by
    unfold evs at he
    simp at he
    rcases he with rfl | rfl | rfl | rfl <;> simp)
  go_wp2_with fail
  refine C11.out.mono ?_
  rintro o w2 ⟨q, k, d, e, rfl, Q⟩
  have K2 : Hid (Kept (fun _ => False) w w2) := S.out.kept.trans Q.kept (fun _ _ z => z)
  obtain ⟨L, KA, hL⟩ := Q.ans
  have e0 : e = 0 := by
    rcases hL with ⟨z, _, a, ha⟩ | ⟨z, _⟩
    · rw [evs_chk] at ha
      exact absurd (congrArg Prod.snd ha).symm z
    · exact z
  subst e0
  have hL2 : L.map (fun x => some x.cc) = callsE (evs p1 p4 c1 c4) := by
    rcases hL with ⟨z, _⟩ | ⟨_, _, z⟩
    · exact absurd rfl z
    · exact z
  have tb := told_bytes S.out.rd hL2
  rw [evs_calls] at hL2
  obtain ⟨x, y, rfl, hx, hy⟩ := two_of hL2
  have hk : k = 2 := KA.len.symm
  subst hk
  obtain ⟨b8, off8, x', e8, hx', a0, a1, a2, a3, a4, a5, a6, a7, a8, a9, a10, rx⟩ := (KA.crd tb).at (i := 0) (by omega)
  obtain ⟨b9, off9, y', e9, hy', d0, d1, d2, d3, d4, d5, d6, d7, d8, d9, d10, ry⟩ := (KA.crd tb).at (i := 1) (by omega)
  have ex : x = x' := by simpa using hx'
  have ey : y = y' := by simpa using hy'
  subst ex
  subst ey
  rw [e8] at e9
  simp at e9
  obtain ⟨rfl, rfl⟩ := e9
  subst e8
  obtain ⟨x1, x2, x3, x4, xa, xn, xc, x5, x6, x7, x8, x9, x10, xv⟩ := x
  obtain ⟨y1, y2, y3, y4, ya, yn, yc, y5, y6, y7, y8, y9, y10, yv⟩ := y
  unfold Ca.cc at hx hy
  simp at hx hy
  obtain ⟨rfl, rfl, rfl, rfl, rfl, rfl, rfl, rfl, rfl, rfl, rfl⟩ := hx
  obtain ⟨rfl, rfl, rfl, rfl, rfl, rfl, rfl, rfl, rfl, rfl, rfl⟩ := hy
  have XX : Hid (Reads w2 ya yn yc [120]) := ry
  clear rx ry hx' hy' hL hL2 tb KA Q C11
  simp only [Nat.zero_mul, Nat.add_zero, Nat.one_mul] at a0 a1 a2 a3 a4 a5 a6 a7 a8 a9 a10 d0 d1 d2 d3 d4 d5 d6 d7 d8 d9 d10
  have W6K : Hid (Kept (fun _ => False) w2 (w2.alloc (.cells #[.int .i64 1, .int .i64 1, .bool true, .string ⟨#[107]⟩, .slice xa xn xc, .int .i64 77, .int .i64 0, .int .i64 (-1), .bool true, .int .i64 1, .int .i64 1] 48))) := (Kept.refl _ _).alloc _
  have f0 := W6K.out.cell d0 (fun z => z)
  have f1 := W6K.out.cell d1 (fun z => z)
  have f2 := W6K.out.cell d2 (fun z => z)
  have f3 := W6K.out.cell d3 (fun z => z)
  have f4 := W6K.out.cell d4 (fun z => z)
  have f5 := W6K.out.cell d5 (fun z => z)
  have f6 := W6K.out.cell d6 (fun z => z)
  have f7 := W6K.out.cell d7 (fun z => z)
  have f8 := W6K.out.cell d8 (fun z => z)
  have f9 := W6K.out.cell d9 (fun z => z)
  have f10 := W6K.out.cell d10 (fun z => z)
  obtain ⟨W6, hW6⟩ : ∃ W6, W6 = w2.alloc (.cells #[.int .i64 1, .int .i64 1, .bool true, .string ⟨#[107]⟩, .slice xa xn xc, .int .i64 77, .int .i64 0, .int .i64 (-1), .bool true, .int .i64 1, .int .i64 1] 48) := ⟨_, rfl⟩
  obtain ⟨B6, hB6⟩ : ∃ B6, B6 = w2.heap.size := ⟨_, rfl⟩
  have X6 : Hid (W6.heap[B6]? = some (.cells #[.int .i64 1, .int .i64 1, .bool true, .string ⟨#[107]⟩, .slice xa xn xc, .int .i64 77, .int .i64 0, .int .i64 (-1), .bool true, .int .i64 1, .int .i64 1] 48 (0, 0)) ∧ Kept (fun _ => False) w2 W6) := ⟨by rw [hW6, hB6]; exact alloc_new _ _, by rw [hW6]; exact W6K.out⟩
  have E6 : Hid (W6 = w2.alloc (.cells #[.int .i64 1, .int .i64 1, .bool true, .string ⟨#[107]⟩, .slice xa xn xc, .int .i64 77, .int .i64 0, .int .i64 (-1), .bool true, .int .i64 1, .int .i64 1] 48) ∧ B6 = w2.heap.size) := ⟨hW6, hB6⟩
  rw [← hW6] at f0 f1 f2 f3 f4 f5 f6 f7 f8 f9 f10
  obtain ⟨W7, hW7⟩ : ∃ W7, W7 = W6.alloc (.cells #[.int .i64 2, .int .i64 1, .bool false, .string ⟨#[107]⟩, .slice ya yn yc, .int .i64 0, .int .i64 1, .int .i64 3, .bool false, .int .i64 1, .int .i64 1] 48) := ⟨_, rfl⟩
  obtain ⟨B7, hB7⟩ : ∃ B7, B7 = W6.heap.size := ⟨_, rfl⟩
  have X7 : Hid (W7.heap[B7]? = some (.cells #[.int .i64 2, .int .i64 1, .bool false, .string ⟨#[107]⟩, .slice ya yn yc, .int .i64 0, .int .i64 1, .int .i64 3, .bool false, .int .i64 1, .int .i64 1] 48 (0, 0)) ∧ W7.heap[B6]? = some (.cells #[.int .i64 1, .int .i64 1, .bool true, .string ⟨#[107]⟩, .slice xa xn xc, .int .i64 77, .int .i64 0, .int .i64 (-1), .bool true, .int .i64 1, .int .i64 1] 48 (0, 0)) ∧ Kept (fun _ => False) w2 W7) := ⟨by rw [hW7, hB7]; exact alloc_new _ _, by rw [hW7]; exact alloc_old _ X6.out.1, by rw [hW7]; exact X6.out.2.alloc _⟩
  have E7 : Hid (W7 = W6.alloc (.cells #[.int .i64 2, .int .i64 1, .bool false, .string ⟨#[107]⟩, .slice ya yn yc, .int .i64 0, .int .i64 1, .int .i64 3, .bool false, .int .i64 1, .int .i64 1] 48) ∧ B7 = W6.heap.size) := ⟨hW7, hB7⟩
  clear hW6 hB6 hW7 hB7 W6K d0 d1 d2 d3 d4 d5 d6 d7 d8 d9 d10
  go_upto_region 9 with fail
  rw [← E6.out.1, ← E6.out.2]
  clear a0 a1 a2 a3 a4 a5 a6 a7 a8 a9 a10
  go_upto_region 10 with fail
  rw [← E7.out.1, ← E7.out.2]
  clear f0 f1 f2 f3 f4 f5 f6 f7 f8 f9 f10
  have a0 := cell_blk X7.out.2.1 0 (v := .int .i64 1) rfl
  have d0 := cell_blk X7.out.1 0 (v := .int .i64 2) rfl
  have a1 := cell_blk X7.out.2.1 1 (v := .int .i64 1) rfl
  have d1 := cell_blk X7.out.1 1 (v := .int .i64 1) rfl
  have a2 := cell_blk X7.out.2.1 2 (v := .bool true) rfl
  have d2 := cell_blk X7.out.1 2 (v := .bool false) rfl
  have a3 := cell_blk X7.out.2.1 3 (v := .string ⟨#[107]⟩) rfl
  have d3 := cell_blk X7.out.1 3 (v := .string ⟨#[107]⟩) rfl
  have a4 := cell_blk X7.out.2.1 4 (v := .slice xa xn xc) rfl
  have d4 := cell_blk X7.out.1 4 (v := .slice ya yn yc) rfl
  have a5 := cell_blk X7.out.2.1 5 (v := .int .i64 77) rfl
  have d5 := cell_blk X7.out.1 5 (v := .int .i64 0) rfl
  have a6 := cell_blk X7.out.2.1 6 (v := .int .i64 0) rfl
  have d6 := cell_blk X7.out.1 6 (v := .int .i64 1) rfl
  have a7 := cell_blk X7.out.2.1 7 (v := .int .i64 (-1)) rfl
  have d7 := cell_blk X7.out.1 7 (v := .int .i64 3) rfl
  have a8 := cell_blk X7.out.2.1 8 (v := .bool true) rfl
  have d8 := cell_blk X7.out.1 8 (v := .bool false) rfl
  have a9 := cell_blk X7.out.2.1 9 (v := .int .i64 1) rfl
  have d9 := cell_blk X7.out.1 9 (v := .int .i64 1) rfl
  have a10 := cell_blk X7.out.2.1 10 (v := .int .i64 1) rfl
  have d10 := cell_blk X7.out.1 10 (v := .int .i64 1) rfl
  have cv : (convert 41 9 (.slice ya yn yc)).run Tryd.prog W7 = .ok (.string ⟨#[120]⟩) W7 := (XX.out.kept X7.out.2.2 (fun _ _ z => z)).string
  have F : Hid (Kept (fun _ => False) w W7) := K2.out.trans X7.out.2.2 (fun _ _ z => z)
  clear XX X6 X7 E6 E7 K2 S
  go_wp2_with fail
  go_ret
  exact ⟨by first | rfl | simp, F.out⟩
end Go.Proofs.YtbangbobfeflcaaDoor
