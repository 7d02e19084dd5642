import Derived.Test.YthcnpijgfhinhaaPlays2
namespace Go.Proofs.Ythcnpijgfhinhaa
open Go.RowKit

/-- The script reads as steps. -/
structure PReads (w : World) (a : Option Addr) (len cap : Nat) : Prop where
  room : len ≤ cap
  small : cap ≤ maxLen
  cells : 0 < len → ∃ b off, a = some ⟨b, off, none⟩ ∧ ∀ i, i < len → ∃ k N K D I J x : Int, w.cell? ⟨b, off + i * 7, none⟩ = some (.int .i64 k) ∧ w.cell? ⟨b, off + i * 7 + 1, none⟩ = some (.int .i64 N) ∧ w.cell? ⟨b, off + i * 7 + 2, none⟩ = some (.int .i64 K) ∧ w.cell? ⟨b, off + i * 7 + 3, none⟩ = some (.int .i64 D) ∧ w.cell? ⟨b, off + i * 7 + 4, none⟩ = some (.int .i64 I) ∧ w.cell? ⟨b, off + i * 7 + 5, none⟩ = some (.int .i64 J) ∧ w.cell? ⟨b, off + i * 7 + 6, none⟩ = some (.int .i64 x)
theorem Left.by {w wr w' : World} {B n : Nat} (h : Left w B n wr) (b : Below wr.heap.size wr w') : Left w B n w' := by
  obtain ⟨m, f, aS, cS, aR, cR, hm, h⟩ := h
  exact ⟨m, f, aS, cS, aR, cR, hm, h.by b⟩
theorem Left.bel {w wr : World} {B n : Nat} (h : Left w B n wr) : Below w.heap.size w wr := by
  obtain ⟨m, f, aS, cS, aR, cR, hm, h⟩ := h
  exact h.bel
def noEnt : Ent := ⟨0, 0, 0, 0, 0, none, 0, []⟩
theorem Left.start (w : World) : Left w w.heap.size 0 (w.alloc (Obj.cells #[.slice none 0 0, .slice none 0 0] 49)) :=
  ⟨0, fun _ => noEnt, none, 0, none, 0, Nat.le_refl _, heap_alloc_new _ _, Row.nil _ _, Row.nil _ _, fun i hi => absurd hi (by omega), fun i j hi => absurd hi (by omega), fun i hi => absurd hi (by omega), Nat.le_refl _, fun g e => by simp [blockOf] at e, fun g e => by simp [blockOf] at e, (Below.refl _ _).alloc (Nat.le_refl _) _⟩
set_option maxRecDepth 100000 in
set_option maxHeartbeats 4000000 in
theorem quorumPlays (a : Option Addr) (len cap : Nat) (w : World) (r : PReads w a len cap) (hb : (len + 1) * 8 ≤ 140737488355328) (hn : len ≤ 4611686018427387000) :
    Calls Try.prog 6 #[.slice a len cap] w fun o w' => o = .returned (.bool true) ∧ Below w.heap.size w w' := by
  have HB : Hid ((len + 1) * 8 ≤ 140737488355328 ∧ len ≤ 4611686018427387000) := ⟨hb, hn⟩
  have hr := r.room
  have hs := r.small
  unfold maxLen at hs
  have R : Hid (PReads w a len cap) := r
  have L0 : Hid (Left w w.heap.size 0 (w.alloc (Obj.cells #[.slice none 0 0, .slice none 0 0] 49))) := Left.start w
  clear hb hn r
  obtain ⟨B, hB⟩ : ∃ B, w.heap.size = B := ⟨_, rfl⟩
  have HBB : Hid (w.heap.size = B) := hB
  rw [hB] at L0
  go_enter Try.func6, Try.ntmps6
  go_wp2_with fail
  clear hB
  go_loopw [5, 11] (fun _ x wr => ∃ i : Nat, x = .int .i64 (i : Int) ∧ i ≤ len ∧ Hid (Left w B i wr)) (fun _ x _ => len - (intOf x).toNat)
  case atStart => exact ⟨0, rfl, Nat.zero_le _, L0⟩
  case round =>
    obtain ⟨i, rfl, hi, F⟩ := hrel
    clear L0
    by_cases hlt : i < len
    · obtain ⟨b, off, rfl, hc⟩ := R.out.cells (by omega)
      obtain ⟨k, N, K, D, I, J, x, e0, e1, e2, e3, e4, e5, e6⟩ := hc i hlt
      have lb : b < w.heap.size := World.block_lt_of_cell? w _ e0
      have d0 := (F.out.bel.cell lb).trans e0
      have d1 := (F.out.bel.cell lb).trans e1
      have d2 := (F.out.bel.cell lb).trans e2
      have d3 := (F.out.bel.cell lb).trans e3
      have d4 := (F.out.bel.cell lb).trans e4
      have d5 := (F.out.bel.cell lb).trans e5
      have d6 := (F.out.bel.cell lb).trans e6
      have i1 : (i : Int) < (len : Int) := by omega
      have F1 : Hid (Left w B i (wr.alloc (Obj.cells #[.int .i64 k, .int .i64 N, .int .i64 K, .int .i64 D, .int .i64 I, .int .i64 J, .int .i64 x] 51))) := F.out.by ((Below.refl _ _).alloc (Nat.le_refl _) _)
      have n1 : Hid (i ≤ 4611686018427387000 ∧ (i + 1) * 8 ≤ 140737488355328) := ⟨Nat.le_trans hi HB.out.2, Nat.le_trans (Nat.mul_le_mul_right 8 (Nat.succ_le_succ hi)) HB.out.1⟩
      clear hc e0 e1 e2 e3 e4 e5 e6 lb F
      go_wp2_with fail
      refine (plays F1.out k N K D I J x n1.out.1 n1.out.2).mono ?_
      rintro o w2 ⟨rfl, L2⟩
      have L3 : Hid (Left w B (i + 1) w2) := L2
      clear L2 F1 d0 d1 d2 d3 d4 d5 d6
      go_wp2_with fail
      go_roundw
      case rel => exact ⟨i + 1, by go_num, by omega, L3⟩
      case measure => simp [intOf]; omega
    · obtain ⟨m, f, aS, cS, aR, cR, hm, h⟩ := F.out
      have K0 : Hid (Bk w wr B m f aS cS aR cR) := h
      obtain ⟨c0, c1, _, _⟩ := h.cells
      have ms := h.rs.room
      have mr := h.rr.room
      have hml : m ≤ len := Nat.le_trans hm hi
      have hcs := h.rs.small
      clear h F hm hi
      unfold maxLen at hcs
      go_wp2_with fail
      clear c0 c1
      go_loopw [6, 25] (fun _ x wr => ∃ j : Nat, x = .int .i64 (j : Int) ∧ j ≤ m ∧ Hid (Bk w wr B m f aS cS aR cR)) (fun _ x _ => m - (intOf x).toNat)
      case atStart => exact ⟨0, rfl, Nat.zero_le _, K0⟩
      case round =>
        obtain ⟨j, rfl, hj, G⟩ := hrel
        clear K0
        by_cases hlt2 : j < m
        · obtain ⟨c0, c1, _, _⟩ := G.out.cells
          obtain ⟨g, rfl⟩ := G.out.rs.some_of (by omega)
          obtain ⟨g2, rfl⟩ := G.out.rr.some_of (by omega)
          have d0 := G.out.rs.cell j _ (rowB_at m f j hlt2)
          have d1 := G.out.rr.cell j _ (rowR_at m f j hlt2)
          unfold ptrB at d0
          unfold ptrR at d1
          have j1 : (j : Int) < (m : Int) := by omega
          have ST : Hid (Bk w wr.drew B m f (some ⟨g, 0, none⟩) cS (some ⟨g2, 0, none⟩) cR) := G.out.by ((Below.refl _ _).drew)
          clear G
          go_upto_region 11 with fail
          go_region_held3 (fun w' => w'.cell? ⟨B, 0, none⟩ = some (.slice (some ⟨g, 0, none⟩) m cS) ∧ w'.cell? ⟨B, 1, none⟩ = some (.slice (some ⟨g2, 0, none⟩) m cR) ∧ w'.cell? ⟨g, j, none⟩ = some (.pointer (some ⟨(f j).b, 0, none⟩)) ∧ w'.cell? ⟨g2, j, none⟩ = some (.pointer (some ⟨(f j).r, 0, none⟩))) (go_keep)
            (first | (go_at_call 29; refine (same_some _ _ _ _ _ _ _ (tells_of (ST.out.ent j hlt2).s (ST.out.ent j hlt2).f)).mono ?_; rintro o w2 ⟨rfl, B2⟩; have ST2 := ST.out.by B2; clear ST; have ST : Hid (Bk _ _ _ _ _ _ _ _ _) := ST2; obtain ⟨q0, q1, _, _⟩ := ST2.cells; have q2 := ST2.rs.cell j _ (rowB_at m f j hlt2); have q3 := ST2.rr.cell j _ (rowR_at m f j hlt2); unfold ptrB at q2; unfold ptrR at q3; clear ST2 B2) | fail)
          all_goals go_wp2_with fail
          all_goals go_roundw
          case rel => exact ⟨j + 1, by go_num, by omega, ST⟩
          case measure => simp [intOf]; omega
        · go_wp2_with fail
          refine (taken _).mono ?_
          rintro o w3 ⟨rfl, b3⟩
          have E : Hid (Below w.heap.size w w3) := G.out.bel.trans (b3.mono G.out.bel.size)
          clear b3 G
          go_wp2_with fail
          go_ret
          exact ⟨rfl, E.out⟩
end Go.Proofs.Ythcnpijgfhinhaa
