import Derived.Test.YtbnnmelkbjkkjaaLoadJ
import Derived.Test.YtbnnmelkbjkkjaaFour
import Derived.Lib.SlBytesConst
namespace Go.Proofs.Ytbnnmelkbjkkjaa
open Go.RowKit

theorem DM.kept0 {w0 w w' : World} {base B : Nat} {d d' : DK} (m : DM w w' B d d') (h : IsD base w B d) (hb : w0.heap.size ≤ base) (K : Kept (fun _ => False) w0 w) : Kept (fun _ => False) w0 w' :=
  K.trans m.kept (fun k hk z => by have := h.foot z; omega)
theorem IsS.mono {b b' : Nat} {w : World} {s : SL} (h : IsS b w s) (hb : b' ≤ b) : IsS b' w s := ⟨owns_mono h.own hb, h.bytes, owns_mono h.lown hb, h.good, h.far⟩
theorem IsD.mono {b b' : Nat} {w : World} {B : Nat} {d : DK} (h : IsD b w B d) (hb : b' ≤ b) : IsD b' w B d := ⟨h.blk, Nat.le_trans hb h.low, h.z0.mono hb, h.z1.mono hb, h.u0, h.u1, h.a01, h.a10, h.two⟩
/-- A disk that is known whole. -/
structure HD (w wr : World) (B : Nat) (A : AB) : Prop where
  ex : ∃ d, IsD w.heap.size wr B d ∧ d.ab = A
  kept : Kept (fun _ => False) w wr
  low : w.heap.size ≤ B
theorem HD.quiet {w wr w' : World} {B : Nat} {A : AB} (h : HD w wr B A) (K : Kept (fun _ => False) wr w') : HD w w' B A := by
  obtain ⟨d, h1, h2⟩ := h.ex
  exact ⟨⟨d, h1.kept0 K, h2⟩, h.kept.trans K (fun _ _ z => z), h.low⟩
theorem HD.step {w wr w' : World} {B : Nat} {d d' : DK} (h1 : IsD w.heap.size wr B d) (K : Kept (fun _ => False) w wr) (i : IsD w.heap.size w' B d') (m : DM wr w' B d d') : HD w w' B d'.ab := ⟨⟨d', i, rfl⟩, m.kept0 h1 (Nat.le_refl _) K, i.low⟩
/-- Append on slot 0 or 1 of a living disk. -/
theorem hAppend (w wr : World) (B : Nat) (A : AB) (i : Nat) (hi : i < 2) (a : Option Addr) (n c : Nat) (l : List Nat) (h : HD w wr B A) (hd : A.dead = false) (hN : A.named ≠ 1) (ok : A.Ok) (r : Reads wr a n c l) (hn : n ≤ Lim) (hr : ∀ k, blockOf a = some k → k ≠ B) :
    Calls Try.prog 12 #[.pointer (some ⟨B, 0, none⟩), .int .i64 (i : Int), .slice a n c] wr fun x w' => x = .returned (.int .i64 0) ∧ HD w w' B (A.tick.add i l).counted := by
  obtain ⟨d, h1, rfl⟩ := h.ex
  match i, hi with
  | 0, _ =>
    refine (dAppend_0 w.heap.size B d a n c wr l h1 hd hN ok r hn hr).mono ?_
    rintro x w' ⟨rfl, d', q1, q2, q3⟩
    exact ⟨rfl, by rw [← q3]; exact HD.step h1 h.kept q1 q2⟩
  | 1, _ =>
    refine (dAppend_1 w.heap.size B d a n c wr l h1 hd hN ok r hn hr).mono ?_
    rintro x w' ⟨rfl, d', q1, q2, q3⟩
    exact ⟨rfl, by rw [← q3]; exact HD.step h1 h.kept q1 q2⟩
theorem hSync (w wr : World) (B : Nat) (A : AB) (i : Nat) (hi : i < 2) (h : HD w wr B A) (hd : A.dead = false) (hN : A.named ≠ 1) (ok : A.Ok) :
    Calls Try.prog 19 #[.pointer (some ⟨B, 0, none⟩), .int .i64 (i : Int)] wr fun x w' => x = .returned (.int .i64 0) ∧ HD w w' B (A.tick.sync i).counted := by
  obtain ⟨d, h1, rfl⟩ := h.ex
  match i, hi with
  | 0, _ =>
    refine (dSync_0 w.heap.size B d wr h1 hd hN ok).mono ?_
    rintro x w' ⟨rfl, d', q1, q2, q3⟩
    exact ⟨rfl, by rw [← q3]; exact HD.step h1 h.kept q1 q2⟩
  | 1, _ =>
    refine (dSync_1 w.heap.size B d wr h1 hd hN ok).mono ?_
    rintro x w' ⟨rfl, d', q1, q2, q3⟩
    exact ⟨rfl, by rw [← q3]; exact HD.step h1 h.kept q1 q2⟩
theorem hSwitch (w wr : World) (B : Nat) (A : AB) (i : Nat) (hi : i < 2) (h : HD w wr B A) (hd : A.dead = false) (hN : A.named ≠ 1) (ok : A.Ok) :
    Calls Try.prog 28 #[.pointer (some ⟨B, 0, none⟩), .int .i64 (i : Int)] wr fun x w' => x = .returned (.int .i64 0) ∧ HD w w' B (A.tick.switch i).counted := by
  obtain ⟨d, h1, rfl⟩ := h.ex
  match i, hi with
  | 0, _ =>
    refine (dSwitch_0 w.heap.size B d wr h1 hd hN ok).mono ?_
    rintro x w' ⟨rfl, d', q1, q2, q3⟩
    exact ⟨rfl, by rw [← q3]; exact HD.step h1 h.kept q1 q2⟩
  | 1, _ =>
    refine (dSwitch_1 w.heap.size B d wr h1 hd hN ok).mono ?_
    rintro x w' ⟨rfl, d', q1, q2, q3⟩
    exact ⟨rfl, by rw [← q3]; exact HD.step h1 h.kept q1 q2⟩
def AB.killed (A : AB) : AB := { A with dead := true }
theorem hCrash (w wr : World) (B : Nat) (A : AB) (q : Option Addr) (n c : Nat) (cs : List Int) (h : HD w wr B A) (ok : A.Ok) (r : IRd wr q n c cs) (hq : 0 < n → ∀ k, blockOf q = some k → k ≠ B) :
    Calls Try.prog 14 #[.pointer (some ⟨B, 0, none⟩), .slice q n c] wr fun x w' => ∃ F, x = .returned (.pointer (some ⟨F, 0, none⟩)) ∧ HD w w' B A.killed ∧ HD w w' F (A.crash cs) ∧ wr.heap.size ≤ F ∧ Kept (fun k => k = B) wr w' := by
  obtain ⟨d, h1, rfl⟩ := h.ex
  refine (dCrash w.heap.size B d q n c cs wr h1 ok r hq).mono ?_
  rintro x w' ⟨df, rfl, i1, i2, i3, K, _⟩
  have K0 : Kept (fun _ => False) w w' := h.kept.trans K (fun k hk z => by have z : k = B := z; have := h.low; omega)
  exact ⟨_, rfl, ⟨⟨_, i1, rfl⟩, K0, h.low⟩, ⟨⟨df, i2.mono h.kept.size, i3⟩, K0, h.kept.size⟩, Nat.le_refl _, K⟩
theorem hRead (w wr : World) (B : Nat) (A : AB) (i : Nat) (hi : i < 2) (h : HD w wr B A) (hd : A.dead = false) (ok : A.Ok) :
    Calls Try.prog 15 #[.pointer (some ⟨B, 0, none⟩), .int .i64 (i : Int)] wr fun x w' => ∃ a n c, x = .returned (.tuple #[.slice a n c, .int .i64 0]) ∧ w'.ownsRow wr.heap.size 5 1 (.slice a n c) n (cellsOf (A.now i)) ∧ Kept (fun _ => False) wr w' := by
  obtain ⟨d, h1, rfl⟩ := h.ex
  match i, hi with
  | 0, _ => exact dRead_0 w.heap.size B d wr h1 hd ok
  | 1, _ => exact dRead_1 w.heap.size B d wr h1 hd ok
theorem hNew (w : World) : Calls Try.prog 21 #[] w fun x w' => x = .returned (.pointer (some ⟨w.heap.size, 0, none⟩)) ∧ HD w w' w.heap.size ⟨[], [], [], [], 0, 0, false, 0, false⟩ := by
  refine (dNew w).mono ?_
  rintro x w' ⟨rfl, d, h1, h2, h3, _⟩
  exact ⟨rfl, ⟨d, h1, h2⟩, h3, Nat.le_refl _⟩
theorem conv_two (w : World) (u v : Int) : (convert 22 22 (.slice (some ⟨w.heap.size, 0, none⟩) 2 2)).run Try.prog (w.alloc (.cells #[.int .u8 u, .int .u8 v] 5)) = .ok (.slice (some ⟨w.heap.size, 0, none⟩) 2 2) (w.alloc (.cells #[.int .u8 u, .int .u8 v] 5 (2, 3))) :=
  Go.Lib.run_convert_bytes_const (P := Try.prog) w 22 5 #[.int .u8 u, .int .u8 v] 2 2 Try.underlying22 Try.underlying5
theorem made_two (w : World) (u v : Nat) (hu : u < 256) (hv : v < 256) : Reads (w.alloc (.cells #[.int .u8 (u : Int), .int .u8 (v : Int)] 5 (2, 3))) (some ⟨w.heap.size, 0, none⟩) 2 2 [u, v] := by
  refine ⟨rfl, Nat.le_refl _, by unfold maxLen; omega, fun c hc => by simp at hc; rcases hc with z | z <;> omega, fun _ => ⟨w.heap.size, 0, rfl, fun i hi => ?_⟩⟩
  rw [Nat.zero_add, cell_of_row _ w.heap.size i _ 5 (2, 3) (alloc_new w (.cells #[.int .u8 (u : Int), .int .u8 (v : Int)] 5 (2, 3)))]
  match i, hi with
  | 0, _ => rfl
  | 1, _ => rfl
theorem hDead (w wr : World) (B : Nat) (A : AB) (h : HD w wr B A) : Calls Try.prog 20 #[.pointer (some ⟨B, 0, none⟩)] wr fun x w' => x = .returned (.bool A.dead) ∧ w' = wr := by
  obtain ⟨d, h1, rfl⟩ := h.ex
  exact dDead w.heap.size B d wr h1
theorem hActs (w wr : World) (B : Nat) (A : AB) (h : HD w wr B A) : Calls Try.prog 24 #[.pointer (some ⟨B, 0, none⟩)] wr fun x w' => x = .returned (.int .i64 (A.acts : Int)) ∧ w' = wr := by
  obtain ⟨d, h1, rfl⟩ := h.ex
  exact dActs w.heap.size B d wr h1
theorem hCurrent (w wr : World) (B : Nat) (A : AB) (h : HD w wr B A) : Calls Try.prog 18 #[.pointer (some ⟨B, 0, none⟩)] wr fun x w' => x = .returned (.int .i64 (if A.dead = true then (0 : Int) else (A.cur : Int))) ∧ w' = wr := by
  obtain ⟨d, h1, rfl⟩ := h.ex
  exact dCurrent w.heap.size B d wr h1
theorem hAppend_bad (w wr : World) (B : Nat) (A : AB) (i : Int) (a : Option Addr) (n c : Nat) (h : HD w wr B A) (hl : lookE A i ≠ 0) : Calls Try.prog 12 #[.pointer (some ⟨B, 0, none⟩), .int .i64 i, .slice a n c] wr fun x w' => x = .returned (.int .i64 (lookE A i)) ∧ Kept (fun _ => False) wr w' := by
  obtain ⟨d, h1, rfl⟩ := h.ex
  exact dAppend_bad w.heap.size B d i a n c wr h1 hl
def A1 : AB := ⟨[], [], [], [], 0, 0, false, 0, false⟩
def A2 : AB := ⟨[], [], [], [some [97, 98]], 0, 1, false, 0, false⟩
def A3 : AB := ⟨[], [], [97, 98], [], 0, 2, false, 0, false⟩
def A4 : AB := ⟨[], [], [97, 98], [some [99, 100]], 0, 3, false, 0, false⟩
def A5 : AB := ⟨[], [], [97, 98], [some [99, 100]], 1, 4, false, 0, false⟩
def A6 : AB := ⟨[], [], [97, 98, 99], [], 1, 0, false, 0, false⟩
theorem okA1 : A1.Ok := ⟨by decide, by decide, by decide, by decide, by decide, by decide⟩
theorem okA2 : A2.Ok := ⟨by decide, by decide, by decide, by decide, by decide, by decide⟩
theorem okA3 : A3.Ok := ⟨by decide, by decide, by decide, by decide, by decide, by decide⟩
theorem okA4 : A4.Ok := ⟨by decide, by decide, by decide, by decide, by decide, by decide⟩
theorem okA5 : A5.Ok := ⟨by decide, by decide, by decide, by decide, by decide, by decide⟩
theorem okA6 : A6.Ok := ⟨by decide, by decide, by decide, by decide, by decide, by decide⟩
theorem toA2 : (A1.tick.add 1 [97, 98]).counted = A2 := rfl
theorem toA3 : (A2.tick.sync 1).counted = A3 := rfl
theorem toA4 : (A3.tick.add 1 [99, 100]).counted = A4 := rfl
theorem toA5 : (A4.tick.switch 1).counted = A5 := rfl
theorem toA6 : A5.crash [0, 0, 1] = A6 := by rfl
theorem made_ints (w : World) : IRd (w.alloc (.cells #[.int .i64 0, .int .i64 0, .int .i64 1] 3)) (some ⟨w.heap.size, 0, none⟩) 3 3 [0, 0, 1] := by
  refine ⟨rfl, Nat.le_refl _, by unfold maxLen; omega, fun x hx => ?_, fun _ => ⟨w.heap.size, 0, rfl, fun i x hx => ?_⟩⟩
  · simp at hx; rcases hx with z | z <;> omega
  · have b := alloc_new w (.cells #[.int .i64 0, .int .i64 0, .int .i64 1] 3)
    rw [Nat.zero_add]
    have hlt := (List.getElem?_eq_some_iff.1 hx).1
    simp at hlt
    match i, hlt with
    | 0, _ => simp at hx; subst hx; exact cell_blk b 0 rfl
    | 1, _ => simp at hx; subst hx; exact cell_blk b 1 rfl
    | 2, _ => simp at hx; subst hx; exact cell_blk b 2 rfl
set_option maxRecDepth 100000 in
set_option maxHeartbeats 2000000 in
theorem head (w : World) : Calls Try.prog 11 #[] w fun x w' => x = .returned (.bool true) ∧ Kept (fun _ => False) w w' := by
  go_enter Try.func11, Try.ntmps11
  go_wp2_with fail
  refine (hNew w).mono ?_
  rintro x w1 ⟨rfl, h1⟩
  have X1 : Hid (HD w w1 w.heap.size A1) := h1
  have cv1 := conv_two w1 97 98
  clear h1
  go_wp2_with fail
  have Y1 : Hid (HD w (w1.alloc (.cells #[.int .u8 97, .int .u8 98] 5 (2, 3))) w.heap.size A1) := X1.out.quiet (alloc_kept0 _ _)
  have lt1 : ∀ k, blockOf (some ⟨w1.heap.size, 0, none⟩) = some k → k ≠ w.heap.size := fun k hk z => by
    obtain ⟨d, i1, _⟩ := X1.out.ex
    have := block_lt i1.blk
    simp [blockOf] at hk
    omega
  refine (hAppend w _ w.heap.size A1 1 (by omega) (some ⟨w1.heap.size, 0, none⟩) 2 2 [97, 98] Y1.out rfl (by decide) okA1 (made_two w1 97 98 (by decide) (by decide)) (by decide) lt1).mono ?_
  rintro x w2 ⟨rfl, h2⟩
  have X2 : Hid (HD w w2 w.heap.size A2) := h2
  clear h2 lt1
  go_wp2_with fail
  refine (hSync w w2 w.heap.size A2 1 (by omega) X2.out rfl (by decide) okA2).mono ?_
  rintro x w3 ⟨rfl, h3⟩
  have X3 : Hid (HD w w3 w.heap.size A3) := h3
  have cv3 := conv_two w3 99 100
  clear h3
  go_wp2_with fail
  have Y3 : Hid (HD w (w3.alloc (.cells #[.int .u8 99, .int .u8 100] 5 (2, 3))) w.heap.size A3) := X3.out.quiet (alloc_kept0 _ _)
  have lt3 : ∀ k, blockOf (some ⟨w3.heap.size, 0, none⟩) = some k → k ≠ w.heap.size := fun k hk z => by
    obtain ⟨d, i1, _⟩ := X3.out.ex
    have := block_lt i1.blk
    simp [blockOf] at hk
    omega
  refine (hAppend w _ w.heap.size A3 1 (by omega) (some ⟨w3.heap.size, 0, none⟩) 2 2 [99, 100] Y3.out rfl (by decide) okA3 (made_two w3 99 100 (by decide) (by decide)) (by decide) lt3).mono ?_
  rintro x w4 ⟨rfl, h4⟩
  have X4 : Hid (HD w w4 w.heap.size A4) := h4
  clear h4 lt3
  go_wp2_with fail
  refine (hSwitch w w4 w.heap.size A4 1 (by omega) X4.out rfl (by decide) okA4).mono ?_
  rintro x w5 ⟨rfl, h5⟩
  have X5 : Hid (HD w w5 w.heap.size A5) := h5
  clear h5
  go_wp2_with fail
  have Y5 : Hid (HD w (w5.alloc (.cells #[.int .i64 0, .int .i64 0, .int .i64 1] 3)) w.heap.size A5) := X5.out.quiet (alloc_kept0 _ _)
  have lt5 : ∀ k, blockOf (some ⟨w5.heap.size, 0, none⟩) = some k → k ≠ w.heap.size := fun k hk z => by
    obtain ⟨d, i1, _⟩ := X5.out.ex
    have := block_lt i1.blk
    simp [blockOf] at hk
    omega
  refine (hCrash w _ w.heap.size A5 (some ⟨w5.heap.size, 0, none⟩) 3 3 [0, 0, 1] Y5.out okA5 (made_ints w5) (fun _ => lt5)).mono ?_
  rintro x w6 ⟨F, rfl, h6, c6, _, _⟩
  have X6 : Hid (HD w w6 w.heap.size A5.killed ∧ HD w w6 F A6) := ⟨h6, c6⟩
  clear h6 c6 lt5
  go_wp2_with fail
  refine (hDead w w6 w.heap.size A5.killed X6.out.1).mono ?_
  rintro x w7 ⟨rfl, rfl⟩
  rw [show A5.killed.dead = true from rfl]
  go_wp2_with fail
  refine (hAppend_bad w w7 w.heap.size A5.killed 0 none 0 0 X6.out.1 (by decide)).mono ?_
  rintro x w8 ⟨rfl, K8⟩
  rw [show lookE A5.killed 0 = 60 from rfl]
  have X8 : Hid (HD w w8 F A6) := X6.out.2.quiet K8
  clear K8
  go_wp2_with fail
  refine (hRead w w8 F A6 1 (by omega) X8.out rfl okA6).mono ?_
  rintro x w9 ⟨a9, n9, c9, rfl, o9, K9⟩
  have X9 : Hid (HD w w9 F A6) := X8.out.quiet K9
  have st : (convert 22 9 (.slice a9 n9 c9)).run Try.prog w9 = .ok (.string ⟨#[97, 98, 99]⟩) w9 := by
    obtain ⟨a, c, e, r, _⟩ := owns_reads o9 (show ∀ c ∈ A6.now 1, c < 256 from by decide)
    simp at e
    obtain ⟨rfl, rfl⟩ := e
    exact r.string
  clear o9 K9
  go_wp2_with fail
  refine (hCurrent w w9 F A6 X9.out).mono ?_
  rintro x w10 ⟨rfl, rfl⟩
  rw [show (if A6.dead = true then (0 : Int) else (A6.cur : Int)) = 1 from rfl]
  go_wp2_with fail
  refine (hActs w w10 F A6 X9.out).mono ?_
  rintro x w11 ⟨rfl, rfl⟩
  rw [show ((A6.acts : Nat) : Int) = 0 from rfl]
  go_wp2_with fail
  go_ret
  exact ⟨by first | rfl | decide | simp, X9.out.kept⟩
end Go.Proofs.Ytbnnmelkbjkkjaa
