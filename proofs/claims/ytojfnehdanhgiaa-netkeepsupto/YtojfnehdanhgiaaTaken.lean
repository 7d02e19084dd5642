import Derived.Test.YtojfnehdanhgiaaBundle
namespace Go.Proofs.Ytojfnehdanhgiaa
open Go.RowKit

def tA (d : Nat) : Ent := ⟨⟨2, 1, 1, 0, [1, 2], false⟩, some ⟨d, 0, none⟩, 2, 2⟩
def tB (d : Nat) : Ent := ⟨⟨1, 0, 2, 1, [3], false⟩, some ⟨d, 0, none⟩, 1, 1⟩
/-- What 'taken' has in hand. -/
structure TS (w W : World) (C A B dA dB : Nat) (g : Option Nat) (ps : List Pk) : Prop where
  kept : Kept (fun _ => False) w W
  net : NetOf 67 w.heap.size W C g ps
  boxA : EBox W A (tA dA)
  boxB : EBox W B (tB dB)
  gA : Good w.heap.size W (tA dA)
  gB : Good w.heap.size W (tB dB)
  off : g ≠ some A ∧ g ≠ some B
theorem TS.quiet {w W W' : World} {C A B dA dB : Nat} {g : Option Nat} {ps : List Pk} (s : TS w W C A B dA dB g ps) (K : Kept (fun _ => False) W W') : TS w W' C A B dA dB g ps :=
  ⟨s.kept.trans K (fun _ _ q => q), s.net.kept0 K, s.boxA.kept0 K, s.boxB.kept0 K, s.gA.kept0 K, s.gB.kept0 K, s.off⟩
theorem TS.moved {w W W' : World} {C A B dA dB : Nat} {g g' : Option Nat} {ps ps' : List Pk} (s : TS w W C A B dA dB g ps) (m : Mv W W' C g g') (n : NetOf 67 w.heap.size W' C g' ps') : TS w W' C A B dA dB g' ps' :=
  ⟨m.kept0 s.net (Nat.le_refl _) s.kept, n, m.box s.net s.boxA s.off.1, m.box s.net s.boxB s.off.2, m.good s.net s.gA, m.good s.net s.gB, m.far (Box.lt s.boxA) s.off.1, m.far (Box.lt s.boxB) s.off.2⟩
theorem made_bytes {w : World} {base b : Nat} (hb : base ≤ b) (l : List Nat) (hl : l.length ≤ 66000) (cs : Array Value) (hc : cs = (cellsOf l).toArray) (h : w.heap[b]? = some (.cells cs 5 (0, 0))) : w.ownsRow base 5 1 (.slice (some ⟨b, 0, none⟩) l.length l.length) l.length (cellsOf l) := by
  subst hc
  refine ⟨by rw [cellsOf_length]; omega, .inr ⟨b, l.length, _, rfl, hb, h, Nat.le_refl _, by unfold maxLen; omega, by simp [cellsOf_length], ?_⟩⟩
  rw [List.take_of_length_le (by simp [cellsOf_length])]
theorem TS.start {w w1 : World} (n : NetOf 67 w.heap.size w1 w.heap.size none []) (K : Kept (fun _ => False) w w1) (z : w1.heap.size = w.heap.size + 1) :
    TS w ((((w1.alloc (.cells #[.int .u8 1, .int .u8 2] 5)).alloc (.cells #[.int .i64 2, .int .i64 1, .int .i64 1, .int .i64 0, .slice (some ⟨w1.heap.size, 0, none⟩) 2 2, .bool false] 39)).alloc (.cells #[.int .u8 3] 5)).alloc (.cells #[.int .i64 1, .int .i64 0, .int .i64 2, .int .i64 1, .slice (some ⟨w1.heap.size + 1 + 1, 0, none⟩) 1 1, .bool false] 39))
      w.heap.size (w1.heap.size + 1) (w1.heap.size + 1 + 1 + 1) w1.heap.size (w1.heap.size + 1 + 1) none [] := by
  obtain ⟨a1, h1⟩ : ∃ a1, a1 = w1.alloc (.cells #[.int .u8 1, .int .u8 2] 5) := ⟨_, rfl⟩
  obtain ⟨a2, h2⟩ : ∃ a2, a2 = a1.alloc (.cells #[.int .i64 2, .int .i64 1, .int .i64 1, .int .i64 0, .slice (some ⟨w1.heap.size, 0, none⟩) 2 2, .bool false] 39) := ⟨_, rfl⟩
  obtain ⟨a3, h3⟩ : ∃ a3, a3 = a2.alloc (.cells #[.int .u8 3] 5) := ⟨_, rfl⟩
  obtain ⟨a4, h4⟩ : ∃ a4, a4 = a3.alloc (.cells #[.int .i64 1, .int .i64 0, .int .i64 2, .int .i64 1, .slice (some ⟨w1.heap.size + 1 + 1, 0, none⟩) 1 1, .bool false] 39) := ⟨_, rfl⟩
  rw [← h1, ← h2, ← h3, ← h4]
  have z1 : a1.heap.size = w1.heap.size + 1 := by rw [h1]; exact alloc_size _ _
  have z2 : a2.heap.size = w1.heap.size + 1 + 1 := by rw [h2, alloc_size, z1]
  have z3 : a3.heap.size = w1.heap.size + 1 + 1 + 1 := by rw [h3, alloc_size, z2]
  have b1 : a4.heap[w1.heap.size]? = some (.cells #[.int .u8 1, .int .u8 2] 5 (0, 0)) := by rw [h4]; exact alloc_old _ (by rw [h3]; exact alloc_old _ (by rw [h2]; exact alloc_old _ (by rw [h1]; exact alloc_new _ _)))
  have b2 : a4.heap[w1.heap.size + 1]? = some (.cells #[.int .i64 2, .int .i64 1, .int .i64 1, .int .i64 0, .slice (some ⟨w1.heap.size, 0, none⟩) 2 2, .bool false] 39 (0, 0)) := by rw [h4]; exact alloc_old _ (by rw [h3]; exact alloc_old _ (by rw [h2, ← z1]; exact alloc_new _ _))
  have b3 : a4.heap[w1.heap.size + 1 + 1]? = some (.cells #[.int .u8 3] 5 (0, 0)) := by rw [h4]; exact alloc_old _ (by rw [h3, ← z2]; exact alloc_new _ _)
  have b4 : a4.heap[w1.heap.size + 1 + 1 + 1]? = some (.cells #[.int .i64 1, .int .i64 0, .int .i64 2, .int .i64 1, .slice (some ⟨w1.heap.size + 1 + 1, 0, none⟩) 1 1, .bool false] 39 (0, 0)) := by rw [h4, ← z3]; exact alloc_new _ _
  have K4 : Kept (fun _ => False) w1 a4 := by rw [h4, h3, h2, h1]; exact ((((Kept.refl _ w1).alloc _).alloc _).alloc _).alloc _
  exact ⟨K.trans K4 (fun _ _ q => q), n.kept0 K4, b2, b4, ⟨made_bytes (by omega) [1, 2] (by decide) _ rfl b1, by simp [tA], by simp [tA]⟩, ⟨made_bytes (by omega) [3] (by decide) _ rfl b3, by simp [tB], by simp [tB]⟩, by simp, by simp⟩
theorem two_list {w : World} {b d : Nat} (h : Good b w (tA d)) : IsL 0 (w.alloc (.cells #[.int .i64 2, .int .i64 1, .int .i64 1, .int .i64 0, .slice (some ⟨d, 0, none⟩) 2 2, .bool false, .int .i64 2, .int .i64 1, .int .i64 1, .int .i64 0, .slice (some ⟨d, 0, none⟩) 2 2, .bool false] 39)) (some ⟨w.heap.size, 0, none⟩) 2 2 [tA d, tA d] :=
  ⟨⟨rfl, .inr ⟨w.heap.size, 2, _, rfl, Nat.zero_le _, alloc_new _ _, Nat.le_refl _, by unfold maxLen; omega, rfl, rfl⟩⟩, fun e he => by
    have : e = tA d := by simpa using he
    subst this
    exact (h.mono (Nat.zero_le _)).kept0 (alloc_kept0 _ _)⟩
set_option maxRecDepth 100000 in
set_option maxHeartbeats 2000000 in
theorem taken (w : World) : Calls Try.prog 16 #[] w fun x w' => x = .returned (.bool true) ∧ Kept (fun _ => False) w w' := by
  go_enter Try.func16, Try.ntmps16
  go_wp2_with fail
  refine (nNew w).mono ?_
  rintro x w1 ⟨rfl, hw1⟩
  have n1 : NetOf 67 w.heap.size w1 w.heap.size none [] := by rw [hw1]; exact net_of_new w (Nat.le_refl _) (by decide) (by decide)
  have k1 : Kept (fun _ => False) w w1 := by rw [hw1]; exact alloc_kept0 _ _
  have z1 : w1.heap.size = w.heap.size + 1 := by rw [hw1]; exact alloc_size _ _
  have S0 := TS.start n1 k1 z1
  have S1 : Hid (TS w ((((w1.alloc (.cells #[.int .u8 1, .int .u8 2] 5)).alloc (.cells #[.int .i64 2, .int .i64 1, .int .i64 1, .int .i64 0, .slice (some ⟨w1.heap.size, 0, none⟩) 2 2, .bool false] 39)).alloc (.cells #[.int .u8 3] 5)).alloc (.cells #[.int .i64 1, .int .i64 0, .int .i64 2, .int .i64 1, .slice (some ⟨w1.heap.size + 1 + 1, 0, none⟩) 1 1, .bool false] 39)) w.heap.size (w1.heap.size + 1) (w1.heap.size + 1 + 1 + 1) w1.heap.size (w1.heap.size + 1 + 1) none []) := S0
  clear n1 k1 z1 hw1 S0
  go_wp2_with fail
  refine (send_of w.heap.size w.heap.size none [] _ S1.out.net S1.out.kept.size (by decide) 2 1 1 0 _ 2 2 false [1, 2] S1.out.gA.reads (by decide) (by decide) (by decide)).mono ?_
  rintro x w2 ⟨g2, rfl, n2, m2⟩
  have S2 : Hid (TS w w2 w.heap.size (w1.heap.size + 1) (w1.heap.size + 1 + 1 + 1) w1.heap.size (w1.heap.size + 1 + 1) g2 [⟨2, 1, 1, 0, [1, 2], false⟩]) := S1.out.moved m2 n2
  obtain ⟨e1, e2, e3, e4, e5, e6, _⟩ := cell6 _ _ _ _ _ _ _ _ S2.out.boxB
  simp only [tB] at e1 e2 e3 e4 e5 e6
  clear S1 n2 m2
  go_wp2_with fail
  refine (send_of w.heap.size w.heap.size g2 _ _ S2.out.net S2.out.kept.size (by decide) 1 0 2 1 _ 1 1 false [3] S2.out.gB.reads (by decide) (by decide) (by decide)).mono ?_
  rintro x w3 ⟨g3, rfl, n3, m3⟩
  have S3 : Hid (TS w w3 w.heap.size (w1.heap.size + 1) (w1.heap.size + 1 + 1 + 1) w1.heap.size (w1.heap.size + 1 + 1) g3 [⟨2, 1, 1, 0, [1, 2], false⟩, ⟨1, 0, 2, 1, [3], false⟩]) := S2.out.moved m3 n3
  clear S2 n3 m3 e1 e2 e3 e4 e5 e6
  go_wp2_with fail
  refine (nDouble w.heap.size w.heap.size g3 _ 0 _ S3.out.net S3.out.kept.size (by decide)).mono ?_
  rintro x w4 ⟨v4, rfl, rfl, g4, n4, m4⟩
  have S4 : Hid (TS w w4 w.heap.size (w1.heap.size + 1) (w1.heap.size + 1 + 1 + 1) w1.heap.size (w1.heap.size + 1 + 1) g4 [⟨2, 1, 1, 0, [1, 2], false⟩, ⟨1, 0, 2, 1, [3], false⟩, ⟨2, 1, 1, 0, [1, 2], false⟩]) := S3.out.moved m4 n4
  have a4 : (aDouble [(⟨2, 1, 1, 0, [1, 2], false⟩ : Pk), ⟨1, 0, 2, 1, [3], false⟩] 0).2 = 0 := rfl
  clear S3 n4 m4
  go_wp2_with fail
  refine (take_of w.heap.size w.heap.size g4 _ 1 (by decide) _ S4.out.net).mono ?_
  rintro x w5 ⟨⟨p5, a5, l5, c5⟩, rfl, hp, gd5, n5, m5⟩
  simp at hp
  subst hp
  simp only []
  obtain ⟨W, hW⟩ : ∃ W, W = w5.alloc (.cells #[.int .i64 1, .int .i64 0, .int .i64 2, .int .i64 1, .slice a5 l5 c5, .bool false] 39) := ⟨_, rfl⟩
  have K5 : Kept (fun _ => False) w5 W.drew := by rw [hW]; exact (alloc_kept0 _ _).drew
  have ST : Hid (TS w W.drew w.heap.size (w1.heap.size + 1) (w1.heap.size + 1 + 1 + 1) w1.heap.size (w1.heap.size + 1 + 1) g4 [⟨2, 1, 1, 0, [1, 2], false⟩, ⟨2, 1, 1, 0, [1, 2], false⟩] ∧ EBox W.drew w5.heap.size ⟨⟨1, 0, 2, 1, [3], false⟩, a5, l5, c5⟩ ∧ Good w.heap.size W.drew ⟨⟨1, 0, 2, 1, [3], false⟩, a5, l5, c5⟩) := ⟨(S4.out.moved m5 n5).quiet K5, by rw [hW]; exact alloc_new _ _, gd5.kept0 K5⟩
  have EW : Hid (W = w5.alloc (.cells #[.int .i64 1, .int .i64 0, .int .i64 2, .int .i64 1, .slice a5 l5 c5, .bool false] 39)) := hW
  clear S4 n5 m5 gd5 K5 hW
  go_upto_region 7 with fail
  rw [← EW.out]
  obtain ⟨r1, r2, r3, r4, r5, r6, _⟩ : W.cell? ⟨w1.heap.size + 1, 0, none⟩ = _ ∧ _ := cell6 (w := W) _ _ _ _ _ _ _ ST.out.1.boxA
  obtain ⟨s1, s2, s3, s4, s5, s6, _⟩ : W.cell? ⟨w1.heap.size + 1 + 1 + 1, 0, none⟩ = _ ∧ _ := cell6 (w := W) _ _ _ _ _ _ _ ST.out.1.boxB
  obtain ⟨t1, t2, t3, t4, t5, t6, _⟩ : W.cell? ⟨w5.heap.size, 0, none⟩ = _ ∧ _ := cell6 (w := W) _ _ _ _ _ _ _ ST.out.2.1
  simp only [tA, tB] at r1 r2 r3 r4 r5 r6 s1 s2 s3 s4 s5 s6 t1 t2 t3 t4 t5 t6
  go_region_held3 (fun w' => w'.cell? ⟨w1.heap.size + 1, 0, none⟩ = some (.int .i64 2) ∧ w'.cell? ⟨w1.heap.size + 1, 1, none⟩ = some (.int .i64 1) ∧ w'.cell? ⟨w1.heap.size + 1, 2, none⟩ = some (.int .i64 1) ∧ w'.cell? ⟨w1.heap.size + 1, 3, none⟩ = some (.int .i64 0) ∧ w'.cell? ⟨w1.heap.size + 1, 4, none⟩ = some (.slice (some ⟨w1.heap.size, 0, none⟩) 2 2) ∧ w'.cell? ⟨w1.heap.size + 1, 5, none⟩ = some (.bool false) ∧ w'.cell? ⟨w1.heap.size + 1 + 1 + 1, 0, none⟩ = some (.int .i64 1) ∧ w'.cell? ⟨w1.heap.size + 1 + 1 + 1, 1, none⟩ = some (.int .i64 0) ∧ w'.cell? ⟨w1.heap.size + 1 + 1 + 1, 2, none⟩ = some (.int .i64 2) ∧ w'.cell? ⟨w1.heap.size + 1 + 1 + 1, 3, none⟩ = some (.int .i64 1) ∧ w'.cell? ⟨w1.heap.size + 1 + 1 + 1, 4, none⟩ = some (.slice (some ⟨w1.heap.size + 1 + 1, 0, none⟩) 1 1) ∧ w'.cell? ⟨w1.heap.size + 1 + 1 + 1, 5, none⟩ = some (.bool false) ∧ w'.cell? ⟨w5.heap.size, 0, none⟩ = some (.int .i64 1) ∧ w'.cell? ⟨w5.heap.size, 1, none⟩ = some (.int .i64 0) ∧ w'.cell? ⟨w5.heap.size, 2, none⟩ = some (.int .i64 2) ∧ w'.cell? ⟨w5.heap.size, 3, none⟩ = some (.int .i64 1) ∧ w'.cell? ⟨w5.heap.size, 4, none⟩ = some (.slice a5 l5 c5) ∧ w'.cell? ⟨w5.heap.size, 5, none⟩ = some (.bool false)) (first | go_keep)
    (first
      | (go_at_call 13; refine (samePacket 1 0 2 1 false [3] a5 l5 c5 _ 1 1 _ ST.out.2.2.reads ST.out.1.gB.reads).mono ?_; rintro x w6 ⟨rfl, K6⟩
         have ST6 : Hid (TS w w6 w.heap.size (w1.heap.size + 1) (w1.heap.size + 1 + 1 + 1) w1.heap.size (w1.heap.size + 1 + 1) g4 [⟨2, 1, 1, 0, [1, 2], false⟩, ⟨2, 1, 1, 0, [1, 2], false⟩] ∧ EBox w6 w5.heap.size ⟨⟨1, 0, 2, 1, [3], false⟩, a5, l5, c5⟩) := ⟨ST.out.1.quiet K6, ST.out.2.1.kept0 K6⟩
         clear K6
         obtain ⟨r1, r2, r3, r4, r5, r6, _⟩ := cell6 _ _ _ _ _ _ _ _ ST6.out.1.boxA
         obtain ⟨s1, s2, s3, s4, s5, s6, _⟩ := cell6 _ _ _ _ _ _ _ _ ST6.out.1.boxB
         obtain ⟨t1, t2, t3, t4, t5, t6, _⟩ := cell6 _ _ _ _ _ _ _ _ ST6.out.2
         simp only [tA, tB] at r1 r2 r3 r4 r5 r6 s1 s2 s3 s4 s5 s6 t1 t2 t3 t4 t5 t6)
      | (go_at_call 10; refine (flight_of w.heap.size w.heap.size g4 _ _ ST6.out.1.net (by decide)).mono ?_; rintro x w7 ⟨p7, c7, R7, rfl, hm7, hL7, _, K7⟩
         have ST7 : Hid (TS w w7 w.heap.size (w1.heap.size + 1) (w1.heap.size + 1 + 1 + 1) w1.heap.size (w1.heap.size + 1 + 1) g4 [⟨2, 1, 1, 0, [1, 2], false⟩, ⟨2, 1, 1, 0, [1, 2], false⟩] ∧ EBox w7 w5.heap.size ⟨⟨1, 0, 2, 1, [3], false⟩, a5, l5, c5⟩ ∧ R7.map Ent.p = [⟨2, 1, 1, 0, [1, 2], false⟩, ⟨2, 1, 1, 0, [1, 2], false⟩] ∧ IsL w6.heap.size w7 p7 2 c7 R7) := ⟨ST6.out.1.quiet K7, ST6.out.2.kept0 K7, hm7, hL7⟩
         clear K7 hm7 hL7
         obtain ⟨r1, r2, r3, r4, r5, r6, _⟩ := cell6 _ _ _ _ _ _ _ _ ST7.out.1.boxA
         obtain ⟨s1, s2, s3, s4, s5, s6, _⟩ := cell6 _ _ _ _ _ _ _ _ ST7.out.1.boxB
         obtain ⟨t1, t2, t3, t4, t5, t6, _⟩ := cell6 _ _ _ _ _ _ _ _ ST7.out.2.1
         simp only [tA, tB] at r1 r2 r3 r4 r5 r6 s1 s2 s3 s4 s5 s6 t1 t2 t3 t4 t5 t6)
      | (go_at_call 10; refine (flight_of w.heap.size w.heap.size g4 _ _ (ST6.out.1.quiet (alloc_kept0 _ _)).net (by decide)).mono ?_; rintro x w7 ⟨p7, c7, R7, rfl, hm7, hL7, _, K7⟩
         have LT := (two_list ST6.out.1.gA).kept0 K7
         have K7' : Kept (fun _ => False) w6 w7 := (alloc_kept0 _ _).trans K7 (fun _ _ q => q)
         have ST7L : Hid (IsL 0 w7 (some ⟨w6.heap.size, 0, none⟩) 2 2 [tA w1.heap.size, tA w1.heap.size]) := LT
         have ST7 : Hid (TS w w7 w.heap.size (w1.heap.size + 1) (w1.heap.size + 1 + 1 + 1) w1.heap.size (w1.heap.size + 1 + 1) g4 [⟨2, 1, 1, 0, [1, 2], false⟩, ⟨2, 1, 1, 0, [1, 2], false⟩] ∧ EBox w7 w5.heap.size ⟨⟨1, 0, 2, 1, [3], false⟩, a5, l5, c5⟩ ∧ R7.map Ent.p = [⟨2, 1, 1, 0, [1, 2], false⟩, ⟨2, 1, 1, 0, [1, 2], false⟩] ∧ IsL (w6.heap.size + 1) w7 p7 2 c7 R7) := ⟨ST6.out.1.quiet K7', ST6.out.2.kept0 K7', hm7, by have := hL7; rw [alloc_size] at this; exact this⟩
         clear K7 hm7 hL7 LT K7'
         obtain ⟨r1, r2, r3, r4, r5, r6, _⟩ := cell6 _ _ _ _ _ _ _ _ ST7.out.1.boxA
         obtain ⟨s1, s2, s3, s4, s5, s6, _⟩ := cell6 _ _ _ _ _ _ _ _ ST7.out.1.boxB
         obtain ⟨t1, t2, t3, t4, t5, t6, _⟩ := cell6 _ _ _ _ _ _ _ _ ST7.out.2.1
         simp only [tA, tB] at r1 r2 r3 r4 r5 r6 s1 s2 s3 s4 s5 s6 t1 t2 t3 t4 t5 t6)
      | (go_at_call 14; refine (same (w6.heap.size + 1) 0 p7 (some ⟨w6.heap.size, 0, none⟩) 2 c7 2 R7 [tA w1.heap.size, tA w1.heap.size] _ ST7.out.2.2.2 ST7L.out ST7.out.2.2.1).mono ?_; rintro x w8 ⟨rfl, K8⟩
         have K78 : Kept (fun _ => False) w7 w8 := K8
         have ST8 : Hid (TS w w8 w.heap.size (w1.heap.size + 1) (w1.heap.size + 1 + 1 + 1) w1.heap.size (w1.heap.size + 1 + 1) g4 [⟨2, 1, 1, 0, [1, 2], false⟩, ⟨2, 1, 1, 0, [1, 2], false⟩] ∧ EBox w8 w5.heap.size ⟨⟨1, 0, 2, 1, [3], false⟩, a5, l5, c5⟩) := ⟨ST7.out.1.quiet K78, ST7.out.2.1.kept0 K78⟩
         clear K8 K78
         obtain ⟨r1, r2, r3, r4, r5, r6, _⟩ := cell6 _ _ _ _ _ _ _ _ ST8.out.1.boxA
         obtain ⟨s1, s2, s3, s4, s5, s6, _⟩ := cell6 _ _ _ _ _ _ _ _ ST8.out.1.boxB
         obtain ⟨t1, t2, t3, t4, t5, t6, _⟩ := cell6 _ _ _ _ _ _ _ _ ST8.out.2
         simp only [tA, tB] at r1 r2 r3 r4 r5 r6 s1 s2 s3 s4 s5 s6 t1 t2 t3 t4 t5 t6)
      | (go_at_call 14; refine (same w6.heap.size 0 p7 (some ⟨w7.heap.size, 0, none⟩) 2 c7 2 R7 [tA w1.heap.size, tA w1.heap.size] _ (ST7.out.2.2.2.kept0 (alloc_kept0 _ _)) (two_list ST7.out.1.gA) ST7.out.2.2.1).mono ?_; rintro x w8 ⟨rfl, K8⟩
         have K78 : Kept (fun _ => False) w7 w8 := (alloc_kept0 _ _).trans K8 (fun _ _ q => q)
         have ST8 : Hid (TS w w8 w.heap.size (w1.heap.size + 1) (w1.heap.size + 1 + 1 + 1) w1.heap.size (w1.heap.size + 1 + 1) g4 [⟨2, 1, 1, 0, [1, 2], false⟩, ⟨2, 1, 1, 0, [1, 2], false⟩] ∧ EBox w8 w5.heap.size ⟨⟨1, 0, 2, 1, [3], false⟩, a5, l5, c5⟩) := ⟨ST7.out.1.quiet K78, ST7.out.2.1.kept0 K78⟩
         clear K8 K78
         obtain ⟨r1, r2, r3, r4, r5, r6, _⟩ := cell6 _ _ _ _ _ _ _ _ ST8.out.1.boxA
         obtain ⟨s1, s2, s3, s4, s5, s6, _⟩ := cell6 _ _ _ _ _ _ _ _ ST8.out.1.boxB
         obtain ⟨t1, t2, t3, t4, t5, t6, _⟩ := cell6 _ _ _ _ _ _ _ _ ST8.out.2
         simp only [tA, tB] at r1 r2 r3 r4 r5 r6 s1 s2 s3 s4 s5 s6 t1 t2 t3 t4 t5 t6)
      | fail)
  all_goals (go_wp2_with fail; go_ret)
  all_goals exact ⟨rfl, ST8.out.1.kept⟩
end Go.Proofs.Ytojfnehdanhgiaa
