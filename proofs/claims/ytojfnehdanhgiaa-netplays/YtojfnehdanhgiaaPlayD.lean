import Derived.Test.YtojfnehdanhgiaaPlayC
namespace Go.Proofs.Ytojfnehdanhgiaa
open Go.RowKit

set_option maxRecDepth 100000 in
set_option maxHeartbeats 1000000 in
theorem plays1 (base : Nat) (w : World) (vn vr : Value) (sn sr : Option (Nat × Option Nat)) (ps : List Pk) (o : Opv) (h : Pair base w vn vr sn sr ps) (hb : ps.length + 1 ≤ Big) (hk : o.kd = 1) :
    Calls Try.prog 23 #[vn, vr, .agg #[.int .i64 o.kd, .int .i64 o.nt, .int .i64 o.fk, .int .i64 o.fi, .int .i64 o.tk, .int .i64 o.ti, .slice o.a o.dl o.dc, .bool o.lost, .int .i64 o.i, .int .i64 o.n, .int .u32 (o.pat : Int)]] w fun x w' => x = .returned (.bool true) ∧ PDid base w vn vr sn sr ps w' := by
  have HH : Hid (Pair base w vn vr sn sr ps ∧ ps.length + 1 ≤ Big) := ⟨h, hb⟩
  have BX : Hid (∀ w', Kept (fun k => FP sn k ∨ FP sr k) (w.alloc (.cells o.cs 58)) w' → w'.cell? ⟨w.heap.size, 8, none⟩ = some (.int .i64 o.i)) := fun w' K => cell_blk (box_stays h o w' K) 8 rfl
  obtain ⟨r, hr⟩ : ∃ r, r = aDrop ps o.i := ⟨_, rfl⟩
  obtain ⟨an, han⟩ : ∃ an, ansOf sn r = an := ⟨_, rfl⟩
  have han2 : ansOf sr r = an := by rw [← han]; exact (ansOf_eq h.both r).symm
  have HA : Hid (ansOf sn r = an ∧ ansOf sr r = an ∧ r = aDrop ps o.i ∧ psOf sn r ps = psOf sr r ps ∧ (psOf sn r ps).length ≤ ps.length + 1 ∧ aTake sn ps o.i = aTake sr ps o.i) := ⟨han, han2, hr, psOf_eq h.both r ps, by rw [hr]; exact psOf_len _ _ _ (aDrop_len _ _), by unfold aTake; rw [h.both]⟩
  have ST0 : Hid (ST base (w.alloc (.cells o.cs 58)) (w.alloc (.cells o.cs 58)) vn vr sn sr sn sr ps ps) := h.start (alloc_kept0 w _)
  have d8 := BX.out (w.alloc (.cells o.cs 58)) (Kept.refl _ _)
  obtain ⟨W, hW⟩ : ∃ W, W = w.alloc (.cells o.cs 58) := ⟨_, rfl⟩
  rw [← hW] at ST0 BX d8
  have EW : Hid (W = w.alloc (.cells #[.int .i64 1, .int .i64 o.nt, .int .i64 o.fk, .int .i64 o.fi, .int .i64 o.tk, .int .i64 o.ti, .slice o.a o.dl o.dc, .bool o.lost, .int .i64 o.i, .int .i64 o.n, .int .u32 (o.pat : Int)] 58)) := by show W = _; rw [hW, Opv.cs, hk]
  clear h hb hr han han2 hW
  go_enter Try.func23, Try.ntmps23
  go_wp2_with fail
  rw [← EW.out]
  refine (side_take71 o.i ST0.out.ref ST0.out.base (Nat.le_of_succ_le HH.out.2)).mono ?_
  rintro x w2 ⟨e2, s2, rfl, hp2, g2, n2, m2⟩
  rw [← HA.out.2.2.1, HA.out.2.1]
  rw [← HA.out.2.2.1] at n2
  obtain ⟨W2, hW2⟩ : ∃ W2, W2 = w2.alloc (.cells #[.int .i64 e2.p.fk, .int .i64 e2.p.fi, .int .i64 e2.p.tk, .int .i64 e2.p.ti, .slice e2.a e2.len e2.cap, .bool e2.p.lost] 39) := ⟨_, rfl⟩
  have K2 : Kept (fun _ => False) w2 W2 := by rw [hW2]; exact alloc_kept0 _ _
  have ST2 : Hid (ST base W W2 vn vr sn sr sn s2 ps (psOf sr r ps) ∧ Good 0 W2 e2 ∧ e2.p = aTake sr ps o.i ∧ EBox W2 w2.heap.size e2) := ⟨(ST0.out.refMv m2 n2).quiet K2, g2.kept0 K2, hp2, by rw [hW2]; exact alloc_new _ _⟩
  have d82 := BX.out W2 ST2.out.1.kept
  have EW2 : Hid (W2 = w2.alloc (.cells #[.int .i64 e2.p.fk, .int .i64 e2.p.fi, .int .i64 e2.p.tk, .int .i64 e2.p.ti, .slice e2.a e2.len e2.cap, .bool e2.p.lost] 39)) := hW2
  have hsz := m2.kept.size
  clear n2 m2 g2 hp2 K2
  rw [hW2] at d82
  clear hW2
  go_wp2_with fail
  rw [← EW2.out]
  refine (side_take67 o.i ST2.out.1.net).mono ?_
  rintro x w3 ⟨e3, s3, rfl, hp3, g3, n3, m3⟩
  rw [← HA.out.2.2.1, HA.out.1]
  rw [← HA.out.2.2.1] at n3
  have T3 := ST2.out.1.netMv m3 n3
  have m2' : Hid (W.heap.size ≤ w2.heap.size) := hsz
  obtain ⟨W3, hW3⟩ : ∃ W3, W3 = w3.alloc (.cells #[.int .i64 e3.p.fk, .int .i64 e3.p.fi, .int .i64 e3.p.tk, .int .i64 e3.p.ti, .slice e3.a e3.len e3.cap, .bool e3.p.lost] 39) := ⟨_, rfl⟩
  have K3 : Kept (fun _ => False) w3 W3 := by rw [hW3]; exact alloc_kept0 _ _
  have nb : ¬ FP sn w2.heap.size := fun z => by
    have a1 := (ST0.out.net.fp _ z).1
    have a2 := m2'.out
    omega
  have ST3 : Hid (ST base W W3 vn vr sn sr s3 s2 (psOf sn r ps) (psOf sr r ps) ∧ Good 0 W3 e3 ∧ Good 0 W3 e2 ∧ e3.p = e2.p ∧ EBox W3 w2.heap.size e2 ∧ EBox W3 w3.heap.size e3) := ⟨T3.quiet K3, g3.kept0 K3, (ST2.out.2.1.kept m3.kept (fun k _ z => (ST2.out.1.net.fp k z).2.2)).kept0 K3, by rw [hp3, ST2.out.2.2.1, HA.out.2.2.2.2.2], Box.kept (Box.kept ST2.out.2.2.2 m3.kept nb) K3 (fun q => q), by rw [hW3]; exact alloc_new _ _⟩
  obtain ⟨b0, b1, b2, b3, b4, b5, _⟩ := cell6 _ _ _ _ _ _ _ _ ST3.out.2.2.2.2.1
  obtain ⟨c0, c1, c2, c3, c4, c5, _⟩ := cell6 _ _ _ _ _ _ _ _ ST3.out.2.2.2.2.2
  have EW3 : Hid (W3 = w3.alloc (.cells #[.int .i64 e3.p.fk, .int .i64 e3.p.fi, .int .i64 e3.p.tk, .int .i64 e3.p.ti, .slice e3.a e3.len e3.cap, .bool e3.p.lost] 39)) := hW3
  have SP : Hid (Calls Try.prog 13 #[.agg #[.int .i64 e3.p.fk, .int .i64 e3.p.fi, .int .i64 e3.p.tk, .int .i64 e3.p.ti, .slice e3.a e3.len e3.cap, .bool e3.p.lost], .agg #[.int .i64 e2.p.fk, .int .i64 e2.p.fi, .int .i64 e2.p.tk, .int .i64 e2.p.ti, .slice e2.a e2.len e2.cap, .bool e2.p.lost]] W3 fun x w' => x = .returned (.bool true) ∧ Kept (fun _ => False) W3 w') := by
    have e := ST3.out.2.2.2.1
    have r2 := ST3.out.2.2.1.reads
    rw [← e] at r2
    rw [← e]
    exact samePacket e3.p.fk e3.p.fi e3.p.tk e3.p.ti e3.p.lost e3.p.data e3.a e3.len e3.cap e2.a e2.len e2.cap W3 ST3.out.2.1.reads r2
  clear T3 n3 m3 g3 hp3 K3 nb
  rw [hW3] at b0 b1 b2 b3 b4 b5 c0 c1 c2 c3 c4 c5
  clear hW3
  go_wp2_with fail
  rw [← EW3.out]
  refine SP.out.mono ?_
  rintro x w4 ⟨rfl, K4⟩
  have ST4 : Hid (ST base W w4 vn vr sn sr s3 s2 (psOf sn r ps) (psOf sr r ps)) := ST3.out.1.quiet K4
  clear K4
  go_wp2_with fail
  go_ret
  exact ⟨by simp, HH.out.1.done (W := W) (by rw [EW.out]; exact alloc_kept0 w _) ST4.out HA.out.2.2.2.1 HA.out.2.2.2.2.1⟩
set_option maxRecDepth 100000 in
set_option maxHeartbeats 1000000 in
theorem plays7 (base : Nat) (w : World) (vn vr : Value) (sn sr : Option (Nat × Option Nat)) (ps : List Pk) (o : Opv) (h : Pair base w vn vr sn sr ps) (hb : ps.length + 1 ≤ Big) (hk : ¬ (o.kd = 0) ∧ ¬ (o.kd = 1) ∧ ¬ (o.kd = 2) ∧ ¬ (o.kd = 3) ∧ ¬ (o.kd = 4) ∧ ¬ (o.kd = 5) ∧ ¬ (o.kd = 6)) :
    Calls Try.prog 23 #[vn, vr, .agg #[.int .i64 o.kd, .int .i64 o.nt, .int .i64 o.fk, .int .i64 o.fi, .int .i64 o.tk, .int .i64 o.ti, .slice o.a o.dl o.dc, .bool o.lost, .int .i64 o.i, .int .i64 o.n, .int .u32 (o.pat : Int)]] w fun x w' => x = .returned (.bool true) ∧ PDid base w vn vr sn sr ps w' := by
  obtain ⟨k0, k1, k2, k3, k4, k5, k6⟩ := hk
  have HH : Hid (Pair base w vn vr sn sr ps ∧ ps.length ≤ Big) := ⟨h, Nat.le_of_succ_le hb⟩
  have ST0 : Hid (ST base (w.alloc (.cells o.cs 58)) (w.alloc (.cells o.cs 58)) vn vr sn sr sn sr ps ps) := h.start (alloc_kept0 w _)
  obtain ⟨W, hW⟩ : ∃ W, W = w.alloc (.cells o.cs 58) := ⟨_, rfl⟩
  rw [← hW] at ST0
  have EW : Hid (W = w.alloc (.cells #[.int .i64 o.kd, .int .i64 o.nt, .int .i64 o.fk, .int .i64 o.fi, .int .i64 o.tk, .int .i64 o.ti, .slice o.a o.dl o.dc, .bool o.lost, .int .i64 o.i, .int .i64 o.n, .int .u32 (o.pat : Int)] 58)) := hW
  obtain ⟨m, hm⟩ : ∃ m, lenOf sn ps = m := ⟨_, rfl⟩
  have hm2 : lenOf sr ps = m := by rw [← hm]; unfold lenOf; rw [h.both]
  have HM : Hid (lenOf sn ps = m ∧ lenOf sr ps = m ∧ flyOf sn ps = flyOf sr ps) := ⟨hm, hm2, by unfold flyOf; rw [h.both]⟩
  clear h hb hW hm hm2
  go_enter Try.func23, Try.ntmps23
  go_wp2_with fail
  rw [← EW.out]
  refine (side_len67 ST0.out.net).mono ?_
  rw [HM.out.1]
  rintro x w1 ⟨rfl, rfl⟩
  go_wp2_with fail
  refine (side_len71 ST0.out.ref).mono ?_
  rw [HM.out.2.1]
  rintro x w2 ⟨rfl, rfl⟩
  go_wp2_with fail
  refine (side_fly67 ST0.out.net HH.out.2).mono ?_
  rw [HM.out.1]
  rintro x w3 ⟨p3, c3, R3, rfl, hm3, hL3, K3⟩
  have S3 : Hid (ST base w2 w3 vn vr sn sr sn sr ps ps ∧ R3.map Ent.p = flyOf sn ps ∧ IsL w2.heap.size w3 p3 m c3 R3) := ⟨ST0.out.quiet K3, hm3, hL3⟩
  clear hm3 hL3 K3
  go_wp2_with fail
  refine (side_fly71 S3.out.1.ref HH.out.2).mono ?_
  rw [HM.out.2.1]
  rintro x w4 ⟨p4, c4, R4, rfl, hm4, hL4, K4⟩
  have S4 : Hid (ST base w2 w4 vn vr sn sr sn sr ps ps ∧ R3.map Ent.p = R4.map Ent.p ∧ IsL w2.heap.size w4 p3 m c3 R3 ∧ IsL w3.heap.size w4 p4 m c4 R4) := ⟨S3.out.1.quiet K4, by rw [S3.out.2.1, hm4, HM.out.2.2], S3.out.2.2.kept0 K4, hL4⟩
  clear hm4 hL4 K4
  go_wp2_with fail
  refine (same _ _ p3 p4 m c3 c4 R3 R4 w4 S4.out.2.2.1 S4.out.2.2.2 S4.out.2.1).mono ?_
  rintro x w5 ⟨rfl, K5⟩
  have S5 : Hid (ST base w2 w5 vn vr sn sr sn sr ps ps) := S4.out.1.quiet K5
  clear K5
  go_wp2_with fail
  go_ret
  exact ⟨by simp, HH.out.1.done (W := w2) (by rw [EW.out]; exact alloc_kept0 w _) S5.out rfl (Nat.le_succ _)⟩
end Go.Proofs.Ytojfnehdanhgiaa
