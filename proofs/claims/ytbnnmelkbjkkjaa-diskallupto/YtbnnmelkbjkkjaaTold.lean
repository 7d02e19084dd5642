import Derived.Test.YtbnnmelkbjkkjaaAlone
import Derived.Test.YtbnnmelkbjkkjaaRefO
import Derived.Test.YtbnnmelkbjkkjaaAllDJ
namespace Go.Proofs.Ytbnnmelkbjkkjaa
open Go.RowKit

/-- What 'told' and its kin are handed: a disk and the document's, with a step, each copied into a block. -/
structure TO (base : Nat) (w W : World) (bp : Nat) (d : DK) (br : Nat) (r : RK) (cs : Array Value) : Prop where
  isd : IsD base W bp d
  isr : IsR base W br r
  same : d.ab = r.ab
  ok : d.ab.Ok
  kept : Kept (fun _ => False) w W
  p : W.heap[w.heap.size]? = some (.cells #[.pointer (some ⟨bp, 0, none⟩), .pointer (some ⟨br, 0, none⟩)] 60 (0, 0))
  o : W.heap[w.heap.size + 1]? = some (.cells cs 46 (0, 0))
theorem TO.quiet {base : Nat} {w W W' : World} {bp : Nat} {d : DK} {br : Nat} {r : RK} {cs : Array Value} (h : TO base w W bp d br r cs) (K : Kept (fun _ => False) W W') : TO base w W' bp d br r cs := ⟨h.isd.kept0 K, h.isr.kept0 K, h.same, h.ok, h.kept.trans K (fun _ _ z => z), K.get h.p (fun z => z), K.get h.o (fun z => z)⟩
theorem readL_bytes {base : Nat} {w : World} {B : Nat} {d : DK} (h : IsD base w B d) (i : Int) : ∀ c ∈ readL d.ab i, c < 256 := by
  unfold readL
  split
  · exact ab_bytes h i.toNat
  · simp
theorem readL_len {A : AB} (ok : A.Ok) (i : Int) : (readL A i).length ≤ Lim := by
  unfold readL
  split
  · unfold AB.now
    split
    · exact Nat.le_trans (redoL_length _ _) ok.w0
    · exact Nat.le_trans (redoL_length _ _) ok.w1
  · exact Nat.zero_le _
theorem toldL_bytes {base : Nat} {w : World} {B : Nat} {d : DK} (h : IsD base w B d) (i : Nat) : ∀ c ∈ toldL d.ab i, c < 256 := by
  unfold toldL
  split
  · simp
  · exact ab_bytes h i
theorem toldL_len {A : AB} (ok : A.Ok) (i : Nat) : (toldL A i).length ≤ Lim := by
  unfold toldL
  split
  · exact Nat.zero_le _
  · unfold AB.now
    split
    · exact Nat.le_trans (redoL_length _ _) ok.w0
    · exact Nat.le_trans (redoL_length _ _) ok.w1
set_option maxRecDepth 100000 in
set_option maxHeartbeats 4000000 in
theorem told5 (base bp : Nat) (d : DK) (br : Nat) (r : RK) (D sl : Int) (a : Option Addr) (n c : Nat) (N : Int) (dn : Bool) (a0 : Option Addr) (n0 c0 : Nat) (a1 : Option Addr) (n1 c1 : Nat) (a2 : Option Addr) (n2 c2 : Nat) (w : World) (hd : IsD base w bp d) (hr : IsR base w br r) (e : d.ab = r.ab) (ok : d.ab.Ok) :
    Calls Try.prog 33 #[.agg #[.pointer (some ⟨bp, 0, none⟩), .pointer (some ⟨br, 0, none⟩)], .agg #[.int .i64 5, .int .i64 D, .int .i64 sl, .slice a n c, .int .i64 N, .bool dn, .slice a0 n0 c0, .slice a1 n1 c1, .slice a2 n2 c2]] w fun x w' => x = .returned (.bool true) ∧ Kept (fun _ => False) w w' := by
  obtain ⟨W, hW⟩ : ∃ W, W = (w.alloc (.cells #[.pointer (some ⟨bp, 0, none⟩), .pointer (some ⟨br, 0, none⟩)] 60)).alloc (.cells #[.int .i64 5, .int .i64 D, .int .i64 sl, .slice a n c, .int .i64 N, .bool dn, .slice a0 n0 c0, .slice a1 n1 c1, .slice a2 n2 c2] 46) := ⟨_, rfl⟩
  have EW : Hid (W = (w.alloc (.cells #[.pointer (some ⟨bp, 0, none⟩), .pointer (some ⟨br, 0, none⟩)] 60)).alloc (.cells #[.int .i64 5, .int .i64 D, .int .i64 sl, .slice a n c, .int .i64 N, .bool dn, .slice a0 n0 c0, .slice a1 n1 c1, .slice a2 n2 c2] 46)) := hW
  have K : Kept (fun _ => False) w W := by rw [hW]; exact (alloc_kept0 _ _).alloc _
  have T : Hid (TO base w W bp d br r #[.int .i64 5, .int .i64 D, .int .i64 sl, .slice a n c, .int .i64 N, .bool dn, .slice a0 n0 c0, .slice a1 n1 c1, .slice a2 n2 c2]) := ⟨hd.kept0 K, hr.kept0 K, e, ok, K, by rw [hW]; exact get_alloc (alloc_new _ _), by rw [hW]; exact alloc_new2 _ _ _ _⟩
  have g0 : W.cell? ⟨w.heap.size + 1, 0, none⟩ = some (.int .i64 5) := cell_blk T.out.o 0 rfl
  have g2 : W.cell? ⟨w.heap.size + 1, 2, none⟩ = some (.int .i64 sl) := cell_blk T.out.o 2 rfl
  have p0 : W.cell? ⟨w.heap.size, 0, none⟩ = some (.pointer (some ⟨bp, 0, none⟩)) := cell_blk T.out.p 0 rfl
  have p1 : W.cell? ⟨w.heap.size, 1, none⟩ = some (.pointer (some ⟨br, 0, none⟩)) := cell_blk T.out.p 1 rfl
  clear hd hr e ok hW K
  go_enter Try.func33, Try.ntmps33
  go_upto_region 1 with fail
  rw [← EW.out]
  go_wp2_with fail
  refine (gRead base bp d sl W T.out.isd T.out.ok).mono ?_
  rintro x w2 ⟨b1, m1, k1, rfl, o1, K1⟩
  have T2 : Hid (TO base w w2 bp d br r #[.int .i64 5, .int .i64 D, .int .i64 sl, .slice a n c, .int .i64 N, .bool dn, .slice a0 n0 c0, .slice a1 n1 c1, .slice a2 n2 c2] ∧ w2.ownsRow W.heap.size 5 1 (.slice b1 m1 k1) m1 (cellsOf (readL d.ab sl))) := ⟨T.out.quiet K1, o1⟩
  have q2 : w2.cell? ⟨w.heap.size + 1, 2, none⟩ = some (.int .i64 sl) := cell_blk T2.out.1.o 2 rfl
  have q1 : w2.cell? ⟨w.heap.size, 1, none⟩ = some (.pointer (some ⟨br, 0, none⟩)) := cell_blk T2.out.1.p 1 rfl
  clear o1 K1
  obtain ⟨ev, hev⟩ : ∃ ev, ev = lookE d.ab sl := ⟨_, rfl⟩
  have EV : Hid (lookE r.ab sl = ev) := by show _ = ev; rw [hev, T.out.same]
  rw [← hev]
  clear hev
  go_wp2_with fail
  refine (rRead base br r sl w2 T2.out.1.isr (by rw [← T.out.same]; exact T.out.ok)).mono ?_
  rintro x w3 ⟨b2, m2, k2, rfl, o2, K2⟩
  rw [EV.out]
  obtain ⟨ts, hts⟩ : ∃ ts, ts = str (readL d.ab sl) := ⟨_, rfl⟩
  have BY : Hid (∀ c ∈ readL d.ab sl, c < 256) := readL_bytes T.out.isd sl
  have s1 : (convert 22 9 (.slice b1 m1 k1)).run Try.prog w3 = .ok (.string ts) w3 := by rw [hts]; exact own_string T2.out.2 BY.out K2
  have s2 : (convert 22 9 (.slice b2 m2 k2)).run Try.prog w3 = .ok (.string ts) w3 := by rw [hts]; rw [← T.out.same] at o2; exact own_string o2 BY.out (Kept.refl _ _)
  have T3 : Hid (Kept (fun _ => False) w w3 ∧ w3.ownsRow W.heap.size 5 1 (.slice b1 m1 k1) m1 (cellsOf (readL d.ab sl)) ∧ m1 ≤ Lim) := ⟨(T2.out.1.quiet K2).kept, K2.owns T2.out.2 (fun _ _ z => z), by have h1 := len_own T2.out.2; have h2 := readL_len T.out.ok sl; omega⟩
  clear o2 K2 hts
  go_wp2_with fail
  refine (aloneOK W.heap.size b1 m1 k1 _ none 0 0 [] w3 T3.out.2.1 (World.ownsRow_nil _ _ _ _) BY.out (fun c hc => by simp at hc) (fun k _ h2 => by simp [blockOf] at h2) T3.out.2.2 (Nat.zero_le _)).mono ?_
  rintro x w4 ⟨rfl, K4⟩
  have T4 : Hid (Kept (fun _ => False) w w4) := T3.out.1.trans K4 (fun k hk z => by
    rcases z with z | z
    · have := (own_lt T3.out.2.1 k z).1; have := T.out.kept.size; omega
    · simp [blockOf] at z)
  clear K4
  go_wp2_with fail
  go_ret
  exact ⟨by first | rfl | simp, T4.out⟩
set_option maxRecDepth 100000 in
set_option maxHeartbeats 4000000 in
theorem told7 (base bp : Nat) (d : DK) (br : Nat) (r : RK) (kd D sl : Int) (a : Option Addr) (n c : Nat) (N : Int) (dn : Bool) (a0 : Option Addr) (n0 c0 : Nat) (a1 : Option Addr) (n1 c1 : Nat) (a2 : Option Addr) (n2 c2 : Nat) (w : World) (hd : IsD base w bp d) (hr : IsR base w br r) (e : d.ab = r.ab) (ok : d.ab.Ok) (h5 : ¬ kd = 5) (h6 : ¬ kd = 6) :
    Calls Try.prog 33 #[.agg #[.pointer (some ⟨bp, 0, none⟩), .pointer (some ⟨br, 0, none⟩)], .agg #[.int .i64 kd, .int .i64 D, .int .i64 sl, .slice a n c, .int .i64 N, .bool dn, .slice a0 n0 c0, .slice a1 n1 c1, .slice a2 n2 c2]] w fun x w' => x = .returned (.bool true) ∧ Kept (fun _ => False) w w' := by
  obtain ⟨W, hW⟩ : ∃ W, W = (w.alloc (.cells #[.pointer (some ⟨bp, 0, none⟩), .pointer (some ⟨br, 0, none⟩)] 60)).alloc (.cells #[.int .i64 kd, .int .i64 D, .int .i64 sl, .slice a n c, .int .i64 N, .bool dn, .slice a0 n0 c0, .slice a1 n1 c1, .slice a2 n2 c2] 46) := ⟨_, rfl⟩
  have EW : Hid (W = (w.alloc (.cells #[.pointer (some ⟨bp, 0, none⟩), .pointer (some ⟨br, 0, none⟩)] 60)).alloc (.cells #[.int .i64 kd, .int .i64 D, .int .i64 sl, .slice a n c, .int .i64 N, .bool dn, .slice a0 n0 c0, .slice a1 n1 c1, .slice a2 n2 c2] 46)) := hW
  have K : Kept (fun _ => False) w W := by rw [hW]; exact (alloc_kept0 _ _).alloc _
  have T : Hid (TO base w W bp d br r #[.int .i64 kd, .int .i64 D, .int .i64 sl, .slice a n c, .int .i64 N, .bool dn, .slice a0 n0 c0, .slice a1 n1 c1, .slice a2 n2 c2]) := ⟨hd.kept0 K, hr.kept0 K, e, ok, K, by rw [hW]; exact get_alloc (alloc_new _ _), by rw [hW]; exact alloc_new2 _ _ _ _⟩
  have g0 : W.cell? ⟨w.heap.size + 1, 0, none⟩ = some (.int .i64 kd) := cell_blk T.out.o 0 rfl
  have g2 : W.cell? ⟨w.heap.size + 1, 2, none⟩ = some (.int .i64 sl) := cell_blk T.out.o 2 rfl
  have p0 : W.cell? ⟨w.heap.size, 0, none⟩ = some (.pointer (some ⟨bp, 0, none⟩)) := cell_blk T.out.p 0 rfl
  have p1 : W.cell? ⟨w.heap.size, 1, none⟩ = some (.pointer (some ⟨br, 0, none⟩)) := cell_blk T.out.p 1 rfl
  clear hd hr e ok hW K
  go_enter Try.func33, Try.ntmps33
  go_upto_region 1 with fail
  rw [← EW.out]
  have E7 : Hid (d.ab.acts = r.ab.acts ∧ d.ab.X0.length + d.ab.X1.length = r.ab.X0.length + r.ab.X1.length ∧ d.ab.dead = r.ab.dead) := by rw [T.out.same]; exact ⟨rfl, rfl, rfl⟩
  obtain ⟨ac, hac⟩ : ∃ ac, ac = d.acts := ⟨_, rfl⟩
  obtain ⟨pn, hpn⟩ : ∃ pn, pn = d.ab.X0.length + d.ab.X1.length := ⟨_, rfl⟩
  obtain ⟨dd, hdd⟩ : ∃ dd, dd = d.dead := ⟨_, rfl⟩
  have A1 : Hid (d.acts = ac ∧ r.acts = ac ∧ d.ab.X0.length + d.ab.X1.length = pn ∧ r.ab.X0.length + r.ab.X1.length = pn ∧ d.dead = dd ∧ r.dead = dd) := ⟨hac.symm, by rw [hac]; exact E7.out.1.symm, hpn.symm, by rw [hpn]; exact E7.out.2.1.symm, hdd.symm, by rw [hdd]; exact E7.out.2.2.symm⟩
  clear hac hpn hdd
  have KD : Hid (Kept (fun _ => False) W W.drew) := (Kept.refl (fun _ => False) W).drew
  go_wp2_with fail
  go_region_held3 (fun w' => w'.cell? ⟨w.heap.size, 0, none⟩ = some (.pointer (some ⟨bp, 0, none⟩)) ∧ w'.cell? ⟨w.heap.size, 1, none⟩ = some (.pointer (some ⟨br, 0, none⟩))) (first | go_keep)
    (first
      | (go_at_call 57; refine (rDead base br r w5 P5.out.isr).mono ?_; rintro x wz ⟨rfl, ez⟩
         rw [ez, A1.out.2.2.2.2.2]
         clear ez wz)
      | (go_at_call 20; refine (dDead base bp d w5 P5.out.isd).mono ?_; rintro x wz ⟨rfl, ez⟩
         rw [ez, A1.out.2.2.2.2.1]
         clear ez wz)
      | (go_at_call 56; refine (rPending base br r w4 P4.out.isr (by rw [← T.out.same]; exact T.out.ok)).mono ?_; rintro x w5 ⟨rfl, K5⟩
         rw [A1.out.2.2.2.1]
         have P5 : Hid (TO base w w5 bp d br r #[.int .i64 kd, .int .i64 D, .int .i64 sl, .slice a n c, .int .i64 N, .bool dn, .slice a0 n0 c0, .slice a1 n1 c1, .slice a2 n2 c2]) := P4.out.quiet K5
         have u0 : w5.cell? ⟨w.heap.size, 0, none⟩ = some (.pointer (some ⟨bp, 0, none⟩)) := cell_blk P5.out.p 0 rfl
         have u1 : w5.cell? ⟨w.heap.size, 1, none⟩ = some (.pointer (some ⟨br, 0, none⟩)) := cell_blk P5.out.p 1 rfl
         clear K5)
      | (go_at_call 13; refine (dPending base bp d W.drew (T.out.quiet KD.out).isd T.out.ok).mono ?_; rintro x w4 ⟨rfl, K4⟩
         rw [A1.out.2.2.1]
         have P4 : Hid (TO base w w4 bp d br r #[.int .i64 kd, .int .i64 D, .int .i64 sl, .slice a n c, .int .i64 N, .bool dn, .slice a0 n0 c0, .slice a1 n1 c1, .slice a2 n2 c2]) := (T.out.quiet KD.out).quiet K4
         have t0 : w4.cell? ⟨w.heap.size, 0, none⟩ = some (.pointer (some ⟨bp, 0, none⟩)) := cell_blk P4.out.p 0 rfl
         have t1 : w4.cell? ⟨w.heap.size, 1, none⟩ = some (.pointer (some ⟨br, 0, none⟩)) := cell_blk P4.out.p 1 rfl
         clear K4)
      | (go_at_call 55; refine (rActs base br r W.drew (T.out.quiet KD.out).isr).mono ?_; rintro x wz ⟨rfl, ez⟩
         rw [ez, A1.out.2.1]
         clear ez wz)
      | (go_at_call 24; refine (dActs base bp d W.drew (T.out.quiet KD.out).isd).mono ?_; rintro x wz ⟨rfl, ez⟩
         rw [ez, A1.out.1]
         clear ez wz)
      | fail)
  go_wp2_with fail
  go_ret
  exact ⟨by first | rfl | simp, P5.out.kept⟩
set_option maxRecDepth 100000 in
set_option maxHeartbeats 4000000 in
theorem told6 (base bp : Nat) (d : DK) (br : Nat) (r : RK) (D sl : Int) (a : Option Addr) (n c : Nat) (N : Int) (dn : Bool) (a0 : Option Addr) (n0 c0 : Nat) (a1 : Option Addr) (n1 c1 : Nat) (a2 : Option Addr) (n2 c2 : Nat) (w : World) (hd : IsD base w bp d) (hr : IsR base w br r) (e : d.ab = r.ab) (ok : d.ab.Ok) :
    Calls Try.prog 33 #[.agg #[.pointer (some ⟨bp, 0, none⟩), .pointer (some ⟨br, 0, none⟩)], .agg #[.int .i64 6, .int .i64 D, .int .i64 sl, .slice a n c, .int .i64 N, .bool dn, .slice a0 n0 c0, .slice a1 n1 c1, .slice a2 n2 c2]] w fun x w' => x = .returned (.bool true) ∧ Kept (fun _ => False) w w' := by
  obtain ⟨W, hW⟩ : ∃ W, W = (w.alloc (.cells #[.pointer (some ⟨bp, 0, none⟩), .pointer (some ⟨br, 0, none⟩)] 60)).alloc (.cells #[.int .i64 6, .int .i64 D, .int .i64 sl, .slice a n c, .int .i64 N, .bool dn, .slice a0 n0 c0, .slice a1 n1 c1, .slice a2 n2 c2] 46) := ⟨_, rfl⟩
  have EW : Hid (W = (w.alloc (.cells #[.pointer (some ⟨bp, 0, none⟩), .pointer (some ⟨br, 0, none⟩)] 60)).alloc (.cells #[.int .i64 6, .int .i64 D, .int .i64 sl, .slice a n c, .int .i64 N, .bool dn, .slice a0 n0 c0, .slice a1 n1 c1, .slice a2 n2 c2] 46)) := hW
  have K : Kept (fun _ => False) w W := by rw [hW]; exact (alloc_kept0 _ _).alloc _
  have T : Hid (TO base w W bp d br r #[.int .i64 6, .int .i64 D, .int .i64 sl, .slice a n c, .int .i64 N, .bool dn, .slice a0 n0 c0, .slice a1 n1 c1, .slice a2 n2 c2]) := ⟨hd.kept0 K, hr.kept0 K, e, ok, K, by rw [hW]; exact get_alloc (alloc_new _ _), by rw [hW]; exact alloc_new2 _ _ _ _⟩
  have g0 : W.cell? ⟨w.heap.size + 1, 0, none⟩ = some (.int .i64 6) := cell_blk T.out.o 0 rfl
  have g2 : W.cell? ⟨w.heap.size + 1, 2, none⟩ = some (.int .i64 sl) := cell_blk T.out.o 2 rfl
  have p0 : W.cell? ⟨w.heap.size, 0, none⟩ = some (.pointer (some ⟨bp, 0, none⟩)) := cell_blk T.out.p 0 rfl
  have p1 : W.cell? ⟨w.heap.size, 1, none⟩ = some (.pointer (some ⟨br, 0, none⟩)) := cell_blk T.out.p 1 rfl
  clear hd hr e ok hW K
  go_enter Try.func33, Try.ntmps33
  go_upto_region 1 with fail
  rw [← EW.out]
  go_wp2_with fail
  refine (gSlots base bp d W T.out.isd T.out.ok).mono ?_
  rintro x w2 ⟨e0, m0, k0, e1, m1, k1, rfl, sl2⟩
  obtain ⟨W2, hW2⟩ : ∃ W2, W2 = w2.alloc (.cells #[.slice e0 m0 k0, .slice e1 m1 k1] 32) := ⟨_, rfl⟩
  have K2 : Kept (fun _ => False) w2 W2 := by rw [hW2]; exact alloc_kept0 _ _
  have T2 : Hid (TO base w W2 bp d br r #[.int .i64 6, .int .i64 D, .int .i64 sl, .slice a n c, .int .i64 N, .bool dn, .slice a0 n0 c0, .slice a1 n1 c1, .slice a2 n2 c2] ∧ SlL W W2 (toldL d.ab 0) (toldL d.ab 1) e0 m0 k0 e1 m1 k1 ∧ W2.heap[w2.heap.size]? = some (.cells #[.slice e0 m0 k0, .slice e1 m1 k1] 32 (0, 0)) ∧ (∀ k, blockOf e0 = some k → k < w2.heap.size) ∧ (∀ k, blockOf e1 = some k → k < w2.heap.size) ∧ W.heap.size ≤ w2.heap.size) := ⟨(T.out.quiet sl2.kept).quiet K2, ⟨K2.owns sl2.o0 (fun _ _ z => z), K2.owns sl2.o1 (fun _ _ z => z), sl2.ne, sl2.kept.trans K2 (fun _ _ z => z)⟩, by rw [hW2]; exact alloc_new _ _, fun k hk => (own_lt sl2.o0 k hk).2, fun k hk => (own_lt sl2.o1 k hk).2, sl2.kept.size⟩
  have q1 : W2.cell? ⟨w.heap.size, 1, none⟩ = some (.pointer (some ⟨br, 0, none⟩)) := cell_blk T2.out.1.p 1 rfl
  have E2 : Hid (W2 = w2.alloc (.cells #[.slice e0 m0 k0, .slice e1 m1 k1] 32)) := hW2
  clear hW2 K2 sl2
  go_upto_region 8 with fail
  rw [← E2.out]
  go_wp2_with fail
  refine (rSlots base br r W2 T2.out.1.isr (by rw [← T.out.same]; exact T.out.ok)).mono ?_
  rintro x w3 ⟨f0, y0, z0, f1, y1, z1, rfl, sl3⟩
  obtain ⟨W3, hW3⟩ : ∃ W3, W3 = w3.alloc (.cells #[.slice f0 y0 z0, .slice f1 y1 z1] 32) := ⟨_, rfl⟩
  have K3 : Kept (fun _ => False) w3 W3 := by rw [hW3]; exact alloc_kept0 _ _
  have K23 : Kept (fun _ => False) W2 W3 := sl3.kept.trans K3 (fun _ _ z => z)
  have T3 : Hid (TO base w W3 bp d br r #[.int .i64 6, .int .i64 D, .int .i64 sl, .slice a n c, .int .i64 N, .bool dn, .slice a0 n0 c0, .slice a1 n1 c1, .slice a2 n2 c2] ∧ SlL W W3 (toldL d.ab 0) (toldL d.ab 1) e0 m0 k0 e1 m1 k1 ∧ W3.heap[w2.heap.size]? = some (.cells #[.slice e0 m0 k0, .slice e1 m1 k1] 32 (0, 0)) ∧ W3.heap[w3.heap.size]? = some (.cells #[.slice f0 y0 z0, .slice f1 y1 z1] 32 (0, 0))) := ⟨T2.out.1.quiet K23, ⟨K23.owns T2.out.2.1.o0 (fun _ _ z => z), K23.owns T2.out.2.1.o1 (fun _ _ z => z), T2.out.2.1.ne, T2.out.2.1.kept.trans K23 (fun _ _ z => z)⟩, K23.get T2.out.2.2.1 (fun z => z), by rw [hW3]; exact alloc_new _ _⟩
  have SZ : Hid (W2.heap.size ≤ w3.heap.size) := sl3.kept.size
  have E3 : Hid (W3 = w3.alloc (.cells #[.slice f0 y0 z0, .slice f1 y1 z1] 32)) := hW3
  obtain ⟨t0, ht0⟩ : ∃ t0, t0 = str (toldL d.ab 0) := ⟨_, rfl⟩
  obtain ⟨t1, ht1⟩ : ∃ t1, t1 = str (toldL d.ab 1) := ⟨_, rfl⟩
  have BY : Hid (∀ i, ∀ c ∈ toldL d.ab i, c < 256) := fun i => toldL_bytes T.out.isd i
  have SR : SlL W2 w3 (toldL d.ab 0) (toldL d.ab 1) f0 y0 z0 f1 y1 z1 := by rw [T.out.same]; exact sl3
  have KD3 : Kept (fun _ => False) W3 W3.drew := (Kept.refl (fun _ => False) W3).drew
  have s0 : (convert 22 9 (.slice e0 m0 k0)).run Try.prog W3.drew = .ok (.string t0) W3.drew := by rw [ht0]; exact own_string T3.out.2.1.o0 (BY.out 0) KD3
  have s1 : (convert 22 9 (.slice e1 m1 k1)).run Try.prog W3.drew = .ok (.string t1) W3.drew := by rw [ht1]; exact own_string T3.out.2.1.o1 (BY.out 1) KD3
  have s2 : (convert 22 9 (.slice f0 y0 z0)).run Try.prog W3.drew = .ok (.string t0) W3.drew := by rw [ht0]; exact own_string SR.o0 (BY.out 0) (K3.trans KD3 (fun _ _ z => z))
  have s3 : (convert 22 9 (.slice f1 y1 z1)).run Try.prog W3.drew = .ok (.string t1) W3.drew := by rw [ht1]; exact own_string SR.o1 (BY.out 1) (K3.trans KD3 (fun _ _ z => z))
  have KD : Hid (Kept (fun _ => False) W3 W3.drew) := KD3
  obtain ⟨cu, hcu⟩ : ∃ cu, cu = toldC d.ab := ⟨_, rfl⟩
  have CU : Hid (toldC r.ab = cu ∧ (if d.dead = true then (0 : Int) else (d.cur : Int)) = cu ∧ (if r.dead = true then (0 : Int) else (r.cur : Int)) = cu) := ⟨by rw [hcu, T.out.same], by rw [hcu]; rfl, by rw [hcu, T.out.same]; rfl⟩
  rw [← hcu, CU.out.1]
  have v0 : W3.cell? ⟨w2.heap.size, 0, none⟩ = some (.slice e0 m0 k0) := cell_blk T3.out.2.2.1 0 rfl
  have v1 : W3.cell? ⟨w2.heap.size, 1, none⟩ = some (.slice e1 m1 k1) := cell_blk T3.out.2.2.1 1 rfl
  have v2 : W3.cell? ⟨w3.heap.size, 0, none⟩ = some (.slice f0 y0 z0) := cell_blk T3.out.2.2.2 0 rfl
  have v3 : W3.cell? ⟨w3.heap.size, 1, none⟩ = some (.slice f1 y1 z1) := cell_blk T3.out.2.2.2 1 rfl
  have v4 : W3.cell? ⟨w.heap.size, 0, none⟩ = some (.pointer (some ⟨bp, 0, none⟩)) := cell_blk T3.out.1.p 0 rfl
  have v5 : W3.cell? ⟨w.heap.size, 1, none⟩ = some (.pointer (some ⟨br, 0, none⟩)) := cell_blk T3.out.1.p 1 rfl
  clear hW3 K3 K23 sl3 SR KD3 ht0 ht1 hcu g0 g2 p0 p1 q1
  go_upto_region 9 with fail
  rw [← E3.out]
  go_region_held (fun w' => w'.cell? ⟨w.heap.size, 0, none⟩ = some (.pointer (some ⟨bp, 0, none⟩)) ∧ w'.cell? ⟨w.heap.size, 1, none⟩ = some (.pointer (some ⟨br, 0, none⟩)) ∧ w'.cell? ⟨w2.heap.size, 0, none⟩ = some (.slice e0 m0 k0) ∧ w'.cell? ⟨w2.heap.size, 1, none⟩ = some (.slice e1 m1 k1) ∧ w'.cell? ⟨w3.heap.size, 0, none⟩ = some (.slice f0 y0 z0) ∧ w'.cell? ⟨w3.heap.size, 1, none⟩ = some (.slice f1 y1 z1)) (first | go_keep)
    (first
      | (go_at_call 52; refine (aloneOK W.heap.size e0 m0 k0 _ e1 m1 k1 _ W3.drew (KD.out.owns T3.out.2.1.o0 (fun _ _ z => z)) (KD.out.owns T3.out.2.1.o1 (fun _ _ z => z)) (BY.out 0) (BY.out 1) T3.out.2.1.ne (by have h1 := len_own T3.out.2.1.o0; have h2 := toldL_len T.out.ok 0; omega) (by have h1 := len_own T3.out.2.1.o1; have h2 := toldL_len T.out.ok 1; omega)).mono ?_; rintro x w9 ⟨rfl, K9⟩
         have K9' : Kept (fun k => blockOf e0 = some k ∨ blockOf e1 = some k) W3 w9 := (KD.out.mono (fun _ _ z => z.elim)).trans K9 (fun _ _ z => z)
         have NB : ∀ k, (k = w.heap.size ∨ k = w2.heap.size ∨ k = w3.heap.size) → ¬ (blockOf e0 = some k ∨ blockOf e1 = some k) := fun k hk z => by
           have hw := block_lt T.out.o
           have h2 := T2.out.2.2.2.2.2
           have h3 : w2.heap.size < w3.heap.size := by have := block_lt T2.out.2.2.1; have := SZ.out; omega
           rcases z with z | z
           · have := own_lt T3.out.2.1.o0 k z; have := T2.out.2.2.2.1 k z; rcases hk with q | q | q <;> omega
           · have := own_lt T3.out.2.1.o1 k z; have := T2.out.2.2.2.2.1 k z; rcases hk with q | q | q <;> omega
         have P9 : Hid (Kept (fun _ => False) w w9) := T3.out.1.kept.trans K9' (fun k hk z => by
           have hw := block_lt T.out.o
           rcases z with z | z
           · have := (own_lt T3.out.2.1.o0 k z).1; omega
           · have := (own_lt T3.out.2.1.o1 k z).1; omega)
         have x0 := K9'.cell v0 (NB _ (.inr (.inl rfl)))
         have x1 := K9'.cell v1 (NB _ (.inr (.inl rfl)))
         have x2 := K9'.cell v2 (NB _ (.inr (.inr rfl)))
         have x3 := K9'.cell v3 (NB _ (.inr (.inr rfl)))
         have x4 := K9'.cell v4 (NB _ (.inl rfl))
         have x5 := K9'.cell v5 (NB _ (.inl rfl))
         clear K9 K9' NB)
      | (go_at_call 54; refine (rCurrent base br r W3.drew (T3.out.1.quiet KD.out).isr).mono ?_; rintro x wz ⟨rfl, ez⟩
         rw [ez, CU.out.2.2]
         clear ez wz)
      | (go_at_call 18; refine (dCurrent base bp d W3.drew (T3.out.1.quiet KD.out).isd).mono ?_; rintro x wz ⟨rfl, ez⟩
         rw [ez, CU.out.2.1]
         clear ez wz)
      | fail)
  all_goals go_wp2_with fail
  all_goals go_ret
  all_goals exact ⟨by first | rfl | simp, P9.out⟩
end Go.Proofs.Ytbnnmelkbjkkjaa
