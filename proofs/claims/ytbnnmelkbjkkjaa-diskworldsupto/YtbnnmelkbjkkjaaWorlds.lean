import Derived.Test.YtbnnmelkbjkkjaaWorldsMath
import Derived.Test.YtbnnmelkbjkkjaaLoads
import Derived.Laws.Concat
namespace Go.Proofs.Ytbnnmelkbjkkjaa
open Go.RowKit

theorem str_append (l m : List Nat) : str (l ++ m) = str l ++ str m := by
  unfold str
  apply ByteArray.ext
  simp
theorem str_size (l : List Nat) : (str l).size = l.length := by simp [str, ByteArray.size]
set_option maxRecDepth 100000 in
set_option maxHeartbeats 8000000 in
theorem diskWorlds (q : Option Addr) (n cap : Nat) (O : List Opv) (qc : Option Addr) (nc cc : Nat) (cs : List Int) (qm : Option Addr) (nm cm : Nat) (lm : List Nat) (w : World) (hO : Script w q n cap O) (rc : IRd w qc nc cc cs) (rm : Reads w qm nm cm lm) (hn : n + 2 ≤ Few) (hs : sumN O + sumN O + lm.length + lm.length ≤ Few) :
    Calls Try.prog 6 #[.slice q n cap, .slice qc nc cc, .slice qm nm cm] w fun x w' => x = .returned (.bool true) ∧ Kept (fun _ => False) w w' := by
  have H : Hid (Script w q n cap O ∧ n + 2 ≤ Few ∧ sumN O + sumN O + lm.length + lm.length ≤ Few ∧ IRd w qc nc cc cs ∧ Reads w qm nm cm lm ∧ nm ≤ Lim) := ⟨hO, hn, hs, rc, rm, by rw [← rm.length]; unfold Lim; unfold Few at hs; omega⟩
  have IQ : Hid (∀ V : World, Kept (fun _ => False) w V → IRd V qc nc cc cs) := fun V K => rc.kept0 K
  have LQ : Hid (0 < nc → ∀ k, blockOf qc = some k → k < w.heap.size) := fun h0 k hk => rc.lt h0 k hk
  have RM : Hid (∀ V : World, Kept (fun _ => False) w V → Reads V qm nm cm lm) := fun V K => rm.kept' K (fun _ _ z => z)
  clear hO rc rm hn hs
  go_enter Try.func6, Try.ntmps6
  go_wp2_with fail
  refine (begun q n cap O w H.out.1 (by have := H.out.2.1; omega) (by have := H.out.2.2.1; omega)).mono ?_
  rintro x w1 ⟨A, rfl, h1, s1⟩
  obtain ⟨d, ed, m1⟩ := MD.of_hd h1
  obtain ⟨B, hB⟩ : ∃ B, B = w.heap.size := ⟨_, rfl⟩
  rw [← hB] at m1 ⊢
  have HB : Hid (B = w.heap.size) := hB
  have X1 : Hid (MX w w1 [(B, d)] (fun _ => False) ∧ Small d.ab (sumN O) n ∧ d.ab.Ok) := ⟨MX.of m1, by rw [ed]; exact s1, by rw [ed]; exact s1.ok (by have := H.out.2.2.1; omega) (by have := H.out.2.1; omega)⟩
  clear h1 s1 ed m1 hB
  go_wp2_with fail
  refine (head w1).mono ?_
  rintro x w2 ⟨rfl, K2⟩
  have X2 : Hid (MX w w2 [(B, d)] (fun _ => False)) := X1.out.1.quiet K2
  clear K2
  go_wp2_with fail
  refine (mxCrash w w2 B d _ _ qc nc cc cs X2.out X1.out.2.2 (IQ.out w2 X2.out.md.kept) (fun h0 k hk z => by have := LQ.out h0 k hk; have := HB.out; omega)).mono ?_
  rintro x w3 ⟨Fa, fa, rfl, ea, m3, _⟩
  have X3 : Hid (MX w w3 [(B, { d with dead := true }), (Fa, fa)] (fun _ => False) ∧ fa.ab = d.ab.crash cs) := ⟨m3.swap, ea⟩
  clear ea m3
  go_wp2_with fail
  refine (mxCrash w w3 B { d with dead := true } _ _ qc nc cc cs X3.out.1 ⟨X1.out.2.2.w0, X1.out.2.2.w1, X1.out.2.2.n0, X1.out.2.2.n1, X1.out.2.2.acts, X1.out.2.2.named⟩ (IQ.out w3 X3.out.1.md.kept) (fun h0 k hk z => by have := LQ.out h0 k hk; have := HB.out; omega)).mono ?_
  rintro x w4 ⟨Fb, fb, rfl, eb, m4, _⟩
  have X4 : Hid (MX w w4 [(Fb, fb), (B, { d with dead := true }), (Fa, fa)] (fun _ => False) ∧ fb.ab = d.ab.crash cs) := ⟨m4, eb⟩
  clear eb m4
  have CS : Hid (Small (d.ab.crash cs) (sumN O + sumN O) 0) := crash_small X1.out.2.1 cs
  have CO : Hid ((d.ab.crash cs).Ok) := CS.out.ok (by have := H.out.2.2.1; omega) (Nat.zero_le _)
  have FA : Hid (fa.dead = false ∧ fa.ab.Ok ∧ fb.dead = false ∧ fb.ab.Ok ∧ fa.cur = fb.cur ∧ fa.ab.now 0 = fb.ab.now 0 ∧ fa.ab.now 1 = fb.ab.now 1) := ⟨by have := congrArg AB.dead X3.out.2; exact this, by rw [X3.out.2]; exact CO.out, by have := congrArg AB.dead X4.out.2; exact this, by rw [X4.out.2]; exact CO.out, by have h1 := congrArg AB.cur X3.out.2; have h2 := congrArg AB.cur X4.out.2; exact h1.trans h2.symm, by rw [X3.out.2, X4.out.2], by rw [X3.out.2, X4.out.2]⟩
  go_wp2_with fail
  refine (alike w.heap.size w.heap.size Fa Fb fa fb w4 X4.out.1.rot.rot.md.head X4.out.1.md.head FA.out.1 FA.out.2.2.1 FA.out.2.1 FA.out.2.2.2.1 FA.out.2.2.2.2.2.1 FA.out.2.2.2.2.2.2 FA.out.2.2.2.2.1).mono ?_
  rintro x w5 ⟨rfl, K5⟩
  have X5 : Hid (MX w w5 [(Fb, fb), (B, { d with dead := true }), (Fa, fa)] (fun _ => False)) := X4.out.1.quiet K5
  clear K5
  go_wp2_with fail
  refine (dSlots w.heap.size Fa fa w5 X5.out.rot.rot.md.head FA.out.1 FA.out.2.1).mono ?_
  rintro x w6 ⟨p0, n0, c0, p1, n1, c1, rfl, s6⟩
  obtain ⟨W6, hW6⟩ : ∃ W6, W6 = w6.alloc (.cells #[.slice p0 n0 c0, .slice p1 n1 c1] 32) := ⟨_, rfl⟩
  have E6 : Hid (W6 = w6.alloc (.cells #[.slice p0 n0 c0, .slice p1 n1 c1] 32)) := hW6
  obtain ⟨SS, hSS⟩ : ∃ SS : Nat → Prop, SS = fun k => k = w6.heap.size ∨ blockOf p0 = some k ∨ blockOf p1 = some k := ⟨_, rfl⟩
  have X6 : Hid (MX w W6 [(Fb, fb), (B, { d with dead := true }), (Fa, fa)] SS ∧ W6.heap[w6.heap.size]? = some (.cells #[.slice p0 n0 c0, .slice p1 n1 c1] 32 (0, 0)) ∧ SlotsAre w5 W6 fa.ab p0 n0 c0 p1 n1 c1 ∧ SS w6.heap.size ∧ (∀ k, blockOf p0 = some k → SS k) ∧ (∀ k, blockOf p1 = some k → SS k)) := by
    have K6 : Kept (fun _ => False) w6 W6 := by rw [hW6]; exact alloc_kept0 _ _
    have K56 := s6.kept.trans K6 (fun _ _ z => z)
    have hb : W6.heap[w6.heap.size]? = some (.cells #[.slice p0 n0 c0, .slice p1 n1 c1] 32 (0, 0)) := by rw [hW6]; exact alloc_new _ _
    refine ⟨X5.out.more K56 (fun k hk => .inr ?_), hb, ⟨K6.owns s6.o0 (fun _ _ z => z), K6.owns s6.o1 (fun _ _ z => z), s6.ne, K56⟩, by rw [hSS]; exact .inl rfl, fun k hk => by rw [hSS]; exact .inr (.inl hk), fun k hk => by rw [hSS]; exact .inr (.inr hk)⟩
    rw [hSS] at hk
    have a1 := s6.kept.size
    have a2 := K6.size
    have a3 := block_lt hb
    rcases hk with z | z | z
    · omega
    · have := own_lt s6.o0 k z; omega
    · have := own_lt s6.o1 k z; omega
  clear s6 hW6 hSS
  go_upto_region 9 with fail
  rw [← E6.out]
  go_wp2_with fail
  refine (dRead_0 w.heap.size Fb fb W6 X6.out.1.md.head FA.out.2.2.1 FA.out.2.2.2.1).mono ?_
  rintro x w7 ⟨tp, tn, tc, rfl, o7, K7⟩
  have X7 : Hid (MX w w7 [(Fb, fb), (B, { d with dead := true }), (Fa, fa)] SS ∧ w7.ownsRow W6.heap.size 5 1 (.slice tp tn tc) tn (cellsOf (fb.ab.now 0)) ∧ Kept (fun k => ¬ SS k) W6 w7) := ⟨X6.out.1.quiet K7, o7, K7.mono (fun _ _ z => z.elim)⟩
  clear o7 K7
  go_wp2_with fail
  refine (over W6.heap.size tp tn tc _ w7 X7.out.2.1).mono ?_
  rintro x w8 ⟨rfl, K8⟩
  have TB : Hid (∀ k, blockOf tp = some k → W6.heap.size ≤ k) := fun k hk => (own_lt X7.out.2.1 k hk).1
  have X8 : Hid (MX w w8 [(Fb, fb), (B, { d with dead := true }), (Fa, fa)] SS ∧ Kept (fun k => ¬ SS k) W6 w8) := by
    refine ⟨X7.out.1.wrote K8 (fun k hk => ⟨by have := TB.out k hk; have := X6.out.1.md.kept.size; omega, fun x hx z => by have := TB.out k hk; have := (X6.out.1.md.is x hx).lt z; omega⟩), X7.out.2.2.trans K8 (fun k hk z hS => by have := TB.out k z; omega)⟩
  clear K8
  have JL : fa.cur = 0 ∨ fa.cur = 1 := by have := X6.out.1.rot.rot.md.head.two; omega
  rcases JL with hj | hj
  · have hc : (fa.cur : Int) = 0 := by rw [hj]; rfl
    obtain ⟨b1, b2, b3, b4, b5, t1, t2, t3, t4, t5, k0, k1, k2, k3, k4, k5, ld, nj, nk⟩ := worlds_steps (d.ab.crash cs) lm (sumN O + sumN O) CS.out H.out.2.2.1 0 (by omega)
    rw [← X4.out.2] at t1
    have ANS : Hid (fb.ab.act 1 0 lm = (b1, 0) ∧ b1.act 1 1 lm = (b2, 0) ∧ b2.act 4 1 [] = (b3, 0) ∧ b3.act 2 0 [] = (b4, 0) ∧ b4.act 3 0 [] = (b5, 0)) := ⟨t1, t2, t3, t4, t5⟩
    have OKS : Hid (b1.Ok ∧ b2.Ok ∧ b3.Ok ∧ b4.Ok ∧ b5.Ok ∧ b5.dead = false) := ⟨k1, k2, k3, k4, k5, ld⟩
    have NOW : Hid (b5.now 0 = [] ∧ b5.now 1 = fa.ab.now 1 ++ lm) := ⟨nj, by rw [X3.out.2]; exact nk⟩
    have HJ : Hid (fa.cur = 0) := hj
    rw [hc]
    clear t1 t2 t3 t4 t5 k0 k1 k2 k3 k4 k5 ld nj nk hc hj
    go_wp2_with fail
    refine (wide qm nm cm lm w8 (RM.out w8 X8.out.1.md.kept) H.out.2.2.2.2.2).mono ?_
    rintro x w9 ⟨pA, kA, rfl, oA, KA⟩
    have X9 : Hid (MX w w9 [(Fb, fb), (B, { d with dead := true }), (Fa, fa)] SS ∧ Kept (fun k => ¬ SS k) W6 w9 ∧ Reads w9 pA nm kA lm ∧ ∀ k, blockOf pA = some k → k ≠ Fb) := ⟨X8.out.1.quiet KA, X8.out.2.trans KA (fun _ _ z => z.elim), wide_reads H.out.2.2.2.2.1.length H.out.2.2.2.2.1.bytes oA, fun k hk z => by have := (own_lt oA k hk).1; have := block_lt X8.out.1.md.head.blk; omega⟩
    clear oA KA
    go_wp2_with fail
    refine (gAppend w.heap.size Fb fb 0 pA nm kA lm w9 X9.out.1.md.head FA.out.2.2.2.1 X9.out.2.2.1 H.out.2.2.2.2.2 X9.out.2.2.2).mono ?_
    rw [ANS.out.1]
    rintro x w10 ⟨rfl, fb1, i10, m10, e10⟩
    have X10 : Hid (MX w w10 [(Fb, fb1), (B, { d with dead := true }), (Fa, fa)] SS ∧ Kept (fun k => ¬ SS k) W6 w10 ∧ fb1.ab = b1) := ⟨(X9.out.1.after i10 m10).1, X9.out.2.1.trans (X9.out.1.after i10 m10).2 (fun _ _ z => z), e10⟩
    clear i10 m10 e10
    go_wp2_with fail
    refine (wide qm nm cm lm w10 (RM.out w10 X10.out.1.md.kept) H.out.2.2.2.2.2).mono ?_
    rintro x w11 ⟨pB, kB, rfl, oB, KB⟩
    have X11 : Hid (MX w w11 [(Fb, fb1), (B, { d with dead := true }), (Fa, fa)] SS ∧ Kept (fun k => ¬ SS k) W6 w11 ∧ Reads w11 pB nm kB lm ∧ ∀ k, blockOf pB = some k → k ≠ Fb) := ⟨X10.out.1.quiet KB, X10.out.2.1.trans KB (fun _ _ z => z.elim), wide_reads H.out.2.2.2.2.1.length H.out.2.2.2.2.1.bytes oB, fun k hk z => by have := (own_lt oB k hk).1; have := block_lt X10.out.1.md.head.blk; omega⟩
    clear oB KB
    go_wp2_with fail
    refine (gAppend w.heap.size Fb fb1 1 pB nm kB lm w11 X11.out.1.md.head (by rw [X10.out.2.2]; exact OKS.out.1) X11.out.2.2.1 H.out.2.2.2.2.2 X11.out.2.2.2).mono ?_
    rw [X10.out.2.2, ANS.out.2.1]
    rintro x w12 ⟨rfl, fb2, i12, m12, e12⟩
    have X12 : Hid (MX w w12 [(Fb, fb2), (B, { d with dead := true }), (Fa, fa)] SS ∧ Kept (fun k => ¬ SS k) W6 w12 ∧ fb2.ab = b2) := ⟨(X11.out.1.after i12 m12).1, X11.out.2.1.trans (X11.out.1.after i12 m12).2 (fun _ _ z => z), e12⟩
    clear i12 m12 e12
    go_wp2_with fail
    refine (gSwitch w.heap.size Fb fb2 1 [] w12 X12.out.1.md.head (by rw [X12.out.2.2]; exact OKS.out.2.1)).mono ?_
    rw [X12.out.2.2, ANS.out.2.2.1]
    rintro x w13 ⟨rfl, fb3, i13, m13, e13⟩
    have X13 : Hid (MX w w13 [(Fb, fb3), (B, { d with dead := true }), (Fa, fa)] SS ∧ Kept (fun k => ¬ SS k) W6 w13 ∧ fb3.ab = b3) := ⟨(X12.out.1.after i13 m13).1, X12.out.2.1.trans (X12.out.1.after i13 m13).2 (fun _ _ z => z), e13⟩
    clear i13 m13 e13
    go_wp2_with fail
    refine (gWipe w.heap.size Fb fb3 0 [] w13 X13.out.1.md.head (by rw [X13.out.2.2]; exact OKS.out.2.2.1)).mono ?_
    rw [X13.out.2.2, ANS.out.2.2.2.1]
    rintro x w14 ⟨rfl, fb4, i14, m14, e14⟩
    have X14 : Hid (MX w w14 [(Fb, fb4), (B, { d with dead := true }), (Fa, fa)] SS ∧ Kept (fun k => ¬ SS k) W6 w14 ∧ fb4.ab = b4) := ⟨(X13.out.1.after i14 m14).1, X13.out.2.1.trans (X13.out.1.after i14 m14).2 (fun _ _ z => z), e14⟩
    clear i14 m14 e14
    go_wp2_with fail
    refine (gSync w.heap.size Fb fb4 0 [] w14 X14.out.1.md.head (by rw [X14.out.2.2]; exact OKS.out.2.2.2.1)).mono ?_
    rw [X14.out.2.2, ANS.out.2.2.2.2]
    rintro x w15 ⟨rfl, fb5, i15, m15, e15⟩
    have X15 : Hid (MX w w15 [(Fb, fb5), (B, { d with dead := true }), (Fa, fa)] SS ∧ Kept (fun k => ¬ SS k) W6 w15 ∧ fb5.ab = b5) := ⟨(X14.out.1.after i15 m15).1, X14.out.2.1.trans (X14.out.1.after i15 m15).2 (fun _ _ z => z), e15⟩
    clear i15 m15 e15
    clear X7 X8 X9 X10 X11 X12 X13 X14 ANS
    go_wp2_with fail
    refine (dSlots w.heap.size Fa fa w15 X15.out.1.rot.rot.md.head FA.out.1 FA.out.2.1).mono ?_
    rintro x w16 ⟨q0, r0, d0, q1, r1, d1, rfl, s16⟩
    obtain ⟨W16, hW16⟩ : ∃ W16, W16 = w16.alloc (.cells #[.slice q0 r0 d0, .slice q1 r1 d1] 32) := ⟨_, rfl⟩
    have E16 : Hid (W16 = w16.alloc (.cells #[.slice q0 r0 d0, .slice q1 r1 d1] 32)) := hW16
    obtain ⟨ST, hST⟩ : ∃ ST : Nat → Prop, ST = fun k => SS k ∨ k = w16.heap.size ∨ blockOf q0 = some k ∨ blockOf q1 = some k := ⟨_, rfl⟩
    have X16 : Hid (MX w W16 [(Fb, fb5), (B, { d with dead := true }), (Fa, fa)] ST ∧ W16.heap[w16.heap.size]? = some (.cells #[.slice q0 r0 d0, .slice q1 r1 d1] 32 (0, 0)) ∧ SlotsAre w15 W16 fa.ab q0 r0 d0 q1 r1 d1 ∧ ST w16.heap.size ∧ (∀ k, blockOf q0 = some k → ST k) ∧ (∀ k, blockOf q1 = some k → ST k) ∧ (∀ k, SS k → ST k) ∧ Kept (fun k => ¬ SS k) W6 W16) := by
      have K6 : Kept (fun _ => False) w16 W16 := by rw [hW16]; exact alloc_kept0 _ _
      have K56 := s16.kept.trans K6 (fun _ _ z => z)
      have hb : W16.heap[w16.heap.size]? = some (.cells #[.slice q0 r0 d0, .slice q1 r1 d1] 32 (0, 0)) := by rw [hW16]; exact alloc_new _ _
      refine ⟨X15.out.1.more K56 (fun k hk => ?_), hb, ⟨K6.owns s16.o0 (fun _ _ z => z), K6.owns s16.o1 (fun _ _ z => z), s16.ne, K56⟩, by rw [hST]; exact .inr (.inl rfl), fun k hk => by rw [hST]; exact .inr (.inr (.inl hk)), fun k hk => by rw [hST]; exact .inr (.inr (.inr hk)), fun k hk => by rw [hST]; exact .inl hk, X15.out.2.1.trans K56 (fun _ _ z => z.elim)⟩
      rw [hST] at hk
      have a1 := s16.kept.size
      have a2 := K6.size
      have a3 := block_lt hb
      rcases hk with z | z | z | z
      · exact .inl z
      · exact .inr (by omega)
      · have := own_lt s16.o0 k z; exact .inr (by omega)
      · have := own_lt s16.o1 k z; exact .inr (by omega)
    clear s16 hW16 hST
    go_upto_region 14 with fail
    rw [← E16.out]
    go_wp2_with fail
    refine (mxCrash w W16 B { d with dead := true } _ _ qc nc cc cs X16.out.1.swap ⟨X1.out.2.2.w0, X1.out.2.2.w1, X1.out.2.2.n0, X1.out.2.2.n1, X1.out.2.2.acts, X1.out.2.2.named⟩ (IQ.out W16 X16.out.1.md.kept) (fun h0 k hk z => by have := LQ.out h0 k hk; have := HB.out; omega)).mono ?_
    rintro x w17 ⟨Fc, fc, rfl, ec, m17, K17⟩
    have KL : Kept (fun k => ¬ SS k) W6 w17 := X16.out.2.2.2.2.2.2.2.trans K17 (fun k _ z hS => z (X16.out.2.2.2.2.2.2.1 k hS))
    have ub1 : w17.heap[w6.heap.size]? = some (.cells #[.slice p0 n0 c0, .slice p1 n1 c1] 32 (0, 0)) := KL.get X6.out.2.1 (fun z => z X6.out.2.2.2.1)
    have ub2 : w17.heap[w16.heap.size]? = some (.cells #[.slice q0 r0 d0, .slice q1 r1 d1] 32 (0, 0)) := K17.get X16.out.2.1 (fun z => z X16.out.2.2.2.1)
    have wo0 := KL.owns X6.out.2.2.1.o0 (fun k hk z => z (X6.out.2.2.2.2.1 k (by rw [← hk]; exact (blockOf_own ..).symm)))
    have wo1 := KL.owns X6.out.2.2.1.o1 (fun k hk z => z (X6.out.2.2.2.2.2 k (by rw [← hk]; exact (blockOf_own ..).symm)))
    have io0 := K17.owns X16.out.2.2.1.o0 (fun k hk z => z (X16.out.2.2.2.2.1 k (by rw [← hk]; exact (blockOf_own ..).symm)))
    have io1 := K17.owns X16.out.2.2.1.o1 (fun k hk z => z (X16.out.2.2.2.2.2.1 k (by rw [← hk]; exact (blockOf_own ..).symm)))
    have X17 : Hid (MX w w17 [(Fc, fc), (B, { d with dead := true }), (Fb, fb5), (Fa, fa)] ST ∧ fc.ab = d.ab.crash cs ∧ w17.heap[w6.heap.size]? = some (.cells #[.slice p0 n0 c0, .slice p1 n1 c1] 32 (0, 0)) ∧ w17.ownsRow w5.heap.size 5 1 (.slice p0 n0 c0) n0 (cellsOf (fa.ab.now 0)) ∧ w17.ownsRow w5.heap.size 5 1 (.slice p1 n1 c1) n1 (cellsOf (fa.ab.now 1))) := ⟨m17, ec, ub1, wo0, wo1⟩
    obtain ⟨t0, ht0⟩ : ∃ t0, t0 = str (fa.ab.now 0) := ⟨_, rfl⟩
    obtain ⟨t1, ht1⟩ : ∃ t1, t1 = str (fa.ab.now 1) := ⟨_, rfl⟩
    have HT : Hid (t0 = str (fa.ab.now 0) ∧ t1 = str (fa.ab.now 1)) := ⟨ht0, ht1⟩
    have BY : Hid (∀ i, ∀ c ∈ fa.ab.now i, c < 256) := fun i => ab_bytes X6.out.1.rot.rot.md.head i
    have s0 : (convert 22 9 (.slice p0 n0 c0)).run Try.prog w17 = .ok (.string t0) w17 := by rw [ht0]; exact own_string wo0 (BY.out 0) (Kept.refl _ _)
    have s1 : (convert 22 9 (.slice p1 n1 c1)).run Try.prog w17 = .ok (.string t1) w17 := by rw [ht1]; exact own_string wo1 (BY.out 1) (Kept.refl _ _)
    have s2 : (convert 22 9 (.slice q0 r0 d0)).run Try.prog w17 = .ok (.string t0) w17 := by rw [ht0]; exact own_string io0 (BY.out 0) (Kept.refl _ _)
    have s3 : (convert 22 9 (.slice q1 r1 d1)).run Try.prog w17 = .ok (.string t1) w17 := by rw [ht1]; exact own_string io1 (BY.out 1) (Kept.refl _ _)
    have g0 : w17.cell? ⟨w6.heap.size, 0, none⟩ = some (.slice p0 n0 c0) := cell_blk ub1 0 rfl
    have g1 : w17.cell? ⟨w6.heap.size, 1, none⟩ = some (.slice p1 n1 c1) := cell_blk ub1 1 rfl
    have g2 : w17.cell? ⟨w16.heap.size, 0, none⟩ = some (.slice q0 r0 d0) := cell_blk ub2 0 rfl
    have g3 : w17.cell? ⟨w16.heap.size, 1, none⟩ = some (.slice q1 r1 d1) := cell_blk ub2 1 rfl
    rw [show (fa.cur : Int) = 0 from by rw [HJ.out]; rfl]
    clear ec m17 K17 KL ub1 ub2 wo0 wo1 io0 io1 ht0 ht1
    go_wp2_with fail
    refine (alike w.heap.size w.heap.size Fa Fc fa fc w17 (X17.out.1.md.is (Fa, fa) (by simp)) X17.out.1.md.head FA.out.1 (by have := congrArg AB.dead X17.out.2.1; exact this) FA.out.2.1 (by rw [X17.out.2.1]; exact CO.out) (by rw [X17.out.2.1, X3.out.2]) (by rw [X17.out.2.1, X3.out.2]) (by have h1 := congrArg AB.cur X3.out.2; have h2 := congrArg AB.cur X17.out.2.1; exact h1.trans h2.symm)).mono ?_
    rintro x w18 ⟨rfl, K18⟩
    have X18 : Hid (MD w w18 [(Fc, fc), (B, { d with dead := true }), (Fb, fb5), (Fa, fa)] ∧ w18.heap[w6.heap.size]? = some (.cells #[.slice p0 n0 c0, .slice p1 n1 c1] 32 (0, 0)) ∧ w18.ownsRow w5.heap.size 5 1 (.slice p0 n0 c0) n0 (cellsOf (fa.ab.now 0)) ∧ w18.ownsRow w5.heap.size 5 1 (.slice p1 n1 c1) n1 (cellsOf (fa.ab.now 1))) := ⟨X17.out.1.md.quiet K18, K18.get X17.out.2.2.1 (fun z => z), K18.owns X17.out.2.2.2.1 (fun _ _ z => z), K18.owns X17.out.2.2.2.2 (fun _ _ z => z)⟩
    clear K18 s0 s1 s2 s3 g0 g1 g2 g3
    go_wp2_with fail
    refine (dSlots w.heap.size Fb fb5 w18 (X18.out.1.is (Fb, fb5) (by simp)) (by have := congrArg AB.dead X15.out.2.2; rw [OKS.out.2.2.2.2.2] at this; exact this) (by rw [X15.out.2.2]; exact OKS.out.2.2.2.2.1)).mono ?_
    rintro x w19 ⟨u0, v0, x0, u1, v1, x1, rfl, s19⟩
    obtain ⟨W19, hW19⟩ : ∃ W19, W19 = w19.alloc (.cells #[.slice u0 v0 x0, .slice u1 v1 x1] 32) := ⟨_, rfl⟩
    have E19 : Hid (W19 = w19.alloc (.cells #[.slice u0 v0 x0, .slice u1 v1 x1] 32)) := hW19
    have KQ : Kept (fun _ => False) w19 W19 := by rw [hW19]; exact alloc_kept0 _ _
    have KR : Kept (fun _ => False) w18 W19 := s19.kept.trans KQ (fun _ _ z => z)
    have ub3 : W19.heap[w19.heap.size]? = some (.cells #[.slice u0 v0 x0, .slice u1 v1 x1] 32 (0, 0)) := by rw [hW19]; exact alloc_new _ _
    have ub1 := KR.get X18.out.2.1 (fun z => z)
    have hlen : v0 = 0 := by
      have h1 := len_own s19.o0
      rw [X15.out.2.2, NOW.out.1] at h1
      simpa using h1.symm
    obtain ⟨tm, htm⟩ : ∃ tm, tm = str lm := ⟨_, rfl⟩
    have sm : (convert 22 9 (.slice qm nm cm)).run Try.prog W19 = .ok (.string tm) W19 := by rw [htm]; exact (RM.out W19 (X18.out.1.kept.trans KR (fun _ _ z => z))).string
    have su : (convert 22 9 (.slice u1 v1 x1)).run Try.prog W19 = .ok (.string (t1 ++ tm)) W19 := by
      have h1 := s19.o1
      rw [X15.out.2.2, NOW.out.2] at h1
      have h2 := own_string h1 (fun c hc => by
        rcases List.mem_append.1 hc with z | z
        · exact BY.out 1 c z
        · exact H.out.2.2.2.2.1.bytes c z) KQ
      rw [h2, str_append, htm, HT.out.2]
    have sp : (convert 22 9 (.slice p1 n1 c1)).run Try.prog W19 = .ok (.string t1) W19 := by rw [HT.out.2]; exact own_string X18.out.2.2.2 (BY.out 1) KR
    have g0 : W19.cell? ⟨w6.heap.size, 0, none⟩ = some (.slice p0 n0 c0) := cell_blk ub1 0 rfl
    have g1 : W19.cell? ⟨w6.heap.size, 1, none⟩ = some (.slice p1 n1 c1) := cell_blk ub1 1 rfl
    have g2 : W19.cell? ⟨w19.heap.size, 0, none⟩ = some (.slice u0 v0 x0) := cell_blk ub3 0 rfl
    have g3 : W19.cell? ⟨w19.heap.size, 1, none⟩ = some (.slice u1 v1 x1) := cell_blk ub3 1 rfl
    have KW : Hid (Kept (fun _ => False) w W19) := X18.out.1.kept.trans KR (fun _ _ z => z)
    have wr1 : IntKind.i64.wrap 1 = 1 := by decide
    have wr0 : IntKind.i64.wrap 0 = 0 := by decide
    have KV : ∀ k, Kept (fun _ => False) w19 (W19.drewN k) := fun k => KQ.drewN k
    have sm2 : ∀ k, (convert 22 9 (.slice qm nm cm)).run Try.prog (W19.drewN k) = .ok (.string tm) (W19.drewN k) := fun k => by rw [htm]; exact (RM.out _ ((X18.out.1.kept.trans KR (fun _ _ z => z)).drewN k)).string
    have su2 : ∀ k, (convert 22 9 (.slice u1 v1 x1)).run Try.prog (W19.drewN k) = .ok (.string (t1 ++ tm)) (W19.drewN k) := fun k => by
      have h1 := s19.o1
      rw [X15.out.2.2, NOW.out.2] at h1
      have h2 := own_string h1 (fun c hc => by
        rcases List.mem_append.1 hc with z | z
        · exact BY.out 1 c z
        · exact H.out.2.2.2.2.1.bytes c z) (KV k)
      rw [h2, str_append, htm, HT.out.2]
    have sp2 : ∀ k, (convert 22 9 (.slice p1 n1 c1)).run Try.prog (W19.drewN k) = .ok (.string t1) (W19.drewN k) := fun k => by rw [HT.out.2]; exact own_string X18.out.2.2.2 (BY.out 1) (KR.drewN k)
    have sadd : ∀ V : World, (Op.stringOp .add t1 tm).run Try.prog V = .ok (.string (t1 ++ tm)) V := fun V => run_string_add_sum V _ _ (by
      rw [HT.out.2, htm, str_size, str_size]
      have z1 := redoL_length fa.ab.X1 fa.ab.l1
      have z2 := FA.out.2.1.w1
      have z3 := H.out.2.2.1
      have z4 : (fa.ab.now 1).length = (redoL fa.ab.l1 fa.ab.X1).length := rfl
      unfold Lim at z2
      unfold Few at z3
      omega)
    subst hlen
    clear KV s19 hW19 KQ KR ub3 ub1 htm
    go_upto_region 18 with fail
    rw [← E19.out]
    go_quiet (fail)
    go_wp2_with fail
    go_ret
    exact ⟨by first | rfl | simp, KW.out.drewN nq⟩
  · have hc : (fa.cur : Int) = 1 := by rw [hj]; rfl
    obtain ⟨b1, b2, b3, b4, b5, t1, t2, t3, t4, t5, k0, k1, k2, k3, k4, k5, ld, nj, nk⟩ := worlds_steps (d.ab.crash cs) lm (sumN O + sumN O) CS.out H.out.2.2.1 1 (by omega)
    rw [← X4.out.2] at t1
    have ANS : Hid (fb.ab.act 1 0 lm = (b1, 0) ∧ b1.act 1 1 lm = (b2, 0) ∧ b2.act 4 0 [] = (b3, 0) ∧ b3.act 2 1 [] = (b4, 0) ∧ b4.act 3 1 [] = (b5, 0)) := ⟨t1, t2, t3, t4, t5⟩
    have OKS : Hid (b1.Ok ∧ b2.Ok ∧ b3.Ok ∧ b4.Ok ∧ b5.Ok ∧ b5.dead = false) := ⟨k1, k2, k3, k4, k5, ld⟩
    have NOW : Hid (b5.now 1 = [] ∧ b5.now 0 = fa.ab.now 0 ++ lm) := ⟨nj, by rw [X3.out.2]; exact nk⟩
    have HJ : Hid (fa.cur = 1) := hj
    rw [hc]
    clear t1 t2 t3 t4 t5 k0 k1 k2 k3 k4 k5 ld nj nk hc hj
    go_wp2_with fail
    refine (wide qm nm cm lm w8 (RM.out w8 X8.out.1.md.kept) H.out.2.2.2.2.2).mono ?_
    rintro x w9 ⟨pA, kA, rfl, oA, KA⟩
    have X9 : Hid (MX w w9 [(Fb, fb), (B, { d with dead := true }), (Fa, fa)] SS ∧ Kept (fun k => ¬ SS k) W6 w9 ∧ Reads w9 pA nm kA lm ∧ ∀ k, blockOf pA = some k → k ≠ Fb) := ⟨X8.out.1.quiet KA, X8.out.2.trans KA (fun _ _ z => z.elim), wide_reads H.out.2.2.2.2.1.length H.out.2.2.2.2.1.bytes oA, fun k hk z => by have := (own_lt oA k hk).1; have := block_lt X8.out.1.md.head.blk; omega⟩
    clear oA KA
    go_wp2_with fail
    refine (gAppend w.heap.size Fb fb 0 pA nm kA lm w9 X9.out.1.md.head FA.out.2.2.2.1 X9.out.2.2.1 H.out.2.2.2.2.2 X9.out.2.2.2).mono ?_
    rw [ANS.out.1]
    rintro x w10 ⟨rfl, fb1, i10, m10, e10⟩
    have X10 : Hid (MX w w10 [(Fb, fb1), (B, { d with dead := true }), (Fa, fa)] SS ∧ Kept (fun k => ¬ SS k) W6 w10 ∧ fb1.ab = b1) := ⟨(X9.out.1.after i10 m10).1, X9.out.2.1.trans (X9.out.1.after i10 m10).2 (fun _ _ z => z), e10⟩
    clear i10 m10 e10
    go_wp2_with fail
    refine (wide qm nm cm lm w10 (RM.out w10 X10.out.1.md.kept) H.out.2.2.2.2.2).mono ?_
    rintro x w11 ⟨pB, kB, rfl, oB, KB⟩
    have X11 : Hid (MX w w11 [(Fb, fb1), (B, { d with dead := true }), (Fa, fa)] SS ∧ Kept (fun k => ¬ SS k) W6 w11 ∧ Reads w11 pB nm kB lm ∧ ∀ k, blockOf pB = some k → k ≠ Fb) := ⟨X10.out.1.quiet KB, X10.out.2.1.trans KB (fun _ _ z => z.elim), wide_reads H.out.2.2.2.2.1.length H.out.2.2.2.2.1.bytes oB, fun k hk z => by have := (own_lt oB k hk).1; have := block_lt X10.out.1.md.head.blk; omega⟩
    clear oB KB
    go_wp2_with fail
    refine (gAppend w.heap.size Fb fb1 1 pB nm kB lm w11 X11.out.1.md.head (by rw [X10.out.2.2]; exact OKS.out.1) X11.out.2.2.1 H.out.2.2.2.2.2 X11.out.2.2.2).mono ?_
    rw [X10.out.2.2, ANS.out.2.1]
    rintro x w12 ⟨rfl, fb2, i12, m12, e12⟩
    have X12 : Hid (MX w w12 [(Fb, fb2), (B, { d with dead := true }), (Fa, fa)] SS ∧ Kept (fun k => ¬ SS k) W6 w12 ∧ fb2.ab = b2) := ⟨(X11.out.1.after i12 m12).1, X11.out.2.1.trans (X11.out.1.after i12 m12).2 (fun _ _ z => z), e12⟩
    clear i12 m12 e12
    go_wp2_with fail
    refine (gSwitch w.heap.size Fb fb2 0 [] w12 X12.out.1.md.head (by rw [X12.out.2.2]; exact OKS.out.2.1)).mono ?_
    rw [X12.out.2.2, ANS.out.2.2.1]
    rintro x w13 ⟨rfl, fb3, i13, m13, e13⟩
    have X13 : Hid (MX w w13 [(Fb, fb3), (B, { d with dead := true }), (Fa, fa)] SS ∧ Kept (fun k => ¬ SS k) W6 w13 ∧ fb3.ab = b3) := ⟨(X12.out.1.after i13 m13).1, X12.out.2.1.trans (X12.out.1.after i13 m13).2 (fun _ _ z => z), e13⟩
    clear i13 m13 e13
    go_wp2_with fail
    refine (gWipe w.heap.size Fb fb3 1 [] w13 X13.out.1.md.head (by rw [X13.out.2.2]; exact OKS.out.2.2.1)).mono ?_
    rw [X13.out.2.2, ANS.out.2.2.2.1]
    rintro x w14 ⟨rfl, fb4, i14, m14, e14⟩
    have X14 : Hid (MX w w14 [(Fb, fb4), (B, { d with dead := true }), (Fa, fa)] SS ∧ Kept (fun k => ¬ SS k) W6 w14 ∧ fb4.ab = b4) := ⟨(X13.out.1.after i14 m14).1, X13.out.2.1.trans (X13.out.1.after i14 m14).2 (fun _ _ z => z), e14⟩
    clear i14 m14 e14
    go_wp2_with fail
    refine (gSync w.heap.size Fb fb4 1 [] w14 X14.out.1.md.head (by rw [X14.out.2.2]; exact OKS.out.2.2.2.1)).mono ?_
    rw [X14.out.2.2, ANS.out.2.2.2.2]
    rintro x w15 ⟨rfl, fb5, i15, m15, e15⟩
    have X15 : Hid (MX w w15 [(Fb, fb5), (B, { d with dead := true }), (Fa, fa)] SS ∧ Kept (fun k => ¬ SS k) W6 w15 ∧ fb5.ab = b5) := ⟨(X14.out.1.after i15 m15).1, X14.out.2.1.trans (X14.out.1.after i15 m15).2 (fun _ _ z => z), e15⟩
    clear i15 m15 e15
    clear X7 X8 X9 X10 X11 X12 X13 X14 ANS
    go_wp2_with fail
    refine (dSlots w.heap.size Fa fa w15 X15.out.1.rot.rot.md.head FA.out.1 FA.out.2.1).mono ?_
    rintro x w16 ⟨q0, r0, d0, q1, r1, d1, rfl, s16⟩
    obtain ⟨W16, hW16⟩ : ∃ W16, W16 = w16.alloc (.cells #[.slice q0 r0 d0, .slice q1 r1 d1] 32) := ⟨_, rfl⟩
    have E16 : Hid (W16 = w16.alloc (.cells #[.slice q0 r0 d0, .slice q1 r1 d1] 32)) := hW16
    obtain ⟨ST, hST⟩ : ∃ ST : Nat → Prop, ST = fun k => SS k ∨ k = w16.heap.size ∨ blockOf q0 = some k ∨ blockOf q1 = some k := ⟨_, rfl⟩
    have X16 : Hid (MX w W16 [(Fb, fb5), (B, { d with dead := true }), (Fa, fa)] ST ∧ W16.heap[w16.heap.size]? = some (.cells #[.slice q0 r0 d0, .slice q1 r1 d1] 32 (0, 0)) ∧ SlotsAre w15 W16 fa.ab q0 r0 d0 q1 r1 d1 ∧ ST w16.heap.size ∧ (∀ k, blockOf q0 = some k → ST k) ∧ (∀ k, blockOf q1 = some k → ST k) ∧ (∀ k, SS k → ST k) ∧ Kept (fun k => ¬ SS k) W6 W16) := by
      have K6 : Kept (fun _ => False) w16 W16 := by rw [hW16]; exact alloc_kept0 _ _
      have K56 := s16.kept.trans K6 (fun _ _ z => z)
      have hb : W16.heap[w16.heap.size]? = some (.cells #[.slice q0 r0 d0, .slice q1 r1 d1] 32 (0, 0)) := by rw [hW16]; exact alloc_new _ _
      refine ⟨X15.out.1.more K56 (fun k hk => ?_), hb, ⟨K6.owns s16.o0 (fun _ _ z => z), K6.owns s16.o1 (fun _ _ z => z), s16.ne, K56⟩, by rw [hST]; exact .inr (.inl rfl), fun k hk => by rw [hST]; exact .inr (.inr (.inl hk)), fun k hk => by rw [hST]; exact .inr (.inr (.inr hk)), fun k hk => by rw [hST]; exact .inl hk, X15.out.2.1.trans K56 (fun _ _ z => z.elim)⟩
      rw [hST] at hk
      have a1 := s16.kept.size
      have a2 := K6.size
      have a3 := block_lt hb
      rcases hk with z | z | z | z
      · exact .inl z
      · exact .inr (by omega)
      · have := own_lt s16.o0 k z; exact .inr (by omega)
      · have := own_lt s16.o1 k z; exact .inr (by omega)
    clear s16 hW16 hST
    go_upto_region 14 with fail
    rw [← E16.out]
    go_wp2_with fail
    refine (mxCrash w W16 B { d with dead := true } _ _ qc nc cc cs X16.out.1.swap ⟨X1.out.2.2.w0, X1.out.2.2.w1, X1.out.2.2.n0, X1.out.2.2.n1, X1.out.2.2.acts, X1.out.2.2.named⟩ (IQ.out W16 X16.out.1.md.kept) (fun h0 k hk z => by have := LQ.out h0 k hk; have := HB.out; omega)).mono ?_
    rintro x w17 ⟨Fc, fc, rfl, ec, m17, K17⟩
    have KL : Kept (fun k => ¬ SS k) W6 w17 := X16.out.2.2.2.2.2.2.2.trans K17 (fun k _ z hS => z (X16.out.2.2.2.2.2.2.1 k hS))
    have ub1 : w17.heap[w6.heap.size]? = some (.cells #[.slice p0 n0 c0, .slice p1 n1 c1] 32 (0, 0)) := KL.get X6.out.2.1 (fun z => z X6.out.2.2.2.1)
    have ub2 : w17.heap[w16.heap.size]? = some (.cells #[.slice q0 r0 d0, .slice q1 r1 d1] 32 (0, 0)) := K17.get X16.out.2.1 (fun z => z X16.out.2.2.2.1)
    have wo0 := KL.owns X6.out.2.2.1.o0 (fun k hk z => z (X6.out.2.2.2.2.1 k (by rw [← hk]; exact (blockOf_own ..).symm)))
    have wo1 := KL.owns X6.out.2.2.1.o1 (fun k hk z => z (X6.out.2.2.2.2.2 k (by rw [← hk]; exact (blockOf_own ..).symm)))
    have io0 := K17.owns X16.out.2.2.1.o0 (fun k hk z => z (X16.out.2.2.2.2.1 k (by rw [← hk]; exact (blockOf_own ..).symm)))
    have io1 := K17.owns X16.out.2.2.1.o1 (fun k hk z => z (X16.out.2.2.2.2.2.1 k (by rw [← hk]; exact (blockOf_own ..).symm)))
    have X17 : Hid (MX w w17 [(Fc, fc), (B, { d with dead := true }), (Fb, fb5), (Fa, fa)] ST ∧ fc.ab = d.ab.crash cs ∧ w17.heap[w6.heap.size]? = some (.cells #[.slice p0 n0 c0, .slice p1 n1 c1] 32 (0, 0)) ∧ w17.ownsRow w5.heap.size 5 1 (.slice p0 n0 c0) n0 (cellsOf (fa.ab.now 0)) ∧ w17.ownsRow w5.heap.size 5 1 (.slice p1 n1 c1) n1 (cellsOf (fa.ab.now 1))) := ⟨m17, ec, ub1, wo0, wo1⟩
    obtain ⟨t0, ht0⟩ : ∃ t0, t0 = str (fa.ab.now 0) := ⟨_, rfl⟩
    obtain ⟨t1, ht1⟩ : ∃ t1, t1 = str (fa.ab.now 1) := ⟨_, rfl⟩
    have HT : Hid (t0 = str (fa.ab.now 0) ∧ t1 = str (fa.ab.now 1)) := ⟨ht0, ht1⟩
    have BY : Hid (∀ i, ∀ c ∈ fa.ab.now i, c < 256) := fun i => ab_bytes X6.out.1.rot.rot.md.head i
    have s0 : (convert 22 9 (.slice p0 n0 c0)).run Try.prog w17 = .ok (.string t0) w17 := by rw [ht0]; exact own_string wo0 (BY.out 0) (Kept.refl _ _)
    have s1 : (convert 22 9 (.slice p1 n1 c1)).run Try.prog w17 = .ok (.string t1) w17 := by rw [ht1]; exact own_string wo1 (BY.out 1) (Kept.refl _ _)
    have s2 : (convert 22 9 (.slice q0 r0 d0)).run Try.prog w17 = .ok (.string t0) w17 := by rw [ht0]; exact own_string io0 (BY.out 0) (Kept.refl _ _)
    have s3 : (convert 22 9 (.slice q1 r1 d1)).run Try.prog w17 = .ok (.string t1) w17 := by rw [ht1]; exact own_string io1 (BY.out 1) (Kept.refl _ _)
    have g0 : w17.cell? ⟨w6.heap.size, 0, none⟩ = some (.slice p0 n0 c0) := cell_blk ub1 0 rfl
    have g1 : w17.cell? ⟨w6.heap.size, 1, none⟩ = some (.slice p1 n1 c1) := cell_blk ub1 1 rfl
    have g2 : w17.cell? ⟨w16.heap.size, 0, none⟩ = some (.slice q0 r0 d0) := cell_blk ub2 0 rfl
    have g3 : w17.cell? ⟨w16.heap.size, 1, none⟩ = some (.slice q1 r1 d1) := cell_blk ub2 1 rfl
    rw [show (fa.cur : Int) = 1 from by rw [HJ.out]; rfl]
    clear ec m17 K17 KL ub1 ub2 wo0 wo1 io0 io1 ht0 ht1
    go_wp2_with fail
    refine (alike w.heap.size w.heap.size Fa Fc fa fc w17 (X17.out.1.md.is (Fa, fa) (by simp)) X17.out.1.md.head FA.out.1 (by have := congrArg AB.dead X17.out.2.1; exact this) FA.out.2.1 (by rw [X17.out.2.1]; exact CO.out) (by rw [X17.out.2.1, X3.out.2]) (by rw [X17.out.2.1, X3.out.2]) (by have h1 := congrArg AB.cur X3.out.2; have h2 := congrArg AB.cur X17.out.2.1; exact h1.trans h2.symm)).mono ?_
    rintro x w18 ⟨rfl, K18⟩
    have X18 : Hid (MD w w18 [(Fc, fc), (B, { d with dead := true }), (Fb, fb5), (Fa, fa)] ∧ w18.heap[w6.heap.size]? = some (.cells #[.slice p0 n0 c0, .slice p1 n1 c1] 32 (0, 0)) ∧ w18.ownsRow w5.heap.size 5 1 (.slice p0 n0 c0) n0 (cellsOf (fa.ab.now 0)) ∧ w18.ownsRow w5.heap.size 5 1 (.slice p1 n1 c1) n1 (cellsOf (fa.ab.now 1))) := ⟨X17.out.1.md.quiet K18, K18.get X17.out.2.2.1 (fun z => z), K18.owns X17.out.2.2.2.1 (fun _ _ z => z), K18.owns X17.out.2.2.2.2 (fun _ _ z => z)⟩
    clear K18 s0 s1 s2 s3 g0 g1 g2 g3
    go_wp2_with fail
    refine (dSlots w.heap.size Fb fb5 w18 (X18.out.1.is (Fb, fb5) (by simp)) (by have := congrArg AB.dead X15.out.2.2; rw [OKS.out.2.2.2.2.2] at this; exact this) (by rw [X15.out.2.2]; exact OKS.out.2.2.2.2.1)).mono ?_
    rintro x w19 ⟨u0, v0, x0, u1, v1, x1, rfl, s19⟩
    obtain ⟨W19, hW19⟩ : ∃ W19, W19 = w19.alloc (.cells #[.slice u0 v0 x0, .slice u1 v1 x1] 32) := ⟨_, rfl⟩
    have E19 : Hid (W19 = w19.alloc (.cells #[.slice u0 v0 x0, .slice u1 v1 x1] 32)) := hW19
    have KQ : Kept (fun _ => False) w19 W19 := by rw [hW19]; exact alloc_kept0 _ _
    have KR : Kept (fun _ => False) w18 W19 := s19.kept.trans KQ (fun _ _ z => z)
    have ub3 : W19.heap[w19.heap.size]? = some (.cells #[.slice u0 v0 x0, .slice u1 v1 x1] 32 (0, 0)) := by rw [hW19]; exact alloc_new _ _
    have ub1 := KR.get X18.out.2.1 (fun z => z)
    have hlen : v1 = 0 := by
      have h1 := len_own s19.o1
      rw [X15.out.2.2, NOW.out.1] at h1
      simpa using h1.symm
    obtain ⟨tm, htm⟩ : ∃ tm, tm = str lm := ⟨_, rfl⟩
    have sm : (convert 22 9 (.slice qm nm cm)).run Try.prog W19 = .ok (.string tm) W19 := by rw [htm]; exact (RM.out W19 (X18.out.1.kept.trans KR (fun _ _ z => z))).string
    have su : (convert 22 9 (.slice u0 v0 x0)).run Try.prog W19 = .ok (.string (t0 ++ tm)) W19 := by
      have h1 := s19.o0
      rw [X15.out.2.2, NOW.out.2] at h1
      have h2 := own_string h1 (fun c hc => by
        rcases List.mem_append.1 hc with z | z
        · exact BY.out 0 c z
        · exact H.out.2.2.2.2.1.bytes c z) KQ
      rw [h2, str_append, htm, HT.out.1]
    have sp : (convert 22 9 (.slice p0 n0 c0)).run Try.prog W19 = .ok (.string t0) W19 := by rw [HT.out.1]; exact own_string X18.out.2.2.1 (BY.out 0) KR
    have g0 : W19.cell? ⟨w6.heap.size, 0, none⟩ = some (.slice p0 n0 c0) := cell_blk ub1 0 rfl
    have g1 : W19.cell? ⟨w6.heap.size, 1, none⟩ = some (.slice p1 n1 c1) := cell_blk ub1 1 rfl
    have g2 : W19.cell? ⟨w19.heap.size, 0, none⟩ = some (.slice u0 v0 x0) := cell_blk ub3 0 rfl
    have g3 : W19.cell? ⟨w19.heap.size, 1, none⟩ = some (.slice u1 v1 x1) := cell_blk ub3 1 rfl
    have KW : Hid (Kept (fun _ => False) w W19) := X18.out.1.kept.trans KR (fun _ _ z => z)
    have wr1 : IntKind.i64.wrap 1 = 1 := by decide
    have wr0 : IntKind.i64.wrap 0 = 0 := by decide
    have KV : ∀ k, Kept (fun _ => False) w19 (W19.drewN k) := fun k => KQ.drewN k
    have sm2 : ∀ k, (convert 22 9 (.slice qm nm cm)).run Try.prog (W19.drewN k) = .ok (.string tm) (W19.drewN k) := fun k => by rw [htm]; exact (RM.out _ ((X18.out.1.kept.trans KR (fun _ _ z => z)).drewN k)).string
    have su2 : ∀ k, (convert 22 9 (.slice u0 v0 x0)).run Try.prog (W19.drewN k) = .ok (.string (t0 ++ tm)) (W19.drewN k) := fun k => by
      have h1 := s19.o0
      rw [X15.out.2.2, NOW.out.2] at h1
      have h2 := own_string h1 (fun c hc => by
        rcases List.mem_append.1 hc with z | z
        · exact BY.out 0 c z
        · exact H.out.2.2.2.2.1.bytes c z) (KV k)
      rw [h2, str_append, htm, HT.out.1]
    have sp2 : ∀ k, (convert 22 9 (.slice p0 n0 c0)).run Try.prog (W19.drewN k) = .ok (.string t0) (W19.drewN k) := fun k => by rw [HT.out.1]; exact own_string X18.out.2.2.1 (BY.out 0) (KR.drewN k)
    have sadd : ∀ V : World, (Op.stringOp .add t0 tm).run Try.prog V = .ok (.string (t0 ++ tm)) V := fun V => run_string_add_sum V _ _ (by
      rw [HT.out.1, htm, str_size, str_size]
      have z1 := redoL_length fa.ab.X0 fa.ab.l0
      have z2 := FA.out.2.1.w0
      have z3 := H.out.2.2.1
      have z4 : (fa.ab.now 0).length = (redoL fa.ab.l0 fa.ab.X0).length := rfl
      unfold Lim at z2
      unfold Few at z3
      omega)
    subst hlen
    clear KV s19 hW19 KQ KR ub3 ub1 htm
    go_upto_region 18 with fail
    rw [← E19.out]
    go_quiet (fail)
    go_wp2_with fail
    go_ret
    exact ⟨by first | rfl | simp, KW.out.drewN nq⟩
end Go.Proofs.Ytbnnmelkbjkkjaa
