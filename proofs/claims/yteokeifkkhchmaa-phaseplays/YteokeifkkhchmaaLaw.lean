import Derived.Test.YteokeifkkhchmaaWalk
namespace Go.Proofs.Yteokeifkkhchmaa
open Go.RowKit 

theorem four0 (w : World) (a b c d : Obj) : ((((w.alloc a).alloc b).alloc c).alloc d).heap[w.heap.size + 2]? = some c := by
  rw [Below.heap_alloc _ _ _ (by simp)]; exact three2 _ _ _ _
theorem four3 (w : World) (a b c d : Obj) : ((((w.alloc a).alloc b).alloc c).alloc d).heap[w.heap.size + 3]? = some d := by
  have : w.heap.size + 3 = (((w.alloc a).alloc b).alloc c).heap.size := by simp
  rw [this]; exact heap_alloc_new _ _
/-- Two configs and the two arrays, laid. -/
theorem L1.start (w : World) (N0 K0 D0 N1 K1 D1 : Int) (o1 o2 : Obj) : L1 w (((((w.alloc o1).alloc o2).alloc (.cells #[.pointer none, .pointer none] 26)).alloc (.cells #[.pointer none, .pointer none] 28)).alloc (.cells #[.int .i64 N0, .int .i64 K0, .int .i64 D0, .int .i64 N1, .int .i64 K1, .int .i64 D1] 23)) (w.heap.size + 1 + 1) (w.heap.size + 1 + 1 + 1) (w.heap.size + 1 + 1 + 1 + 1) N0 K0 D0 N1 K1 D1 none none := by
  refine ⟨⟨?_, ?_, fun _ q => (by cases q), fun _ q => (by cases q), fun _ _ q => (by cases q), fun j hj => ?_, (((((Kept.refl _ w).alloc _).alloc _).alloc _).alloc _).alloc _⟩, ?_, by omega, by omega, by omega, by omega, by omega⟩
  · rw [Below.heap_alloc _ _ _ (by simp)]; exact four0 _ _ _ _ _
  · rw [Below.heap_alloc _ _ _ (by simp)]; exact four3 _ _ _ _ _
  · rcases hj with ⟨_, e, _⟩ | ⟨_, e, _⟩ <;> cases e
  · have : w.heap.size + 1 + 1 + 1 + 1 = ((((w.alloc o1).alloc o2).alloc (.cells #[.pointer none, .pointer none] 26)).alloc (.cells #[.pointer none, .pointer none] 28)).heap.size := by simp
    rw [this]; exact heap_alloc_new _ _
theorem L1.cells {w wr : World} {B7 B8 BC : Nat} {N0 K0 D0 N1 K1 D1 : Int} {x0 x1 : Option PX} (h : L1 w wr B7 B8 BC N0 K0 D0 N1 K1 D1 x0 x1) : wr.cell? ⟨BC, 0, none⟩ = some (.int .i64 N0) ∧ wr.cell? ⟨BC, 1, none⟩ = some (.int .i64 K0) ∧ wr.cell? ⟨BC, 2, none⟩ = some (.int .i64 D0) ∧ wr.cell? ⟨BC, 3, none⟩ = some (.int .i64 N1) ∧ wr.cell? ⟨BC, 4, none⟩ = some (.int .i64 K1) ∧ wr.cell? ⟨BC, 5, none⟩ = some (.int .i64 D1) :=
  ⟨cell_blk h.cf 0 rfl, cell_blk h.cf 1 rfl, cell_blk h.cf 2 rfl, cell_blk h.cf 3 rfl, cell_blk h.cf 4 rfl, cell_blk h.cf 5 rfl⟩
theorem L1.soft {w wr : World} {B7 B8 BC : Nat} {N0 K0 D0 N1 K1 D1 : Int} {x0 x1 : Option PX} (h : L1 w wr B7 B8 BC N0 K0 D0 N1 K1 D1 x0 x1) (i : Nat) : wr.frozen? ⟨B7, i, none⟩ = false ∧ wr.frozen? ⟨B8, i, none⟩ = false := ⟨soft_blk h.ls.ps i, soft_blk h.ls.rs i⟩
theorem rNew_okI (N K D : Int) (w : World) (h : okC N K D) : Calls Try.prog 4 #[.agg #[.int .i64 N, .int .i64 K, .int .i64 D]] w fun x w' => ∃ rb cb lb, w.heap.size ≤ rb ∧ w.heap.size ≤ cb ∧ w.heap.size ≤ lb ∧ x = .returned (.tuple #[.pointer (some ⟨rb, 0, none⟩), .int .i64 0]) ∧ IsR w' rb cb lb N.toNat K D (fun _ => none) ∧ Kept (fun _ => False) w w' := by
  have e : ((N.toNat : Nat) : Int) = N := by have := h.1; have := h.2.1; omega
  have := rNew_ok N.toNat K D w (by rw [e]; exact h)
  rw [e] at this
  exact this
theorem newI_okI (N K D : Int) (w : World) (h : okC N K D) : Calls Try.prog 5 #[.agg #[.int .i64 N, .int .i64 K, .int .i64 D]] w fun x w' => ∃ pb mb, w.heap.size ≤ pb ∧ w.heap.size ≤ mb ∧ x = .returned (.tuple #[.pointer (some ⟨pb, 0, none⟩), .int .i64 0]) ∧ IsP 49 (Value.int .i64) RI w' pb mb ((N.toNat : Nat) : Int) (quo ((N.toNat : Nat) : Int) K) (fun _ => none) ∧ Kept (fun _ => False) w w' := by
  have e : ((N.toNat : Nat) : Int) = N := by have := h.1; have := h.2.1; omega
  rw [e]
  exact newI_ok N K D w h
set_option maxRecDepth 100000 in
set_option maxHeartbeats 8000000 in
theorem phasePlays (N0 K0 D0 N1 K1 D1 : Int) (a : Option Addr) (len cap : Nat) (w : World) (r : PReads w a len cap) (hb : len ≤ 4611686018427387000) :
    Calls Try.prog 3 #[.agg #[.int .i64 N0, .int .i64 K0, .int .i64 D0], .agg #[.int .i64 N1, .int .i64 K1, .int .i64 D1], .slice a len cap] w fun o w' => o = .returned (.bool true) ∧ Kept (fun _ => False) w w' := by
  have R : Hid (PReads w a len cap) := r
  have rm := r.room
  have sm := r.small
  unfold maxLen at sm
  clear r
  have S0 : Hid (L1 w (((((w.alloc (.cells #[.int .i64 N0, .int .i64 K0, .int .i64 D0] 23)).alloc (.cells #[.int .i64 N1, .int .i64 K1, .int .i64 D1] 23)).alloc (.cells #[.pointer none, .pointer none] 26)).alloc (.cells #[.pointer none, .pointer none] 28)).alloc (.cells #[.int .i64 N0, .int .i64 K0, .int .i64 D0, .int .i64 N1, .int .i64 K1, .int .i64 D1] 23)) (w.heap.size + 1 + 1) (w.heap.size + 1 + 1 + 1) (w.heap.size + 1 + 1 + 1 + 1) N0 K0 D0 N1 K1 D1 none none) := L1.start w N0 K0 D0 N1 K1 D1 _ _
  go_enter Try.func3, Try.ntmps3
  go_upto_region 4 with fail
  obtain ⟨W, hW⟩ : ∃ W, W = (((((w.alloc (.cells #[.int .i64 N0, .int .i64 K0, .int .i64 D0] 23)).alloc (.cells #[.int .i64 N1, .int .i64 K1, .int .i64 D1] 23)).alloc (.cells #[.pointer none, .pointer none] 26)).alloc (.cells #[.pointer none, .pointer none] 28)).alloc (.cells #[.int .i64 N0, .int .i64 K0, .int .i64 D0, .int .i64 N1, .int .i64 K1, .int .i64 D1] 23)) := ⟨_, rfl⟩
  rw [← hW] at S0 ⊢
  obtain ⟨B7, h7⟩ : ∃ B7, B7 = w.heap.size + 1 + 1 := ⟨_, rfl⟩
  obtain ⟨B8, h8⟩ : ∃ B8, B8 = B7 + 1 := ⟨_, rfl⟩
  obtain ⟨BC, hC⟩ : ∃ BC, BC = B8 + 1 := ⟨_, rfl⟩
  rw [← h7, ← h8, ← hC] at S0 ⊢
  clear hW h7 h8 hC
  (try go_frame)
  go_loopw [22] (fun z wr => ∃ (i : Nat) (x0 x1 : Option PX), z = .int .i64 (i : Int) ∧ (i = 0 → x0 = none) ∧ ((i = 0 ∧ x1 = none) ∨ (i = 1 ∧ x1 = none) ∨ i = 2) ∧ Hid (L1 w wr B7 B8 BC N0 K0 D0 N1 K1 D1 x0 x1)) (fun z _ => 2 - (intOf z).toNat)
  case atStart => exact ⟨0, none, none, rfl, fun _ => rfl, .inl ⟨rfl, rfl⟩, S0⟩
  case round =>
    obtain ⟨i, x0, x1, rfl, e0, hi, S⟩ := hrel
    clear S0
    have LW : Hid (w.heap.size ≤ wr.heap.size) := S.out.ls.kept.size
    rcases hi with hi | hi | hi
    · obtain ⟨rfl, e1⟩ := hi
      subst e1
      obtain rfl : x0 = none := e0 rfl
      obtain ⟨f0, f1, f2, f3, f4, f5⟩ := S.out.cells
      obtain ⟨W1, hW1⟩ : ∃ W1, W1 = wr.alloc (.cells #[.int .i64 N0, .int .i64 K0, .int .i64 D0] 23) := ⟨_, rfl⟩
      have KW : Kept (fun _ => False) wr W1 := by rw [hW1]; exact k0_alloc _ _
      have BX : W1.heap[wr.heap.size]? = some (.cells #[.int .i64 N0, .int .i64 K0, .int .i64 D0] 23 (0, 0)) := by rw [hW1]; exact heap_alloc_new _ _
      have S1 : Hid (L1 w W1 B7 B8 BC N0 K0 D0 N1 K1 D1 none none ∧ W1.heap[wr.heap.size]? = some (.cells #[.int .i64 N0, .int .i64 K0, .int .i64 D0] 23 (0, 0)) ∧ wr.heap.size < W1.heap.size) := ⟨S.out.k0 KW, BX, block_lt BX⟩
      have EW : Hid (W1 = wr.alloc (.cells #[.int .i64 N0, .int .i64 K0, .int .i64 D0] 23)) := hW1
      clear hW1 KW BX S
      by_cases ok : okC N0 K0 D0
      · have OK : Hid (okC N0 K0 D0) := ok
        clear ok
        go_wp2_with fail
        rw [← EW.out]
        refine (rNew_okI N0 K0 D0 W1 OK.out).mono ?_
        rintro o w2 ⟨rb, cb, lb, l1, l2, l3, rfl, ir, k2⟩
        have S2 : Hid (L1 w w2 B7 B8 BC N0 K0 D0 N1 K1 D1 none none ∧ w2.heap[wr.heap.size]? = some (.cells #[.int .i64 N0, .int .i64 K0, .int .i64 D0] 23 (0, 0)) ∧ IsR w2 rb cb lb N0.toNat K0 D0 (fun _ => none) ∧ W1.heap.size ≤ cb ∧ W1.heap.size ≤ lb ∧ W1.heap.size ≤ w2.heap.size) := ⟨S1.out.1.k0 k2, k2.get S1.out.2.1 (fun z => z), ir, l2, l3, k2.size⟩
        have g0 := cell_blk S2.out.2.1 0 (v := .int .i64 N0) rfl
        have g1 := cell_blk S2.out.2.1 1 (v := .int .i64 K0) rfl
        have g2 := cell_blk S2.out.2.1 2 (v := .int .i64 D0) rfl
        clear ir k2 l1 l2 l3 f0 f1 f2 f3 f4 f5
        go_wp2_with fail
        refine (newI_okI N0 K0 D0 w2 OK.out).mono ?_
        rintro o w3 ⟨pb, mb, l4, l5, rfl, ip, k3⟩
        obtain ⟨x, hx⟩ : ∃ x : Option PX, x = some ⟨pb, mb, rb, cb, lb, N0.toNat, K0, D0, fun _ => none⟩ := ⟨_, rfl⟩
        have S3 : Hid (L1 w w3 B7 B8 BC N0 K0 D0 N1 K1 D1 none none ∧ True) := ⟨S2.out.1.k0 k3, trivial⟩
        have HX : Hid (Holds w3 x) := by
          intro y e
          rw [hx] at e
          cases e
          exact ⟨ip, S2.out.2.2.1.k0 k3⟩
        have WL : w.heap.size ≤ wr.heap.size := by have := S1.out.1.ls.kept.size; have := S2.out.1.ls.kept.size; exact LW.out
        have LO : Hid (∀ j, Uses x j → w.heap.size ≤ j) := by
          rintro j ⟨y, e, u⟩
          rw [hx] at e
          cases e
          have a1 := S1.out.2.2
          have a2 := S2.out.2.2.2
          rcases u with u | u | u
          · have u : j = mb := u; omega
          · have u : j = cb := u; omega
          · have u : j = lb := u; omega
        have AP : Hid (Apart none x) := by
          intro y0 y1 e0 e1
          rw [hx] at e1
          cases e1
          have b := S1.out.1.ls.h0 y0 e0
          have a2 := S2.out.2.2.2
          have q1 := b.lt (.inl rfl)
          have q2 := b.lt (.inr (.inl rfl))
          have q3 := b.lt (.inr (.inr rfl))
          show y0.mb ≠ mb ∧ y0.cb ≠ cb ∧ y0.lb ≠ lb
          exact ⟨by omega, by omega, by omega⟩
        have PV : Hid (pv x = .pointer (some ⟨pb, 0, none⟩) ∧ rv x = .pointer (some ⟨rb, 0, none⟩)) := by rw [hx]; exact ⟨rfl, rfl⟩
        obtain ⟨z7, z8⟩ := S3.out.1.soft 0
        have z80 := S3.out.1.ne.1
        have y7 := S3.out.1.ls.cells.1
        have y8 := S3.out.1.ls.cells.2.2.1
        clear ip k3 l4 l5 g0 g1 g2 hx
        go_wp2_with fail
        go_roundw
        case rel =>
          refine ⟨1, x, none, rfl, fun q => by omega, .inr (.inl ⟨rfl, rfl⟩), ?_⟩
          have := S3.out.1.put0 x HX.out (fun j hj => LO.out j hj) (fun y e => S3.out.1.ls.not (HX.out y e))
          rw [PV.out.1, PV.out.2] at this
          exact this
        case measure => simp [intOf]
      · have NO : Hid (¬ okC N0 K0 D0) := ok
        clear ok
        go_wp2_with fail
        rw [← EW.out]
        refine (rNew_not N0 K0 D0 W1 NO.out).mono ?_
        rintro o w2 ⟨rfl, k2⟩
        have S2 : Hid (L1 w w2 B7 B8 BC N0 K0 D0 N1 K1 D1 none none ∧ w2.heap[wr.heap.size]? = some (.cells #[.int .i64 N0, .int .i64 K0, .int .i64 D0] 23 (0, 0))) := ⟨S1.out.1.k0 k2, k2.get S1.out.2.1 (fun z => z)⟩
        have g0 := cell_blk S2.out.2 0 (v := .int .i64 N0) rfl
        have g1 := cell_blk S2.out.2 1 (v := .int .i64 K0) rfl
        have g2 := cell_blk S2.out.2 2 (v := .int .i64 D0) rfl
        clear k2 f0 f1 f2 f3 f4 f5
        go_wp2_with fail
        refine (newI_not N0 K0 D0 w2 NO.out).mono ?_
        rintro o w3 ⟨rfl, k3⟩
        obtain ⟨x, hx⟩ : ∃ x : Option PX, x = none := ⟨_, rfl⟩
        have S3 : Hid (L1 w w3 B7 B8 BC N0 K0 D0 N1 K1 D1 none none ∧ True) := ⟨S2.out.1.k0 k3, trivial⟩
        have HX : Hid (Holds w3 x) := by
          intro y e
          rw [hx] at e
          cases e
        have LO : Hid (∀ j, Uses x j → w.heap.size ≤ j) := by
          rintro j ⟨y, e, u⟩
          rw [hx] at e
          cases e
        have AP : Hid (Apart none x) := by
          intro y0 y1 e0 e1
          rw [hx] at e1
          cases e1
        have PV : Hid (pv x = .pointer none ∧ rv x = .pointer none) := by rw [hx]; exact ⟨rfl, rfl⟩
        obtain ⟨z7, z8⟩ := S3.out.1.soft 0
        have z80 := S3.out.1.ne.1
        have y7 := S3.out.1.ls.cells.1
        have y8 := S3.out.1.ls.cells.2.2.1
        clear k3 g0 g1 g2 hx
        go_wp2_with fail
        go_roundw
        case rel =>
          refine ⟨1, x, none, rfl, fun q => by omega, .inr (.inl ⟨rfl, rfl⟩), ?_⟩
          have := S3.out.1.put0 x HX.out (fun j hj => LO.out j hj) (fun y e => S3.out.1.ls.not (HX.out y e))
          rw [PV.out.1, PV.out.2] at this
          exact this
        case measure => simp [intOf]
    · obtain ⟨rfl, e1⟩ := hi
      subst e1
      clear e0
      obtain ⟨f0, f1, f2, f3, f4, f5⟩ := S.out.cells
      obtain ⟨W1, hW1⟩ : ∃ W1, W1 = wr.alloc (.cells #[.int .i64 N1, .int .i64 K1, .int .i64 D1] 23) := ⟨_, rfl⟩
      have KW : Kept (fun _ => False) wr W1 := by rw [hW1]; exact k0_alloc _ _
      have BX : W1.heap[wr.heap.size]? = some (.cells #[.int .i64 N1, .int .i64 K1, .int .i64 D1] 23 (0, 0)) := by rw [hW1]; exact heap_alloc_new _ _
      have S1 : Hid (L1 w W1 B7 B8 BC N0 K0 D0 N1 K1 D1 x0 none ∧ W1.heap[wr.heap.size]? = some (.cells #[.int .i64 N1, .int .i64 K1, .int .i64 D1] 23 (0, 0)) ∧ wr.heap.size < W1.heap.size) := ⟨S.out.k0 KW, BX, block_lt BX⟩
      have EW : Hid (W1 = wr.alloc (.cells #[.int .i64 N1, .int .i64 K1, .int .i64 D1] 23)) := hW1
      clear hW1 KW BX S
      by_cases ok : okC N1 K1 D1
      · have OK : Hid (okC N1 K1 D1) := ok
        clear ok
        go_wp2_with fail
        rw [← EW.out]
        refine (rNew_okI N1 K1 D1 W1 OK.out).mono ?_
        rintro o w2 ⟨rb, cb, lb, l1, l2, l3, rfl, ir, k2⟩
        have S2 : Hid (L1 w w2 B7 B8 BC N0 K0 D0 N1 K1 D1 x0 none ∧ w2.heap[wr.heap.size]? = some (.cells #[.int .i64 N1, .int .i64 K1, .int .i64 D1] 23 (0, 0)) ∧ IsR w2 rb cb lb N1.toNat K1 D1 (fun _ => none) ∧ W1.heap.size ≤ cb ∧ W1.heap.size ≤ lb ∧ W1.heap.size ≤ w2.heap.size) := ⟨S1.out.1.k0 k2, k2.get S1.out.2.1 (fun z => z), ir, l2, l3, k2.size⟩
        have g0 := cell_blk S2.out.2.1 0 (v := .int .i64 N1) rfl
        have g1 := cell_blk S2.out.2.1 1 (v := .int .i64 K1) rfl
        have g2 := cell_blk S2.out.2.1 2 (v := .int .i64 D1) rfl
        clear ir k2 l1 l2 l3 f0 f1 f2 f3 f4 f5
        go_wp2_with fail
        refine (newI_okI N1 K1 D1 w2 OK.out).mono ?_
        rintro o w3 ⟨pb, mb, l4, l5, rfl, ip, k3⟩
        obtain ⟨x, hx⟩ : ∃ x : Option PX, x = some ⟨pb, mb, rb, cb, lb, N1.toNat, K1, D1, fun _ => none⟩ := ⟨_, rfl⟩
        have S3 : Hid (L1 w w3 B7 B8 BC N0 K0 D0 N1 K1 D1 x0 none ∧ True) := ⟨S2.out.1.k0 k3, trivial⟩
        have HX : Hid (Holds w3 x) := by
          intro y e
          rw [hx] at e
          cases e
          exact ⟨ip, S2.out.2.2.1.k0 k3⟩
        have WL : w.heap.size ≤ wr.heap.size := by have := S1.out.1.ls.kept.size; have := S2.out.1.ls.kept.size; exact LW.out
        have LO : Hid (∀ j, Uses x j → w.heap.size ≤ j) := by
          rintro j ⟨y, e, u⟩
          rw [hx] at e
          cases e
          have a1 := S1.out.2.2
          have a2 := S2.out.2.2.2
          rcases u with u | u | u
          · have u : j = mb := u; omega
          · have u : j = cb := u; omega
          · have u : j = lb := u; omega
        have AP : Hid (Apart x0 x) := by
          intro y0 y1 e0 e1
          rw [hx] at e1
          cases e1
          have b := S1.out.1.ls.h0 y0 e0
          have a2 := S2.out.2.2.2
          have q1 := b.lt (.inl rfl)
          have q2 := b.lt (.inr (.inl rfl))
          have q3 := b.lt (.inr (.inr rfl))
          show y0.mb ≠ mb ∧ y0.cb ≠ cb ∧ y0.lb ≠ lb
          exact ⟨by omega, by omega, by omega⟩
        have PV : Hid (pv x = .pointer (some ⟨pb, 0, none⟩) ∧ rv x = .pointer (some ⟨rb, 0, none⟩)) := by rw [hx]; exact ⟨rfl, rfl⟩
        obtain ⟨z7, z8⟩ := S3.out.1.soft 1
        have z80 := S3.out.1.ne.1
        have y7 := S3.out.1.ls.cells.2.1
        have y8 := S3.out.1.ls.cells.2.2.2
        clear ip k3 l4 l5 g0 g1 g2 hx
        go_wp2_with fail
        go_roundw
        case rel =>
          refine ⟨2, x0, x, rfl, fun q => by omega, .inr (.inr rfl), ?_⟩
          have := S3.out.1.put1 x HX.out (fun j hj => LO.out j hj) (fun y e => S3.out.1.ls.not (HX.out y e)) AP.out (fun y e => S3.out.1.ls.not (S3.out.1.ls.h0 y e))
          rw [PV.out.1, PV.out.2] at this
          exact this
        case measure => simp [intOf]
      · have NO : Hid (¬ okC N1 K1 D1) := ok
        clear ok
        go_wp2_with fail
        rw [← EW.out]
        refine (rNew_not N1 K1 D1 W1 NO.out).mono ?_
        rintro o w2 ⟨rfl, k2⟩
        have S2 : Hid (L1 w w2 B7 B8 BC N0 K0 D0 N1 K1 D1 x0 none ∧ w2.heap[wr.heap.size]? = some (.cells #[.int .i64 N1, .int .i64 K1, .int .i64 D1] 23 (0, 0))) := ⟨S1.out.1.k0 k2, k2.get S1.out.2.1 (fun z => z)⟩
        have g0 := cell_blk S2.out.2 0 (v := .int .i64 N1) rfl
        have g1 := cell_blk S2.out.2 1 (v := .int .i64 K1) rfl
        have g2 := cell_blk S2.out.2 2 (v := .int .i64 D1) rfl
        clear k2 f0 f1 f2 f3 f4 f5
        go_wp2_with fail
        refine (newI_not N1 K1 D1 w2 NO.out).mono ?_
        rintro o w3 ⟨rfl, k3⟩
        obtain ⟨x, hx⟩ : ∃ x : Option PX, x = none := ⟨_, rfl⟩
        have S3 : Hid (L1 w w3 B7 B8 BC N0 K0 D0 N1 K1 D1 x0 none ∧ True) := ⟨S2.out.1.k0 k3, trivial⟩
        have HX : Hid (Holds w3 x) := by
          intro y e
          rw [hx] at e
          cases e
        have LO : Hid (∀ j, Uses x j → w.heap.size ≤ j) := by
          rintro j ⟨y, e, u⟩
          rw [hx] at e
          cases e
        have AP : Hid (Apart x0 x) := by
          intro y0 y1 e0 e1
          rw [hx] at e1
          cases e1
        have PV : Hid (pv x = .pointer none ∧ rv x = .pointer none) := by rw [hx]; exact ⟨rfl, rfl⟩
        obtain ⟨z7, z8⟩ := S3.out.1.soft 1
        have z80 := S3.out.1.ne.1
        have y7 := S3.out.1.ls.cells.2.1
        have y8 := S3.out.1.ls.cells.2.2.2
        clear k3 g0 g1 g2 hx
        go_wp2_with fail
        go_roundw
        case rel =>
          refine ⟨2, x0, x, rfl, fun q => by omega, .inr (.inr rfl), ?_⟩
          have := S3.out.1.put1 x HX.out (fun j hj => LO.out j hj) (fun y e => S3.out.1.ls.not (HX.out y e)) AP.out (fun y e => S3.out.1.ls.not (S3.out.1.ls.h0 y e))
          rw [PV.out.1, PV.out.2] at this
          exact this
        case measure => simp [intOf]
    · subst hi
      rw [show (((2 : Nat) : Int)) = (2 : Int) from rfl]
      have T0 : Hid (LS w wr B7 B8 x0 x1) := S.out.ls
      clear S e0 LW
      go_wp2_with fail
      (try go_frame)
      go_loopw [56] (fun z wr => ∃ (i : Nat) (x0 x1 : Option PX), z = .int .i64 (i : Int) ∧ i ≤ len ∧ Hid (LS w wr B7 B8 x0 x1)) (fun z _ => len - (intOf z).toNat)
      case atStart => exact ⟨0, x0, x1, rfl, Nat.zero_le _, T0⟩
      case round =>
        clear T0
        clear x0 x1
        obtain ⟨i, x0, x1, rfl, hi, T⟩ := hrel
        by_cases hlt : i < len
        · obtain ⟨b, off, rfl, hc⟩ := R.out.cells (by omega)
          obtain ⟨k, p, s, v, n, kf, e0, e1, e2, e3, e4⟩ := hc i hlt
          have d0 := T.out.kept.cell e0 (fun z => z)
          have d1 := T.out.kept.cell e1 (fun z => z)
          have d2 := T.out.kept.cell e2 (fun z => z)
          have d3 := T.out.kept.cell e3 (fun z => z)
          have d4 := T.out.kept.cell e4 (fun z => z)
          have i1 : (i : Int) < (len : Int) := by omega
          have KS : Hid (KF s) := kf
          obtain ⟨wX, hX⟩ : ∃ wX, wX = wr.alloc (.cells #[.int .i64 k, .int .i64 p, .int .i64 s, .int .i64 v, .int .i64 n] 36) := ⟨_, rfl⟩
          obtain ⟨BO, hO⟩ : ∃ BO, BO = wr.heap.size := ⟨_, rfl⟩
          have T1 : Hid (LS w wX B7 B8 x0 x1 ∧ wX.heap[BO]? = some (.cells #[.int .i64 k, .int .i64 p, .int .i64 s, .int .i64 v, .int .i64 n] 36 (0, 0))) := by
            rw [hX, hO]
            exact ⟨T.out.k0 (k0_alloc _ _), heap_alloc_new _ _⟩
          have EX : Hid (wX = wr.alloc (.cells #[.int .i64 k, .int .i64 p, .int .i64 s, .int .i64 v, .int .i64 n] 36) ∧ BO = wr.heap.size) := ⟨hX, hO⟩
          clear hc e0 e1 e2 e3 e4 kf T hX hO
          have pm : p.tmod 2 = -1 ∨ p.tmod 2 = 0 ∨ p.tmod 2 = 1 := by
            have h1 := Int.tmod_lt_of_pos p (b := 2) (by omega)
            have h2 := Int.lt_tmod_of_pos p (b := 2) (by omega)
            omega
          rcases pm with pm | pm | pm
          all_goals go_upto_region 16 with fail
          all_goals rw [← EX.out.1, ← EX.out.2]
          all_goals have c1 := (box_cells T1.out.2).2.1
          · go_upto_region 17 with fail
            obtain ⟨p0, hp0⟩ : ∃ p0, p0 = pv x1 := ⟨_, rfl⟩
            obtain ⟨r0, hr0⟩ : ∃ r0, r0 = rv x1 := ⟨_, rfl⟩
            have EP : Hid (p0 = pv x1 ∧ r0 = rv x1) := ⟨hp0, hr0⟩
            have g7 : wX.cell? ⟨B7, 1, none⟩ = some p0 := by rw [hp0]; exact T1.out.1.cells.2.1
            have g8 : wX.cell? ⟨B8, 1, none⟩ = some r0 := by rw [hr0]; exact T1.out.1.cells.2.2.2
            obtain ⟨c0, c1, c2, c3, c4⟩ := box_cells T1.out.2
            have PL : Hid (∀ V, LS w V B7 B8 x0 x1 → Calls Try.prog 6 #[p0, r0, .agg #[.int .i64 k, .int .i64 p, .int .i64 s, .int .i64 v, .int .i64 n]] V fun o w' => o = .returned (.bool true) ∧ ∃ x', Like x1 x' ∧ Holds w' x' ∧ Kept (Uses x1) V w') := fun V hV => by
              have q : p0 = pv x1 ∧ r0 = rv x1 := EP.out
              rw [q.1, q.2]
              exact plays x1 k p s v n V hV.h1 KS.out
            clear hp0 hr0
            have ST : Hid (LS w wX.drew B7 B8 x0 x1 ∧ wX.drew.heap[BO]? = some (.cells #[.int .i64 k, .int .i64 p, .int .i64 s, .int .i64 v, .int .i64 n] 36 (0, 0))) := ⟨T1.out.1.k0 (Kept.refl _ _).drew, T1.out.2⟩
            go_region_held3 (fun w' => w'.cell? ⟨B7, 1, none⟩ = some p0 ∧ w'.cell? ⟨B8, 1, none⟩ = some r0 ∧ w'.cell? ⟨BO, 0, none⟩ = some (.int .i64 k) ∧ w'.cell? ⟨BO, 1, none⟩ = some (.int .i64 p) ∧ w'.cell? ⟨BO, 2, none⟩ = some (.int .i64 s) ∧ w'.cell? ⟨BO, 3, none⟩ = some (.int .i64 v) ∧ w'.cell? ⟨BO, 4, none⟩ = some (.int .i64 n)) (first | go_keep)
              (first
                | (have FF := FIRST; go_at_call 6; refine (plays none k p s v n _ (fun _ q => (by cases q)) KS.out).mono ?_; rintro o w6 ⟨rfl, x6, _, _, kk6⟩
                   have kz := kk6.mono (S' := fun _ => False) (fun j _ ⟨y, e, _⟩ => by cases e)
                   have ST2 : Hid (∃ x0' x1', LS w w6 B7 B8 x0' x1') := by obtain ⟨x0', x1', l, _⟩ := ST.out; exact ⟨x0', x1', l.k0 kz⟩
                   obtain ⟨q0, q1⟩ : w6.cell? ⟨B7, 1, none⟩ = some p0 ∧ w6.cell? ⟨B8, 1, none⟩ = some r0 := by obtain ⟨x0', x1', l, e1, e2, b⟩ := ST.out; exact ⟨kz.cell e1 (fun z => z), kz.cell e2 (fun z => z)⟩
                   obtain ⟨q2, q3, q4, q5, q6⟩ : w6.cell? ⟨BO, 0, none⟩ = some (.int .i64 k) ∧ w6.cell? ⟨BO, 1, none⟩ = some (.int .i64 p) ∧ w6.cell? ⟨BO, 2, none⟩ = some (.int .i64 s) ∧ w6.cell? ⟨BO, 3, none⟩ = some (.int .i64 v) ∧ w6.cell? ⟨BO, 4, none⟩ = some (.int .i64 n) := by obtain ⟨x0', x1', l, e1, e2, b⟩ := ST.out; exact box_cells (kz.get b (fun z => z))
                   clear kk6 kz)
                | (go_at_call 6; refine (PL.out _ ST.out.1).mono ?_; rintro o w5 ⟨rfl, x5, lk, hh, kk⟩
                   have FIRST : True := trivial
                   have ST5 : Hid (∃ x0' x1', LS w w5 B7 B8 x0' x1' ∧ w5.cell? ⟨B7, 1, none⟩ = some p0 ∧ w5.cell? ⟨B8, 1, none⟩ = some r0 ∧ w5.heap[BO]? = some (.cells #[.int .i64 k, .int .i64 p, .int .i64 s, .int .i64 v, .int .i64 n] 36 (0, 0))) := by
                     have l := ST.out.1.step1 lk hh kk
                     exact ⟨x0, x5, l, by rw [EP.out.1, ← lk.pv.1]; exact l.cells.2.1, by rw [EP.out.2, ← lk.pv.2]; exact l.cells.2.2.2, kk.get ST.out.2 (ST.out.1.h1.off ST.out.2 (by decide) (by decide))⟩
                   obtain ⟨q0, q1⟩ : w5.cell? ⟨B7, 1, none⟩ = some p0 ∧ w5.cell? ⟨B8, 1, none⟩ = some r0 := by obtain ⟨x0', x1', l, e1, e2, b⟩ := ST5.out; exact ⟨e1, e2⟩
                   obtain ⟨q2, q3, q4, q5, q6⟩ : w5.cell? ⟨BO, 0, none⟩ = some (.int .i64 k) ∧ w5.cell? ⟨BO, 1, none⟩ = some (.int .i64 p) ∧ w5.cell? ⟨BO, 2, none⟩ = some (.int .i64 s) ∧ w5.cell? ⟨BO, 3, none⟩ = some (.int .i64 v) ∧ w5.cell? ⟨BO, 4, none⟩ = some (.int .i64 n) := by obtain ⟨x0', x1', l, e1, e2, b⟩ := ST5.out; exact box_cells b
                   clear ST lk hh kk
                   have ST := ST5
                   clear ST5)
                | fail)
            all_goals go_wp2_with fail
            all_goals go_roundw
            case rel =>
              obtain ⟨x0', x1', l⟩ := ST2.out
              exact ⟨i + 1, x0', x1', by go_num, by omega, l⟩
            case measure => simp [intOf]; omega
          · go_upto_region 17 with fail
            obtain ⟨p0, hp0⟩ : ∃ p0, p0 = pv x0 := ⟨_, rfl⟩
            obtain ⟨r0, hr0⟩ : ∃ r0, r0 = rv x0 := ⟨_, rfl⟩
            have EP : Hid (p0 = pv x0 ∧ r0 = rv x0) := ⟨hp0, hr0⟩
            have g7 : wX.cell? ⟨B7, 0, none⟩ = some p0 := by rw [hp0]; exact T1.out.1.cells.1
            have g8 : wX.cell? ⟨B8, 0, none⟩ = some r0 := by rw [hr0]; exact T1.out.1.cells.2.2.1
            obtain ⟨c0, c1, c2, c3, c4⟩ := box_cells T1.out.2
            have PL : Hid (∀ V, LS w V B7 B8 x0 x1 → Calls Try.prog 6 #[p0, r0, .agg #[.int .i64 k, .int .i64 p, .int .i64 s, .int .i64 v, .int .i64 n]] V fun o w' => o = .returned (.bool true) ∧ ∃ x', Like x0 x' ∧ Holds w' x' ∧ Kept (Uses x0) V w') := fun V hV => by
              have q : p0 = pv x0 ∧ r0 = rv x0 := EP.out
              rw [q.1, q.2]
              exact plays x0 k p s v n V hV.h0 KS.out
            clear hp0 hr0
            have ST : Hid (LS w wX.drew B7 B8 x0 x1 ∧ wX.drew.heap[BO]? = some (.cells #[.int .i64 k, .int .i64 p, .int .i64 s, .int .i64 v, .int .i64 n] 36 (0, 0))) := ⟨T1.out.1.k0 (Kept.refl _ _).drew, T1.out.2⟩
            go_region_held3 (fun w' => w'.cell? ⟨B7, 0, none⟩ = some p0 ∧ w'.cell? ⟨B8, 0, none⟩ = some r0 ∧ w'.cell? ⟨BO, 0, none⟩ = some (.int .i64 k) ∧ w'.cell? ⟨BO, 1, none⟩ = some (.int .i64 p) ∧ w'.cell? ⟨BO, 2, none⟩ = some (.int .i64 s) ∧ w'.cell? ⟨BO, 3, none⟩ = some (.int .i64 v) ∧ w'.cell? ⟨BO, 4, none⟩ = some (.int .i64 n)) (first | go_keep)
              (first
                | (have FF := FIRST; go_at_call 6; refine (plays none k p s v n _ (fun _ q => (by cases q)) KS.out).mono ?_; rintro o w6 ⟨rfl, x6, _, _, kk6⟩
                   have kz := kk6.mono (S' := fun _ => False) (fun j _ ⟨y, e, _⟩ => by cases e)
                   have ST2 : Hid (∃ x0' x1', LS w w6 B7 B8 x0' x1') := by obtain ⟨x0', x1', l, _⟩ := ST.out; exact ⟨x0', x1', l.k0 kz⟩
                   obtain ⟨q0, q1⟩ : w6.cell? ⟨B7, 0, none⟩ = some p0 ∧ w6.cell? ⟨B8, 0, none⟩ = some r0 := by obtain ⟨x0', x1', l, e1, e2, b⟩ := ST.out; exact ⟨kz.cell e1 (fun z => z), kz.cell e2 (fun z => z)⟩
                   obtain ⟨q2, q3, q4, q5, q6⟩ : w6.cell? ⟨BO, 0, none⟩ = some (.int .i64 k) ∧ w6.cell? ⟨BO, 1, none⟩ = some (.int .i64 p) ∧ w6.cell? ⟨BO, 2, none⟩ = some (.int .i64 s) ∧ w6.cell? ⟨BO, 3, none⟩ = some (.int .i64 v) ∧ w6.cell? ⟨BO, 4, none⟩ = some (.int .i64 n) := by obtain ⟨x0', x1', l, e1, e2, b⟩ := ST.out; exact box_cells (kz.get b (fun z => z))
                   clear kk6 kz)
                | (go_at_call 6; refine (PL.out _ ST.out.1).mono ?_; rintro o w5 ⟨rfl, x5, lk, hh, kk⟩
                   have FIRST : True := trivial
                   have ST5 : Hid (∃ x0' x1', LS w w5 B7 B8 x0' x1' ∧ w5.cell? ⟨B7, 0, none⟩ = some p0 ∧ w5.cell? ⟨B8, 0, none⟩ = some r0 ∧ w5.heap[BO]? = some (.cells #[.int .i64 k, .int .i64 p, .int .i64 s, .int .i64 v, .int .i64 n] 36 (0, 0))) := by
                     have l := ST.out.1.step0 lk hh kk
                     exact ⟨x5, x1, l, by rw [EP.out.1, ← lk.pv.1]; exact l.cells.1, by rw [EP.out.2, ← lk.pv.2]; exact l.cells.2.2.1, kk.get ST.out.2 (ST.out.1.h0.off ST.out.2 (by decide) (by decide))⟩
                   obtain ⟨q0, q1⟩ : w5.cell? ⟨B7, 0, none⟩ = some p0 ∧ w5.cell? ⟨B8, 0, none⟩ = some r0 := by obtain ⟨x0', x1', l, e1, e2, b⟩ := ST5.out; exact ⟨e1, e2⟩
                   obtain ⟨q2, q3, q4, q5, q6⟩ : w5.cell? ⟨BO, 0, none⟩ = some (.int .i64 k) ∧ w5.cell? ⟨BO, 1, none⟩ = some (.int .i64 p) ∧ w5.cell? ⟨BO, 2, none⟩ = some (.int .i64 s) ∧ w5.cell? ⟨BO, 3, none⟩ = some (.int .i64 v) ∧ w5.cell? ⟨BO, 4, none⟩ = some (.int .i64 n) := by obtain ⟨x0', x1', l, e1, e2, b⟩ := ST5.out; exact box_cells b
                   clear ST lk hh kk
                   have ST := ST5
                   clear ST5)
                | fail)
            all_goals go_wp2_with fail
            all_goals go_roundw
            case rel =>
              obtain ⟨x0', x1', l⟩ := ST2.out
              exact ⟨i + 1, x0', x1', by go_num, by omega, l⟩
            case measure => simp [intOf]; omega
          · go_upto_region 17 with fail
            obtain ⟨p0, hp0⟩ : ∃ p0, p0 = pv x1 := ⟨_, rfl⟩
            obtain ⟨r0, hr0⟩ : ∃ r0, r0 = rv x1 := ⟨_, rfl⟩
            have EP : Hid (p0 = pv x1 ∧ r0 = rv x1) := ⟨hp0, hr0⟩
            have g7 : wX.cell? ⟨B7, 1, none⟩ = some p0 := by rw [hp0]; exact T1.out.1.cells.2.1
            have g8 : wX.cell? ⟨B8, 1, none⟩ = some r0 := by rw [hr0]; exact T1.out.1.cells.2.2.2
            obtain ⟨c0, c1, c2, c3, c4⟩ := box_cells T1.out.2
            have PL : Hid (∀ V, LS w V B7 B8 x0 x1 → Calls Try.prog 6 #[p0, r0, .agg #[.int .i64 k, .int .i64 p, .int .i64 s, .int .i64 v, .int .i64 n]] V fun o w' => o = .returned (.bool true) ∧ ∃ x', Like x1 x' ∧ Holds w' x' ∧ Kept (Uses x1) V w') := fun V hV => by
              have q : p0 = pv x1 ∧ r0 = rv x1 := EP.out
              rw [q.1, q.2]
              exact plays x1 k p s v n V hV.h1 KS.out
            clear hp0 hr0
            have ST : Hid (LS w wX.drew B7 B8 x0 x1 ∧ wX.drew.heap[BO]? = some (.cells #[.int .i64 k, .int .i64 p, .int .i64 s, .int .i64 v, .int .i64 n] 36 (0, 0))) := ⟨T1.out.1.k0 (Kept.refl _ _).drew, T1.out.2⟩
            go_region_held3 (fun w' => w'.cell? ⟨B7, 1, none⟩ = some p0 ∧ w'.cell? ⟨B8, 1, none⟩ = some r0 ∧ w'.cell? ⟨BO, 0, none⟩ = some (.int .i64 k) ∧ w'.cell? ⟨BO, 1, none⟩ = some (.int .i64 p) ∧ w'.cell? ⟨BO, 2, none⟩ = some (.int .i64 s) ∧ w'.cell? ⟨BO, 3, none⟩ = some (.int .i64 v) ∧ w'.cell? ⟨BO, 4, none⟩ = some (.int .i64 n)) (first | go_keep)
              (first
                | (have FF := FIRST; go_at_call 6; refine (plays none k p s v n _ (fun _ q => (by cases q)) KS.out).mono ?_; rintro o w6 ⟨rfl, x6, _, _, kk6⟩
                   have kz := kk6.mono (S' := fun _ => False) (fun j _ ⟨y, e, _⟩ => by cases e)
                   have ST2 : Hid (∃ x0' x1', LS w w6 B7 B8 x0' x1') := by obtain ⟨x0', x1', l, _⟩ := ST.out; exact ⟨x0', x1', l.k0 kz⟩
                   obtain ⟨q0, q1⟩ : w6.cell? ⟨B7, 1, none⟩ = some p0 ∧ w6.cell? ⟨B8, 1, none⟩ = some r0 := by obtain ⟨x0', x1', l, e1, e2, b⟩ := ST.out; exact ⟨kz.cell e1 (fun z => z), kz.cell e2 (fun z => z)⟩
                   obtain ⟨q2, q3, q4, q5, q6⟩ : w6.cell? ⟨BO, 0, none⟩ = some (.int .i64 k) ∧ w6.cell? ⟨BO, 1, none⟩ = some (.int .i64 p) ∧ w6.cell? ⟨BO, 2, none⟩ = some (.int .i64 s) ∧ w6.cell? ⟨BO, 3, none⟩ = some (.int .i64 v) ∧ w6.cell? ⟨BO, 4, none⟩ = some (.int .i64 n) := by obtain ⟨x0', x1', l, e1, e2, b⟩ := ST.out; exact box_cells (kz.get b (fun z => z))
                   clear kk6 kz)
                | (go_at_call 6; refine (PL.out _ ST.out.1).mono ?_; rintro o w5 ⟨rfl, x5, lk, hh, kk⟩
                   have FIRST : True := trivial
                   have ST5 : Hid (∃ x0' x1', LS w w5 B7 B8 x0' x1' ∧ w5.cell? ⟨B7, 1, none⟩ = some p0 ∧ w5.cell? ⟨B8, 1, none⟩ = some r0 ∧ w5.heap[BO]? = some (.cells #[.int .i64 k, .int .i64 p, .int .i64 s, .int .i64 v, .int .i64 n] 36 (0, 0))) := by
                     have l := ST.out.1.step1 lk hh kk
                     exact ⟨x0, x5, l, by rw [EP.out.1, ← lk.pv.1]; exact l.cells.2.1, by rw [EP.out.2, ← lk.pv.2]; exact l.cells.2.2.2, kk.get ST.out.2 (ST.out.1.h1.off ST.out.2 (by decide) (by decide))⟩
                   obtain ⟨q0, q1⟩ : w5.cell? ⟨B7, 1, none⟩ = some p0 ∧ w5.cell? ⟨B8, 1, none⟩ = some r0 := by obtain ⟨x0', x1', l, e1, e2, b⟩ := ST5.out; exact ⟨e1, e2⟩
                   obtain ⟨q2, q3, q4, q5, q6⟩ : w5.cell? ⟨BO, 0, none⟩ = some (.int .i64 k) ∧ w5.cell? ⟨BO, 1, none⟩ = some (.int .i64 p) ∧ w5.cell? ⟨BO, 2, none⟩ = some (.int .i64 s) ∧ w5.cell? ⟨BO, 3, none⟩ = some (.int .i64 v) ∧ w5.cell? ⟨BO, 4, none⟩ = some (.int .i64 n) := by obtain ⟨x0', x1', l, e1, e2, b⟩ := ST5.out; exact box_cells b
                   clear ST lk hh kk
                   have ST := ST5
                   clear ST5)
                | fail)
            all_goals go_wp2_with fail
            all_goals go_roundw
            case rel =>
              obtain ⟨x0', x1', l⟩ := ST2.out
              exact ⟨i + 1, x0', x1', by go_num, by omega, l⟩
            case measure => simp [intOf]; omega
        · have T2 : Hid (LS w wr B7 B8 x0 x1) := T.out
          obtain ⟨p0, hp0⟩ : ∃ p0, p0 = pv x0 := ⟨_, rfl⟩
          obtain ⟨r0, hr0⟩ : ∃ r0, r0 = rv x0 := ⟨_, rfl⟩
          obtain ⟨p1, hp1⟩ : ∃ p1, p1 = pv x1 := ⟨_, rfl⟩
          obtain ⟨r1, hr1⟩ : ∃ r1, r1 = rv x1 := ⟨_, rfl⟩
          have E0 : Hid (p0 = pv x0 ∧ r0 = rv x0 ∧ p1 = pv x1 ∧ r1 = rv x1) := ⟨hp0, hr0, hp1, hr1⟩
          have g0 : wr.cell? ⟨B7, 0, none⟩ = some p0 := by rw [hp0]; exact T2.out.cells.1
          have g1 : wr.cell? ⟨B8, 0, none⟩ = some r0 := by rw [hr0]; exact T2.out.cells.2.2.1
          have PL : Hid (Calls Try.prog 6 #[p0, r0, .agg #[.int .i64 1, .int .i64 0, .int .i64 0, .int .i64 0, .int .i64 0]] wr fun o w' => o = .returned (.bool true) ∧ ∃ x', Like x0 x' ∧ Holds w' x' ∧ Kept (Uses x0) wr w') := by
            rw [hp0, hr0]
            exact plays x0 1 0 0 0 0 wr T2.out.h0 (by unfold KF; omega)
          clear hp0 hr0 hp1 hr1 T
          go_wp2_with fail
          refine PL.out.mono ?_
          rintro o w5 ⟨rfl, x0', lk, hh, kk⟩
          have T5 : Hid (LS w w5 B7 B8 x0' x1) := T2.out.step0 lk hh kk
          clear lk hh kk g0 g1 PL T2
          have g0 : w5.cell? ⟨B7, 1, none⟩ = some p1 := by rw [E0.out.2.2.1]; exact T5.out.cells.2.1
          have g1 : w5.cell? ⟨B8, 1, none⟩ = some r1 := by rw [E0.out.2.2.2]; exact T5.out.cells.2.2.2
          have PL : Hid (Calls Try.prog 6 #[p1, r1, .agg #[.int .i64 1, .int .i64 0, .int .i64 0, .int .i64 0, .int .i64 0]] w5 fun o w' => o = .returned (.bool true) ∧ ∃ x', Like x1 x' ∧ Holds w' x' ∧ Kept (Uses x1) w5 w') := by
            rw [E0.out.2.2.1, E0.out.2.2.2]
            exact plays x1 1 0 0 0 0 w5 T5.out.h1 (by unfold KF; omega)
          go_wp2_with fail
          refine PL.out.mono ?_
          rintro o w6 ⟨rfl, x1', lk, hh, kk⟩
          have T6 : Hid (LS w w6 B7 B8 x0' x1') := T5.out.step1 lk hh kk
          clear lk hh kk g0 g1 PL T5
          go_wp2_with fail
          refine (taken w6).mono ?_
          rintro o w7 ⟨rfl, k7⟩
          have T7 : Hid (Kept (fun _ => False) w w7) := T6.out.kept.and0 k7
          clear k7
          go_wp2_with fail
          go_ret
          exact ⟨rfl, T7.out⟩
end Go.Proofs.Yteokeifkkhchmaa
