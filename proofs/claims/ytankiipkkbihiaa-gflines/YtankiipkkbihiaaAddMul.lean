import Derived.Test.YtankiipkkbihiaaDot
namespace Go.Proofs.Ytankiipkkbihiaa
open Go.RowKit

/-- The products lie in a new block: k of them are done. -/
structure Prod (w wr : World) (n k : Nat) (f : Nat → Nat) : Prop where
  below : Below w.heap.size w wr
  size : w.heap.size < wr.heap.size
  live : ∀ j, j < n → ∃ v, wr.cell? ⟨w.heap.size, j, none⟩ = some v
  soft : ∀ j, wr.frozen? ⟨w.heap.size, j, none⟩ = false
  vals : ∀ j, j < k → wr.cell? ⟨w.heap.size, j, none⟩ = some (.int .u8 ((f j : Nat) : Int))
theorem Prod.start {w wr : World} {n : Nat} {f : Nat → Nat} {xs : List Value} (h : wr.ownsRow w.heap.size 5 1 (.slice (some ⟨w.heap.size, 0, none⟩) n n) n xs) (hg : w.grownBy wr none) : Prod w wr n 0 f := by
  rcases h.2 with ⟨e, _⟩ | ⟨g, cap, cur, e, _, hh, _, _, hs, _⟩
  · simp at e
  · simp at e
    obtain ⟨rfl, rfl⟩ := e
    have lt : w.heap.size < wr.heap.size := (Array.getElem?_eq_some_iff.1 hh).1
    refine ⟨⟨hg.os, hg.tape, hg.output, hg.size, fun k hk => hg.block k hk (by simp)⟩, lt, fun j hj => ?_, fun j => ?_, fun j hj => absurd hj (by omega)⟩
    · rw [cell_of_row wr w.heap.size j cur 5 (0, 0) hh]
      exact ⟨_, Array.getElem?_eq_getElem (by omega)⟩
    · simp [World.frozen?, hh]
theorem Prod.step {w wr w' : World} {n k : Nat} {f : Nat → Nat} (p : Prod w wr n k f) (q : Qt wr w') (hk : k < n) (v : Nat) (hv : f k = v) : Prod w (w'.setCell ⟨w.heap.size, k, none⟩ (.int .u8 (v : Int))) n (k + 1) f := by
  obtain ⟨m, rfl⟩ := q
  obtain ⟨u, hu⟩ := p.live k hk
  have hc := cell_set (wr.drewN m) w.heap.size k (.int .u8 (v : Int)) u hu
  refine ⟨(p.below.trans (Qt.below (Qt.drewN wr m))).setCell (Nat.le_refl _) _, by rw [World.size_setCell]; exact p.size, fun j hj => ?_, fun j => by rw [World.frozen?_setCell]; exact p.soft j, fun j hj => ?_⟩
  · rw [hc]; exact some_ite _ _ _ (p.live j hj)
  · rw [hc]
    by_cases e : j = k
    · subst e; rw [if_pos rfl, hv]
    · rw [if_neg e]; exact p.vals j (by omega)

/-- k places of a row are written over; all else that was there is as it was. -/
structure Upd (w wr : World) (bd od k : Nat) (f : Nat → Nat) : Prop where
  os : wr.os = w.os
  tape : wr.tape = w.tape
  output : wr.output = w.output
  size : w.heap.size ≤ wr.heap.size
  block : ∀ j, j < w.heap.size → j ≠ bd → wr.heap[j]? = w.heap[j]?
  cells : ∀ o, wr.cell? ⟨bd, o, none⟩ = if od ≤ o ∧ o < od + k then some (.int .u8 ((f (o - od) : Nat) : Int)) else w.cell? ⟨bd, o, none⟩
  soft : ∀ o, wr.frozen? ⟨bd, o, none⟩ = w.frozen? ⟨bd, o, none⟩
theorem Upd.start {w wr : World} {N bd od : Nat} {f : Nat → Nat} (h : Below N w wr) (hN : N = w.heap.size) (hb : bd < w.heap.size) : Upd w wr bd od 0 f := by
  subst hN
  refine ⟨h.os, h.tape, h.output, h.size, fun j hj _ => h.block j hj, fun o => ?_, fun o => h.frozen hb⟩
  rw [if_neg (by omega)]; exact h.cell hb
theorem Upd.step {w wr : World} {bd od k : Nat} {f : Nat → Nat} (u : Upd w wr bd od k f) (x : Value) (hx : wr.cell? ⟨bd, od + k, none⟩ = some x) (v : Nat) (hv : f k = v) : Upd w (wr.setCell ⟨bd, od + k, none⟩ (.int .u8 (v : Int))) bd od (k + 1) f := by
  have hc := cell_set wr bd (od + k) (.int .u8 (v : Int)) x hx
  refine ⟨u.os, u.tape, u.output, by rw [World.size_setCell]; exact u.size, fun j hj hne => ?_, fun o => ?_, fun o => by rw [World.frozen?_setCell]; exact u.soft o⟩
  · rw [Below.heap_setCell wr _ _ j hne]; exact u.block j hj hne
  · rw [hc]
    by_cases e : o = od + k
    · subst e; rw [if_pos rfl, if_pos (by omega), show od + k - od = k by omega, hv]
    · rw [if_neg e, u.cells o]
      by_cases h : od ≤ o ∧ o < od + k
      · rw [if_pos h, if_pos (by omega)]
      · rw [if_neg h, if_neg (by omega)]
theorem Upd.below {w wr : World} {bd od k N : Nat} {f : Nat → Nat} (u : Upd w wr bd od k f) (h1 : N ≤ bd) (h2 : N ≤ w.heap.size) : Below N w wr :=
  ⟨u.os, u.tape, u.output, u.size, fun j hj => u.block j (by omega) (by omega)⟩

set_option maxRecDepth 100000 in
set_option maxHeartbeats 1000000 in
theorem addMul_some (P B bd od capd c bs os caps n : Nat) (fd fs : Nat → Nat) (w : World) (g : Gf.Good P) (f : IsF P B w) (ld : ∀ i, fd i < 256) (ls : ∀ i, fs i < 256) (hc : c < 256) (hm : n ≤ 140737488355328)
    (cd : ∀ i, i < n → w.cell? ⟨bd, od + i, none⟩ = some (.int .u8 ((fd i : Nat) : Int))) (sd : ∀ i, i < n → w.frozen? ⟨bd, od + i, none⟩ = false) (cs : ∀ i, i < n → w.cell? ⟨bs, os + i, none⟩ = some (.int .u8 ((fs i : Nat) : Int))) (hn : 0 < n) :
    Calls Try.prog 12 #[.pointer (some ⟨B, 0, none⟩), .slice (some ⟨bd, od, none⟩) n capd, .int .u8 (c : Int), .slice (some ⟨bs, os, none⟩) n caps] w fun e w' => e = .returned (.int .i64 0) ∧ Upd w w' bd od n (fun i => fd i ^^^ Gf.mul P c (fs i)) := by
  have hbd : bd < w.heap.size := World.block_lt_of_cell? w _ (cd 0 hn)
  have hbs : bs < w.heap.size := World.block_lt_of_cell? w _ (cs 0 hn)
  have hbB : B < w.heap.size := World.block_lt_of_cell? w _ f.poly
  have CD : Hid (∀ i, i < n → w.cell? ⟨bd, od + i, none⟩ = some (.int .u8 ((fd i : Nat) : Int))) := cd
  have SD : Hid (∀ i, i < n → w.frozen? ⟨bd, od + i, none⟩ = false) := sd
  have CS : Hid (∀ i, i < n → w.cell? ⟨bs, os + i, none⟩ = some (.int .u8 ((fs i : Nat) : Int))) := cs
  have LD : Hid (∀ i, fd i < 256) := ld
  have LS : Hid (∀ i, fs i < 256) := ls
  obtain ⟨i5, hi5, hiz, his, hib⟩ := info_parts Try.info5
  have HI : Hid (Try.prog.info? 5 = some i5 ∧ i5.zero = some (.int .u8 0) ∧ i5.size = 1 ∧ i5.bytes = 1) := ⟨hi5, hiz, his, hib⟩
  clear cd sd cs ld ls hi5 hiz his hib
  go_enter Try.func12, Try.ntmps12
  go_wp2_with (first | (refine wpList_make_full _ rfl (.tmp 22) (.tmp 22) 22 rfl w.heap.size 5 i5 (.int .u8 0) 1 Try.underlying22 HI.out.1 HI.out.2.1 HI.out.2.2.1 .i64 .i64 _ _ n rfl rfl rfl rfl (by rw [HI.out.2.2.2]; omega) (by unfold maxLen; omega) (Nat.le_refl _) ?_; intro w1 hown hgrow) | fail)
  have P0 : Hid (Prod w w1 n 0 (fun i => Gf.mul P c (fs i))) := Prod.start hown hgrow
  clear hown hgrow
  go_wp2_with fail
  go_loopw [10, 11, 26] (fun _ _ i wr => ∃ k : Nat, k ≤ n ∧ i = .int .i64 k ∧ Prod w wr n k (fun i => Gf.mul P c (fs i))) (fun _ _ i _ => n - (intOf i).toNat)
  case atStart => exact ⟨0, by omega, rfl, P0.out⟩
  case round =>
    obtain ⟨k, hk, rfl, pr⟩ := hrel
    by_cases hlt : k < n
    · have d1 : wr.cell? ⟨bs, os + k, none⟩ = some (.int .u8 ((fs k : Nat) : Int)) := by rw [pr.below.cell hbs]; exact CS.out k hlt
      have lx := LS.out k
      have fr := IsF.below pr.below hbB f
      obtain ⟨m, hm'⟩ : ∃ m, Gf.mul P c (fs k) = m := ⟨_, rfl⟩
      obtain ⟨u, hu⟩ := pr.live k hlt
      have su := pr.soft k
      have PR : Hid (Prod w wr n k (fun i => Gf.mul P c (fs i))) := pr
      have HM : Hid (Gf.mul P c (fs k) = m) := hm'
      clear pr hm'
      go_wp2_with fail
      refine (mul_v P B c (fs k) m _ g fr hc lx HM.out).mono ?_
      rintro e w2 ⟨rfl, q2⟩
      have hu2 : w2.cell? ⟨w.heap.size, k, none⟩ = some u := by rw [q2.cell]; exact hu
      have su2 : w2.frozen? ⟨w.heap.size, k, none⟩ = false := by obtain ⟨m, rfl⟩ := q2; exact su
      go_wp2_with fail
      go_roundw
      case rel => exact ⟨k + 1, by omega, by go_num, PR.out.step q2 hlt m HM.out⟩
      case measure => simp [intOf]; omega
    · have hk' : n = k := by omega
      subst hk'
      have U0 : Hid (Upd w wr bd od 0 (fun i => fd i ^^^ Gf.mul P c (fs i))) := Upd.start pr.below rfl hbd
      have pv := pr.vals
      have PV : Hid (∀ j, j < n → wr.cell? ⟨w.heap.size, j, none⟩ = some (.int .u8 ((Gf.mul P c (fs j) : Nat) : Int))) := pv
      have lz : Hid (w.heap.size < wr.heap.size) := pr.size
      clear pr pv
      go_wp2_with fail
      go_loopw [12, 13, 41] (fun _ _ i wq => ∃ k : Nat, k ≤ n ∧ i = .int .i64 k ∧ Upd w wq bd od k (fun i => fd i ^^^ Gf.mul P c (fs i)) ∧ ∀ j, j < n → wq.cell? ⟨w.heap.size, j, none⟩ = some (.int .u8 ((Gf.mul P c (fs j) : Nat) : Int))) (fun _ _ i _ => n - (intOf i).toNat)
      case atStart => exact ⟨0, by omega, rfl, U0.out, PV.out⟩
      case round =>
        obtain ⟨k, hk, rfl, up, pv⟩ := hrel
        by_cases hlt : k < n
        · have d1 := pv k hlt
          have lm : Gf.mul P c (fs k) < 256 := g.mul_lt _ _
          have d2 : wr.cell? ⟨bd, od + k, none⟩ = some (.int .u8 ((fd k : Nat) : Int)) := by rw [up.cells, if_neg (by omega)]; exact CD.out k hlt
          have s2 : wr.frozen? ⟨bd, od + k, none⟩ = false := by rw [up.soft]; exact SD.out k hlt
          have lf := LD.out k
          have UP : Hid (Upd w wr bd od k (fun i => fd i ^^^ Gf.mul P c (fs i))) := up
          have PQ : Hid (∀ j, j < n → wr.cell? ⟨w.heap.size, j, none⟩ = some (.int .u8 ((Gf.mul P c (fs j) : Nat) : Int))) := pv
          have D2 : Hid (wr.cell? ⟨bd, od + k, none⟩ = some (.int .u8 ((fd k : Nat) : Int))) := d2
          clear up pv
          obtain ⟨x, hx⟩ : ∃ x, fd k = x := ⟨_, rfl⟩
          obtain ⟨y, hy⟩ : ∃ y, Gf.mul P c (fs k) = y := ⟨_, rfl⟩
          rw [hx] at d2 lf D2
          rw [hy] at d1 lm
          have HF : Hid (fd k ^^^ Gf.mul P c (fs k) = x ^^^ y) := by show fd k ^^^ Gf.mul P c (fs k) = x ^^^ y; rw [hx, hy]
          clear hx hy
          go_wp2_with fail
          refine (add_any x y _ lf lm).mono ?_
          rintro e w3 ⟨rfl, rfl⟩
          go_wp2_with fail
          go_roundw
          case rel =>
            refine ⟨k + 1, by omega, by go_num, UP.out.step _ D2.out (x ^^^ y) HF.out, fun j hj => ?_⟩
            rw [World.cell?_setCell_other _ _ _ _ (fun e => by injection e with e1 _; omega)]
            exact PQ.out j hj
          case measure => simp [intOf]; omega
        · have hk' : n = k := by omega
          subst hk'
          go_wp2_with fail
          go_ret
          exact ⟨rfl, up⟩

set_option maxRecDepth 100000 in
set_option maxHeartbeats 1000000 in
theorem addMul_none (B c cap1 cap2 : Nat) (a1 a2 : Option Addr) (w : World) :
    Calls Try.prog 12 #[.pointer (some ⟨B, 0, none⟩), .slice a1 0 cap1, .int .u8 (c : Int), .slice a2 0 cap2] w fun e w' => e = .returned (.int .i64 0) ∧ Below w.heap.size w w' := by
  obtain ⟨i5, hi5, hiz, his, hib⟩ := info_parts Try.info5
  have HI : Hid (Try.prog.info? 5 = some i5 ∧ i5.zero = some (.int .u8 0) ∧ i5.size = 1 ∧ i5.bytes = 1) := ⟨hi5, hiz, his, hib⟩
  clear hi5 hiz his hib
  go_enter Try.func12, Try.ntmps12
  go_wp2_with (first | (refine wpList_make_full _ rfl (.tmp 22) (.tmp 22) 22 rfl w.heap.size 5 i5 (.int .u8 0) 1 Try.underlying22 HI.out.1 HI.out.2.1 HI.out.2.2.1 .i64 .i64 _ _ 0 rfl rfl rfl rfl (by omega) (by unfold maxLen; omega) (Nat.le_refl _) ?_; intro w1 hown hgrow) | fail)
  have BL : Hid (Below w.heap.size w w1) := ⟨hgrow.os, hgrow.tape, hgrow.output, hgrow.size, fun k hk => hgrow.block k hk (by simp)⟩
  clear hown hgrow
  go_wp2_with fail
  refine wp_loop_rounds 1 ?_
  rw [rounds_succ]
  go_wp2_with fail
  refine wp_loop_rounds 1 ?_
  rw [rounds_succ]
  go_wp2_with fail
  go_ret
  exact ⟨rfl, BL.out⟩

set_option maxHeartbeats 400000 in
theorem addMul_shape (B c n1 n2 cap1 cap2 : Nat) (a1 a2 : Option Addr) (w : World) (h : ((n1 : Int) != (n2 : Int)) = true) :
    Calls Try.prog 12 #[.pointer (some ⟨B, 0, none⟩), .slice a1 n1 cap1, .int .u8 (c : Int), .slice a2 n2 cap2] w fun e w' => e = .returned (.int .i64 12) ∧ w' = w := by
  go_enter Try.func12, Try.ntmps12
  go_wp2
  go_ret
  exact ⟨rfl, rfl⟩
end Go.Proofs.Ytankiipkkbihiaa
