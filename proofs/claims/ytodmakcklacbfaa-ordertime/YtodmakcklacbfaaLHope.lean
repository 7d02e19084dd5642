import Derived.Test.YtodmakcklacbfaaLGets
namespace Go.Proofs.Ytodmakcklacbfaa
open Go.RowKit 

theorem alike_sub {f : Fd} {d i : Nat} : f.alikeW i &&& d = f.alikeW i ↔ ∀ j, j < f.n → f.alikeB i j = true → d.testBit j = true := by
  rw [sub_iff]
  unfold Fd.alikeW
  constructor
  · intro h j h1 h2
    refine h j ?_
    rw [wrd_bit, decide_eq_true h1, h2]
    rfl
  · intro h j hj
    rw [wrd_bit, Bool.and_eq_true, decide_eq_true_iff] at hj
    exact h j hj.1 hj.2
/-- What answers a bool. -/
def RetB (Q : Bool → World → Prop) (o : Ending) (w : World) : Prop := ∃ r : Bool, o = .returned (.bool r) ∧ Q r w
theorem RetB.mk {Q : Bool → World → Prop} {o : Ending} {w : World} (r : Bool) (h : o = .returned (.bool r)) (q : Q r w) : RetB Q o w := ⟨r, h, q⟩
/-- A Get is left whose value no Put that is left has. -/
def Fd.Lost (f : Fd) (d : Nat) : Prop := ∃ i, i < f.n ∧ f.put i = false ∧ d.testBit i = false ∧ ∀ p, p < f.n → f.put p = true → f.val p = f.val i → d.testBit p = true
structure HopeQ (f : Fd) (d : Nat) (w : World) (r : Bool) (w' : World) : Prop where
  lost : r = true → f.Lost d
  k : Kept (fun _ => False) w w'
set_option maxRecDepth 100000 in
set_option maxHeartbeats 4000000 in
theorem isHopeless {w : World} {fb : Nat} {f : Fd} {ms : List Cm} {cp : Option Addr} {cc vb ab bb lb mb : Nat} (h : SF w fb f ms cp cc vb ab bb lb mb) (d : Nat) (hd : d < 2 ^ f.n) :
    Calls Try.prog 104 #[.pointer (some ⟨fb, 0, none⟩), .int .u32 (d : Int)] w (RetB (HopeQ f d w)) := by
  have H : Hid (SF w fb f ms cp cc vb ab bb lb mb ∧ d < 2 ^ f.n) := ⟨h, hd⟩
  have n24 := h.n24
  have d24 := lt32 hd n24
  have f0 := cell_blk h.blk 0 (v := .slice cp f.n cc) rfl
  have rm := h.cr.room
  have sm := h.cr.small
  unfold maxLen at sm
  obtain ⟨n, hn⟩ : ∃ n, n = f.n := ⟨_, rfl⟩
  rw [← hn] at f0 n24 rm
  have HN : Hid (n = f.n) := hn
  have K0 : Hid (Kept (fun _ => False) w w) := Kept.refl _ _
  clear h hd hn
  go_enter Try.func104, Try.ntmps104
  go_wp2_with fail
  go_loopw [5, 6, 7, 13] (fun _ _ _ u13 wr => ∃ (i : Nat), u13 = .int .i64 (i : Int) ∧ i ≤ n ∧ Hid (Kept (fun _ => False) w wr)) (fun _ _ _ u13 _ => n - (intOf u13).toNat)
  case atStart => exact ⟨0, rfl, Nat.zero_le _, K0⟩
  case round =>
    obtain ⟨i, rfl, hi, T⟩ := hrel
    clear K0
    by_cases hlt : i < n
    · have i1 : (i : Int) < (n : Int) := by omega
      have i0 : ¬ (i : Int) < 0 := by omega
      have sf := H.out.1.k0 T.out
      have cr := sf.cr
      rw [← HN.out] at cr
      obtain ⟨b, off, m, rfl, hm, c0, c1, c2, c3, c4, c5, c6, c7, c8, c9, c10, _⟩ := cr.at hlt
      obtain ⟨W, hW⟩ : ∃ W, W = wr.alloc (.cells m.cs 38) := ⟨_, rfl⟩
      have hW' : W = wr.alloc (.cells #[.int .i64 m.client, .int .i64 m.op, .bool m.put, .string m.key, .slice m.va m.vn m.vc, .int .i64 m.st, .int .i64 m.frm, .int .i64 m.to, .bool m.opn, .int .i64 m.tx, .int .i64 m.ty] 38) := hW
      obtain ⟨B, hB⟩ : ∃ B, B = wr.heap.size := ⟨_, rfl⟩
      have J : Hid (W.heap[B]? = some (.cells m.cs 38 (0, 0)) ∧ Kept (fun _ => False) w W ∧ i < f.n ∧ f.put i = m.put ∧ SF W fb f ms (some ⟨b, off, none⟩) cc vb ab bb lb mb) := by
        have K : Kept (fun _ => False) wr W := by rw [hW]; exact (Kept.refl _ _).alloc _
        refine ⟨by rw [hW, hB]; exact heap_alloc_new _ _, T.out.trans K (fun _ _ z => z.elim), by rw [← HN.out]; exact hlt, sf.put i m hm, sf.k0 K⟩
      clear sf cr hm hW
      have EW : Hid (W = wr.alloc (.cells #[.int .i64 m.client, .int .i64 m.op, .bool m.put, .string m.key, .slice m.va m.vn m.vc, .int .i64 m.st, .int .i64 m.frm, .int .i64 m.to, .bool m.opn, .int .i64 m.tx, .int .i64 m.ty] 38) ∧ B = wr.heap.size) := ⟨hW', hB⟩
      clear hB hW'
      go_upto_region 4 with fail
      rw [← EW.out.1, ← EW.out.2]
      clear c0 c1 c2 c3 c4 c5 c6 c7 c8 c9 c10
      have g2 := cell_blk J.out.1 2 (v := .bool m.put) rfl
      have f5 := cell_blk J.out.2.2.2.2.blk 5 (v := .slice (some ⟨lb, 0, none⟩) f.n f.n) rfl
      rw [← HN.out] at f5
      have a1 := J.out.2.2.2.2.alk i J.out.2.2.1
      obtain ⟨aw, haw⟩ : ∃ aw, aw = f.alikeW i := ⟨_, rfl⟩
      rw [← haw] at a1
      have aw24 : aw < 16777216 := by rw [haw]; exact lt32 (wrd_lt _ _) H.out.1.n24
      obtain ⟨t3, ht3⟩ : ∃ t3, t3 = decide (aw &&& d = aw) := ⟨_, rfl⟩
      have b3 : (bits .andNot .u32 (aw : Int) (d : Int) == 0) = t3 := by rw [ht3]; exact u32_andNot_nat aw d (by omega) (by omega)
      obtain ⟨q, hq⟩ : ∃ q : Nat, q = 2 ^ i := ⟨_, rfl⟩
      have p2 : (2 : Int) ^ i % 4294967296 = (q : Int) := by rw [hq]; exact pow_mod (by omega)
      obtain ⟨t1, ht1⟩ : ∃ t1, t1 = !d.testBit i := ⟨_, rfl⟩
      have b1 : (bits .and .u32 (d : Int) (q : Int) == 0) = t1 := by rw [hq, ht1]; exact and_pow d i (by omega) (by omega)
      obtain ⟨mp, hmp⟩ : ∃ mp, m.put = mp := ⟨_, rfl⟩
      rw [hmp] at g2
      have E : Hid (t1 = true → mp = false → t3 = true → f.Lost d) := by
        intro e1 e2 e3
        refine ⟨i, J.out.2.2.1, by rw [J.out.2.2.2.1, hmp, e2], ?_, fun p h1 h2 h3 => ?_⟩
        · rw [e1] at ht1
          cases z : d.testBit i
          · rfl
          · rw [z] at ht1; cases ht1
        · rw [e3] at ht3
          have ht3 := of_decide_eq_true ht3.symm
          rw [haw] at ht3
          refine alike_sub.1 ht3 p h1 ?_
          unfold Fd.alikeB
          rw [J.out.2.2.2.1, hmp, e2, h2, h3, decide_eq_true rfl]
          rfl
      clear hq ht1 haw ht3 hmp EW
      have KW : Hid (Kept (fun _ => False) w W) := J.out.2.1
      cases t1
      · go_wp2_with fail
        go_roundw
        case rel => exact ⟨i + 1, by go_num, by omega, KW⟩
        case measure => simp [intOf] <;> omega
      · cases mp
        · cases t3
          · go_wp2_with fail
            go_roundw
            case rel => exact ⟨i + 1, by go_num, by omega, KW⟩
            case measure => simp [intOf] <;> omega
          · go_wp2_with fail
            go_ret
            exact RetB.mk true rfl ⟨fun _ => by first | exact E.out | exact E.out rfl rfl rfl | exact E.out trivial trivial trivial, KW.out⟩
        · go_wp2_with fail
          go_roundw
          case rel => exact ⟨i + 1, by go_num, by omega, KW⟩
          case measure => simp [intOf] <;> omega
    · have i1 : ¬ (i : Int) < (n : Int) := by omega
      go_wp2_with fail
      go_ret
      exact RetB.mk false rfl ⟨fun z => (by cases z), T.out⟩
end Go.Proofs.Ytodmakcklacbfaa
