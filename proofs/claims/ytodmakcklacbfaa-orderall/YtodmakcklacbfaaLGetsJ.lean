import Derived.Test.YtodmakcklacbfaaLMem
import Derived.Deep.CutBlock
import Derived.BigQuiet
import Derived.BigRegion
namespace Go.Proofs.Ytodmakcklacbfaa
open Go.RowKit 

/-- The words of a finder. -/
def Fd.aheadW (f : Fd) (i : Nat) : Nat := wrd (fun j => f.ahd j i) f.n
def Fd.behindW (f : Fd) (i : Nat) : Nat := wrd (fun j => f.ahd i j) f.n
def Fd.alikeB (f : Fd) (i j : Nat) : Bool := (f.put i != f.put j) && decide (f.val i = f.val j)
def Fd.alikeW (f : Fd) (i : Nat) : Nat := wrd (fun j => f.alikeB i j) f.n
def Fd.mustW (f : Fd) : Nat := wrd (fun j => !f.opn j) f.n
/-- A finder, but for its map. -/
structure SF (w : World) (fb : Nat) (f : Fd) (ms : List Cm) (cp : Option Addr) (cc vb ab bb lb mb : Nat) : Prop where
  blk : w.heap[fb]? = some (.cells #[.slice cp f.n cc, .slice (some ⟨vb, 0, none⟩) f.n f.n, .int .u32 ((f.mustW : Nat) : Int), .slice (some ⟨ab, 0, none⟩) f.n f.n, .slice (some ⟨bb, 0, none⟩) f.n f.n, .slice (some ⟨lb, 0, none⟩) f.n f.n, .map (some mb)] 88 (0, 0))
  cr : CRd w cp f.n cc ms
  n24 : f.n ≤ 24
  put : ∀ i m, ms[i]? = some m → f.put i = m.put
  opn : ∀ i m, ms[i]? = some m → f.opn i = (m.put && m.opn)
  val : ∀ i, i < f.n → w.cell? ⟨vb, i, none⟩ = some (.int .i64 (f.val i))
  ahd : ∀ i, i < f.n → w.cell? ⟨ab, i, none⟩ = some (.int .u32 ((f.aheadW i : Nat) : Int))
  beh : ∀ i, i < f.n → w.cell? ⟨bb, i, none⟩ = some (.int .u32 ((f.behindW i : Nat) : Int))
  alk : ∀ i, i < f.n → w.cell? ⟨lb, i, none⟩ = some (.int .u32 ((f.alikeW i : Nat) : Int))
theorem SF.off {S : Nat → Prop} {w w' : World} {fb : Nat} {f : Fd} {ms : List Cm} {cp : Option Addr} {cc vb ab bb lb mb : Nat} (h : SF w fb f ms cp cc vb ab bb lb mb) (K : Kept S w w') (hn : ∀ q v, w.cell? q = some v → ¬ S q.block) : SF w' fb f ms cp cc vb ab bb lb mb :=
  ⟨K.get h.blk (hn ⟨fb, 0, none⟩ _ (cell_blk h.blk 0 rfl)), h.cr.off K hn, h.n24, h.put, h.opn, fun i hi => K.cell (h.val i hi) (hn _ _ (h.val i hi)), fun i hi => K.cell (h.ahd i hi) (hn _ _ (h.ahd i hi)), fun i hi => K.cell (h.beh i hi) (hn _ _ (h.beh i hi)), fun i hi => K.cell (h.alk i hi) (hn _ _ (h.alk i hi))⟩
theorem SF.k0 {w w' : World} {fb : Nat} {f : Fd} {ms : List Cm} {cp : Option Addr} {cc vb ab bb lb mb : Nat} (h : SF w fb f ms cp cc vb ab bb lb mb) (K : Kept (fun _ => False) w w') : SF w' fb f ms cp cc vb ab bb lb mb := h.off K (fun _ _ _ z => z)
/-- mayFollow, as it is reckoned. -/
def Fd.mayB (f : Fd) (d : Nat) (v : Int) (i : Nat) : Bool := !d.testBit i && (f.put i || decide (f.val i = v)) && decide (∀ j, j < f.n → f.ahd j i = true → d.testBit j = true)
theorem mayB_iff {f : Fd} {d : Nat} {v : Int} {i : Nat} (hi : i < f.n) : f.mayB d v i = true ↔ f.May d v i := by
  unfold Fd.mayB Fd.May
  simp only [Bool.and_eq_true, Bool.not_eq_true', Bool.or_eq_true, decide_eq_true_eq]
  constructor
  · rintro ⟨⟨h1, h2⟩, h3⟩
    exact ⟨hi, h1, h2, h3⟩
  · rintro ⟨_, h1, h2, h3⟩
    exact ⟨⟨h1, h2⟩, h3⟩
set_option maxRecDepth 100000 in
theorem mayFollow0 {w : World} {fb : Nat} {f : Fd} {ms : List Cm} {cp : Option Addr} {cc vb ab bb lb mb : Nat} (h : SF w fb f ms cp cc vb ab bb lb mb) (d : Nat) (v : Int) (i : Nat) (hd : d < 16777216) (hi : i < f.n) :
    Calls Try.prog 89 #[.pointer (some ⟨fb, 0, none⟩), .int .u32 (d : Int), .int .i64 v, .int .i64 (i : Int)] w fun o w' => o = .returned (.bool (f.mayB d v i)) ∧ w' = w := by
  have n24 := h.n24
  have f0 := cell_blk h.blk 0 (v := .slice cp f.n cc) rfl
  have f1 := cell_blk h.blk 1 (v := .slice (some ⟨vb, 0, none⟩) f.n f.n) rfl
  have f3 := cell_blk h.blk 3 (v := .slice (some ⟨ab, 0, none⟩) f.n f.n) rfl
  obtain ⟨n, hn⟩ : ∃ n, n = f.n := ⟨_, rfl⟩
  rw [← hn] at f0 f1 f3 n24 hi
  have v1 := h.val i (by rw [← hn]; exact hi)
  have a1 := h.ahd i (by rw [← hn]; exact hi)
  have cr := h.cr
  rw [← hn] at cr
  have i1 : (i : Int) < (n : Int) := by omega
  have i0 : ¬ (i : Int) < 0 := by omega
  obtain ⟨b, off, m, rfl, hm, _, _, c2, _⟩ := cr.at hi
  have H : Hid (SF w fb f ms (some ⟨b, off, none⟩) cc vb ab bb lb mb ∧ n = f.n) := ⟨h, hn⟩
  clear h hn cr
  go_enter Try.func89, Try.ntmps89
  obtain ⟨q, hq⟩ : ∃ q : Nat, q = 2 ^ i := ⟨_, rfl⟩
  have p2 : (2 : Int) ^ i % 4294967296 = (q : Int) := by rw [hq]; exact pow_mod (by omega)
  obtain ⟨t1, ht1⟩ : ∃ t1, t1 = !d.testBit i := ⟨_, rfl⟩
  have b1 : (bits .and .u32 (d : Int) (q : Int) == 0) = t1 := by rw [hq, ht1]; exact and_pow d i (by omega) (by omega)
  obtain ⟨aw, haw⟩ : ∃ aw, aw = f.aheadW i := ⟨_, rfl⟩
  rw [← haw] at a1
  have aw24 : aw < 16777216 := by rw [haw]; exact lt32 (wrd_lt _ _) H.out.1.n24
  obtain ⟨t3, ht3⟩ : ∃ t3, t3 = decide (aw &&& d = aw) := ⟨_, rfl⟩
  have b3 : (bits .andNot .u32 (aw : Int) (d : Int) == 0) = t3 := by rw [ht3]; exact u32_andNot_nat aw d (by omega) (by omega)
  obtain ⟨t2, ht2⟩ : ∃ t2, t2 = decide (f.val i = v) := ⟨_, rfl⟩
  have b2 : (f.val i == v) = t2 := by rw [ht2]; rfl
  have E : Hid (f.mayB d v i = (t1 && (m.put || t2) && t3)) := by
    show f.mayB d v i = (t1 && (m.put || t2) && t3)
    have e0 := H.out.1.put i m hm
    have e3 : decide (∀ j, j < f.n → f.ahd j i = true → d.testBit j = true) = t3 := by
      rw [ht3, decide_eq_decide, sub_iff, haw]
      unfold Fd.aheadW
      constructor
      · intro h j hj
        rw [wrd_bit, Bool.and_eq_true, decide_eq_true_iff] at hj
        exact h j hj.1 hj.2
      · intro h j h1 h2
        refine h j ?_
        rw [wrd_bit, decide_eq_true h1, h2]
        rfl
    unfold Fd.mayB
    rw [e0, e3, ← ht1, ← ht2]
  clear hq ht1 haw ht3 ht2 hm
  cases t1
  · have E2 : f.mayB d v i = false := by rw [E.out]; rfl
    rw [E2]
    cases hp : m.put
    · rw [hp] at c2
      go_wp2_with fail
      go_ret
      exact ⟨by simp, rfl⟩
    · rw [hp] at c2
      go_wp2_with fail
      go_ret
      exact ⟨by simp, rfl⟩
  · cases hp : m.put
    · rw [hp] at c2 E
      cases t2
      · have E2 : f.mayB d v i = false := by rw [E.out]; rfl
        rw [E2]
        go_wp2_with fail
        go_ret
        exact ⟨by simp, rfl⟩
      · have E2 : f.mayB d v i = t3 := by rw [E.out]; simp
        rw [E2]
        go_wp2_with fail
        go_ret
        exact ⟨by simp, rfl⟩
    · rw [hp] at c2 E
      have E2 : f.mayB d v i = t3 := by rw [E.out]; simp
      rw [E2]
      go_wp2_with fail
      go_ret
      exact ⟨by simp, rfl⟩
end Go.Proofs.Ytodmakcklacbfaa

namespace Go.Proofs.Ytodmakcklacbfaa
open Go.RowKit 

theorem mayFollow {w : World} {fb : Nat} {f : Fd} {ms : List Cm} {cp : Option Addr} {cc vb ab bb lb mb : Nat} (h : SF w fb f ms cp cc vb ab bb lb mb) (d : Nat) (v : Int) (i : Nat) (hd : d < 2 ^ f.n) (hi : i < f.n) {r : Bool} (hr : f.mayB d v i = r) :
    Calls Try.prog 89 #[.pointer (some ⟨fb, 0, none⟩), .int .u32 (d : Int), .int .i64 v, .int .i64 (i : Int)] w fun o w' => o = .returned (.bool r) ∧ w' = w := by
  rw [← hr]
  exact mayFollow0 h d v i (lt32 hd h.n24) hi
/-- How many are not done. -/
def left (n d : Nat) : Nat := ((List.range n).filter fun j => !d.testBit j).length
theorem left_add {n d i : Nat} (hi : i < n) (h : d.testBit i = false) : left n (add d i) < left n d := by
  unfold left
  refine filter_lt (fun j hj => ?_) hi (by rw [h]; rfl) (by rw [add_self]; rfl)
  rw [add_mem] at hj
  cases q : d.testBit j
  · rfl
  · rw [q] at hj; cases hj
theorem left_sub {n d e : Nat} (h : ∀ j, d.testBit j = true → e.testBit j = true) (hd : e < 2 ^ n) (ne : e ≠ d) : left n e < left n d := by
  obtain ⟨i, h1, h2⟩ : ∃ i, e.testBit i = true ∧ d.testBit i = false := by
    by_cases q : ∃ i, e.testBit i = true ∧ d.testBit i = false
    · exact q
    · exfalso
      refine ne (Nat.eq_of_testBit_eq fun j => ?_)
      cases z : e.testBit j
      · cases y : d.testBit j
        · rfl
        · rw [h j y] at z; cases z
      · cases y : d.testBit j
        · exact absurd ⟨j, z, y⟩ q
        · rfl
  have hi : i < n := by
    rcases Nat.lt_or_ge i n with z | z
    · exact z
    · rw [Nat.testBit_lt_two_pow (Nat.lt_of_lt_of_le hd (Nat.pow_le_pow_right (by omega) z))] at h1
      cases h1
  unfold left
  refine filter_lt (fun j hj => ?_) hi (by rw [h2]; rfl) (by rw [h1]; rfl)
  cases q : d.testBit j
  · rfl
  · rw [h j q] at hj; cases hj
/-- Gets that were put in. -/
structure WG (f : Fd) (v : Int) (d e : Nat) : Prop where
  lt : e < 2 ^ f.n
  sub : ∀ j, d.testBit j = true → e.testBit j = true
  can : f.Can d v ↔ f.Can e v
theorem WG.refl {f : Fd} (v : Int) {d : Nat} (h : d < 2 ^ f.n) : WG f v d d := ⟨h, fun _ z => z, Iff.rfl⟩
theorem WG.trans {f : Fd} {v : Int} {a b c : Nat} (h : WG f v a b) (k : WG f v b c) : WG f v a c := ⟨k.lt, fun j z => k.sub j (h.sub j z), h.can.trans k.can⟩
theorem WG.more {f : Fd} (ok : f.Ok) {v : Int} {d e i : Nat} (h : WG f v d e) (hi : i < f.n) (hp : f.put i = false) (m : f.mayB e v i = true) : WG f v d (add e i) ∧ add e i ≠ d := by
  have m := (mayB_iff hi).1 m
  refine ⟨⟨add_lt h.lt hi, fun j z => add_old (h.sub j z) i, h.can.trans (Can.get ok hp m)⟩, fun z => ?_⟩
  have := add_self e i
  rw [z] at this
  have := h.sub i this
  rw [m.2.1] at this
  cases this
set_option maxRecDepth 100000 in
set_option maxHeartbeats 4000000 in
theorem withGets {w : World} {fb : Nat} {f : Fd} {ms : List Cm} {cp : Option Addr} {cc vb ab bb lb mb : Nat} (ok : f.Ok) (h : SF w fb f ms cp cc vb ab bb lb mb) (d : Nat) (v : Int) (hd : d < 2 ^ f.n) :
    Calls Try.prog 103 #[.pointer (some ⟨fb, 0, none⟩), .int .u32 (d : Int), .int .i64 v] w fun o w' => ∃ e : Nat, o = .returned (.int .u32 (e : Int)) ∧ Hid (WG f v d e ∧ f.Shut e v ∧ Kept (fun _ => False) w w') := by
  have H : Hid (SF w fb f ms cp cc vb ab bb lb mb ∧ f.Ok ∧ d < 2 ^ f.n) := ⟨h, ok, hd⟩
  have n24 := h.n24
  have f0 := cell_blk h.blk 0 (v := .slice cp f.n cc) rfl
  have rm := h.cr.room
  have sm := h.cr.small
  unfold maxLen at sm
  obtain ⟨n, hn⟩ : ∃ n, n = f.n := ⟨_, rfl⟩
  rw [← hn] at f0 n24 rm
  have HN : Hid (n = f.n) := hn
  clear h ok hd hn
  go_enter Try.func103, Try.ntmps103
  go_wp2_with fail
  go_loopw [1, 7, 8, 9, 16] (fun u1 _ _ _ _ wr => ∃ e : Nat, u1 = .int .u32 (e : Int) ∧ Hid (WG f v d e ∧ Kept (fun _ => False) w wr)) (fun u1 _ _ _ _ _ => left n (intOf u1).toNat)
  case atStart => exact ⟨d, rfl, WG.refl v H.out.2.2, Kept.refl _ _⟩
  case round =>
    obtain ⟨e, rfl, S⟩ := hrel
    obtain ⟨wo, hwo⟩ : ∃ wo, wo = wr := ⟨_, rfl⟩
    rw [← hwo] at S ⊢
    clear hwo
    replace f0 := S.out.2.cell f0 (fun z => z)
    go_wp2_with fail
    go_loopw [7, 8, 9, 16] (fun u7 _ _ u16 wr => ∃ (g i : Nat), u7 = .int .u32 (g : Int) ∧ u16 = .int .i64 (i : Int) ∧ i ≤ n ∧ Hid (WG f v e g ∧ (g = e → ∀ j, j < i → f.put j = false → f.mayB e v j = false) ∧ Kept (fun _ => False) w wr)) (fun _ _ _ u16 _ => n - (intOf u16).toNat)
    case atStart => exact ⟨e, 0, rfl, rfl, Nat.zero_le _, WG.refl v S.out.1.lt, fun _ j hj => absurd hj (by omega), S.out.2⟩
    case round =>
      obtain ⟨g, i, rfl, rfl, hi, T⟩ := hrel
      by_cases hlt : i < n
      · have i1 : (i : Int) < (n : Int) := by omega
        have sf := H.out.1.k0 T.out.2.2
        have cr := sf.cr
        rw [← HN.out] at cr
        obtain ⟨b, off, m, rfl, hm, c0, c1, c2, c3, c4, c5, c6, c7, c8, c9, c10, _⟩ := cr.at hlt
        have SFH : Hid (SF wr fb f ms (some ⟨b, off, none⟩) cc vb ab bb lb mb) := sf
        have pe : Hid (f.put i = m.put) := sf.put i m hm
        clear sf cr hm
        obtain ⟨r, hr⟩ : ∃ r, f.mayB g v i = r := ⟨_, rfl⟩
        obtain ⟨W, hW⟩ : ∃ W, W = wr.alloc (.cells m.cs 38) := ⟨_, rfl⟩
        have hW' : W = wr.alloc (.cells #[.int .i64 m.client, .int .i64 m.op, .bool m.put, .string m.key, .slice m.va m.vn m.vc, .int .i64 m.st, .int .i64 m.frm, .int .i64 m.to, .bool m.opn, .int .i64 m.tx, .int .i64 m.ty] 38) := hW
        obtain ⟨B, hB⟩ : ∃ B, B = wr.heap.size := ⟨_, rfl⟩
        have J : Hid (W.heap[B]? = some (.cells m.cs 38 (0, 0)) ∧ Kept (fun _ => False) wr W ∧ i < f.n ∧ f.mayB g v i = r) := by
          rw [hW, hB]
          exact ⟨heap_alloc_new _ _, (Kept.refl _ _).alloc _, by rw [← HN.out]; exact hlt, hr⟩
        have CM : Hid (Calls Try.prog 89 #[.pointer (some ⟨fb, 0, none⟩), .int .u32 (g : Int), .int .i64 v, .int .i64 (i : Int)] W fun o w' => o = .returned (.bool r) ∧ w' = W) := mayFollow (SFH.out.k0 J.out.2.1) g v i T.out.1.lt J.out.2.2.1 hr
        have EW : Hid (W = wr.alloc (.cells #[.int .i64 m.client, .int .i64 m.op, .bool m.put, .string m.key, .slice m.va m.vn m.vc, .int .i64 m.st, .int .i64 m.frm, .int .i64 m.to, .bool m.opn, .int .i64 m.tx, .int .i64 m.ty] 38) ∧ B = wr.heap.size) := ⟨hW', hB⟩
        clear hW hB hr hW'
        go_upto_region 5 with fail
        rw [← EW.out.1, ← EW.out.2]
        clear c0 c1 c2 c3 c4 c5 c6 c7 c8 c9 c10
        have g2 := cell_blk J.out.1 2 (v := .bool m.put) rfl
        obtain ⟨mp, hmp⟩ : ∃ mp, m.put = mp := ⟨_, rfl⟩
        have PE : Hid (f.put i = mp) := by rw [← hmp]; exact pe.out
        rw [hmp] at g2
        clear pe hmp EW
        have KW : Hid (Kept (fun _ => False) w W) := T.out.2.2.trans J.out.2.1 (fun _ _ z => z.elim)
        cases mp
        · go_wp2_with fail
          refine CM.out.mono ?_
          rintro o w2 ⟨rfl, rfl⟩
          cases r
          · go_wp2_with fail
            go_roundw
            case rel =>
              refine ⟨g, i + 1, rfl, by go_num, by omega, T.out.1, fun e1 j hj hp => ?_, KW.out⟩
              by_cases ej : j = i
              · subst ej
                rw [← e1]
                exact J.out.2.2.2
              · exact T.out.2.1 e1 j (by omega) hp
            case measure => simp [intOf] <;> omega
          · obtain ⟨q, hq⟩ : ∃ q : Nat, q = 2 ^ i := ⟨_, rfl⟩
            have p2 : (2 : Int) ^ i % 4294967296 = (q : Int) := by rw [hq]; exact pow_mod (by omega)
            have o2 : bits .or .u32 (g : Int) (q : Int) = ((add g i : Nat) : Int) := by
              rw [hq]
              have := lt32 T.out.1.lt H.out.1.n24
              exact or_pow g i (by omega) (by omega)
            clear hq
            go_wp2_with fail
            go_roundw
            case rel =>
              obtain ⟨z1, z2⟩ := T.out.1.more H.out.2.1 J.out.2.2.1 PE.out J.out.2.2.2
              exact ⟨add g i, i + 1, rfl, by go_num, by omega, z1, fun e1 => absurd e1 z2, KW.out⟩
            case measure => simp [intOf] <;> omega
        · go_wp2_with fail
          go_roundw
          case rel =>
            refine ⟨g, i + 1, rfl, by go_num, by omega, T.out.1, fun e1 j hj hp => ?_, KW.out⟩
            by_cases ej : j = i
            · subst ej
              rw [PE.out] at hp
              cases hp
            · exact T.out.2.1 e1 j (by omega) hp
          case measure => simp [intOf] <;> omega
      · have i1 : ¬ (i : Int) < (n : Int) := by omega
        by_cases ge : g = e
        · subst ge
          have G : Hid (WG f v d g ∧ f.Shut g v ∧ Kept (fun _ => False) w wr) := by
            refine ⟨S.out.1, fun j hp mj => ?_, T.out.2.2⟩
            have := T.out.2.1 rfl j (by have := mj.1; rw [← HN.out] at this; omega) hp
            rw [(mayB_iff mj.1).2 mj] at this
            cases this
          clear T
          go_wp2_with fail
          go_ret
          exact ⟨g, rfl, G⟩
        · have ne : ¬ ((g : Int) = (e : Int)) := by omega
          have G : Hid (WG f v d g ∧ Kept (fun _ => False) w wr ∧ left n g < left n e) := by
            refine ⟨S.out.1.trans T.out.1, T.out.2.2, left_sub T.out.1.sub (by rw [HN.out]; exact T.out.1.lt) ge⟩
          clear T
          go_wp2_with fail
          go_roundw
          case rel => exact ⟨g, rfl, G.out.1, G.out.2.1⟩
          case measure =>
            have := G.out.2.2
            simp [intOf]
            exact this
end Go.Proofs.Ytodmakcklacbfaa
