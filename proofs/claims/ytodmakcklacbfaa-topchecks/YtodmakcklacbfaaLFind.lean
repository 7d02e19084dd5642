import Derived.Test.YtodmakcklacbfaaLMem
import Derived.Deep.CutBlock
import Derived.BigQuiet
import Derived.BigRegion
namespace Go.Proofs.Ytodmakcklacbfaa
open Go.RowKit 

/-- The words of a finder. -/
def Fd.aheadW (f : Fd) (i : Nat) : Nat := wrd (fun j => f.ahd j i) f.n
def Fd.behindW (f : Fd) (i : Nat) : Nat := wrd (fun j => f.ahd i j) f.n
def Fd.alikeB (f : Fd) (i j : Nat) : Bool := (f.put i != f.put j) && decide (f.val i = f.val j)
def Fd.alikeW (f : Fd) (i : Nat) : Nat := wrd (fun j => f.alikeB i j) f.n
def Fd.mustW (f : Fd) : Nat := wrd (fun j => !f.opn j) f.n
/-- A finder, but for its map. -/
structure SF (w : World) (fb : Nat) (f : Fd) (ms : List Cm) (cp : Option Addr) (cc vb ab bb lb mb : Nat) : Prop where
  blk : w.heap[fb]? = some (.cells #[.slice cp f.n cc, .slice (some ⟨vb, 0, none⟩) f.n f.n, .int .u32 ((f.mustW : Nat) : Int), .slice (some ⟨ab, 0, none⟩) f.n f.n, .slice (some ⟨bb, 0, none⟩) f.n f.n, .slice (some ⟨lb, 0, none⟩) f.n f.n, .map (some mb)] 88 (0, 0))
  cr : CRd w cp f.n cc ms
  n24 : f.n ≤ 24
  put : ∀ i m, ms[i]? = some m → f.put i = m.put
  opn : ∀ i m, ms[i]? = some m → f.opn i = (m.put && m.opn)
  val : ∀ i, i < f.n → w.cell? ⟨vb, i, none⟩ = some (.int .i64 (f.val i))
  ahd : ∀ i, i < f.n → w.cell? ⟨ab, i, none⟩ = some (.int .u32 ((f.aheadW i : Nat) : Int))
  beh : ∀ i, i < f.n → w.cell? ⟨bb, i, none⟩ = some (.int .u32 ((f.behindW i : Nat) : Int))
  alk : ∀ i, i < f.n → w.cell? ⟨lb, i, none⟩ = some (.int .u32 ((f.alikeW i : Nat) : Int))
theorem SF.off {S : Nat → Prop} {w w' : World} {fb : Nat} {f : Fd} {ms : List Cm} {cp : Option Addr} {cc vb ab bb lb mb : Nat} (h : SF w fb f ms cp cc vb ab bb lb mb) (K : Kept S w w') (hn : ∀ q v, w.cell? q = some v → ¬ S q.block) : SF w' fb f ms cp cc vb ab bb lb mb :=
  ⟨K.get h.blk (hn ⟨fb, 0, none⟩ _ (cell_blk h.blk 0 rfl)), h.cr.off K hn, h.n24, h.put, h.opn, fun i hi => K.cell (h.val i hi) (hn _ _ (h.val i hi)), fun i hi => K.cell (h.ahd i hi) (hn _ _ (h.ahd i hi)), fun i hi => K.cell (h.beh i hi) (hn _ _ (h.beh i hi)), fun i hi => K.cell (h.alk i hi) (hn _ _ (h.alk i hi))⟩
theorem SF.k0 {w w' : World} {fb : Nat} {f : Fd} {ms : List Cm} {cp : Option Addr} {cc vb ab bb lb mb : Nat} (h : SF w fb f ms cp cc vb ab bb lb mb) (K : Kept (fun _ => False) w w') : SF w' fb f ms cp cc vb ab bb lb mb := h.off K (fun _ _ _ z => z)
/-- mayFollow, as it is reckoned. -/
def Fd.mayB (f : Fd) (d : Nat) (v : Int) (i : Nat) : Bool := !d.testBit i && (f.put i || decide (f.val i = v)) && decide (∀ j, j < f.n → f.ahd j i = true → d.testBit j = true)
theorem mayB_iff {f : Fd} {d : Nat} {v : Int} {i : Nat} (hi : i < f.n) : f.mayB d v i = true ↔ f.May d v i := by
  unfold Fd.mayB Fd.May
  simp only [Bool.and_eq_true, Bool.not_eq_true', Bool.or_eq_true, decide_eq_true_eq]
  constructor
  · rintro ⟨⟨h1, h2⟩, h3⟩
    exact ⟨hi, h1, h2, h3⟩
  · rintro ⟨_, h1, h2, h3⟩
    exact ⟨⟨h1, h2⟩, h3⟩
set_option maxRecDepth 100000 in
theorem mayFollow0 {w : World} {fb : Nat} {f : Fd} {ms : List Cm} {cp : Option Addr} {cc vb ab bb lb mb : Nat} (h : SF w fb f ms cp cc vb ab bb lb mb) (d : Nat) (v : Int) (i : Nat) (hd : d < 16777216) (hi : i < f.n) :
    Calls Try.prog 89 #[.pointer (some ⟨fb, 0, none⟩), .int .u32 (d : Int), .int .i64 v, .int .i64 (i : Int)] w fun o w' => o = .returned (.bool (f.mayB d v i)) ∧ w' = w := by
  have n24 := h.n24
  have f0 := cell_blk h.blk 0 (v := .slice cp f.n cc) rfl
  have f1 := cell_blk h.blk 1 (v := .slice (some ⟨vb, 0, none⟩) f.n f.n) rfl
  have f3 := cell_blk h.blk 3 (v := .slice (some ⟨ab, 0, none⟩) f.n f.n) rfl
  obtain ⟨n, hn⟩ : ∃ n, n = f.n := ⟨_, rfl⟩
  rw [← hn] at f0 f1 f3 n24 hi
  have v1 := h.val i (by rw [← hn]; exact hi)
  have a1 := h.ahd i (by rw [← hn]; exact hi)
  have cr := h.cr
  rw [← hn] at cr
  have i1 : (i : Int) < (n : Int) := by omega
  have i0 : ¬ (i : Int) < 0 := by omega
  obtain ⟨b, off, m, rfl, hm, _, _, c2, _⟩ := cr.at hi
  have H : Hid (SF w fb f ms (some ⟨b, off, none⟩) cc vb ab bb lb mb ∧ n = f.n) := ⟨h, hn⟩
  clear h hn cr
  go_enter Try.func89, Try.ntmps89
  obtain ⟨q, hq⟩ : ∃ q : Nat, q = 2 ^ i := ⟨_, rfl⟩
  have p2 : (2 : Int) ^ i % 4294967296 = (q : Int) := by rw [hq]; exact pow_mod (by omega)
  obtain ⟨t1, ht1⟩ : ∃ t1, t1 = !d.testBit i := ⟨_, rfl⟩
  have b1 : (bits .and .u32 (d : Int) (q : Int) == 0) = t1 := by rw [hq, ht1]; exact and_pow d i (by omega) (by omega)
  obtain ⟨aw, haw⟩ : ∃ aw, aw = f.aheadW i := ⟨_, rfl⟩
  rw [← haw] at a1
  have aw24 : aw < 16777216 := by rw [haw]; exact lt32 (wrd_lt _ _) H.out.1.n24
  obtain ⟨t3, ht3⟩ : ∃ t3, t3 = decide (aw &&& d = aw) := ⟨_, rfl⟩
  have b3 : (bits .andNot .u32 (aw : Int) (d : Int) == 0) = t3 := by rw [ht3]; exact u32_andNot_nat aw d (by omega) (by omega)
  obtain ⟨t2, ht2⟩ : ∃ t2, t2 = decide (f.val i = v) := ⟨_, rfl⟩
  have b2 : (f.val i == v) = t2 := by rw [ht2]; rfl
  have E : Hid (f.mayB d v i = (t1 && (m.put || t2) && t3)) := by
    show f.mayB d v i = (t1 && (m.put || t2) && t3)
    have e0 := H.out.1.put i m hm
    have e3 : decide (∀ j, j < f.n → f.ahd j i = true → d.testBit j = true) = t3 := by
      rw [ht3, decide_eq_decide, sub_iff, haw]
      unfold Fd.aheadW
      constructor
      · intro h j hj
        rw [wrd_bit, Bool.and_eq_true, decide_eq_true_iff] at hj
        exact h j hj.1 hj.2
      · intro h j h1 h2
        refine h j ?_
        rw [wrd_bit, decide_eq_true h1, h2]
        rfl
    unfold Fd.mayB
    rw [e0, e3, ← ht1, ← ht2]
  clear hq ht1 haw ht3 ht2 hm
  cases t1
  · have E2 : f.mayB d v i = false := by rw [E.out]; rfl
    rw [E2]
    cases hp : m.put
    · rw [hp] at c2
      go_wp2_with fail
      go_ret
      exact ⟨by simp, rfl⟩
    · rw [hp] at c2
      go_wp2_with fail
      go_ret
      exact ⟨by simp, rfl⟩
  · cases hp : m.put
    · rw [hp] at c2 E
      cases t2
      · have E2 : f.mayB d v i = false := by rw [E.out]; rfl
        rw [E2]
        go_wp2_with fail
        go_ret
        exact ⟨by simp, rfl⟩
      · have E2 : f.mayB d v i = t3 := by rw [E.out]; simp
        rw [E2]
        go_wp2_with fail
        go_ret
        exact ⟨by simp, rfl⟩
    · rw [hp] at c2 E
      have E2 : f.mayB d v i = t3 := by rw [E.out]; simp
      rw [E2]
      go_wp2_with fail
      go_ret
      exact ⟨by simp, rfl⟩
end Go.Proofs.Ytodmakcklacbfaa
