import Derived.Test.YteokeifkkhchmaaPlaysN
namespace Go.Proofs.Yteokeifkkhchmaa
open Go.RowKit 

def Apart (x0 x1 : Option PX) : Prop := ∀ y0 y1, x0 = some y0 → x1 = some y1 → y0.mb ≠ y1.mb ∧ y0.cb ≠ y1.cb ∧ y0.lb ≠ y1.lb
theorem Apart.symm {x0 x1 : Option PX} (h : Apart x0 x1) : Apart x1 x0 := fun y0 y1 e0 e1 => by
  obtain ⟨a, b, c⟩ := h y1 y0 e1 e0
  exact ⟨fun e => a e.symm, fun e => b e.symm, fun e => c e.symm⟩
theorem Apart.like {x0 x0' x1 : Option PX} (h : Apart x0 x1) (l : Like x0 x0') : Apart x0' x1 := by
  rcases l with ⟨rfl, rfl⟩ | ⟨y, M', rfl, rfl⟩
  · exact h
  · intro y0 y1 e0 e1
    cases e0
    exact h y y1 rfl e1
theorem Both.beside {w w' : World} {y0 y1 : PX} (b0 : Both w y0) (b1 : Both w y1) (a : y0.mb ≠ y1.mb ∧ y0.cb ≠ y1.cb ∧ y0.lb ≠ y1.lb) (K : Kept y0.Uses w w') : Both w' y1 := by
  obtain ⟨es0, c0, m0⟩ := b0.p.map
  obtain ⟨es1, c1, m1⟩ := b1.p.map
  obtain ⟨a1, a2, a3⟩ := a
  refine ⟨b1.p.kept K (b0.off b1.p.blk (by decide) (by decide)) ?_, b1.r.kept K (b0.off b1.r.blk (by decide) (by decide)) ?_ ?_⟩
  · rintro (e | e | e)
    · exact a1 e.symm
    · rw [e, b0.r.come] at m1; cases m1
    · rw [e, b0.r.last] at m1; cases m1
  · rintro (e | e | e)
    · have := b1.r.come; rw [e, m0] at this; cases this
    · exact a2 e.symm
    · have := b1.r.come; rw [e, b0.r.last] at this; simp at this
  · rintro (e | e | e)
    · have := b1.r.last; rw [e, m0] at this; cases this
    · have := b1.r.last; rw [e, b0.r.come] at this; simp at this
    · exact a3 e.symm
theorem Holds.beside {w w' : World} {x0 x1 : Option PX} (h0 : Holds w x0) (h1 : Holds w x1) (a : Apart x0 x1) (K : Kept (Uses x0) w w') : Holds w' x1 := fun y1 e1 => by
  cases x0 with
  | none => exact (h1 y1 e1).k0 (K.mono (fun j _ ⟨y, e, _⟩ => by cases e))
  | some y0 => exact (h0 y0 rfl).beside (h1 y1 e1) (a y0 y1 rfl e1) (K.mono (fun j _ ⟨y, e, u⟩ => by cases e; exact u))
theorem Holds.off {w : World} {x : Option PX} (h : Holds w x) {j : Nat} {cs : Array Value} {t : TypeId} (hj : w.heap[j]? = some (.cells cs t (0, 0))) (h4 : t ≠ 4) (h3 : t ≠ 3) : ¬ Uses x j := by
  rintro ⟨y, e, u⟩
  exact (h y e).off hj h4 h3 u
theorem Holds.k0 {w w' : World} {x : Option PX} (h : Holds w x) (K : Kept (fun _ => False) w w') : Holds w' x := fun y e => (h y e).k0 K
/-- Where the law stands. -/
structure LS (w wr : World) (B7 B8 : Nat) (x0 x1 : Option PX) : Prop where
  ps : wr.heap[B7]? = some (.cells #[pv x0, pv x1] 26 (0, 0))
  rs : wr.heap[B8]? = some (.cells #[rv x0, rv x1] 28 (0, 0))
  h0 : Holds wr x0
  h1 : Holds wr x1
  ap : Apart x0 x1
  low : ∀ j, Uses x0 j ∨ Uses x1 j → w.heap.size ≤ j
  kept : Kept (fun _ => False) w wr
theorem LS.k0 {w wr w' : World} {B7 B8 : Nat} {x0 x1 : Option PX} (h : LS w wr B7 B8 x0 x1) (K : Kept (fun _ => False) wr w') : LS w w' B7 B8 x0 x1 :=
  ⟨K.get h.ps (fun z => z), K.get h.rs (fun z => z), h.h0.k0 K, h.h1.k0 K, h.ap, h.low, h.kept.and0 K⟩
theorem LS.step0 {w wr w' : World} {B7 B8 : Nat} {x0 x1 x0' : Option PX} (h : LS w wr B7 B8 x0 x1) (l : Like x0 x0') (hh : Holds w' x0') (K : Kept (Uses x0) wr w') : LS w w' B7 B8 x0' x1 := by
  refine ⟨?_, ?_, hh, h.h0.beside h.h1 h.ap K, h.ap.like l, fun j hj => ?_, h.kept.trans K (fun j hj z => by have := h.low j (.inl z); omega)⟩
  · rw [l.pv.1]; exact K.get h.ps (h.h0.off h.ps (by decide) (by decide))
  · rw [l.pv.2]; exact K.get h.rs (h.h0.off h.rs (by decide) (by decide))
  · rcases hj with z | z
    · exact h.low j (.inl ((l.uses j).1 z))
    · exact h.low j (.inr z)
theorem LS.step1 {w wr w' : World} {B7 B8 : Nat} {x0 x1 x1' : Option PX} (h : LS w wr B7 B8 x0 x1) (l : Like x1 x1') (hh : Holds w' x1') (K : Kept (Uses x1) wr w') : LS w w' B7 B8 x0 x1' := by
  refine ⟨?_, ?_, h.h1.beside h.h0 h.ap.symm K, hh, (h.ap.symm.like l).symm, fun j hj => ?_, h.kept.trans K (fun j hj z => by have := h.low j (.inr z); omega)⟩
  · rw [l.pv.1]; exact K.get h.ps (h.h1.off h.ps (by decide) (by decide))
  · rw [l.pv.2]; exact K.get h.rs (h.h1.off h.rs (by decide) (by decide))
  · rcases hj with z | z
    · exact h.low j (.inl z)
    · exact h.low j (.inr ((l.uses j).1 z))
theorem LS.cells {w wr : World} {B7 B8 : Nat} {x0 x1 : Option PX} (h : LS w wr B7 B8 x0 x1) : wr.cell? ⟨B7, 0, none⟩ = some (pv x0) ∧ wr.cell? ⟨B7, 1, none⟩ = some (pv x1) ∧ wr.cell? ⟨B8, 0, none⟩ = some (rv x0) ∧ wr.cell? ⟨B8, 1, none⟩ = some (rv x1) :=
  ⟨cell_blk h.ps 0 rfl, cell_blk h.ps 1 rfl, cell_blk h.rs 0 rfl, cell_blk h.rs 1 rfl⟩
/-- The script reads as steps. -/
structure PReads (w : World) (a : Option Addr) (len cap : Nat) : Prop where
  room : len ≤ cap
  small : cap ≤ maxLen
  cells : 0 < len → ∃ b off, a = some ⟨b, off, none⟩ ∧ ∀ i, i < len → ∃ k p s v n : Int, KF s ∧ w.cell? ⟨b, off + i * 5, none⟩ = some (.int .i64 k) ∧ w.cell? ⟨b, off + i * 5 + 1, none⟩ = some (.int .i64 p) ∧ w.cell? ⟨b, off + i * 5 + 2, none⟩ = some (.int .i64 s) ∧ w.cell? ⟨b, off + i * 5 + 3, none⟩ = some (.int .i64 v) ∧ w.cell? ⟨b, off + i * 5 + 4, none⟩ = some (.int .i64 n)
/-- Ahead of the script. -/
structure L1 (w wr : World) (B7 B8 BC : Nat) (N0 K0 D0 N1 K1 D1 : Int) (x0 x1 : Option PX) : Prop where
  ls : LS w wr B7 B8 x0 x1
  cf : wr.heap[BC]? = some (.cells #[.int .i64 N0, .int .i64 K0, .int .i64 D0, .int .i64 N1, .int .i64 K1, .int .i64 D1] 23 (0, 0))
  ne : B7 ≠ B8 ∧ BC ≠ B7 ∧ BC ≠ B8 ∧ w.heap.size ≤ B7 ∧ w.heap.size ≤ B8
theorem L1.k0 {w wr w' : World} {B7 B8 BC : Nat} {N0 K0 D0 N1 K1 D1 : Int} {x0 x1 : Option PX} (h : L1 w wr B7 B8 BC N0 K0 D0 N1 K1 D1 x0 x1) (K : Kept (fun _ => False) wr w') : L1 w w' B7 B8 BC N0 K0 D0 N1 K1 D1 x0 x1 := ⟨h.ls.k0 K, K.get h.cf (fun z => z), h.ne⟩
/-- The first pair is laid. -/
theorem L1.put0 {w wr : World} {B7 B8 BC : Nat} {N0 K0 D0 N1 K1 D1 : Int} (h : L1 w wr B7 B8 BC N0 K0 D0 N1 K1 D1 none none) (x : Option PX) (hx : Holds wr x) (lo : ∀ j, Uses x j → w.heap.size ≤ j) (n7 : ∀ y, x = some y → y.pb ≠ B7 ∧ y.rb ≠ B7 ∧ y.pb ≠ B8 ∧ y.rb ≠ B8) : L1 w ((wr.setCell ⟨B7, 0, none⟩ (pv x)).setCell ⟨B8, 0, none⟩ (rv x)) B7 B8 BC N0 K0 D0 N1 K1 D1 x none := by
  obtain ⟨e1, e2, e3, e4, e5⟩ := h.ne
  have K : Kept (fun j => j = B7 ∨ j = B8) wr ((wr.setCell ⟨B7, 0, none⟩ (pv x)).setCell ⟨B8, 0, none⟩ (rv x)) := ((Kept.refl (fun j => j = B7 ∨ j = B8) wr).setCell (p := ⟨B7, 0, none⟩) (fun _ => .inl rfl) _).setCell (p := ⟨B8, 0, none⟩) (fun _ => .inr rfl) _
  have hx' : Holds ((wr.setCell ⟨B7, 0, none⟩ (pv x)).setCell ⟨B8, 0, none⟩ (rv x)) x := fun y e => by
    have b := hx y e
    obtain ⟨q1, q2, q3, q4⟩ := n7 y e
    have u7 : ¬ y.Uses B7 := b.off h.ls.ps (by decide) (by decide)
    have u8 : ¬ y.Uses B8 := b.off h.ls.rs (by decide) (by decide)
    refine ⟨b.p.kept K (fun z => by rcases z with z | z; exact q1 z; exact q3 z) (fun z => by rcases z with z | z; exact u7 (.inl z.symm); exact u8 (.inl z.symm)), b.r.kept K (fun z => by rcases z with z | z; exact q2 z; exact q4 z) (fun z => by rcases z with z | z; exact u7 (.inr (.inl z.symm)); exact u8 (.inr (.inl z.symm))) (fun z => by rcases z with z | z; exact u7 (.inr (.inr z.symm)); exact u8 (.inr (.inr z.symm)))⟩
  refine ⟨⟨?_, ?_, hx', fun _ q => (by cases q), fun _ _ _ q => (by cases q), fun j hj => ?_, h.ls.kept.trans K (fun j hj z => by rcases z with z | z <;> omega)⟩, K.get h.cf (fun z => by rcases z with z | z; exact e2 z; exact e3 z), h.ne⟩
  · rw [Below.heap_setCell _ _ _ _ (by exact e1), heap_set h.ls.ps]; rfl
  · rw [heap_set (cs := #[rv none, rv none]) (t := 28) (fr := (0, 0)) (by rw [Below.heap_setCell _ _ _ _ (by exact fun e => e1 e.symm)]; exact h.ls.rs)]; rfl
  · rcases hj with z | ⟨y, q, _⟩
    · exact lo j z
    · cases q
theorem L1.put1 {w wr : World} {B7 B8 BC : Nat} {N0 K0 D0 N1 K1 D1 : Int} {x0 : Option PX} (h : L1 w wr B7 B8 BC N0 K0 D0 N1 K1 D1 x0 none) (x : Option PX) (hx : Holds wr x) (lo : ∀ j, Uses x j → w.heap.size ≤ j) (n7 : ∀ y, x = some y → y.pb ≠ B7 ∧ y.rb ≠ B7 ∧ y.pb ≠ B8 ∧ y.rb ≠ B8) (ap : Apart x0 x) (n70 : ∀ y, x0 = some y → y.pb ≠ B7 ∧ y.rb ≠ B7 ∧ y.pb ≠ B8 ∧ y.rb ≠ B8) : L1 w ((wr.setCell ⟨B7, 1, none⟩ (pv x)).setCell ⟨B8, 1, none⟩ (rv x)) B7 B8 BC N0 K0 D0 N1 K1 D1 x0 x := by
  obtain ⟨e1, e2, e3, e4, e5⟩ := h.ne
  have K : Kept (fun j => j = B7 ∨ j = B8) wr ((wr.setCell ⟨B7, 1, none⟩ (pv x)).setCell ⟨B8, 1, none⟩ (rv x)) := ((Kept.refl (fun j => j = B7 ∨ j = B8) wr).setCell (p := ⟨B7, 1, none⟩) (fun _ => .inl rfl) _).setCell (p := ⟨B8, 1, none⟩) (fun _ => .inr rfl) _
  have go : ∀ x : Option PX, Holds wr x → (∀ y, x = some y → y.pb ≠ B7 ∧ y.rb ≠ B7 ∧ y.pb ≠ B8 ∧ y.rb ≠ B8) → ∀ W, Kept (fun j => j = B7 ∨ j = B8) wr W → Holds W x := fun x hx n7 W K y e => by
    have b := hx y e
    obtain ⟨q1, q2, q3, q4⟩ := n7 y e
    have u7 : ¬ y.Uses B7 := b.off h.ls.ps (by decide) (by decide)
    have u8 : ¬ y.Uses B8 := b.off h.ls.rs (by decide) (by decide)
    refine ⟨b.p.kept K (fun z => by rcases z with z | z; exact q1 z; exact q3 z) (fun z => by rcases z with z | z; exact u7 (.inl z.symm); exact u8 (.inl z.symm)), b.r.kept K (fun z => by rcases z with z | z; exact q2 z; exact q4 z) (fun z => by rcases z with z | z; exact u7 (.inr (.inl z.symm)); exact u8 (.inr (.inl z.symm))) (fun z => by rcases z with z | z; exact u7 (.inr (.inr z.symm)); exact u8 (.inr (.inr z.symm)))⟩
  refine ⟨⟨?_, ?_, go x0 h.ls.h0 n70 _ K, go x hx n7 _ K, ap, fun j hj => ?_, h.ls.kept.trans K (fun j hj z => by rcases z with z | z <;> omega)⟩, K.get h.cf (fun z => by rcases z with z | z; exact e2 z; exact e3 z), h.ne⟩
  · rw [Below.heap_setCell _ _ _ _ (by exact e1), heap_set h.ls.ps]; rfl
  · rw [heap_set (cs := #[rv x0, rv none]) (t := 28) (fr := (0, 0)) (by rw [Below.heap_setCell _ _ _ _ (by exact fun e => e1 e.symm)]; exact h.ls.rs)]; rfl
  · rcases hj with z | z
    · exact h.ls.low j (.inl z)
    · exact lo j z
/-- A pair does not lie in the two arrays. -/
theorem LS.not {w wr : World} {B7 B8 : Nat} {x0 x1 : Option PX} (h : LS w wr B7 B8 x0 x1) {y : PX} (b : Both wr y) : y.pb ≠ B7 ∧ y.rb ≠ B7 ∧ y.pb ≠ B8 ∧ y.rb ≠ B8 := by
  refine ⟨fun e => ?_, fun e => ?_, fun e => ?_, fun e => ?_⟩
  · have := b.p.blk; rw [e, h.ps] at this; simp at this
  · have := b.r.blk; rw [e, h.ps] at this; simp at this
  · have := b.p.blk; rw [e, h.rs] at this; simp at this
  · have := b.r.blk; rw [e, h.rs] at this; simp at this
end Go.Proofs.Yteokeifkkhchmaa
