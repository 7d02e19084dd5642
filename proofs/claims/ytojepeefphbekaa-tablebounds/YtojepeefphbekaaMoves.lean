import Derived.Test.YtojepeefphbekaaBase
namespace Go.Proofs.Ytojepeefphbekaa

/-- A move. -/
structure Mv where
  key : Int
  fin : Bool
  both : Bool
  c : Int
  k : Int
def Mv.zero : Mv := ⟨0, false, false, 0, 0⟩
/-- A slice of moves reads as this list. -/
structure MReads (w : World) (a : Option Addr) (len cap : Nat) (l : List Mv) : Prop where
  length : l.length = len
  room : len ≤ cap
  small : cap ≤ maxLen
  cells : 0 < len → ∃ b off, a = some ⟨b, off, none⟩ ∧ ∀ i, i < len → w.cell? ⟨b, off + i * 5 + 0, none⟩ = some (.int .i64 (l.getD i Mv.zero).key) ∧ w.cell? ⟨b, off + i * 5 + 1, none⟩ = some (.bool (l.getD i Mv.zero).fin) ∧ w.cell? ⟨b, off + i * 5 + 2, none⟩ = some (.bool (l.getD i Mv.zero).both) ∧ w.cell? ⟨b, off + i * 5 + 3, none⟩ = some (.int .i64 (l.getD i Mv.zero).c) ∧ w.cell? ⟨b, off + i * 5 + 4, none⟩ = some (.int .i64 (l.getD i Mv.zero).k)
theorem MReads.by {S : Nat → Prop} {w w' : World} {a : Option Addr} {len cap : Nat} {l : List Mv} (r : MReads w a len cap l) (K : Kept S w w') (hn : ∀ k, k < w.heap.size → ¬ S k) : MReads w' a len cap l := by
  refine ⟨r.length, r.room, r.small, fun h0 => ?_⟩
  obtain ⟨b, off, e, hc⟩ := r.cells h0
  refine ⟨b, off, e, fun i hi => ?_⟩
  obtain ⟨h0, h1, h2, h3, h4⟩ := hc i hi
  have hb : ¬ S b := hn b (World.block_lt_of_cell? w _ h0)
  exact ⟨K.cell h0 hb, K.cell h1 hb, K.cell h2 hb, K.cell h3 hb, K.cell h4 hb⟩
end Go.Proofs.Ytojepeefphbekaa
