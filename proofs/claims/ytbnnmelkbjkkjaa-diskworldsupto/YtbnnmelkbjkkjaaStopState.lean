import Derived.Test.YtbnnmelkbjkkjaaTwin
namespace Go.Proofs.Ytbnnmelkbjkkjaa
open Go.RowKit

/-- Two disks, and a step of the script that was copied into block V. -/
structure RS (w wr : World) (B1 B2 V : Nat) (da db : DK) (o : Opv) : Prop where
  md : MD w wr [(B1, da), (B2, db)]
  blk : wr.heap[V]? = some (.cells o.cs 46 (0, 0))
  fa : ∀ k, da.Uses B1 k → k ≠ V
  fb : ∀ k, db.Uses B2 k → k ≠ V
  low : w.heap.size ≤ V
  rd : Reads w o.a o.n o.c o.l
theorem RS.swap {w wr : World} {B1 B2 V : Nat} {da db : DK} {o : Opv} (h : RS w wr B1 B2 V da db o) : RS w wr B2 B1 V db da o := ⟨h.md.swap, h.blk, h.fb, h.fa, h.low, h.rd⟩
theorem RS.quiet {w wr w' : World} {B1 B2 V : Nat} {da db : DK} {o : Opv} (h : RS w wr B1 B2 V da db o) (K : Kept (fun _ => False) wr w') : RS w w' B1 B2 V da db o := ⟨h.md.quiet K, K.get h.blk (fun z => z), h.fa, h.fb, h.low, h.rd⟩
theorem RS.reads {w wr : World} {B1 B2 V : Nat} {da db : DK} {o : Opv} (h : RS w wr B1 B2 V da db o) : Reads wr o.a o.n o.c o.l := h.rd.kept' h.md.kept (fun _ _ z => z)
theorem RS.cells {w wr : World} {B1 B2 V : Nat} {da db : DK} {o : Opv} (h : RS w wr B1 B2 V da db o) : wr.cell? ⟨V, 0, none⟩ = some (.int .i64 o.kind) ∧ wr.cell? ⟨V, 1, none⟩ = some (.int .i64 o.D) ∧ wr.cell? ⟨V, 2, none⟩ = some (.int .i64 o.slot) ∧ wr.cell? ⟨V, 3, none⟩ = some (.slice o.a o.n o.c) ∧ wr.cell? ⟨V, 4, none⟩ = some (.int .i64 o.N) ∧ wr.cell? ⟨V, 5, none⟩ = some (.bool o.done) ∧ wr.cell? ⟨V, 6, none⟩ = some o.v0 ∧ wr.cell? ⟨V, 7, none⟩ = some o.v1 ∧ wr.cell? ⟨V, 8, none⟩ = some o.v2 :=
  ⟨cell_blk h.blk 0 rfl, cell_blk h.blk 1 rfl, cell_blk h.blk 2 rfl, cell_blk h.blk 3 rfl, cell_blk h.blk 4 rfl, cell_blk h.blk 5 rfl, cell_blk h.blk 6 rfl, cell_blk h.blk 7 rfl, cell_blk h.blk 8 rfl⟩
theorem rAct (w wr : World) (B1 B2 V : Nat) (da db : DK) (o : Opv) (hk : 1 ≤ o.kind ∧ o.kind ≤ 4) (a : Option Addr) (c : Nat) (h : RS w wr B1 B2 V da db o) (ok : da.ab.Ok) (r : Reads wr a o.n c o.l) (hn : o.n ≤ Lim) (hr : ∀ k, blockOf a = some k → k ≠ B1) :
    Calls Try.prog 23 #[.pointer (some ⟨B1, 0, none⟩), .agg o.cs, .slice a o.n c] wr fun x w' => x = .returned (.int .i64 (da.ab.act o.kind o.slot o.l).2) ∧ ∃ da', da'.ab = (da.ab.act o.kind o.slot o.l).1 ∧ RS w w' B1 B2 V da' db o := by
  refine (gAct w.heap.size B1 da o hk a o.n c o.l wr h.md.head ok r hn hr).mono ?_
  rintro x w' ⟨rfl, d', i, m, e⟩
  refine ⟨rfl, d', e, h.md.step i m, m.kept.get h.blk (fun z => h.fa V z.uses rfl), fun k hk => ?_, h.fb, h.low, h.rd⟩
  rcases m.near k hk with z | z
  · exact h.fa k z
  · have := block_lt h.blk
    omega
/-- The last three fields are slices. -/
def Opv.Sl (o : Opv) : Prop := ∃ a0 n0 c0 a1 n1 c1 a2 n2 c2, o.v0 = .slice a0 n0 c0 ∧ o.v1 = .slice a1 n1 c1 ∧ o.v2 = .slice a2 n2 c2
theorem rActE (w wr : World) (B1 B2 V : Nat) (da db : DK) (o : Opv) (cs : Array Value) (hcs : cs = o.cs) (hk : 1 ≤ o.kind ∧ o.kind ≤ 4) (a : Option Addr) (c : Nat) (h : RS w wr B1 B2 V da db o) (ok : da.ab.Ok) (r : Reads wr a o.n c o.l) (hn : o.n ≤ Lim) (hr : ∀ k, blockOf a = some k → k ≠ B1) :
    Calls Try.prog 23 #[.pointer (some ⟨B1, 0, none⟩), .agg cs, .slice a o.n c] wr fun x w' => x = .returned (.int .i64 (da.ab.act o.kind o.slot o.l).2) ∧ ∃ da', da'.ab = (da.ab.act o.kind o.slot o.l).1 ∧ RS w w' B1 B2 V da' db o := by
  subst hcs
  exact rAct w wr B1 B2 V da db o hk a c h ok r hn hr
/-- A wide copy of the step's bytes. -/
theorem rWide (w wr : World) (B1 B2 V : Nat) (da db : DK) (o : Opv) (h : RS w wr B1 B2 V da db o) (hn : o.n ≤ Lim) :
    Calls Try.prog 10 #[.slice o.a o.n o.c] wr fun x w' => ∃ p k, x = .returned (.slice p o.n k) ∧ RS w w' B1 B2 V da db o ∧ Reads w' p o.n k o.l ∧ (∀ j, blockOf p = some j → j ≠ B1) ∧ (∀ j, blockOf p = some j → j ≠ B2) := by
  refine (wide o.a o.n o.c o.l wr h.reads hn).mono ?_
  rintro x w' ⟨p, k, rfl, ow, K⟩
  have l1 := block_lt h.md.head.blk
  have l2 := block_lt h.md.swap.head.blk
  exact ⟨p, k, rfl, h.quiet K, wide_reads h.rd.length h.rd.bytes ow, fun j hj z => by have := (own_lt ow j hj).1; omega, fun j hj z => by have := (own_lt ow j hj).1; omega⟩
/-- Where DiskStops' loop stands. -/
structure ST (w wr : World) (B1 B2 : Nat) (O : List Opv) (many : Nat) (dn : Bool) (i acts : Nat) (dd : Bool) : Prop where
  ex : ∃ da db, MD w wr [(B1, da), (B2, db)] ∧ Small db.ab (sumN (O.take i)) i ∧ db.ab.acts = acts ∧ da.ab = db.ab.twin (if dd = true then 0 else ((many - acts : Nat) : Int)) dn dd
theorem RS.make {w wr W : World} {B1 B2 : Nat} {da db : DK} {o : Opv} (h : MD w wr [(B1, da), (B2, db)]) (r : Reads w o.a o.n o.c o.l) (e : W = wr.alloc (.cells o.cs 46)) : RS w W B1 B2 wr.heap.size da db o := by
  subst e
  refine ⟨h.quiet (alloc_kept0 _ _), alloc_new _ _, fun k hk z => ?_, fun k hk z => ?_, h.kept.size, r⟩
  · have := h.head.lt hk; omega
  · have := h.swap.head.lt hk; omega
end Go.Proofs.Ytbnnmelkbjkkjaa
