import Derived.Test.YtbnnmelkbjkkjaaTwinJ
namespace Go.Proofs.Ytbnnmelkbjkkjaa
open Go.RowKit

/-- Two disks, and a step of the script that was copied into block V. -/
structure RS (w wr : World) (B1 B2 V : Nat) (da db : DK) (o : Opv) : Prop where
  md : MD w wr [(B1, da), (B2, db)]
  blk : wr.heap[V]? = some (.cells o.cs 46 (0, 0))
  fa : ∀ k, da.Uses B1 k → k ≠ V
  fb : ∀ k, db.Uses B2 k → k ≠ V
  low : w.heap.size ≤ V
  rd : Reads w o.a o.n o.c o.l
theorem RS.swap {w wr : World} {B1 B2 V : Nat} {da db : DK} {o : Opv} (h : RS w wr B1 B2 V da db o) : RS w wr B2 B1 V db da o := ⟨h.md.swap, h.blk, h.fb, h.fa, h.low, h.rd⟩
theorem RS.quiet {w wr w' : World} {B1 B2 V : Nat} {da db : DK} {o : Opv} (h : RS w wr B1 B2 V da db o) (K : Kept (fun _ => False) wr w') : RS w w' B1 B2 V da db o := ⟨h.md.quiet K, K.get h.blk (fun z => z), h.fa, h.fb, h.low, h.rd⟩
theorem RS.reads {w wr : World} {B1 B2 V : Nat} {da db : DK} {o : Opv} (h : RS w wr B1 B2 V da db o) : Reads wr o.a o.n o.c o.l := h.rd.kept' h.md.kept (fun _ _ z => z)
theorem RS.cells {w wr : World} {B1 B2 V : Nat} {da db : DK} {o : Opv} (h : RS w wr B1 B2 V da db o) : wr.cell? ⟨V, 0, none⟩ = some (.int .i64 o.kind) ∧ wr.cell? ⟨V, 1, none⟩ = some (.int .i64 o.D) ∧ wr.cell? ⟨V, 2, none⟩ = some (.int .i64 o.slot) ∧ wr.cell? ⟨V, 3, none⟩ = some (.slice o.a o.n o.c) ∧ wr.cell? ⟨V, 4, none⟩ = some (.int .i64 o.N) ∧ wr.cell? ⟨V, 5, none⟩ = some (.bool o.done) ∧ wr.cell? ⟨V, 6, none⟩ = some o.v0 ∧ wr.cell? ⟨V, 7, none⟩ = some o.v1 ∧ wr.cell? ⟨V, 8, none⟩ = some o.v2 :=
  ⟨cell_blk h.blk 0 rfl, cell_blk h.blk 1 rfl, cell_blk h.blk 2 rfl, cell_blk h.blk 3 rfl, cell_blk h.blk 4 rfl, cell_blk h.blk 5 rfl, cell_blk h.blk 6 rfl, cell_blk h.blk 7 rfl, cell_blk h.blk 8 rfl⟩
theorem rAct (w wr : World) (B1 B2 V : Nat) (da db : DK) (o : Opv) (hk : 1 ≤ o.kind ∧ o.kind ≤ 4) (a : Option Addr) (c : Nat) (h : RS w wr B1 B2 V da db o) (ok : da.ab.Ok) (r : Reads wr a o.n c o.l) (hn : o.n ≤ Lim) (hr : ∀ k, blockOf a = some k → k ≠ B1) :
    Calls Try.prog 23 #[.pointer (some ⟨B1, 0, none⟩), .agg o.cs, .slice a o.n c] wr fun x w' => x = .returned (.int .i64 (da.ab.act o.kind o.slot o.l).2) ∧ ∃ da', da'.ab = (da.ab.act o.kind o.slot o.l).1 ∧ RS w w' B1 B2 V da' db o := by
  refine (gAct w.heap.size B1 da o hk a o.n c o.l wr h.md.head ok r hn hr).mono ?_
  rintro x w' ⟨rfl, d', i, m, e⟩
  refine ⟨rfl, d', e, h.md.step i m, m.kept.get h.blk (fun z => h.fa V z.uses rfl), fun k hk => ?_, h.fb, h.low, h.rd⟩
  rcases m.near k hk with z | z
  · exact h.fa k z
  · have := block_lt h.blk
    omega
/-- The last three fields are slices. -/
def Opv.Sl (o : Opv) : Prop := ∃ a0 n0 c0 a1 n1 c1 a2 n2 c2, o.v0 = .slice a0 n0 c0 ∧ o.v1 = .slice a1 n1 c1 ∧ o.v2 = .slice a2 n2 c2
theorem rActE (w wr : World) (B1 B2 V : Nat) (da db : DK) (o : Opv) (cs : Array Value) (hcs : cs = o.cs) (hk : 1 ≤ o.kind ∧ o.kind ≤ 4) (a : Option Addr) (c : Nat) (h : RS w wr B1 B2 V da db o) (ok : da.ab.Ok) (r : Reads wr a o.n c o.l) (hn : o.n ≤ Lim) (hr : ∀ k, blockOf a = some k → k ≠ B1) :
    Calls Try.prog 23 #[.pointer (some ⟨B1, 0, none⟩), .agg cs, .slice a o.n c] wr fun x w' => x = .returned (.int .i64 (da.ab.act o.kind o.slot o.l).2) ∧ ∃ da', da'.ab = (da.ab.act o.kind o.slot o.l).1 ∧ RS w w' B1 B2 V da' db o := by
  subst hcs
  exact rAct w wr B1 B2 V da db o hk a c h ok r hn hr
/-- A wide copy of the step's bytes. -/
theorem rWide (w wr : World) (B1 B2 V : Nat) (da db : DK) (o : Opv) (h : RS w wr B1 B2 V da db o) (hn : o.n ≤ Lim) :
    Calls Try.prog 10 #[.slice o.a o.n o.c] wr fun x w' => ∃ p k, x = .returned (.slice p o.n k) ∧ RS w w' B1 B2 V da db o ∧ Reads w' p o.n k o.l ∧ (∀ j, blockOf p = some j → j ≠ B1) ∧ (∀ j, blockOf p = some j → j ≠ B2) := by
  refine (wide o.a o.n o.c o.l wr h.reads hn).mono ?_
  rintro x w' ⟨p, k, rfl, ow, K⟩
  have l1 := block_lt h.md.head.blk
  have l2 := block_lt h.md.swap.head.blk
  exact ⟨p, k, rfl, h.quiet K, wide_reads h.rd.length h.rd.bytes ow, fun j hj z => by have := (own_lt ow j hj).1; omega, fun j hj z => by have := (own_lt ow j hj).1; omega⟩
/-- Where DiskStops' loop stands. -/
structure ST (w wr : World) (B1 B2 : Nat) (O : List Opv) (many : Nat) (dn : Bool) (i acts : Nat) (dd : Bool) : Prop where
  ex : ∃ da db, MD w wr [(B1, da), (B2, db)] ∧ Small db.ab (sumN (O.take i)) i ∧ db.ab.acts = acts ∧ da.ab = db.ab.twin (if dd = true then 0 else ((many - acts : Nat) : Int)) dn dd
theorem RS.make {w wr W : World} {B1 B2 : Nat} {da db : DK} {o : Opv} (h : MD w wr [(B1, da), (B2, db)]) (r : Reads w o.a o.n o.c o.l) (e : W = wr.alloc (.cells o.cs 46)) : RS w W B1 B2 wr.heap.size da db o := by
  subst e
  refine ⟨h.quiet (alloc_kept0 _ _), alloc_new _ _, fun k hk z => ?_, fun k hk z => ?_, h.kept.size, r⟩
  · have := h.head.lt hk; omega
  · have := h.swap.head.lt hk; omega
end Go.Proofs.Ytbnnmelkbjkkjaa

namespace Go.Proofs.Ytbnnmelkbjkkjaa
open Go.RowKit

theorem MD.off {w wr w' : World} {S : Nat → Prop} {L : List (Nat × DK)} (h : MD w wr L) (K : Kept S wr w') (hn : ∀ x ∈ L, ∀ k, x.2.Uses x.1 k → ¬ S k) (hs : ∀ k, S k → w.heap.size ≤ k) : MD w w' L :=
  ⟨fun x hx => (h.is x hx).off K (hn x hx), h.apart, h.kept.trans K (fun k hk z => by have := hs k z; omega)⟩
theorem MD.of_hd {w wr : World} {B : Nat} {A : AB} (h : HD w wr B A) : ∃ d, d.ab = A ∧ MD w wr [(B, d)] := by
  obtain ⟨d, i, e⟩ := h.ex
  refine ⟨d, e, ⟨fun x hx => ?_, List.pairwise_singleton _ _, h.kept⟩⟩
  rw [List.mem_singleton.1 hx]
  exact i
/-- The same disk with more acts behind it. -/
def AB.late (A : AB) (k : Nat) (dn : Bool) : AB := { A with acts := A.acts + k, done := dn }
theorem put_late (A : AB) (k : Nat) (dn : Bool) (kd : Int) (i : Nat) (l : List Nat) : ((A.late k dn).put kd i l).counted = ((A.put kd i l).counted).late k dn := by
  have e : A.acts + k + 1 = A.acts + 1 + k := by omega
  unfold AB.put AB.add AB.more AB.sync AB.switch AB.late AB.counted
  (repeat' split) <;> simp only [e]
theorem late_act (A : AB) (hl : A.dead = false) (hf : A.named = 0) (k : Nat) (dn : Bool) (kd s : Int) (l : List Nat) : (A.late k dn).act kd s l = ((A.act kd s l).1.late k dn, (A.act kd s l).2) := by
  by_cases hs : ¬ (s = 0 ∨ s = 1) ∨ (kd = 2 ∧ s = (A.cur : Int))
  · rw [act_bad hl hs, act_bad (A := A.late k dn) hl hs]
  · rw [act_free hl hf hs, act_free (A := A.late k dn) hl hf hs, put_late]
theorem late_ok {A : AB} {s t k : Nat} (h : Small A s t) (hs : s ≤ Few) (ht : t + k ≤ Few) (dn : Bool) : (A.late k dn).Ok := by
  have := h.ok hs (by omega)
  refine ⟨this.w0, this.w1, this.n0, this.n1, ?_, this.named⟩
  show A.acts + k + 1 ≤ Lim
  have := h.acts
  unfold Few at ht
  unfold Lim
  omega
/-- Where DiskLoads' loop stands. -/
structure LS (w wr : World) (B1 B2 : Nat) (s0 : Nat) (T : List Opv) (k : Nat) (dn : Bool) (i : Nat) : Prop where
  ex : ∃ da db, MD w wr [(B1, da), (B2, db)] ∧ Small db.ab (s0 + sumN (T.take i)) i ∧ da.ab = db.ab.late k dn
end Go.Proofs.Ytbnnmelkbjkkjaa

namespace Go.Proofs.Ytbnnmelkbjkkjaa
open Go.RowKit

/-- Disks, and blocks that are none of theirs. -/
structure MX (w wr : World) (L : List (Nat × DK)) (S : Nat → Prop) : Prop where
  md : MD w wr L
  far : ∀ k, S k → k < wr.heap.size ∧ ∀ x ∈ L, ¬ x.2.Uses x.1 k
theorem MX.of {w wr : World} {L : List (Nat × DK)} (h : MD w wr L) : MX w wr L (fun _ => False) := ⟨h, fun _ z => z.elim⟩
theorem MX.perm {w wr : World} {L L' : List (Nat × DK)} {S : Nat → Prop} (h : MX w wr L S) (p : L.Perm L') : MX w wr L' S := ⟨h.md.perm p, fun k hk => ⟨(h.far k hk).1, fun x hx => (h.far k hk).2 x (p.mem_iff.2 hx)⟩⟩
theorem MX.swap {w wr : World} {x y : Nat × DK} {L : List (Nat × DK)} {S : Nat → Prop} (h : MX w wr (x :: y :: L) S) : MX w wr (y :: x :: L) S := h.perm (List.Perm.swap ..)
theorem MX.rot {w wr : World} {x y z : Nat × DK} {S : Nat → Prop} (h : MX w wr [x, y, z] S) : MX w wr [y, z, x] S := h.perm ((List.Perm.swap y x [z]).trans (List.Perm.cons y (List.Perm.swap z x [])))
theorem MX.quiet {w wr w' : World} {L : List (Nat × DK)} {S : Nat → Prop} (h : MX w wr L S) (K : Kept (fun _ => False) wr w') : MX w w' L S := ⟨h.md.quiet K, fun k hk => ⟨by have := (h.far k hk).1; have := K.size; omega, (h.far k hk).2⟩⟩
theorem MX.less {w wr : World} {L : List (Nat × DK)} {S S' : Nat → Prop} (h : MX w wr L S) (hs : ∀ k, S' k → S k) : MX w wr L S' := ⟨h.md, fun k hk => h.far k (hs k hk)⟩
/-- Blocks that are new at w'. -/
theorem MX.more {w wr w' : World} {L : List (Nat × DK)} {S S' : Nat → Prop} (h : MX w wr L S) (K : Kept (fun _ => False) wr w') (hs : ∀ k, S' k → S k ∨ (wr.heap.size ≤ k ∧ k < w'.heap.size)) : MX w w' L S' := by
  refine ⟨h.md.quiet K, fun k hk => ?_⟩
  rcases hs k hk with z | ⟨z, z2⟩
  · exact (h.quiet K).far k z
  · exact ⟨z2, fun x hx q => by have := (h.md.is x hx).lt q; omega⟩
theorem MX.after {w wr w' : World} {B : Nat} {d d' : DK} {L : List (Nat × DK)} {S : Nat → Prop} (h : MX w wr ((B, d) :: L) S) (i : IsD w.heap.size w' B d') (m : DM wr w' B d d') : MX w w' ((B, d') :: L) S ∧ Kept (fun k => ¬ S k) wr w' := by
  refine ⟨⟨h.md.step i m, fun k hk => ⟨by have := (h.far k hk).1; have := m.kept.size; omega, fun x hx q => ?_⟩⟩, m.kept.mono (fun k _ z hS => (h.far k hS).2 (B, d) (by simp) z.uses)⟩
  rcases List.mem_cons.1 hx with e | e
  · rw [e] at q
    rcases m.near k q with z | z
    · exact (h.far k hk).2 (B, d) (by simp) z
    · have := (h.far k hk).1; omega
  · exact (h.far k hk).2 x (List.mem_cons_of_mem _ e) q
/-- Blocks of no disk are written over. -/
theorem MX.wrote {w wr w' : World} {L : List (Nat × DK)} {S T : Nat → Prop} (h : MX w wr L S) (K : Kept T wr w') (hT : ∀ k, T k → w.heap.size ≤ k ∧ ∀ x ∈ L, ¬ x.2.Uses x.1 k) : MX w w' L S :=
  ⟨h.md.off K (fun x hx k hk z => (hT k z).2 x hx hk) (fun k z => (hT k z).1), fun k hk => ⟨by have := (h.far k hk).1; have := K.size; omega, (h.far k hk).2⟩⟩
theorem mxCrash (w wr : World) (B : Nat) (d : DK) (L : List (Nat × DK)) (S : Nat → Prop) (q : Option Addr) (n c : Nat) (cs : List Int) (h : MX w wr ((B, d) :: L) S) (ok : d.ab.Ok) (r : IRd wr q n c cs) (hq : 0 < n → ∀ k, blockOf q = some k → k ≠ B) :
    Calls Try.prog 14 #[.pointer (some ⟨B, 0, none⟩), .slice q n c] wr fun x w' => ∃ F df, x = .returned (.pointer (some ⟨F, 0, none⟩)) ∧ df.ab = d.ab.crash cs ∧ MX w w' ((F, df) :: (B, { d with dead := true }) :: L) S ∧ Kept (fun k => ¬ S k) wr w' := by
  refine (dCrash w.heap.size B d q n c cs wr h.md.head ok r hq).mono ?_
  rintro x w' ⟨df, rfl, i1, i2, i3, K, hu⟩
  obtain ⟨q1, q2⟩ := List.pairwise_cons.1 h.md.apart
  have hB := block_lt h.md.head.blk
  refine ⟨_, df, rfl, i3, ⟨⟨fun x hx => ?_, ?_, h.md.kept.trans K (fun k hk z => by have z : k = B := z; have := h.md.head.low; omega)⟩, fun k hk => ⟨by have := (h.far k hk).1; have := K.size; omega, fun x hx q => ?_⟩⟩, K.mono (fun k _ z hS => (h.far k hS).2 (B, d) (by simp) (.inl z))⟩
  · rcases List.mem_cons.1 hx with z | z
    · rw [z]; exact i2.mono h.md.kept.size
    · rcases List.mem_cons.1 z with z | z
      · rw [z]; exact i1
      · exact (h.md.tail.is x z).off K (fun k hk z2 => q1 x z k (.inl z2) hk)
  · refine List.pairwise_cons.2 ⟨fun y hy k h1 h2 => ?_, List.pairwise_cons.2 ⟨fun y hy k h1 h2 => q1 y hy k h1 h2, q2⟩⟩
    have a1 := hu k h1
    rcases List.mem_cons.1 hy with z | z
    · rw [z] at h2
      have : d.Uses B k := h2
      have := h.md.head.lt this
      omega
    · have := (h.md.tail.is y z).lt h2
      omega
  · have hk2 := (h.far k hk).1
    rcases List.mem_cons.1 hx with z | z
    · rw [z] at q
      have := hu k q
      omega
    · rcases List.mem_cons.1 z with z | z
      · rw [z] at q
        exact (h.far k hk).2 (B, d) (by simp) q
      · exact (h.far k hk).2 x (List.mem_cons_of_mem _ z) q
theorem crash_small {A : AB} {s t : Nat} (h : Small A s t) (cs : List Int) : Small (A.crash cs) (s + s) 0 := by
  have h1 := h.wt
  have h2 := leftL_length A.l0 A.X0 cs
  have h3 := leftL_length A.l1 A.X1 (leftL A.l0 A.X0 cs).2
  have wn : weigh [] = 0 := rfl
  refine ⟨?_, Nat.le_refl _, Nat.le_refl _, Nat.le_refl _, rfl, rfl⟩
  show (leftL A.l0 A.X0 cs).1.length + weigh [] + (leftL A.l1 A.X1 (leftL A.l0 A.X0 cs).2).1.length + weigh [] ≤ s + s
  omega
end Go.Proofs.Ytbnnmelkbjkkjaa

namespace Go.Proofs.Ytbnnmelkbjkkjaa
open Go.RowKit

theorem small_ok {A : AB} {s t : Nat} (h : Small A s t) (hs : s ≤ 1000000000) (ht : t ≤ 1000000000) : A.Ok := h.ok hs ht
theorem now_more (A : AB) (i k : Nat) (x : Option (List Nat)) (hi : i < 2) (hk : k < 2) : (A.more i x).now k = if k = i then stepA (A.now k) x else A.now k := by
  unfold AB.more AB.now
  match i, hi, k, hk with
  | 0, _, 0, _ => simp [redoL_snoc]
  | 0, _, 1, _ => simp
  | 1, _, 0, _ => simp
  | 1, _, 1, _ => simp [redoL_snoc]
theorem now_add (A : AB) (i k : Nat) (l : List Nat) (hi : i < 2) (hk : k < 2) : (A.add i l).now k = if k = i then A.now k ++ l else A.now k := by
  unfold AB.add
  split
  · rename_i h
    have : l = [] := List.eq_nil_of_length_eq_zero h
    rw [this, List.append_nil]
    split <;> rfl
  · rw [now_more A i k (some l) hi hk]
    rfl
theorem now_sync (A : AB) (i k : Nat) (hi : i < 2) (hk : k < 2) : (A.sync i).now k = A.now k := by
  unfold AB.sync AB.now
  match i, hi, k, hk with
  | 0, _, 0, _ => rfl
  | 0, _, 1, _ => rfl
  | 1, _, 0, _ => rfl
  | 1, _, 1, _ => rfl
theorem now_put1 (A : AB) (i k : Nat) (l : List Nat) (hi : i < 2) (hk : k < 2) : ((A.put 1 i l).counted).now k = if k = i then A.now k ++ l else A.now k := now_add A i k l hi hk
theorem now_put2 (A : AB) (i k : Nat) (l : List Nat) (hi : i < 2) (hk : k < 2) : ((A.put 2 i l).counted).now k = if k = i then [] else A.now k := now_more A i k none hi hk
theorem now_put3 (A : AB) (i k : Nat) (l : List Nat) (hi : i < 2) (hk : k < 2) : ((A.put 3 i l).counted).now k = A.now k := now_sync A i k hi hk
theorem now_put4 (A : AB) (i k : Nat) (l : List Nat) : ((A.put 4 i l).counted).now k = A.now k := rfl
/-- What becomes of a disk that a crash has left: two appends, a switch, a wipe, a sync. -/
theorem worlds_steps (C : AB) (l : List Nat) (s : Nat) (sm : Small C s 0) (hs : s + l.length + l.length ≤ Few) (j : Nat) (hj : j = 0 ∨ j = 1) :
    ∃ b1 b2 b3 b4 b5 : AB, C.act 1 0 l = (b1, 0) ∧ b1.act 1 1 l = (b2, 0) ∧ b2.act 4 ((1 : Int) - (j : Int)) [] = (b3, 0) ∧ b3.act 2 (j : Int) [] = (b4, 0) ∧ b4.act 3 (j : Int) [] = (b5, 0) ∧ C.Ok ∧ b1.Ok ∧ b2.Ok ∧ b3.Ok ∧ b4.Ok ∧ b5.Ok ∧ b5.dead = false ∧ b5.now j = [] ∧ b5.now (1 - j) = C.now (1 - j) ++ l := by
  unfold Few at hs
  have s1 := sm.act 1 0 l
  have a1 := act_free sm.live sm.free (k := 1) (s := 0) (by rintro (z | ⟨z, _⟩) <;> omega) l
  have s2 := s1.act 1 1 l
  have a2 := act_free s1.live s1.free (k := 1) (s := 1) (by rintro (z | ⟨z, _⟩) <;> omega) l
  have s3 := s2.act 4 ((1 : Int) - (j : Int)) []
  have a3 := act_free s2.live s2.free (k := 4) (s := (1 : Int) - (j : Int)) (by rintro (z | ⟨z, _⟩) <;> omega) []
  have c3 : ((C.act 1 0 l).1.act 1 1 l).1.act 4 ((1 : Int) - (j : Int)) [] = (((((C.act 1 0 l).1.act 1 1 l).1.switch ((1 : Int) - (j : Int)).toNat)).counted, 0) := by rw [a3]; rfl
  have k3 : (((C.act 1 0 l).1.act 1 1 l).1.act 4 ((1 : Int) - (j : Int)) []).1.cur = 1 - j := by
    rw [c3]
    show ((1 : Int) - (j : Int)).toNat = 1 - j
    omega
  have s4 := s3.act 2 (j : Int) []
  have a4 := act_free s3.live s3.free (k := 2) (s := (j : Int)) (by
    rintro (z | ⟨_, z⟩)
    · omega
    · rw [k3] at z; omega) []
  have s5 := s4.act 3 (j : Int) []
  have a5 := act_free s4.live s4.free (k := 3) (s := (j : Int)) (by rintro (z | ⟨z, _⟩) <;> omega) []
  simp only [List.length_nil, Nat.add_zero] at s3 s4 s5
  refine ⟨_, _, _, _, _, ?_, ?_, ?_, ?_, ?_, small_ok sm (by omega) (by omega), small_ok s1 (by omega) (by omega), small_ok s2 (by omega) (by omega), small_ok s3 (by omega) (by omega), small_ok s4 (by omega) (by omega), small_ok s5 (by omega) (by omega), s5.live, ?_, ?_⟩
  · rw [a1]
  · rw [a2]
  · rw [a3]
  · rw [a4]
  · rw [a5]
  · rw [a5, Int.toNat_natCast, now_put3 _ j j [] (by omega) (by omega), a4, Int.toNat_natCast, now_put2 _ j j [] (by omega) (by omega), if_pos rfl]
  · have t : ((1 : Int) - (j : Int)).toNat = 1 - j := by omega
    rw [a5, Int.toNat_natCast, now_put3 _ j (1 - j) [] (by omega) (by omega), a4, Int.toNat_natCast, now_put2 _ j (1 - j) [] (by omega) (by omega), if_neg (by omega), a3, t, now_put4, a2]
    rw [show ((1 : Int)).toNat = 1 from rfl, now_put1 _ 1 (1 - j) l (by omega) (by omega), a1, show ((0 : Int)).toNat = 0 from rfl, now_put1 _ 0 (1 - j) l (by omega) (by omega)]
    rcases hj with rfl | rfl
    · simp
    · simp
end Go.Proofs.Ytbnnmelkbjkkjaa
