import Derived.Test.YtbnnmelkbjkkjaaRefN
namespace Go.Proofs.Ytbnnmelkbjkkjaa
open Go.RowKit

theorem slice_up (g n m k : Nat) (hm : m ≤ k) (V : World) : (Instr.slice 22 (.slice (some ⟨g, 0, none⟩) n k) none (some (.int .i64 (m : Int))) none).run Try.prog V = .ok (.slice (some ⟨g, 0, none⟩) m k) V := by
  simp [Instr.slice, Instr.sliceBounds, Instr.sliceBound, asIntOf, run_underlying Try.underlying22, hm]
  intro _
  rw [Addr.add_none]
set_option maxRecDepth 100000 in
set_option maxHeartbeats 1000000 in
/-- kept (48): the wide copy is as it was made. -/
theorem keptOK (base : Nat) (p : Option Addr) (k : Nat) (a : Option Addr) (n c : Nat) (l : List Nat) (w : World) (o : w.ownsRow base 5 1 (.slice p (n + 2) k) (n + 2) (cellsOf (l ++ [193, 194]))) (r : Reads w a n c l) (hn : n ≤ Lim) :
    Calls Try.prog 48 #[.slice p n k, .slice a n c] w fun x w' => x = .returned (.bool true) ∧ w' = w := by
  have hl := r.length
  have hb : ∀ c ∈ l ++ [193, 194], c < 256 := fun c hc => by
    rcases List.mem_append.1 hc with z | z
    · exact r.bytes c z
    · simp at z; omega
  have rd := wide_reads hl r.bytes o
  obtain ⟨ts, hts⟩ : ∃ ts, ts = str l := ⟨_, rfl⟩
  have s1 : (convert 22 9 (.slice p n k)).run Try.prog w = .ok (.string ts) w := by rw [hts]; exact rd.string
  have s2 : (convert 22 9 (.slice a n c)).run Try.prog w = .ok (.string ts) w := by rw [hts]; exact r.string
  obtain ⟨g, rfl, hc⟩ := own_byte o hb (by omega)
  have b0 := (hc n (by omega)).1
  have b1 := (hc (n + 1) (by omega)).1
  have e0 : (l ++ [193, 194]).getD n 0 = 193 := by rw [List.getD_eq_getElem?_getD, List.getElem?_append_right (by omega), hl, Nat.sub_self]; rfl
  have e1 : (l ++ [193, 194]).getD (n + 1) 0 = 194 := by rw [List.getD_eq_getElem?_getD, List.getElem?_append_right (by omega), hl, show n + 1 - n = 1 by omega]; rfl
  rw [e0] at b0
  rw [e1] at b1
  have hr := (own_room o).1
  have hs := (own_room o).2
  unfold maxLen at hs
  unfold Lim at hn
  have wn : IntKind.i64.wrap ((n : Int) + 2) = ((n + 2 : Nat) : Int) := by rw [IntKind.wrap_i64]; omega
  have wn1 : IntKind.i64.wrap ((n : Int) + 1) = ((n + 1 : Nat) : Int) := by rw [IntKind.wrap_i64]; omega
  have nlt : ¬ (k : Int) < ((n + 2 : Nat) : Int) := by omega
  have nlt' : ¬ (k : Int) < (n : Int) + 2 := by omega
  have slc : ∀ V : World, (Instr.slice 22 (.slice (some ⟨g, 0, none⟩) n k) none (some (.int .i64 ((n + 2 : Nat) : Int))) none).run Try.prog V = .ok (.slice (some ⟨g, 0, none⟩) (n + 2) k) V := fun V => slice_up g n (n + 2) k (by omega) V
  have i1 : (n : Int) < ((n + 2 : Nat) : Int) := by omega
  have i2 : ((n + 1 : Nat) : Int) < ((n + 2 : Nat) : Int) := by omega
  clear o r hb rd hts hc e0 e1
  go_enter Try.func48, Try.ntmps48
  go_wp2_with fail
  go_ret
  exact ⟨by first | rfl | simp, rfl⟩
end Go.Proofs.Ytbnnmelkbjkkjaa

namespace Go.Proofs.Ytbnnmelkbjkkjaa
open Go.RowKit

def AB.stop (A : AB) (n : Int) (done : Bool) : AB × Int := if A.dead = true then (A, 60) else ({ A with named := if n < 0 then 0 else n, done := done }, 0)
theorem gStop (base B : Nat) (d : DK) (n : Int) (done : Bool) (w : World) (h : IsD base w B d) :
    Calls Try.prog 22 #[.pointer (some ⟨B, 0, none⟩), .int .i64 n, .bool done] w fun x w' => x = .returned (.int .i64 (d.ab.stop n done).2) ∧ ∃ d', IsD base w' B d' ∧ DM w w' B d d' ∧ d'.ab = (d.ab.stop n done).1 := by
  unfold AB.stop
  cases hd : d.dead with
  | true =>
    rw [if_pos (show d.ab.dead = true from hd)]
    refine (dStop_dead base B d n done w h hd).mono ?_
    rintro x w' ⟨rfl, rfl⟩
    exact ⟨rfl, d, h, DM.of_kept (Kept.refl _ _) B d, rfl⟩
  | false =>
    rw [if_neg (show ¬ d.ab.dead = true by show ¬ d.dead = true; rw [hd]; decide)]
    exact dStop base B d n done w h hd
theorem rStopG (base B : Nat) (d : RK) (n : Int) (done : Bool) (w : World) (h : IsR base w B d) :
    Calls Try.prog 66 #[.pointer (some ⟨B, 0, none⟩), .int .i64 n, .bool done] w fun x w' => x = .returned (.int .i64 (d.ab.stop n done).2) ∧ ∃ d', IsR base w' B d' ∧ RM w w' B d d' ∧ d'.ab = (d.ab.stop n done).1 := by
  unfold AB.stop
  cases hd : d.dead with
  | true =>
    rw [if_pos (show d.ab.dead = true from hd)]
    refine (rStop_dead base B d n done w h hd).mono ?_
    rintro x w' ⟨rfl, rfl⟩
    exact ⟨rfl, d, h, RM.of_kept (Kept.refl _ _) B d, rfl⟩
  | false =>
    rw [if_neg (show ¬ d.ab.dead = true by show ¬ d.dead = true; rw [hd]; decide)]
    exact rStop base B d n done w h hd
/-- What a step of a script does: one of the four acts, or Stop. -/
def AB.go (A : AB) (o : Opv) : AB × Int := if o.kind = 8 then A.stop o.N o.done else A.act o.kind o.slot o.l
theorem act_l (A : AB) (k s : Int) (hk : k ≠ 1) (l m : List Nat) : A.act k s l = A.act k s m := by
  unfold AB.act AB.put
  simp only [if_neg hk]
set_option maxRecDepth 100000 in
set_option maxHeartbeats 1000000 in
theorem gAct8 (base B : Nat) (d : DK) (o : Opv) (hk : o.kind = 8) (a : Option Addr) (n c : Nat) (w : World) (h : IsD base w B d) :
    Calls Try.prog 23 #[.pointer (some ⟨B, 0, none⟩), .agg o.cs, .slice a n c] w fun x w' => x = .returned (.int .i64 (d.ab.stop o.N o.done).2) ∧ ∃ d', IsD base w' B d' ∧ DM w w' B d d' ∧ d'.ab = (d.ab.stop o.N o.done).1 := by
  obtain ⟨W, hW⟩ : ∃ W, W = w.alloc (.cells o.cs 46) := ⟨_, rfl⟩
  have EW : Hid (W = w.alloc (.cells #[.int .i64 8, .int .i64 o.D, .int .i64 o.slot, .slice o.a o.n o.c, .int .i64 o.N, .bool o.done, o.v0, o.v1, o.v2] 46)) := by show W = _; rw [← hk]; exact hW
  have K : Kept (fun _ => False) w W := by rw [hW]; exact alloc_kept0 _ _
  have X : Hid (IsD base W B d ∧ DM w W B d d) := ⟨h.kept0 K, DM.of_kept K B d⟩
  obtain ⟨ac, hac⟩ : ∃ ac, ac = d.ab.stop o.N o.done := ⟨_, rfl⟩
  rw [← hac]
  have AC : Hid (ac = d.ab.stop o.N o.done) := hac
  unfold Opv.cs
  rw [hk]
  clear h hW K hac hk
  go_enter Try.func23, Try.ntmps23
  go_wp2_with fail
  rw [← EW.out]
  refine (gStop base B d o.N o.done W X.out.1).mono ?_
  rw [← AC.out]
  obtain ⟨A', v⟩ := ac
  rintro x w2 ⟨rfl, d', q1, q2, q3⟩
  have Q : Hid (∃ d', IsD base w2 B d' ∧ DM w w2 B d d' ∧ d'.ab = A') := ⟨d', q1, X.out.2.trans q2, q3⟩
  clear q1 q2 q3
  go_wp2_with fail
  go_ret
  exact ⟨rfl, Q.out⟩
set_option maxRecDepth 100000 in
set_option maxHeartbeats 1000000 in
theorem rActOf8 (base B : Nat) (d : RK) (o : Opv) (hk : o.kind = 8) (w : World) (h : IsR base w B d) :
    Calls Try.prog 47 #[.pointer (some ⟨B, 0, none⟩), .agg o.cs] w fun x w' => x = .returned (.int .i64 (d.ab.stop o.N o.done).2) ∧ ∃ d', IsR base w' B d' ∧ RM w w' B d d' ∧ d'.ab = (d.ab.stop o.N o.done).1 := by
  obtain ⟨W, hW⟩ : ∃ W, W = w.alloc (.cells o.cs 46) := ⟨_, rfl⟩
  have EW : Hid (W = w.alloc (.cells #[.int .i64 8, .int .i64 o.D, .int .i64 o.slot, .slice o.a o.n o.c, .int .i64 o.N, .bool o.done, o.v0, o.v1, o.v2] 46)) := by show W = _; rw [← hk]; exact hW
  have K : Kept (fun _ => False) w W := by rw [hW]; exact alloc_kept0 _ _
  have X : Hid (IsR base W B d ∧ RM w W B d d) := ⟨h.kept0 K, RM.of_kept K B d⟩
  obtain ⟨ac, hac⟩ : ∃ ac, ac = d.ab.stop o.N o.done := ⟨_, rfl⟩
  rw [← hac]
  have AC : Hid (ac = d.ab.stop o.N o.done) := hac
  unfold Opv.cs
  rw [hk]
  clear h hW K hac hk
  go_enter Try.func47, Try.ntmps47
  go_wp2_with fail
  rw [← EW.out]
  refine (rStopG base B d o.N o.done W X.out.1).mono ?_
  rw [← AC.out]
  obtain ⟨A', v⟩ := ac
  rintro x w2 ⟨rfl, d', q1, q2, q3⟩
  have Q : Hid (∃ d', IsR base w2 B d' ∧ RM w w2 B d d' ∧ d'.ab = A') := ⟨d', q1, X.out.2.trans q2, q3⟩
  clear q1 q2 q3
  go_wp2_with fail
  go_ret
  exact ⟨rfl, Q.out⟩
/-- act (23): the four acts, and Stop. -/
theorem goP (base B : Nat) (d : DK) (o : Opv) (hk : (1 ≤ o.kind ∧ o.kind ≤ 4) ∨ o.kind = 8) (a : Option Addr) (c : Nat) (w : World) (h : IsD base w B d) (ok : d.ab.Ok) (r : Reads w a o.n c o.l) (hn : o.n ≤ Lim) (hr : ∀ k, blockOf a = some k → k ≠ B) :
    Calls Try.prog 23 #[.pointer (some ⟨B, 0, none⟩), .agg o.cs, .slice a o.n c] w fun x w' => x = .returned (.int .i64 (d.ab.go o).2) ∧ ∃ d', IsD base w' B d' ∧ DM w w' B d d' ∧ d'.ab = (d.ab.go o).1 := by
  unfold AB.go
  by_cases h8 : o.kind = 8
  · rw [if_pos h8]
    exact gAct8 base B d o h8 a o.n c w h
  · rw [if_neg h8]
    exact gAct base B d o (by rcases hk with z | z; exact z; exact absurd z h8) a o.n c o.l w h ok r hn hr
/-- actOf (47). -/
theorem goR (base B : Nat) (d : RK) (o : Opv) (sl : o.Sl) (hk : (1 ≤ o.kind ∧ o.kind ≤ 4) ∨ o.kind = 8) (w : World) (h : IsR base w B d) (ok : d.ab.Ok) (r : Reads w o.a o.n o.c o.l) (hn : o.n ≤ Lim) (hr : 0 < o.n → ∀ k, blockOf o.a = some k → k ≠ B) :
    Calls Try.prog 47 #[.pointer (some ⟨B, 0, none⟩), .agg o.cs] w fun x w' => x = .returned (.int .i64 (d.ab.go o).2) ∧ ∃ d', IsR base w' B d' ∧ RM w w' B d d' ∧ d'.ab = (d.ab.go o).1 := by
  unfold AB.go
  by_cases h8 : o.kind = 8
  · rw [if_pos h8]
    exact rActOf8 base B d o h8 w h
  · rw [if_neg h8]
    have hk4 : 1 ≤ o.kind ∧ o.kind ≤ 4 := by rcases hk with z | z; exact z; exact absurd z h8
    have e : d.ab.act o.kind o.slot o.l = d.ab.act o.kind o.slot (if o.kind = 1 then o.l else []) := by
      by_cases h1 : o.kind = 1
      · rw [if_pos h1]
      · rw [if_neg h1]; exact act_l d.ab o.kind o.slot h1 _ _
    rw [e]
    exact rActOf base B d o o.cs rfl sl hk4 w h ok r hn hr
end Go.Proofs.Ytbnnmelkbjkkjaa

namespace Go.Proofs.Ytbnnmelkbjkkjaa
open Go.RowKit

/-- A disk of the program and the document's. -/
structure Pr where
  bp : Nat
  d : DK
  br : Nat
  r : RK
def Pr.Uses (x : Pr) (k : Nat) : Prop := x.d.Uses x.bp k ∨ x.r.Uses x.br k
def Pr.cells (x : Pr) : List Value := [.pointer (some ⟨x.bp, 0, none⟩), .pointer (some ⟨x.br, 0, none⟩)]
def pcells (L : List Pr) : List Value := L.flatMap Pr.cells
theorem pcells_append (l m : List Pr) : pcells (l ++ m) = pcells l ++ pcells m := by simp [pcells]
theorem pcells_cons (e : Pr) (l : List Pr) : pcells (e :: l) = e.cells ++ pcells l := by simp [pcells]
theorem pcells_one' (e : Pr) : pcells [e] = e.cells := by simp [pcells]
theorem prcells_length (e : Pr) : e.cells.length = 2 := rfl
theorem pcells_length (l : List Pr) : (pcells l).length = l.length * 2 := by
  induction l with
  | nil => rfl
  | cons t r ih => rw [pcells_cons, List.length_append, ih, prcells_length, List.length_cons]; omega
theorem pcells_ones (l : List Pr) : ∀ u ∈ pcells l, u.oneCell' = true := fun u hu => by
  obtain ⟨t, _, h⟩ := List.mem_flatMap.1 hu
  simp [Pr.cells] at h
  rcases h with rfl | rfl <;> rfl
theorem pcells_get (l : List Pr) : ∀ i (h : i < l.length) j, j < 2 → (pcells l)[i * 2 + j]? = (l[i].cells)[j]? := by
  induction l with
  | nil => intro i h; simp at h
  | cons t r ih =>
    intro i h j hj
    rw [pcells_cons]
    cases i with
    | zero => rw [List.getElem?_append_left (by rw [prcells_length]; omega)]; simp
    | succ i =>
      rw [List.getElem?_append_right (by rw [prcells_length]; omega), prcells_length, show (i + 1) * 2 + j - 2 = i * 2 + j by omega, ih i (by simpa using h) j hj]
      rfl
/-- The row's cells. -/
theorem row_pair {w : World} {base : Nat} {pa : Option Addr} {pn pc : Nat} {L : List Pr} (h : w.ownsRow base 60 2 (.slice pa pn pc) pn (pcells L)) {i : Nat} {x : Pr} (hx : L[i]? = some x) : ∃ g, pa = some ⟨g, 0, none⟩ ∧ i < pn ∧ w.cell? ⟨g, i * 2, none⟩ = some (.pointer (some ⟨x.bp, 0, none⟩)) ∧ w.cell? ⟨g, i * 2 + 1, none⟩ = some (.pointer (some ⟨x.br, 0, none⟩)) := by
  have hl : L.length = pn := by have := h.1; rw [pcells_length] at this; omega
  obtain ⟨hlt, rfl⟩ := List.getElem?_eq_some_iff.1 hx
  rcases h.2 with ⟨e0, e1⟩ | ⟨g, cap', cur, e0, _, hg, hn, hm, hs, ht⟩
  · omega
  · simp at e0
    obtain ⟨rfl, rfl⟩ := e0
    have key : ∀ j v, j < 2 → (L[i].cells)[j]? = some v → w.cell? ⟨g, i * 2 + j, none⟩ = some v := fun j v hj hv => by
      rw [cell_of_row w g _ cur 60 (0, 0) hg]
      have e := pcells_get L i hlt j hj
      rw [hv, ← ht, List.getElem?_take_of_lt (by omega)] at e
      simpa using e
    exact ⟨g, rfl, by omega, key 0 _ (by omega) rfl, key 1 _ (by omega) rfl⟩
/-- Pairs of disks that have nothing to do with one another, and blocks that are none of theirs. -/
structure AL (w wr : World) (L : List Pr) (S : Nat → Prop) : Prop where
  isd : ∀ x ∈ L, IsD w.heap.size wr x.bp x.d
  isr : ∀ x ∈ L, IsR w.heap.size wr x.br x.r
  two : ∀ x ∈ L, ∀ k, x.d.Uses x.bp k → ¬ x.r.Uses x.br k
  apart : L.Pairwise (fun x y => ∀ k, x.Uses k → ¬ y.Uses k)
  far : ∀ k, S k → k < wr.heap.size ∧ w.heap.size ≤ k ∧ ∀ x ∈ L, ¬ x.Uses k
  kept : Kept (fun _ => False) w wr
theorem AL.lt {w wr : World} {L : List Pr} {S : Nat → Prop} (h : AL w wr L S) {x : Pr} (hx : x ∈ L) {k : Nat} (hk : x.Uses k) : k < wr.heap.size := by
  rcases hk with z | z
  · exact (h.isd x hx).lt z
  · exact (h.isr x hx).lt z
theorem AL.perm {w wr : World} {L L' : List Pr} {S : Nat → Prop} (h : AL w wr L S) (p : L.Perm L') : AL w wr L' S :=
  ⟨fun x hx => h.isd x (p.mem_iff.2 hx), fun x hx => h.isr x (p.mem_iff.2 hx), fun x hx => h.two x (p.mem_iff.2 hx), (p.pairwise_iff (fun {_ _} r k a b => r k b a)).1 h.apart, fun k hk => ⟨(h.far k hk).1, (h.far k hk).2.1, fun x hx => (h.far k hk).2.2 x (p.mem_iff.2 hx)⟩, h.kept⟩
theorem AL.quiet {w wr w' : World} {L : List Pr} {S : Nat → Prop} (h : AL w wr L S) (K : Kept (fun _ => False) wr w') : AL w w' L S :=
  ⟨fun x hx => (h.isd x hx).kept0 K, fun x hx => (h.isr x hx).kept0 K, h.two, h.apart, fun k hk => ⟨by have := (h.far k hk).1; have := K.size; omega, (h.far k hk).2⟩, h.kept.trans K (fun _ _ z => z)⟩
theorem AL.more {w wr w' : World} {L : List Pr} {S S' : Nat → Prop} (h : AL w wr L S) (K : Kept (fun _ => False) wr w') (hs : ∀ k, S' k → S k ∨ (wr.heap.size ≤ k ∧ k < w'.heap.size)) : AL w w' L S' := by
  have q := h.quiet K
  refine ⟨q.isd, q.isr, q.two, q.apart, fun k hk => ?_, q.kept⟩
  rcases hs k hk with z | ⟨z, z2⟩
  · exact q.far k z
  · exact ⟨z2, by have := h.kept.size; omega, fun x hx u => by have := h.lt hx u; omega⟩
theorem AL.less {w wr : World} {L : List Pr} {S S' : Nat → Prop} (h : AL w wr L S) (hs : ∀ k, S' k → S k) : AL w wr L S' := ⟨h.isd, h.isr, h.two, h.apart, fun k hk => h.far k (hs k hk), h.kept⟩
theorem AL.tail {w wr : World} {x : Pr} {L : List Pr} {S : Nat → Prop} (h : AL w wr (x :: L) S) : AL w wr L S := ⟨fun y hy => h.isd y (List.mem_cons_of_mem _ hy), fun y hy => h.isr y (List.mem_cons_of_mem _ hy), fun y hy => h.two y (List.mem_cons_of_mem _ hy), (List.pairwise_cons.1 h.apart).2, fun k hk => ⟨(h.far k hk).1, (h.far k hk).2.1, fun y hy => (h.far k hk).2.2 y (List.mem_cons_of_mem _ hy)⟩, h.kept⟩
/-- Some blocks of the first pair were moved. -/
theorem AL.moved {w wr w' : World} {x x' : Pr} {L : List Pr} {S F : Nat → Prop} (h : AL w wr (x :: L) S) (hF : ∀ k, F k → x.Uses k) (hlow : ∀ k, F k → w.heap.size ≤ k) (K : Kept F wr w') (i1 : IsD w.heap.size w' x'.bp x'.d) (i2 : IsR w.heap.size w' x'.br x'.r) (h2 : ∀ k, x'.d.Uses x'.bp k → ¬ x'.r.Uses x'.br k) (near : ∀ k, x'.Uses k → x.Uses k ∨ wr.heap.size ≤ k) : AL w w' (x' :: L) S ∧ Kept (fun k => ¬ S k) wr w' := by
  obtain ⟨q1, q2⟩ := List.pairwise_cons.1 h.apart
  have nF : ∀ y ∈ L, ∀ k, y.Uses k → ¬ F k := fun y hy k hk z => q1 y hy k (hF k z) hk
  refine ⟨⟨fun y hy => ?_, fun y hy => ?_, fun y hy => ?_, List.pairwise_cons.2 ⟨fun y hy k a b => ?_, q2⟩, fun k hk => ⟨by have := (h.far k hk).1; have := K.size; omega, (h.far k hk).2.1, fun y hy u => ?_⟩, h.kept.trans K (fun k hk z => by have := hlow k z; omega)⟩, K.mono (fun k _ z hS => (h.far k hS).2.2 x (by simp) (hF k z))⟩
  · rcases List.mem_cons.1 hy with e | e
    · rw [e]; exact i1
    · exact (h.tail.isd y e).off K (fun k hk => nF y e k (.inl hk))
  · rcases List.mem_cons.1 hy with e | e
    · rw [e]; exact i2
    · exact (h.tail.isr y e).off K (fun k hk => nF y e k (.inr hk))
  · rcases List.mem_cons.1 hy with e | e
    · rw [e]; exact h2
    · exact h.tail.two y e
  · rcases near k a with z | z
    · exact q1 y hy k z b
    · have := h.tail.lt hy b; omega
  · rcases List.mem_cons.1 hy with e | e
    · rw [e] at u
      rcases near k u with z | z
      · exact (h.far k hk).2.2 x (by simp) z
      · have := (h.far k hk).1; omega
    · exact (h.far k hk).2.2 y (List.mem_cons_of_mem _ e) u
theorem AL.stepP {w wr w' : World} {x : Pr} {d' : DK} {L : List Pr} {S : Nat → Prop} (h : AL w wr (x :: L) S) (i : IsD w.heap.size w' x.bp d') (m : DM wr w' x.bp x.d d') : AL w w' ({ x with d := d' } :: L) S ∧ Kept (fun k => ¬ S k) wr w' := by
  have hx : x ∈ x :: L := by simp
  refine h.moved (fun k z => .inl z.uses) (fun k z => (h.isd x hx).foot z) m.kept i ((h.isr x hx).off m.kept (fun k hk z => h.two x hx k z.uses hk)) (fun k a b => ?_) (fun k hk => ?_)
  · rcases m.near k a with z | z
    · exact h.two x hx k z b
    · have := (h.isr x hx).lt b; omega
  · rcases hk with z | z
    · rcases m.near k z with q | q
      · exact .inl (.inl q)
      · exact .inr q
    · exact .inl (.inr z)
theorem AL.stepR {w wr w' : World} {x : Pr} {r' : RK} {L : List Pr} {S : Nat → Prop} (h : AL w wr (x :: L) S) (i : IsR w.heap.size w' x.br r') (m : RM wr w' x.br x.r r') : AL w w' ({ x with r := r' } :: L) S ∧ Kept (fun k => ¬ S k) wr w' := by
  have hx : x ∈ x :: L := by simp
  refine h.moved (fun k z => .inr z.uses) (fun k z => (h.isr x hx).foot z) m.kept ((h.isd x hx).off m.kept (fun k hk z => h.two x hx k hk z.uses)) i (fun k a b => ?_) (fun k hk => ?_)
  · rcases m.near k b with z | z
    · exact h.two x hx k a z
    · have := (h.isd x hx).lt a; omega
  · rcases hk with z | z
    · exact .inl (.inl z)
    · rcases m.near k z with q | q
      · exact .inl (.inr q)
      · exact .inr q
/-- Blocks of no disk are written. -/
theorem AL.wrote {w wr w' : World} {L : List Pr} {S T : Nat → Prop} (h : AL w wr L S) (K : Kept T wr w') (hT : ∀ k, T k → w.heap.size ≤ k ∧ ∀ x ∈ L, ¬ x.Uses k) : AL w w' L S :=
  ⟨fun x hx => (h.isd x hx).off K (fun k hk z => (hT k z).2 x hx (.inl hk)), fun x hx => (h.isr x hx).off K (fun k hk z => (hT k z).2 x hx (.inr hk)), h.two, h.apart, fun k hk => ⟨by have := (h.far k hk).1; have := K.size; omega, (h.far k hk).2⟩, h.kept.trans K (fun k hk z => by have := (hT k z).1; omega)⟩
/-- One more pair. -/
theorem AL.cons {w wr w' : World} {L : List Pr} {S : Nat → Prop} {x : Pr} (h : AL w wr L S) (K : Kept (fun _ => False) wr w') (i1 : IsD w.heap.size w' x.bp x.d) (i2 : IsR w.heap.size w' x.br x.r) (h2 : ∀ k, x.d.Uses x.bp k → ¬ x.r.Uses x.br k) (new : ∀ k, x.Uses k → wr.heap.size ≤ k) : AL w w' (x :: L) S := by
  have q := h.quiet K
  refine ⟨fun y hy => ?_, fun y hy => ?_, fun y hy => ?_, List.pairwise_cons.2 ⟨fun y hy k a b => ?_, h.apart⟩, fun k hk => ⟨(q.far k hk).1, (q.far k hk).2.1, fun y hy u => ?_⟩, q.kept⟩
  · rcases List.mem_cons.1 hy with e | e
    · rw [e]; exact i1
    · exact q.isd y e
  · rcases List.mem_cons.1 hy with e | e
    · rw [e]; exact i2
    · exact q.isr y e
  · rcases List.mem_cons.1 hy with e | e
    · rw [e]; exact h2
    · exact h.two y e
  · have := new k a
    have := h.lt hy b
    omega
  · rcases List.mem_cons.1 hy with e | e
    · rw [e] at u
      have := new k u
      have := (h.far k hk).1
      omega
    · exact (q.far k hk).2.2 y e u
/-- How much a disk holds, whatever was done to it. -/
structure Fits (A : AB) (s t : Nat) : Prop where
  wt : A.l0.length + weigh A.X0 + A.l1.length + weigh A.X1 ≤ s
  n0 : A.X0.length ≤ t
  n1 : A.X1.length ≤ t
  acts : A.acts ≤ t
  named : 0 ≤ A.named ∧ A.named < 9223372036854775808
theorem Fits.ok {A : AB} {s t : Nat} (h : Fits A s t) (hs : s ≤ Few) (ht : t ≤ Few) : A.Ok := by
  have := h.wt
  have := h.n0
  have := h.n1
  have := h.acts
  unfold Few at hs ht
  refine ⟨?_, ?_, ?_, ?_, ?_, h.named⟩
  all_goals (unfold Lim; omega)
theorem Fits.mono {A : AB} {s t s' t' : Nat} (h : Fits A s t) (hs : s ≤ s') (ht : t ≤ t') : Fits A s' t' := ⟨Nat.le_trans h.wt hs, Nat.le_trans h.n0 ht, Nat.le_trans h.n1 ht, Nat.le_trans h.acts ht, h.named⟩
theorem Fits.put {A : AB} {s t : Nat} (h : Fits A s t) (k : Int) (i : Nat) (l : List Nat) : Fits (A.put k i l).counted (s + l.length) (t + 1) := by
  have h1 := h.wt
  have h2 := h.n0
  have h3 := h.n1
  have h4 := h.acts
  have r0 := redoL_length A.X0 A.l0
  have r1 := redoL_length A.X1 A.l1
  have wn : weigh [] = 0 := rfl
  have mo : ∀ x : Option (List Nat), (x.getD []).length ≤ l.length → Fits (A.more i x).counted (s + l.length) (t + 1) := fun x hx => by
    unfold AB.more
    split
    · exact ⟨by simp only [AB.counted, weigh_snoc]; omega, by simp only [AB.counted, List.length_append, List.length_singleton]; omega, by simp only [AB.counted]; omega, by simp only [AB.counted]; omega, h.named⟩
    · exact ⟨by simp only [AB.counted, weigh_snoc]; omega, by simp only [AB.counted]; omega, by simp only [AB.counted, List.length_append, List.length_singleton]; omega, by simp only [AB.counted]; omega, h.named⟩
  unfold AB.put
  split
  · unfold AB.add
    split
    · exact ⟨by simp only [AB.counted]; omega, by simp only [AB.counted]; omega, by simp only [AB.counted]; omega, by simp only [AB.counted]; omega, h.named⟩
    · exact mo (some l) (Nat.le_refl _)
  · split
    · exact mo none (Nat.zero_le _)
    · split
      · unfold AB.sync
        split
        · exact ⟨by simp only [AB.counted, wn]; omega, by simp [AB.counted], by simp only [AB.counted]; omega, by simp only [AB.counted]; omega, h.named⟩
        · exact ⟨by simp only [AB.counted, wn]; omega, by simp only [AB.counted]; omega, by simp [AB.counted], by simp only [AB.counted]; omega, h.named⟩
      · exact ⟨by simp only [AB.counted, AB.switch]; omega, by simp only [AB.counted, AB.switch]; omega, by simp only [AB.counted, AB.switch]; omega, by simp only [AB.counted, AB.switch]; omega, h.named⟩
theorem Fits.go {A : AB} {s t : Nat} (h : Fits A s t) (o : Opv) (hN : o.N < 9223372036854775808) : Fits (A.go o).1 (s + o.l.length) (t + 1) := by
  have hm := h.mono (s' := s + o.l.length) (t' := t + 1) (by omega) (by omega)
  have hn := h.named
  unfold AB.go
  split
  · unfold AB.stop
    split
    · exact hm
    · exact ⟨hm.wt, hm.n0, hm.n1, hm.acts, by show 0 ≤ (if o.N < 0 then (0 : Int) else o.N) ∧ (if o.N < 0 then (0 : Int) else o.N) < 9223372036854775808; split <;> omega⟩
  · unfold AB.act
    split
    · exact hm
    · split
      · exact hm
      · split
        · split
          · have hz : Fits A.stopped s t := ⟨h.wt, h.n0, h.n1, h.acts, by show (0 : Int) ≤ 0 ∧ (0 : Int) < 9223372036854775808; decide⟩
            exact hz.put _ _ _
          · exact ⟨hm.wt, hm.n0, hm.n1, hm.acts, by show (0 : Int) ≤ 0 ∧ (0 : Int) < 9223372036854775808; decide⟩
        · have hz : Fits A.tick s t := ⟨h.wt, h.n0, h.n1, h.acts, by show 0 ≤ (if A.named - 1 < 0 then (0 : Int) else A.named - 1) ∧ (if A.named - 1 < 0 then (0 : Int) else A.named - 1) < 9223372036854775808; split <;> omega⟩
          exact hz.put _ _ _
theorem weigh_torn (xs : List (Option (List Nat))) (k : Nat) (x : List Nat) (h : xs[k]? = some (some x)) : weigh (xs.take k) + x.length ≤ weigh xs := by
  have h1 := weigh_take xs (k + 1)
  obtain ⟨hl, e⟩ := List.getElem?_eq_some_iff.1 h
  rw [List.take_succ_eq_append_getElem hl, e, weigh_snoc] at h1
  exact h1
theorem leftL_tight (l : List Nat) (xs : List (Option (List Nat))) (cs : List Int) : (leftL l xs cs).1.length ≤ l.length + weigh xs := by
  have h1 := redoL_length (xs.take (nextC cs (xs.length + 1)).1) l
  have h2 := weigh_take xs (nextC cs (xs.length + 1)).1
  unfold leftL
  split
  · rename_i x he
    have h3 := weigh_torn xs _ x he
    simp only [List.length_append, List.length_take]
    omega
  · simp only
    omega
theorem Fits.crash {A : AB} {s t : Nat} (h : Fits A s t) (cs : List Int) : Fits (A.crash cs) s t := by
  have h1 := h.wt
  have h2 := leftL_tight A.l0 A.X0 cs
  have h3 := leftL_tight A.l1 A.X1 (leftL A.l0 A.X0 cs).2
  have wn : weigh [] = 0 := rfl
  refine ⟨?_, Nat.zero_le _, Nat.zero_le _, Nat.zero_le _, by show (0 : Int) ≤ 0 ∧ (0 : Int) < 9223372036854775808; decide⟩
  show (leftL A.l0 A.X0 cs).1.length + weigh [] + (leftL A.l1 A.X1 (leftL A.l0 A.X0 cs).2).1.length + weigh [] ≤ s
  omega
end Go.Proofs.Ytbnnmelkbjkkjaa
