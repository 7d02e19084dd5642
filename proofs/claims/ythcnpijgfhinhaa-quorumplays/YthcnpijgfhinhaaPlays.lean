import Derived.Test.YthcnpijgfhinhaaKeep
namespace Go.Proofs.Ythcnpijgfhinhaa
open Go.RowKit

/-- Which entry, or none. -/
def Sel (n : Nat) (f : Nat → Ent) (p q : Option Addr) : Prop := (p = none ∧ q = none) ∨ ∃ i, i < n ∧ p = some ⟨(f i).b, 0, none⟩ ∧ q = some ⟨(f i).r, 0, none⟩
/-- The book, and the step's own block. -/
structure Po (w wr : World) (B n : Nat) (f : Nat → Ent) (aS : Option Addr) (cS : Nat) (aR : Option Addr) (cR : Nat) (O : Nat) (k N K D I J x : Int) : Prop where
  bk : Bk w wr B n f aS cS aR cR
  box : wr.heap[O]? = some (.cells #[.int .i64 k, .int .i64 N, .int .i64 K, .int .i64 D, .int .i64 I, .int .i64 J, .int .i64 x] 51 (0, 0))
theorem Po.by {w wr w' : World} {B n : Nat} {f : Nat → Ent} {aS : Option Addr} {cS : Nat} {aR : Option Addr} {cR : Nat} {O : Nat} {k N K D I J x : Int} (h : Po w wr B n f aS cS aR cR O k N K D I J x) (b : Below wr.heap.size wr w') : Po w w' B n f aS cS aR cR O k N K D I J x := ⟨h.bk.by b, (b.block _ (block_lt h.box)).trans h.box⟩
theorem Po.cells {w wr : World} {B n : Nat} {f : Nat → Ent} {aS : Option Addr} {cS : Nat} {aR : Option Addr} {cR : Nat} {O : Nat} {k N K D I J x : Int} (h : Po w wr B n f aS cS aR cR O k N K D I J x) : wr.cell? ⟨O, 0, none⟩ = some (.int .i64 k) ∧ wr.cell? ⟨O, 1, none⟩ = some (.int .i64 N) ∧ wr.cell? ⟨O, 2, none⟩ = some (.int .i64 K) ∧ wr.cell? ⟨O, 3, none⟩ = some (.int .i64 D) ∧ wr.cell? ⟨O, 4, none⟩ = some (.int .i64 I) ∧ wr.cell? ⟨O, 5, none⟩ = some (.int .i64 J) ∧ wr.cell? ⟨O, 6, none⟩ = some (.int .i64 x) :=
  ⟨cell_blk h.box 0 rfl, cell_blk h.box 1 rfl, cell_blk h.box 2 rfl, cell_blk h.box 3 rfl, cell_blk h.box 4 rfl, cell_blk h.box 5 rfl, cell_blk h.box 6 rfl⟩
theorem Po.start {w wr : World} {B n : Nat} {f : Nat → Ent} {aS : Option Addr} {cS : Nat} {aR : Option Addr} {cR : Nat} (h : Bk w wr B n f aS cS aR cR) (k N K D I J x : Int) : Po w (wr.alloc (Obj.cells #[.int .i64 k, .int .i64 N, .int .i64 K, .int .i64 D, .int .i64 I, .int .i64 J, .int .i64 x] 51)) B n f aS cS aR cR wr.heap.size k N K D I J x :=
  ⟨h.by ((Below.refl _ _).alloc (Nat.le_refl _) _), heap_alloc_new _ _⟩
theorem Po.at {w wr : World} {B n : Nat} {f : Nat → Ent} {aS : Option Addr} {cS : Nat} {aR : Option Addr} {cR : Nat} {O : Nat} {k N K D I J x : Int} (h : Po w wr B n f aS cS aR cR O k N K D I J x) (hn : n ≤ 4611686018427387000) (y : Int) :
    Calls Try.prog 37 #[.pointer (some ⟨B, 0, none⟩), .int .i64 y] wr fun o w' => ∃ p q, o = .returned (.tuple #[.pointer p, .pointer q]) ∧ Hid (Sel n f p q ∧ Po w w' B n f aS cS aR cR O k N K D I J x) :=
  (bookAt h.bk hn y).mono (fun o w' hh => by
    rcases hh with ⟨he, hb⟩ | ⟨i, hi, he, hb⟩
    · exact ⟨none, none, he, ⟨.inl ⟨rfl, rfl⟩, h.by hb⟩⟩
    · exact ⟨_, _, he, ⟨.inr ⟨i, hi, rfl, rfl⟩, h.by hb⟩⟩)
theorem fresh_ap {w wr : World} {B n : Nat} {f : Nat → Ent} {aS : Option Addr} {cS : Nat} {aR : Option Addr} {cR : Nat} (h : Bk w wr B n f aS cS aR cR) (en : Ent) (hb : wr.heap.size ≤ en.b) (hr : wr.heap.size ≤ en.r) (ha : ∀ g, blockOf en.a = some g → wr.heap.size ≤ g) : en.Far w.heap.size ∧ ∀ i, i < n → (f i).Apart en ∧ en.Apart (f i) := by
  have s := h.bel.size
  refine ⟨⟨by omega, by omega, fun g e => by have := ha g e; omega⟩, fun i hi => ?_⟩
  have e := h.ent i hi
  have l1 := e.s.lt
  have l2 := e.f.lt
  refine ⟨⟨by omega, by omega, fun g e1 e2 => ?_⟩, ⟨by omega, by omega, fun g e1 e2 => ?_⟩⟩
  · have := e.f.row.lt e1; have := ha g e2; omega
  · have := e.f.row.lt e2; have := ha g e1; omega
set_option maxRecDepth 100000 in
set_option maxHeartbeats 4000000 in
theorem plays_other {w wr : World} {B n : Nat} {f : Nat → Ent} {aS : Option Addr} {cS : Nat} {aR : Option Addr} {cR : Nat} (h : Bk w wr B n f aS cS aR cR) (k N K D I J x : Int) (h0 : ¬ k = 0) (h1 : ¬ k = 1) (h2 : ¬ k = 2) (h3 : ¬ k = 3) (h4 : ¬ k = 4) (hn : n ≤ 4611686018427387000) (hb : (n + 1) * 8 ≤ 140737488355328) :
    Calls Try.prog 28 #[.pointer (some ⟨B, 0, none⟩), .agg #[.int .i64 k, .int .i64 N, .int .i64 K, .int .i64 D, .int .i64 I, .int .i64 J, .int .i64 x]] wr (Kept1 w B (n + 1)) := by
  have P0 : Hid (Po w (wr.alloc (Obj.cells #[.int .i64 k, .int .i64 N, .int .i64 K, .int .i64 D, .int .i64 I, .int .i64 J, .int .i64 x] 51)) B n f aS cS aR cR wr.heap.size k N K D I J x) := Po.start h _ _ _ _ _ _ _
  have HN : Hid (n ≤ 4611686018427387000) := hn
  have HB : Hid ((n + 1) * 8 ≤ 140737488355328) := hb
  obtain ⟨O, hO⟩ : ∃ O, wr.heap.size = O := ⟨_, rfl⟩
  rw [hO] at P0
  clear h hn hb
  go_enter Try.func28, Try.ntmps28
  go_wp2_with fail
  refine (P0.out.at HN.out I).mono ?_
  rintro o w1 ⟨p, q, rfl, P1⟩
  obtain ⟨b0, b1, b2, b3, b4, b5, b6⟩ := P1.out.2.cells
  clear P0 hO
  go_wp2_with fail
  go_ret
  exact ⟨rfl, n, f, aS, cS, aR, cR, Nat.le_succ _, P1.out.2.bk⟩
set_option maxRecDepth 100000 in
set_option maxHeartbeats 4000000 in
theorem plays_new {w wr : World} {B n : Nat} {f : Nat → Ent} {aS : Option Addr} {cS : Nat} {aR : Option Addr} {cR : Nat} (h : Bk w wr B n f aS cS aR cR) (N K D I J x : Int) (hok : okC N K D) (hn : n ≤ 4611686018427387000) (hb : (n + 1) * 8 ≤ 140737488355328) :
    Calls Try.prog 28 #[.pointer (some ⟨B, 0, none⟩), .agg #[.int .i64 0, .int .i64 N, .int .i64 K, .int .i64 D, .int .i64 I, .int .i64 J, .int .i64 x]] wr (Kept1 w B (n + 1)) := by
  have P0 : Hid (Po w (wr.alloc (Obj.cells #[.int .i64 0, .int .i64 N, .int .i64 K, .int .i64 D, .int .i64 I, .int .i64 J, .int .i64 x] 51)) B n f aS cS aR cR wr.heap.size 0 N K D I J x) := Po.start h _ _ _ _ _ _ _
  have HN : Hid (n ≤ 4611686018427387000) := hn
  have HB : Hid ((n + 1) * 8 ≤ 140737488355328) := hb
  obtain ⟨O, hO⟩ : ∃ O, wr.heap.size = O := ⟨_, rfl⟩
  rw [hO] at P0
  clear h hn hb
  go_enter Try.func28, Try.ntmps28
  go_wp2_with fail
  refine (P0.out.at HN.out I).mono ?_
  rintro o w1 ⟨p, q, rfl, P1⟩
  obtain ⟨b0, b1, b2, b3, b4, b5, b6⟩ := P1.out.2.cells
  clear P0 hO
  have OK : Hid (okC N K D) := hok
  clear hok
  go_wp2_with fail
  refine (new_ok N K D _ OK.out).mono ?_
  rintro o w2 ⟨b, hb, rfl, hS, c2⟩
  have P2 : Hid (Po w w2 B n f aS cS aR cR O 0 N K D I J x ∧ IsS w2 b N K D (lset [] N) ∧ w1.heap.size ≤ b ∧ Below w1.heap.size w1 w2) := ⟨P1.out.2.by c2, by rw [lset_nil]; exact hS, hb, c2⟩
  clear hS hb c2 b0 b1 b2 b3 b4 b5 b6
  obtain ⟨b0, b1, b2, b3, b4, b5, b6⟩ := P2.out.1.cells
  go_wp2_with fail
  refine (rNew_ok N K D _ OK.out).mono ?_
  rintro o w3 ⟨r, hr, rfl, hR, c3⟩
  have P3 : Hid (Bk w w3 B n f aS cS aR cR ∧ Ent.Ok w3 ⟨b, r, N, K, D, none, 0, []⟩ ∧ (Ent.Far w.heap.size ⟨b, r, N, K, D, none, 0, []⟩ ∧ ∀ i, i < n → (f i).Apart ⟨b, r, N, K, D, none, 0, []⟩ ∧ Ent.Apart ⟨b, r, N, K, D, none, 0, []⟩ (f i))) :=
    ⟨P2.out.1.bk.by c3, ⟨P2.out.2.1.by c3, hR⟩, fresh_ap P1.out.2.bk ⟨b, r, N, K, D, none, 0, []⟩ P2.out.2.2.1 (Nat.le_trans P2.out.2.2.2.size hr) (fun g e => by simp [blockOf] at e)⟩
  clear hR hr c3 P2 P1 b0 b1 b2 b3 b4 b5 b6
  go_wp2_with fail
  refine (keep_some P3.out.1 ⟨b, r, N, K, D, none, 0, []⟩ P3.out.2.1 P3.out.2.2.1 P3.out.2.2.2 HB.out).mono ?_
  rintro o w4 ⟨rfl, L4⟩
  have L5 : Hid (Left w B (n + 1) w4) := L4
  clear L4
  go_wp2_with fail
  go_ret
  exact ⟨rfl, L5.out⟩
set_option maxRecDepth 100000 in
set_option maxHeartbeats 4000000 in
theorem plays_newnot {w wr : World} {B n : Nat} {f : Nat → Ent} {aS : Option Addr} {cS : Nat} {aR : Option Addr} {cR : Nat} (h : Bk w wr B n f aS cS aR cR) (N K D I J x : Int) (hok : ¬ okC N K D) (hn : n ≤ 4611686018427387000) (hb : (n + 1) * 8 ≤ 140737488355328) :
    Calls Try.prog 28 #[.pointer (some ⟨B, 0, none⟩), .agg #[.int .i64 0, .int .i64 N, .int .i64 K, .int .i64 D, .int .i64 I, .int .i64 J, .int .i64 x]] wr (Kept1 w B (n + 1)) := by
  have P0 : Hid (Po w (wr.alloc (Obj.cells #[.int .i64 0, .int .i64 N, .int .i64 K, .int .i64 D, .int .i64 I, .int .i64 J, .int .i64 x] 51)) B n f aS cS aR cR wr.heap.size 0 N K D I J x) := Po.start h _ _ _ _ _ _ _
  have HN : Hid (n ≤ 4611686018427387000) := hn
  have HB : Hid ((n + 1) * 8 ≤ 140737488355328) := hb
  obtain ⟨O, hO⟩ : ∃ O, wr.heap.size = O := ⟨_, rfl⟩
  rw [hO] at P0
  clear h hn hb
  go_enter Try.func28, Try.ntmps28
  go_wp2_with fail
  refine (P0.out.at HN.out I).mono ?_
  rintro o w1 ⟨p, q, rfl, P1⟩
  obtain ⟨b0, b1, b2, b3, b4, b5, b6⟩ := P1.out.2.cells
  clear P0 hO
  have OK : Hid (¬ okC N K D) := hok
  clear hok
  go_wp2_with fail
  refine (new_not N K D _ OK.out).mono ?_
  rintro o w2 ⟨rfl, c2⟩
  have P2 : Hid (Po w w2 B n f aS cS aR cR O 0 N K D I J x) := P1.out.2.by c2
  clear c2 b0 b1 b2 b3 b4 b5 b6 P1
  obtain ⟨b0, b1, b2, b3, b4, b5, b6⟩ := P2.out.cells
  go_wp2_with fail
  refine (rNew_not N K D _ OK.out).mono ?_
  rintro o w3 ⟨rfl, c3⟩
  have P3 : Hid (Bk w w3 B n f aS cS aR cR) := P2.out.bk.by c3
  clear c3 P2 b0 b1 b2 b3 b4 b5 b6
  go_wp2_with fail
  refine (keep_none P3.out 40).mono ?_
  rintro o w4 ⟨rfl, L4⟩
  have L5 : Hid (Left w B (n + 1) w4) := L4
  clear L4
  go_wp2_with fail
  go_ret
  exact ⟨rfl, L5.out⟩
set_option maxRecDepth 100000 in
set_option maxHeartbeats 4000000 in
theorem plays_copy {w wr : World} {B n : Nat} {f : Nat → Ent} {aS : Option Addr} {cS : Nat} {aR : Option Addr} {cR : Nat} (h : Bk w wr B n f aS cS aR cR) (N K D I J x : Int) (hn : n ≤ 4611686018427387000) (hb : (n + 1) * 8 ≤ 140737488355328) :
    Calls Try.prog 28 #[.pointer (some ⟨B, 0, none⟩), .agg #[.int .i64 4, .int .i64 N, .int .i64 K, .int .i64 D, .int .i64 I, .int .i64 J, .int .i64 x]] wr (Kept1 w B (n + 1)) := by
  have P0 : Hid (Po w (wr.alloc (Obj.cells #[.int .i64 4, .int .i64 N, .int .i64 K, .int .i64 D, .int .i64 I, .int .i64 J, .int .i64 x] 51)) B n f aS cS aR cR wr.heap.size 4 N K D I J x) := Po.start h _ _ _ _ _ _ _
  have HN : Hid (n ≤ 4611686018427387000) := hn
  have HB : Hid ((n + 1) * 8 ≤ 140737488355328) := hb
  obtain ⟨O, hO⟩ : ∃ O, wr.heap.size = O := ⟨_, rfl⟩
  rw [hO] at P0
  clear h hn hb
  go_enter Try.func28, Try.ntmps28
  go_wp2_with fail
  refine (P0.out.at HN.out I).mono ?_
  rintro o w1 ⟨p, q, rfl, P1⟩
  obtain ⟨b0, b1, b2, b3, b4, b5, b6⟩ := P1.out.2.cells
  clear P0 hO
  rcases P1.out.1 with ⟨rfl, rfl⟩ | ⟨i, hi, rfl, rfl⟩
  · have P2 : Hid (Bk w w1 B n f aS cS aR cR) := P1.out.2.bk
    clear P1
    go_wp2_with fail
    refine (copy_nil _).mono ?_
    rintro o w2 ⟨rfl, rfl⟩
    go_wp2_with fail
    refine (rCopy_nil _).mono ?_
    rintro o w3 ⟨rfl, rfl⟩
    go_wp2_with fail
    refine (keep_none P2.out 0).mono ?_
    rintro o w4 ⟨rfl, L4⟩
    have L5 : Hid (Left w B (n + 1) w4) := L4
    clear L4
    go_wp2_with fail
    go_ret
    exact ⟨rfl, L5.out⟩
  · have P2 : Hid (Bk w w1 B n f aS cS aR cR) := P1.out.2.bk
    have E2 : Hid ((f i).Ok w1) := P2.out.ent i hi
    clear P1
    go_wp2_with fail
    refine (copy _ E2.out.s).mono ?_
    rintro o w2 ⟨b, hb, rfl, hS, c2⟩
    have P3 : Hid (Bk w w2 B n f aS cS aR cR ∧ IsS w2 b (f i).N (f i).K (f i).D (lset (f i).l (f i).N) ∧ w1.heap.size ≤ b ∧ Below w1.heap.size w1 w2 ∧ (f i).Ok w2) := ⟨P2.out.by c2, hS, hb, c2, E2.out.by c2⟩
    clear hS hb c2 E2
    go_wp2_with fail
    refine (rCopy _ P3.out.2.2.2.2.f).mono ?_
    rintro o w3 ⟨r, qa, qc, hr, rfl, R3⟩
    have P4 : Hid (Bk w w3 B n f aS cS aR cR ∧ Ent.Ok w3 ⟨b, r, (f i).N, (f i).K, (f i).D, qa, qc, (f i).l⟩ ∧ (Ent.Far w.heap.size ⟨b, r, (f i).N, (f i).K, (f i).D, qa, qc, (f i).l⟩ ∧ ∀ j, j < n → (f j).Apart ⟨b, r, (f i).N, (f i).K, (f i).D, qa, qc, (f i).l⟩ ∧ Ent.Apart ⟨b, r, (f i).N, (f i).K, (f i).D, qa, qc, (f i).l⟩ (f j))) :=
      ⟨P3.out.1.by R3.out.2.2, ⟨P3.out.2.1.by R3.out.2.2, R3.out.1⟩, fresh_ap P2.out ⟨b, r, (f i).N, (f i).K, (f i).D, qa, qc, (f i).l⟩ P3.out.2.2.1 (Nat.le_trans P3.out.2.2.2.1.size hr) (fun g e => Nat.le_trans P3.out.2.2.2.1.size (R3.out.2.1 g e))⟩
    clear R3 hr P3 P2
    go_wp2_with fail
    refine (keep_some P4.out.1 ⟨b, r, (f i).N, (f i).K, (f i).D, qa, qc, (f i).l⟩ P4.out.2.1 P4.out.2.2.1 P4.out.2.2.2 HB.out).mono ?_
    rintro o w4 ⟨rfl, L4⟩
    have L5 : Hid (Left w B (n + 1) w4) := L4
    clear L4
    go_wp2_with fail
    go_ret
    exact ⟨rfl, L5.out⟩
end Go.Proofs.Ythcnpijgfhinhaa
