import Derived.Test.YthcnpijgfhinhaaTopFill
import Derived.Test.YthcnpijgfhinhaaRefNum
import Derived.Test.YthcnpijgfhinhaaRow
namespace Go.Proofs.Ythcnpijgfhinhaa
open Go.RowKit

/-- The document's set: a block of its own, and the row of its list. -/
structure IsR (w : World) (r : Nat) (N K D : Int) (a : Option Addr) (cap : Nat) (l : List Int) : Prop where
  blk : w.heap[r]? = some (.cells #[.int .i64 N, .int .i64 K, .int .i64 D, .slice a l.length cap] 78 (0, 0))
  row : Row w 3 a l.length cap (ints l)
  ok : okC N K D
  low : ∀ x ∈ l, 0 ≤ x ∧ x < N
  nodup : l.Nodup
theorem IsR.lt {w : World} {r : Nat} {N K D : Int} {a : Option Addr} {cap : Nat} {l : List Int} (h : IsR w r N K D a cap l) : r < w.heap.size := block_lt h.blk
theorem IsR.cells {w : World} {r : Nat} {N K D : Int} {a : Option Addr} {cap : Nat} {l : List Int} (h : IsR w r N K D a cap l) : w.cell? ⟨r, 0, none⟩ = some (.int .i64 N) ∧ w.cell? ⟨r, 1, none⟩ = some (.int .i64 K) ∧ w.cell? ⟨r, 2, none⟩ = some (.int .i64 D) ∧ w.cell? ⟨r, 3, none⟩ = some (.slice a l.length cap) ∧ w.frozen? ⟨r, 3, none⟩ = false :=
  ⟨cell_blk h.blk 0 rfl, cell_blk h.blk 1 rfl, cell_blk h.blk 2 rfl, cell_blk h.blk 3 rfl, soft_blk h.blk 3⟩
theorem IsR.kept {S : Nat → Prop} {w w' : World} {r : Nat} {N K D : Int} {a : Option Addr} {cap : Nat} {l : List Int} (h : IsR w r N K D a cap l) (k : Kept S w w') (hr : ¬ S r) (hv : ∀ g, blockOf a = some g → ¬ S g) : IsR w' r N K D a cap l :=
  ⟨k.get h.blk hr, h.row.kept k hv, h.ok, h.low, h.nodup⟩
theorem IsR.by {w w' : World} {r : Nat} {N K D : Int} {a : Option Addr} {cap : Nat} {l : List Int} (h : IsR w r N K D a cap l) (k : Below w.heap.size w w') : IsR w' r N K D a cap l :=
  h.kept (Kept.of_below k) (by have := h.lt; omega) (fun g e => by have := h.row.lt e; omega)
theorem IsR.drew {w : World} {r : Nat} {N K D : Int} {a : Option Addr} {cap : Nat} {l : List Int} (h : IsR w r N K D a cap l) : IsR w.drew r N K D a cap l := h.by ((Below.refl _ _).drew)
theorem IsR.drewN {w : World} {r : Nat} {N K D : Int} {a : Option Addr} {cap : Nat} {l : List Int} (h : IsR w r N K D a cap l) (n : Nat) : IsR (w.drewN n) r N K D a cap l := h.by (below_drewN w n)
/-- No more than N different servers. -/
theorem nodup_len (l : List Int) (N : Int) (hl : ∀ x ∈ l, 0 ≤ x ∧ x < N) (hn : l.Nodup) : l.length = sz (lset l N) N := by
  induction l with
  | nil => rw [sz_nil]; rfl
  | cons x r ih =>
    have h1 := List.nodup_cons.1 hn
    rw [sz_add, ← ih (fun y hy => hl y (List.mem_cons_of_mem _ hy)) h1.2]
    have hx := hl x List.mem_cons_self
    have : inN N x = true := by unfold inN; exact decide_eq_true hx
    rw [this, decide_eq_false h1.1]; rfl
theorem IsR.len255 {w : World} {r : Nat} {N K D : Int} {a : Option Addr} {cap : Nat} {l : List Int} (h : IsR w r N K D a cap l) : l.length = sz (lset l N) N ∧ l.length ≤ 255 := by
  obtain ⟨a1, a2, a3, a4, a5⟩ := h.ok
  have e := nodup_len l N h.low h.nodup
  have := sz_le (lset l N) N
  exact ⟨e, by omega⟩
theorem rHas_nil (y : Int) (w : World) : Calls Try.prog 41 #[.pointer none, .int .i64 y] w fun x w' => x = .returned (.bool false) ∧ w' = w := by
  go_enter Try.func41, Try.ntmps41
  go_wp2_with fail
  go_ret
  exact ⟨rfl, rfl⟩
set_option maxRecDepth 100000 in
set_option maxHeartbeats 1000000 in
theorem rHas {r : Nat} {N K D : Int} {a : Option Addr} {cap : Nat} {l : List Int} (y : Int) (w : World) (h : IsR w r N K D a cap l) :
    Calls Try.prog 41 #[.pointer (some ⟨r, 0, none⟩), .int .i64 y] w fun x w' => x = .returned (.bool (decide (y ∈ l))) ∧ w' = w := by
  have rd := h.row.ireads
  obtain ⟨_, _, _, c3, _⟩ := h.cells
  have hlb := h.len255.2
  obtain ⟨len, hl⟩ : ∃ n, l.length = n := ⟨_, rfl⟩
  rw [hl] at c3 hlb
  have hr := rd.room
  have hs := rd.small
  unfold maxLen at hs
  rw [hl] at hr
  have R : Hid (IReads w a len cap l) := hl ▸ rd
  clear rd h
  go_enter Try.func41, Try.ntmps41
  go_wp2_with fail
  go_loopw [6, 14] (fun _ x wr => ∃ i : Nat, x = .int .i64 (i : Int) ∧ i ≤ len ∧ Hid (wr = w ∧ ¬ y ∈ l.take i)) (fun _ x _ => len - (intOf x).toNat)
  case atStart => exact ⟨0, rfl, Nat.zero_le _, rfl, by simp⟩
  case round =>
    obtain ⟨i, rfl, hi, H⟩ := hrel
    obtain ⟨rfl, hn⟩ := H.out
    by_cases hlt : i < len
    · obtain ⟨g, off, rfl, hc⟩ := R.out.cells (by omega)
      have e0 := hc i hlt
      obtain ⟨z, hz⟩ : ∃ z, l.getD i 0 = z := ⟨_, rfl⟩
      rw [hz] at e0
      have HZ : Hid (l.getD i 0 = z) := hz
      have i1 : (i : Int) < (len : Int) := by omega
      clear hc hz hn
      by_cases hzy : z = y
      · subst hzy
        have M : Hid (z ∈ l) := by
          show z ∈ l
          rw [← HZ.out, getD_at l i (by omega)]
          exact List.getElem_mem _
        go_wp2_with fail
        go_ret
        exact ⟨by rw [decide_eq_true M.out]; rfl, rfl⟩
      · have H2 : Hid (wr = wr ∧ ¬ y ∈ l.take (i + 1)) := by
          refine ⟨rfl, fun q => ?_⟩
          rw [List.take_succ_eq_append_getElem (by omega), ← getD_at l i (by omega), HZ.out] at q
          rcases List.mem_append.1 q with q | q
          · exact H.out.2 q
          · simp at q; exact hzy q.symm
        go_wp2_with fail
        go_roundw
        case rel => exact ⟨i + 1, by go_num, by omega, trivial, H2.out.2⟩
        case measure => simp [intOf]; omega
    · have M : Hid (¬ y ∈ l) := by
        show ¬ y ∈ l
        rw [List.take_of_length_le (by omega)] at hn
        exact hn
      clear hn
      go_wp2_with fail
      go_ret
      exact ⟨by rw [decide_eq_false M.out]; rfl, rfl⟩
theorem rLen_nil (w : World) : Calls Try.prog 45 #[.pointer none] w fun x w' => x = .returned (.int .i64 0) ∧ w' = w := by
  go_enter Try.func45, Try.ntmps45
  go_wp2_with fail
  go_ret
  exact ⟨rfl, rfl⟩
theorem rLen {r : Nat} {N K D : Int} {a : Option Addr} {cap : Nat} {l : List Int} (w : World) (h : IsR w r N K D a cap l) :
    Calls Try.prog 45 #[.pointer (some ⟨r, 0, none⟩)] w fun x w' => x = .returned (.int .i64 (l.length : Int)) ∧ w' = w := by
  have rd := h.row.ireads
  obtain ⟨_, _, _, c3, _⟩ := h.cells
  have hlb := h.len255.2
  have hr := rd.room
  clear rd h
  go_enter Try.func45, Try.ntmps45
  go_wp2_with fail
  go_ret
  exact ⟨rfl, rfl⟩
theorem rMet_nil (w : World) : Calls Try.prog 46 #[.pointer none] w fun x w' => x = .returned (.bool false) ∧ w' = w := by
  go_enter Try.func46, Try.ntmps46
  go_wp2_with fail
  go_ret
  exact ⟨rfl, rfl⟩
theorem rMet {r : Nat} {N K D : Int} {a : Option Addr} {cap : Nat} {l : List Int} (w : World) (h : IsR w r N K D a cap l) :
    Calls Try.prog 46 #[.pointer (some ⟨r, 0, none⟩)] w fun x w' => x = .returned (.bool (metB (lset l N) N K)) ∧ Below w.heap.size w w' := by
  have rd := h.row.ireads
  obtain ⟨c0, c1, c2, c3, _⟩ := h.cells
  have hlb := h.len255
  have hr := rd.room
  have HS : Hid (IsR w r N K D a cap l) := h
  have ML : Hid (metB (lset l N) N K = decide (quo N K ≤ (l.length : Int))) := by
    show metB (lset l N) N K = decide (quo N K ≤ (l.length : Int))
    unfold metB; rw [← hlb.1]
  have hb2 := hlb.2
  clear rd h hlb
  rw [ML.out]
  go_enter Try.func46, Try.ntmps46
  go_wp2_with fail
  refine (rSize_ok N K D w HS.out.ok).mono ?_
  rintro e w1 ⟨rfl, b1⟩
  obtain ⟨_, _, _, d3, _⟩ := (HS.out.by b1).cells
  go_wp2_with fail
  go_ret
  exact ⟨rfl, b1⟩
theorem rNew_ok (N K D : Int) (w : World) (h : okC N K D) : Calls Try.prog 38 #[.agg #[.int .i64 N, .int .i64 K, .int .i64 D]] w fun x w' => ∃ b, w.heap.size ≤ b ∧ x = .returned (.tuple #[.pointer (some ⟨b, 0, none⟩), .int .i64 0]) ∧ IsR w' b N K D none 0 [] ∧ Below w.heap.size w w' := by
  have B1 : Hid (Below w.heap.size w (w.alloc (Obj.cells #[.int .i64 N, .int .i64 K, .int .i64 D] 23))) := (Below.refl _ _).alloc (Nat.le_refl _) _
  go_enter Try.func38, Try.ntmps38
  go_wp2_with fail
  refine (rCheck N K D _).mono ?_
  rw [errC_ok h]
  rintro e w1 ⟨rfl, b1⟩
  have c0 : w1.cell? ⟨w.heap.size, 0, none⟩ = some (.int .i64 N) := (b1.cell (by simp)).trans (by simp)
  have c1 : w1.cell? ⟨w.heap.size, 1, none⟩ = some (.int .i64 K) := (b1.cell (by simp)).trans (by simp)
  have c2 : w1.cell? ⟨w.heap.size, 2, none⟩ = some (.int .i64 D) := (b1.cell (by simp)).trans (by simp)
  have sz := b1.size
  simp at sz
  go_wp2_with fail
  go_ret2
  exact ⟨w1.heap.size, by omega, rfl, ⟨heap_alloc_new _ _, Row.nil _ _, h, fun _ q => absurd q (by simp), List.nodup_nil⟩, (B1.out.trans (b1.mono (by simp))).alloc (by omega) _⟩
theorem rNew_not (N K D : Int) (w : World) (h : ¬ okC N K D) : Calls Try.prog 38 #[.agg #[.int .i64 N, .int .i64 K, .int .i64 D]] w fun x w' => x = .returned (.tuple #[.pointer none, .int .i64 40]) ∧ Below w.heap.size w w' := by
  have B1 : Hid (Below w.heap.size w (w.alloc (Obj.cells #[.int .i64 N, .int .i64 K, .int .i64 D] 23))) := (Below.refl _ _).alloc (Nat.le_refl _) _
  go_enter Try.func38, Try.ntmps38
  go_wp2_with fail
  refine (rCheck N K D _).mono ?_
  rw [errC_not h]
  rintro e w1 ⟨rfl, b1⟩
  go_wp2_with fail
  go_ret2
  exact ⟨rfl, B1.out.trans (b1.mono (by simp))⟩
end Go.Proofs.Ythcnpijgfhinhaa
