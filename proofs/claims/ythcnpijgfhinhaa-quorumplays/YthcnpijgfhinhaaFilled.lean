import Derived.Test.YthcnpijgfhinhaaAnd
namespace Go.Proofs.Ythcnpijgfhinhaa
open Go.RowKit

/-- The servers of a list. -/
def lset (l : List Int) (N : Int) : Nat → Bool := fun i => decide ((i : Int) < N) && decide ((i : Int) ∈ l)
theorem lset_nil (N : Int) : lset [] N = fun _ => false := by funext i; simp [lset]
theorem lset_congr (l m : List Int) (N : Int) (h : ∀ x, x ∈ l ↔ x ∈ m) : lset l N = lset m N := by
  funext i; unfold lset; rw [decide_eq_decide.2 (h (i : Int))]
theorem lset_in (l : List Int) (N x : Int) (h : inN N x = true) : Q.put (lset l N) x.toNat = lset (x :: l) N := by
  have h' : 0 ≤ x ∧ x < N := by unfold inN at h; exact of_decide_eq_true h
  funext i
  unfold Q.put lset
  by_cases e : i = x.toNat
  · have e2 : (i : Int) = x := by omega
    have e3 : (i : Int) < N := by omega
    rw [decide_eq_true e, decide_eq_true e3, decide_eq_true (show (i : Int) ∈ x :: l by rw [e2]; exact List.mem_cons_self)]
    simp
  · have e2 : ¬ (i : Int) = x := by omega
    simp [e, e2]
theorem lset_out (l : List Int) (N x : Int) (h : inN N x = false) : lset (x :: l) N = lset l N := by
  have h' : ¬ (0 ≤ x ∧ x < N) := by unfold inN at h; exact of_decide_eq_false h
  funext i
  unfold lset
  by_cases e : (i : Int) < N
  · have e2 : ¬ (i : Int) = x := by omega
    simp [e2]
  · simp [e]
theorem lset_mem (l : List Int) (N x : Int) : memI (lset l N) x = (inN N x && decide (x ∈ l)) := by
  unfold memI lset inN
  by_cases h : 0 ≤ x
  · have e : ((x.toNat : Nat) : Int) = x := by omega
    rw [e]; simp [h]
  · simp [h]
/-- What Add makes of a set. -/
def addM (m : Nat → Bool) (N s : Int) : Nat → Bool := if inN N s then Q.put m s.toNat else m
theorem addM_lset (l : List Int) (N x : Int) : addM (lset l N) N x = lset (x :: l) N := by
  unfold addM
  cases h : inN N x
  · rw [lset_out l N x h]; rfl
  · rw [← lset_in l N x h]; rfl
theorem add_any {b : Nat} {N K D : Int} {m : Nat → Bool} (s : Int) (w : World) (h : IsS w b N K D m) : Calls Try.prog 12 #[.pointer (some ⟨b, 0, none⟩), .int .i64 s] w fun x w' => x = .returned (.tuple #[.bool (inN N s && !memI m s), .int .i64 (if inN N s then 0 else 51)]) ∧ IsS w' b N K D (addM m N s) ∧ Kept (fun k => k = b) w w' := by
  unfold addM
  cases e : inN N s
  · refine (add_out s w h e).mono ?_
    rintro x w' ⟨rfl, rfl⟩
    exact ⟨rfl, h, Kept.refl _ _⟩
  · refine (add_in s w h e).mono ?_
    rintro x w' ⟨rfl, h1, h2⟩
    exact ⟨rfl, h1, h2⟩
theorem cnt_all (m : Nat → Bool) (n : Nat) (h : ∀ i, i < n → m i = true) : Q.cnt m n = n := by
  induction n with
  | zero => rfl
  | succ n ih =>
    simp only [Q.cnt]
    rw [ih (fun i hi => h i (by omega)), h n (by omega)]; rfl
theorem cnt_both (m k : Nat → Bool) (n : Nat) : Q.cnt m n + Q.cnt k n ≤ n + Q.cnt (fun i => m i && k i) n := by
  induction n with
  | zero => exact Nat.le_refl _
  | succ n ih =>
    simp only [Q.cnt]
    cases m n <;> cases k n <;> simp <;> omega
/-- Where filled stands. -/
structure Fs (w wr : World) (b : Nat) (N K D : Int) (m : Nat → Bool) : Prop where
  set : IsS wr b N K D m
  cfg : wr.heap[w.heap.size]? = some (.cells #[.int .i64 N, .int .i64 K, .int .i64 D] 23 (0, 0))
  hb : w.heap.size < b
  bel : Below w.heap.size w wr
theorem Fs.cells {w wr : World} {b : Nat} {N K D : Int} {m : Nat → Bool} (f : Fs w wr b N K D m) : wr.cell? ⟨w.heap.size, 0, none⟩ = some (.int .i64 N) := cell_blk f.cfg 0 rfl
theorem Fs.by {w wr w' : World} {b : Nat} {N K D : Int} {m : Nat → Bool} (f : Fs w wr b N K D m) (B : Below wr.heap.size wr w') : Fs w w' b N K D m :=
  ⟨f.set.by B, (B.block _ (block_lt f.cfg)).trans f.cfg, f.hb, f.bel.trans (B.mono f.bel.size)⟩
theorem Fs.add {w wr w' : World} {b : Nat} {N K D : Int} {m m' : Nat → Bool} (f : Fs w wr b N K D m) (h : IsS w' b N K D m') (k : Kept (fun k => k = b) wr w') : Fs w w' b N K D m' :=
  ⟨h, k.get f.cfg (by have := f.hb; omega), f.hb, f.bel.trans (k.below f.bel.size (fun j e => by have := f.hb; omega))⟩
/-- The last i servers are in. -/
def lastIn (m : Nat → Bool) (N : Int) (i : Nat) : Prop := ∀ j : Nat, j < i → (j : Int) < N → m (N - 1 - (j : Int)).toNat = true
theorem lastIn_met (m : Nat → Bool) (N K D : Int) (h : okC N K D) (i : Nat) (hi : N ≤ (i : Int)) (hl : lastIn m N i) : metB m N K = true := by
  obtain ⟨h1, h2, h3, h4, h5⟩ := h
  have e : sz m N = N.toNat := cnt_all m N.toNat (fun j hj => by
    have := hl (N.toNat - 1 - j) (by omega) (by omega)
    have e : (N - 1 - ((N.toNat - 1 - j : Nat) : Int)).toNat = j := by omega
    rw [e] at this
    exact this)
  unfold metB quo
  rw [e]
  exact decide_eq_true (by omega)
set_option maxRecDepth 100000 in
set_option maxHeartbeats 2000000 in
theorem filled (N K D : Int) (a : Option Addr) (len cap : Nat) (l : List Int) (w : World) (h : okC N K D) (r : IReads w a len cap l) :
    Calls Try.prog 21 #[.agg #[.int .i64 N, .int .i64 K, .int .i64 D], .slice a len cap] w fun x w' => ∃ b m, w.heap.size ≤ b ∧ x = .returned (.pointer (some ⟨b, 0, none⟩)) ∧ IsS w' b N K D m ∧ metB m N K = true ∧ Below w.heap.size w w' := by
  have OK : Hid (okC N K D) := h
  have nb : 1 ≤ N ∧ N ≤ 255 := ⟨by have := h.1; have := h.2.1; omega, h.2.2.1⟩
  have hl := r.length
  have hr := r.room
  have hs := r.small
  unfold maxLen at hs
  have R : Hid (IReads w a len cap l) := r
  clear r h
  go_enter Try.func21, Try.ntmps21
  go_wp2_with fail
  refine (new_ok N K D _ OK.out).mono ?_
  rintro e w1 ⟨b, hb, rfl, hS, hB⟩
  have F0 : Hid (Fs w w1 b N K D (fun _ => false)) := ⟨hS, (hB.block _ (by simp)).trans (heap_alloc_new _ _), by simp at hb; omega, ((Below.refl _ _).alloc (Nat.le_refl _) _).trans (hB.mono (by simp))⟩
  clear hS hB hb
  go_wp2_with fail
  go_loopw [8, 17] (fun _ x wr => ∃ (i : Nat) (m : Nat → Bool), x = .int .i64 (i : Int) ∧ i ≤ len ∧ Hid (Fs w wr b N K D m)) (fun _ x _ => len - (intOf x).toNat)
  case atStart => exact ⟨0, _, rfl, Nat.zero_le _, F0⟩
  case round =>
    obtain ⟨i, m, rfl, hi, F⟩ := hrel
    by_cases hlt : i < len
    · obtain ⟨g, off, rfl, hc⟩ := R.out.cells (by omega)
      have e0 := hc i hlt
      have lb : g < w.heap.size := World.block_lt_of_cell? w _ e0
      obtain ⟨x, hx⟩ : ∃ x, l.getD i 0 = x := ⟨_, rfl⟩
      rw [hx] at e0
      have d0 : wr.cell? ⟨g, off + i, none⟩ = some (.int .i64 x) := (F.out.bel.cell lb).trans e0
      have i1 : (i : Int) < (len : Int) := by omega
      have c0 := F.out.cells
      obtain ⟨q, q0, q1, hq⟩ := modp x N nb
      obtain ⟨y, hy⟩ : ∃ y, x.tmod N = y := ⟨_, rfl⟩
      rw [hy] at hq
      obtain ⟨z, hz⟩ : ∃ z, wrap64 (y + N) = z := ⟨_, rfl⟩
      rw [hz] at hq
      have hz' : IntKind.i64.wrap (y + N) = z := by rw [IntKind.wrap_i64]; unfold wrap64 at hz; exact hz
      have nz : ¬ N = 0 := by omega
      have SF : Hid (Fs w wr.drew b N K D m) := F.out.by ((Below.refl _ _).drew)
      clear e0 hx hc
      go_wp2_with fail
      go_region_held3 (fun w' => w'.cell? ⟨w.heap.size, 0, none⟩ = some (.int .i64 N)) (go_keep)
        (first | (go_at_call 12; refine (add_in q _ SF.out.set (by unfold inN; exact decide_eq_true ⟨q0, q1⟩)).mono ?_; rintro e w3 ⟨rfl, h1, h2⟩; have SG : Hid (Fs w w3 b N K D (Q.put m q.toNat)) := SF.out.add h1 h2; have c1 := SG.out.cells; clear h1 h2) | fail)
      all_goals go_wp2_with fail
      all_goals go_roundw
      case rel => exact ⟨i + 1, _, by go_num, by omega, SG⟩
      case measure => simp [intOf]; omega
    · have he : len = i := by omega
      subst he
      go_wp2_with fail
      clear hlt hi F0
      go_loopw [9] (fun x wr => ∃ (j : Nat) (m : Nat → Bool), x = .int .i64 (j : Int) ∧ (j : Int) ≤ N ∧ Hid (Fs w wr b N K D m ∧ lastIn m N j)) (fun x _ => N.toNat - (intOf x).toNat)
      case atStart => exact ⟨0, m, rfl, by omega, F.out, fun j hj => by omega⟩
      case round =>
        clear F
        obtain ⟨j, m2, rfl, hj, F⟩ := hrel
        have c0 := F.out.1.cells
        by_cases hjn : (j : Int) < N
        · cases hm : metB m2 N K
          · go_wp2_with fail
            refine (met _ F.out.1.set).mono ?_
            rw [hm]
            rintro e w3 ⟨rfl, b3⟩
            have F3 : Hid (Fs w w3 b N K D m2) := F.out.1.by b3
            have c1 := F3.out.cells
            clear b3 c0
            go_wp2_with fail
            refine (add_in (N - 1 - (j : Int)) _ F3.out.set (by unfold inN; exact decide_eq_true (by omega))).mono ?_
            rintro e w4 ⟨rfl, h1, h2⟩
            have F4 : Hid (Fs w w4 b N K D (Q.put m2 (N - 1 - (j : Int)).toNat) ∧ lastIn (Q.put m2 (N - 1 - (j : Int)).toNat) N (j + 1)) := ⟨F3.out.add h1 h2, fun k hk hkn => by
              unfold Q.put
              by_cases e : k = j
              · subst e; simp
              · rw [F.out.2 k (by omega) hkn]; rfl⟩
            have c2 := F4.out.1.cells
            clear h1 h2 c1
            go_wp2_with fail
            go_roundw
            case rel => exact ⟨j + 1, _, by go_num, by omega, F4⟩
            case measure => simp [intOf]; omega
          · go_wp2_with fail
            refine (met _ F.out.1.set).mono ?_
            rw [hm]
            rintro e w3 ⟨rfl, b3⟩
            have F3 : Hid (Fs w w3 b N K D m2) := F.out.1.by b3
            clear b3 c0
            have hm' : Hid (metB m2 N K = true) := hm
            clear hm
            go_wp2_with fail
            go_ret
            exact ⟨b, m2, Nat.le_of_lt F3.out.hb, rfl, F3.out.set, hm'.out, F3.out.bel⟩
        · go_wp2_with fail
          go_ret
          exact ⟨b, Nat.le_of_lt F.out.1.hb, rfl, m2, F.out.1.set, lastIn_met m2 N K D OK.out j (by omega) F.out.2, F.out.1.bel⟩
end Go.Proofs.Ythcnpijgfhinhaa
