import Derived.Test.YtbnnmelkbjkkjaaRedo
namespace Go.Proofs.Ytbnnmelkbjkkjaa
open Go.RowKit

/-- A list of numbers that can be read. -/
structure IRd (w : World) (q : Option Addr) (n c : Nat) (cs : List Int) : Prop where
  length : cs.length = n
  room : n ≤ c
  small : c ≤ maxLen
  fits : ∀ x ∈ cs, -9223372036854775808 ≤ x ∧ x < 9223372036854775808
  cells : 0 < n → ∃ b off, q = some ⟨b, off, none⟩ ∧ ∀ i x, cs[i]? = some x → w.cell? ⟨b, off + i, none⟩ = some (.int .i64 x)
theorem IRd.off {S : Nat → Prop} {w w' : World} {q : Option Addr} {n c : Nat} {cs : List Int} (h : IRd w q n c cs) (K : Kept S w w') (hn : 0 < n → ∀ k, blockOf q = some k → ¬ S k) : IRd w' q n c cs := by
  refine ⟨h.length, h.room, h.small, h.fits, fun h0 => ?_⟩
  obtain ⟨b, off, e, hc⟩ := h.cells h0
  exact ⟨b, off, e, fun i x hx => K.cell (hc i x hx) (hn h0 b (by rw [e]; rfl))⟩
theorem IRd.kept0 {w w' : World} {q : Option Addr} {n c : Nat} {cs : List Int} (h : IRd w q n c cs) (K : Kept (fun _ => False) w w') : IRd w' q n c cs := h.off K (fun _ _ _ z => z)
theorem IRd.nil (w : World) : IRd w none 0 0 [] := ⟨rfl, Nat.le_refl _, by unfold maxLen; omega, fun _ h => absurd h (by simp), fun h => absurd h (by omega)⟩
/-- All but the first of them. -/
theorem IRd.rest {w : World} {q : Option Addr} {n c : Nat} {x : Int} {r : List Int} (h : IRd w q n c (x :: r)) :
    ∃ p c', (∀ W : World, (Instr.slice 24 (.slice q n c) (some (.int .i64 1)) none none).run Try.prog W = .ok (.slice p (n - 1) c') W) ∧ IRd w p (n - 1) c' r ∧ ∀ k, blockOf p = some k → blockOf q = some k := by
  have hr := h.room
  have hs := h.small
  have hlen := h.length
  simp only [List.length_cons] at hlen
  unfold maxLen at hs
  obtain ⟨b, off, rfl, hc⟩ := h.cells (by omega)
  have h1 : 1 ≤ n := by omega
  by_cases hcap : c = 1
  · refine ⟨some ⟨b, off, none⟩, 0, fun W => ?_, ⟨by omega, by omega, by unfold maxLen; omega, fun y hy => h.fits y (List.mem_cons_of_mem _ hy), fun z => absurd z (by omega)⟩, fun k hk => hk⟩
    simp [Instr.slice, Instr.sliceBounds, Instr.sliceBound, asIntOf, run_underlying Try.underlying24]
    rw [if_pos (by omega), if_pos hcap, hcap]
  · refine ⟨some ⟨b, off + 1, none⟩, c - 1, fun W => ?_, ⟨by omega, by omega, by unfold maxLen; omega, fun y hy => h.fits y (List.mem_cons_of_mem _ hy), fun _ => ⟨b, off + 1, rfl, fun i y hy => ?_⟩⟩, fun k hk => hk⟩
    · simp [Instr.slice, Instr.sliceBounds, Instr.sliceBound, asIntOf, run_underlying Try.underlying24]
      rw [if_pos (by omega), if_neg hcap, Addr.add_none]
    · have := hc (i + 1) y (by simpa using hy)
      rw [show off + 1 + i = off + (i + 1) by omega]
      exact this
/-- One choice among m, and what is left of the list. -/
def nextC (cs : List Int) (m : Nat) : Nat × List Int := match cs with
  | [] => (0, [])
  | x :: r => ((x % (m : Int)).toNat, r)
theorem nextC_lt (cs : List Int) (m : Nat) (hm : 0 < m) : (nextC cs m).1 < m := by
  cases cs with
  | nil => exact hm
  | cons x r =>
    have h1 := Int.emod_nonneg x (show (m : Int) ≠ 0 by omega)
    have h2 := Int.emod_lt_of_pos x (show (0 : Int) < (m : Int) by omega)
    show (x % (m : Int)).toNat < m
    omega
/-- The list of choices that is left, in its variable. -/
structure PK (w : World) (P T : Nat) (cs : List Int) : Prop where
  ex : ∃ q n c, w.heap[P]? = some (.cells #[.slice q n c] 75 (0, 0)) ∧ IRd w q n c cs ∧ (0 < n → ∀ k, blockOf q = some k → k ≠ P ∧ k < T)
theorem PK.lt {w : World} {P T : Nat} {cs : List Int} (h : PK w P T cs) : P < w.heap.size := by
  obtain ⟨_, _, _, b, _⟩ := h.ex; exact block_lt b
set_option maxRecDepth 100000 in
set_option maxHeartbeats 1000000 in
theorem next (P T : Nat) (cs : List Int) (m : Nat) (w : World) (h : PK w P T cs) (hm : 0 < m) (hb : m < 9223372036854775808) :
    Calls Try.prog 59 #[.pointer (some ⟨P, 0, none⟩), .int .i64 (m : Int)] w fun x w' => x = .returned (.int .i64 ((nextC cs m).1 : Int)) ∧ PK w' P T (nextC cs m).2 ∧ Kept (fun k => k = P) w w' := by
  obtain ⟨q, n, c, bk, r, hq⟩ := h.ex
  have c0 := cell_blk bk 0 rfl
  have s0 := soft_blk bk 0
  have hr := r.room
  have hs := r.small
  have hl := r.length
  unfold maxLen at hs
  have H : Hid (PK w P T cs ∧ w.heap[P]? = some (.cells #[.slice q n c] 75 (0, 0))) := ⟨h, bk⟩
  cases cs with
  | nil =>
    simp only [List.length_nil] at hl
    subst hl
    clear h bk hq r
    go_enter Try.func59, Try.ntmps59
    go_wp2_with fail
    go_ret
    exact ⟨rfl, H.out.1, Kept.refl _ _⟩
  | cons x rr =>
    simp only [List.length_cons] at hl
    obtain ⟨p, c', slc, rd, hp⟩ := r.rest
    obtain ⟨b, off, rfl, hc⟩ := r.cells (by omega)
    have d0 := hc 0 x rfl
    rw [Nat.add_zero] at d0
    have hx := r.fits x List.mem_cons_self
    have m0 : ¬ ((m : Int) = 0) := by omega
    have n0 : ¬ ((n : Int) = 0) := by omega
    have n0' : ¬ (n = 0) := by omega
    have n1 : (0 : Int) < (n : Int) := by omega
    have t1 := Int.tmod_lt_of_pos x (show (0 : Int) < (m : Int) by omega)
    have t2 : -(m : Int) < x.tmod (m : Int) := by
      rcases Int.le_total 0 x with h1 | h1
      · have := Int.tmod_nonneg (m : Int) h1; omega
      · have := Int.tmod_lt_of_pos (-x) (show (0 : Int) < (m : Int) by omega)
        rw [Int.neg_tmod] at this
        omega
    obtain ⟨t, ht⟩ : ∃ t, x.tmod (m : Int) = t := ⟨_, rfl⟩
    have em : x % (m : Int) = if t < 0 then t + (m : Int) else t := by
      rw [← ht, Int.tmod_eq_emod]
      have e1 := Int.emod_nonneg x (show (m : Int) ≠ 0 by omega)
      have e2 := Int.emod_lt_of_pos x (show (0 : Int) < (m : Int) by omega)
      have e3 : ((m : Int).natAbs : Int) = (m : Int) := by omega
      by_cases h1 : 0 ≤ x ∨ (m : Int) ∣ x
      · rw [if_pos h1]
        rw [if_neg (by omega)]
        omega
      · rw [if_neg h1, e3, if_pos (by omega)]
        omega
    have PW : Hid (PK (w.setCell ⟨P, 0, none⟩ (.slice p (n - 1) c')) P T rr ∧ Kept (fun k => k = P) w (w.setCell ⟨P, 0, none⟩ (.slice p (n - 1) c'))) := by
      have K : Kept (fun k => k = P) w (w.setCell ⟨P, 0, none⟩ (.slice p (n - 1) c')) := (Kept.refl (fun k => k = P) w).setCell (p := ⟨P, 0, none⟩) (fun _ => rfl) _
      refine ⟨⟨p, n - 1, c', set_heap bk 0 _, rd.off K (fun h0 k hk z => (hq (by omega) k (hp k hk)).1 z), fun h0 k hk => hq (by omega) k (hp k hk)⟩, K⟩
    rw [ht] at t1 t2
    clear h bk hq r rd hp hc
    by_cases hneg : t < 0
    · rw [if_pos hneg] at em
      obtain ⟨u, hu⟩ : ∃ u : Nat, t + (m : Int) = (u : Int) := ⟨(t + (m : Int)).toNat, by omega⟩
      have wu : IntKind.i64.wrap (t + (m : Int)) = (u : Int) := by rw [IntKind.wrap_i64]; omega
      have en : Hid ((nextC (x :: rr) m).1 = u) := by show (x % (m : Int)).toNat = u; omega
      clear em hu
      go_enter Try.func59, Try.ntmps59
      go_wp2_with fail
      go_ret
      exact ⟨by rw [en.out]; rfl, PW.out.1, PW.out.2⟩
    · rw [if_neg hneg] at em
      obtain ⟨u, hu⟩ : ∃ u : Nat, t = (u : Int) := ⟨t.toNat, by omega⟩
      have en : Hid ((nextC (x :: rr) m).1 = u) := by show (x % (m : Int)).toNat = u; omega
      subst hu
      clear em
      go_enter Try.func59, Try.ntmps59
      go_wp2_with fail
      go_ret
      exact ⟨by rw [en.out]; rfl, PW.out.1, PW.out.2⟩
end Go.Proofs.Ytbnnmelkbjkkjaa
