import Derived.Test.YtbnnmelkbjkkjaaAlike
namespace Go.Proofs.Ytbnnmelkbjkkjaa
open Go.RowKit

/-- The row that is written over: where it lies, and how long it is. -/
structure OV (w wr : World) (a : Option Addr) (c : Nat) : Prop where
  kept : Kept (fun k => blockOf a = some k) w wr
  row : 0 < c → ∃ g cs, a = some ⟨g, 0, none⟩ ∧ wr.heap[g]? = some (.cells cs 5 (0, 0)) ∧ cs.size = c
set_option maxRecDepth 100000 in
set_option maxHeartbeats 1000000 in
theorem over (base : Nat) (a : Option Addr) (n c : Nat) (xs : List Value) (w : World) (o : w.ownsRow base 5 1 (.slice a n c) n xs) :
    Calls Try.prog 27 #[.slice a n c] w fun x w' => x = .returned (.tuple #[]) ∧ Kept (fun k => blockOf a = some k) w w' := by
  have H : Hid (OV w w a c) := by
    refine ⟨Kept.refl _ _, fun h0 => ?_⟩
    rcases o.2 with ⟨e, _⟩ | ⟨g, cap, cur, e, hb, hg, hk, hm, hs, ht⟩
    · simp at e; omega
    · simp at e
      obtain ⟨rfl, _, rfl⟩ := e
      exact ⟨g, cur, rfl, hg, by omega⟩
  have hc : c ≤ maxLen ∧ n ≤ c := by
    rcases o.2 with ⟨e, _⟩ | ⟨g, cap, cur, e, hb, hg, hk, hm, hs, ht⟩
    · simp at e
      obtain ⟨_, rfl, rfl⟩ := e
      exact ⟨Nat.zero_le _, Nat.le_refl _⟩
    · simp at e
      obtain ⟨rfl, _, rfl⟩ := e
      exact ⟨hm, hk⟩
  obtain ⟨hc1, hc2⟩ := hc
  unfold maxLen at hc1
  clear o
  have b1 : (0 : Int) ≤ (c : Int) := by omega
  have b2 : (c : Int) ≤ (c : Int) := by omega
  go_enter Try.func27, Try.ntmps27
  go_wp2_with fail
  go_loopw [3] (fun x wr => ∃ i : Nat, x = .int .i64 (i : Int) ∧ i ≤ c ∧ Hid (OV w wr a c)) (fun x _ => c - (intOf x).toNat)
  case atStart => exact ⟨0, rfl, Nat.zero_le _, H.out⟩
  case round =>
    obtain ⟨i, rfl, hi, S⟩ := hrel
    by_cases hlt : i < c
    · have i1 : (i : Int) < (c : Int) := by omega
      obtain ⟨g, cs, rfl, hg, hs⟩ := S.out.row (by omega)
      obtain ⟨v, hv⟩ : ∃ v, cs[i]? = some v := ⟨_, Array.getElem?_eq_getElem (by omega)⟩
      have e1 : wr.cell? ⟨g, i, none⟩ = some v := cell_blk hg i hv
      have e2 : wr.frozen? ⟨g, i, none⟩ = false := soft_blk hg i
      have S2 : Hid (OV w (wr.setCell ⟨g, i, none⟩ (.int .u8 7)) (some ⟨g, 0, none⟩) c) := by
        refine ⟨S.out.kept.setCell (p := ⟨g, i, none⟩) (fun _ => rfl) _, fun _ => ⟨g, _, rfl, set_heap hg i _, by simp [hs]⟩⟩
      clear hg hs hv
      go_wp2_with fail
      go_roundw
      case rel => exact ⟨i + 1, by go_num, by omega, S2.out⟩
      case measure => simp [intOf]; omega
    · have i1 : ¬ (i : Int) < (c : Int) := by omega
      go_wp2_with fail
      go_end0
      exact ⟨rfl, S.out.kept⟩
end Go.Proofs.Ytbnnmelkbjkkjaa
