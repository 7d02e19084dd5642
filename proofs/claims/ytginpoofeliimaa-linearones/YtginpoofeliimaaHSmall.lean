import Derived.Test.YtginpoofeliimaaNOneW
import Derived.Deep.Upon
namespace Go.Proofs.Ytginpoofeliimaa
open Go.RowKit 

theorem md (d k : Int) (h0 : 0 < k) (h1 : k < 1000) : (wrap64 (d.tmod k + k)).tmod k = d % k := by
  have t1 := Int.tmod_lt_of_pos d h0
  have t2 : -k < d.tmod k := by
    rcases Int.le_total 0 d with h | h
    · have := Int.tmod_nonneg k h; omega
    · have := Int.tmod_lt_of_pos (-d) h0
      rw [Int.neg_tmod] at this
      omega
  have e1 : wrap64 (d.tmod k + k) = d.tmod k + k := by unfold wrap64; omega
  rw [e1, Int.tmod_eq_emod_of_nonneg (by omega)]
  have e2 := Int.mul_tdiv_add_tmod d k
  have e3 : d.tmod k + k = d + (1 - d.tdiv k) * k := by
    rw [Int.sub_mul, Int.one_mul, Int.mul_comm (d.tdiv k) k]
    omega
  rw [e3, Int.add_mul_emod_self_right]
theorem modC (d k : Int) (h0 : 0 < k) (h1 : k < 1000) (w : World) : Calls Try.prog 10 #[.int .i64 d, .int .i64 k] w fun o w' => o = .returned (.int .i64 (d % k)) ∧ w' = w := by
  have e := md d k h0 h1
  have w1 : wrap64 (d.tmod k) = d.tmod k := by
    have t1 := Int.tmod_lt_of_pos d h0
    have t2 : -k < d.tmod k := by
      rcases Int.le_total 0 d with h | h
      · have := Int.tmod_nonneg k h; omega
      · have := Int.tmod_lt_of_pos (-d) h0
        rw [Int.neg_tmod] at this
        omega
    unfold wrap64; omega
  have w2 : wrap64 (d % k) = d % k := by
    have t1 := Int.emod_lt_of_pos d h0
    have t2 := Int.emod_nonneg d (show k ≠ 0 by omega)
    unfold wrap64; omega
  have ne : ¬ k = 0 := by omega
  go_enter Try.func10, Try.ntmps10
  go_wp2_with fail
  go_ret
  exact ⟨by first | rfl | simp, rfl⟩
theorem mustC (m : Cm) (w : World) : Calls Try.prog 25 #[m.agg] w fun o w' => o = .returned (.bool m.cl.must) ∧ Kept (fun _ => False) w w' := by
  obtain ⟨cl, op, pu, ke, va, vn, vc, st, fr, too, on, tx, ty, vl⟩ := m
  have E : Cl.must (Cm.cl ⟨cl, op, pu, ke, va, vn, vc, st, fr, too, on, tx, ty, vl⟩) = ((pu || (decide (0 ≤ too) && (decide (st = 0) || decide (st = 76)))) && !(pu && on)) := rfl
  rw [E]
  unfold Cm.agg
  dsimp only
  obtain ⟨b2, h2⟩ : ∃ b, (st == 0) = b := ⟨_, rfl⟩
  obtain ⟨b3, h3⟩ : ∃ b, (st == 76) = b := ⟨_, rfl⟩
  have e2 : decide (st = 0) = b2 := h2
  have e3 : decide (st = 76) = b3 := h3
  rw [e2, e3]
  clear E e2 e3
  go_enter Try.func25, Try.ntmps25
  cases pu
  · by_cases h1 : 0 ≤ too
    · cases b2
      · go_wp2_with fail
        go_ret
        exact ⟨by simp [h1], (Kept.refl _ _).alloc _⟩
      · go_wp2_with fail
        go_ret
        exact ⟨by simp [h1], (Kept.refl _ _).alloc _⟩
    · have h1' : decide (0 ≤ too) = false := decide_eq_false h1
      rw [h1']
      go_wp2_with fail
      go_ret
      exact ⟨by simp, (Kept.refl _ _).alloc _⟩
  · go_wp2_with fail
    go_ret
    exact ⟨by simp, (Kept.refl _ _).alloc _⟩
theorem mayC (m : Cm) (w : World) : Calls Try.prog 26 #[m.agg] w fun o w' => o = .returned (.bool (m.put && m.opn)) ∧ Kept (fun _ => False) w w' := by
  obtain ⟨cl, op, pu, ke, va, vn, vc, st, fr, too, on, tx, ty, vl⟩ := m
  unfold Cm.agg
  dsimp only
  go_enter Try.func26, Try.ntmps26
  cases pu
  · go_wp2_with fail
    go_ret
    exact ⟨rfl, (Kept.refl _ _).alloc _⟩
  · go_wp2_with fail
    go_ret
    exact ⟨by simp, (Kept.refl _ _).alloc _⟩
def sb (s : ByteArray) : List Nat := s.data.toList.map (fun b => b.toNat)
theorem sb_length (s : ByteArray) : (sb s).length = s.size := by
  unfold sb
  rw [List.length_map]
  exact Array.length_toList
theorem sb_bytes (s : ByteArray) : ∀ c ∈ sb s, c < 256 := fun c hc => by
  obtain ⟨b, _, rfl⟩ := List.mem_map.1 hc
  exact b.toNat_lt
theorem bytesRow_size (s : ByteArray) (cap : Nat) (h : s.size ≤ cap) : (bytesRow s cap).size = cap := by
  unfold bytesRow
  rw [Array.size_append, Array.size_map, Array.size_replicate]
  show s.size + _ = _
  omega
/-- '[]byte(s)'. -/
theorem convert_bytes (s : ByteArray) (w : World) (hs : s.size ≤ 140737488355328) : ∃ c w', (convert 9 29 (.string s)).run Try.prog w = .ok (.slice (some ⟨w.heap.size, 0, none⟩) s.size c) w' ∧ Reads w' (some ⟨w.heap.size, 0, none⟩) s.size c (sb s) ∧ Kept (fun _ => False) w w' ∧ w.heap.size < w'.heap.size := by
  have hge := grownCap_ge w s.size 0 5
  refine ⟨_, _, run_bytes_of_string (P := Try.prog) w 9 29 5 s Try.underlying9 Try.underlying29 Try.underlying5, ⟨sb_length s, hge, grownCap_le_maxLen w _ _ _ (by unfold maxLen; omega), sb_bytes s, fun _ => ⟨w.heap.size, 0, rfl, fun i hi => ?_⟩⟩, ((Kept.refl _ w).drew).alloc _, by simp⟩
  rw [cell_of_row _ w.heap.size (0 + i) _ 5 _ (heap_alloc_new w.drew _), Nat.zero_add]
  have hi3 : i < (s.data.map (fun b => Value.int .u8 b.toNat)).size := by simpa using hi
  unfold bytesRow
  rw [Array.getElem?_append_left hi3]
  have hi4 : i < s.data.size := hi
  simp [sb, List.getD_eq_getElem?_getD]
  rw [Array.getElem?_eq_getElem hi4]
  exact ⟨_, rfl, rfl⟩
end Go.Proofs.Ytginpoofeliimaa
