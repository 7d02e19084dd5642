import Derived.Test.YtojepeefphbekaaGreatFragJ
namespace Go.Proofs.YtojepeefphbekaaGreat
open Go.RowKit

/-- A number modulo k, as the statements reckon it. -/
theorem md (d k : Int) (h0 : 0 < k) (h1 : k < 1000) : (wrap64 (d.tmod k + k)).tmod k = d % k := by
  have t1 := Int.tmod_lt_of_pos d h0
  have t2 : -k < d.tmod k := by
    rcases Int.le_total 0 d with h | h
    · have := Int.tmod_nonneg k h; omega
    · have := Int.tmod_lt_of_pos (-d) h0
      rw [Int.neg_tmod] at this
      omega
  have e1 : wrap64 (d.tmod k + k) = d.tmod k + k := by unfold wrap64; omega
  rw [e1, Int.tmod_eq_emod_of_nonneg (by omega)]
  have e2 := Int.mul_tdiv_add_tmod d k
  have e3 : d.tmod k + k = d + (1 - d.tdiv k) * k := by
    rw [Int.sub_mul, Int.one_mul, Int.mul_comm (d.tdiv k) k]
    omega
  rw [e3, Int.add_mul_emod_self_right]
theorem small (d : Int) (w : World) : Calls Tryz.prog 8 #[.int .i64 d] w fun o w' => o = .returned (.int .i64 (d % 5)) ∧ w' = w := by
  go_enter Tryz.func8, Tryz.ntmps8
  go_wp2_with fail
  go_ret
  exact ⟨by rw [← md d 5 (by omega) (by omega)]; rfl, rfl⟩
/-- One of three keys. -/
def key3 (d : Int) : ByteArray := if d % 3 = 0 then ⟨#[97]⟩ else if d % 3 = 1 then ⟨#[97, 98]⟩ else ⟨#[98]⟩
theorem keyOf3 (d : Int) (w : World) : Calls Tryz.prog 20 #[.int .i64 d] w fun o w' => o = .returned (.string (key3 d)) ∧ Kept (fun _ => False) w w' := by
  have e := md d 3 (by omega) (by omega)
  have KZ : Hid (∀ o, Kept (fun _ => False) w (w.alloc o)) := fun _ => k0_alloc _ _
  have r0 := Int.emod_nonneg d (show (3 : Int) ≠ 0 by omega)
  have r1 := Int.emod_lt_of_pos d (show (0 : Int) < 3 by omega)
  have KE : Hid (key3 d = if d % 3 = 0 then ⟨#[97]⟩ else if d % 3 = 1 then ⟨#[97, 98]⟩ else ⟨#[98]⟩) := rfl
  by_cases h0 : d % 3 = 0
  · rw [h0] at e
    have K0 : Hid (key3 d = ⟨#[97]⟩) := by rw [KE.out, if_pos h0]; rfl
    clear r0 r1 h0
    go_enter Tryz.func20, Tryz.ntmps20
    go_wp2_with fail
    go_ret
    exact ⟨by rw [K0.out]; rfl, KZ.out _⟩
  · by_cases h1 : d % 3 = 1
    · rw [h1] at e
      have K0 : Hid (key3 d = ⟨#[97, 98]⟩) := by rw [KE.out, if_neg h0, if_pos h1]; rfl
      clear r0 r1 h0 h1
      go_enter Tryz.func20, Tryz.ntmps20
      go_wp2_with fail
      go_ret
      exact ⟨by rw [K0.out]; rfl, KZ.out _⟩
    · have h2 : d % 3 = 2 := by omega
      rw [h2] at e
      have K0 : Hid (key3 d = ⟨#[98]⟩) := by rw [KE.out, if_neg h0, if_neg h1]; rfl
      clear r0 r1 h0 h1 h2
      go_enter Tryz.func20, Tryz.ntmps20
      go_wp2_with fail
      go_ret
      exact ⟨by rw [K0.out]; rfl, KZ.out _⟩
/-- A move's tag. -/
def tag60 (c k : Int) : Int × Int := (c % 12 + 1, k % 5 + 1)
theorem tagOf (key : Int) (fin both : Bool) (c k : Int) (w : World) : Calls Tryz.prog 39 #[.agg #[.int .i64 key, .bool fin, .bool both, .int .i64 c, .int .i64 k]] w fun o w' => o = .returned (.agg #[.int .i64 (c % 12 + 1), .int .i64 (k % 5 + 1)]) ∧ Kept (fun _ => False) w w' := by
  have e1 := md c 12 (by omega) (by omega)
  have e2 := md k 5 (by omega) (by omega)
  have a0 := Int.emod_nonneg c (show (12 : Int) ≠ 0 by omega)
  have a1 := Int.emod_lt_of_pos c (show (0 : Int) < 12 by omega)
  have b0 := Int.emod_nonneg k (show (5 : Int) ≠ 0 by omega)
  have b1 := Int.emod_lt_of_pos k (show (0 : Int) < 5 by omega)
  obtain ⟨u, hu⟩ : ∃ u, c % 12 = u := ⟨_, rfl⟩
  obtain ⟨v, hv⟩ : ∃ v, k % 5 = v := ⟨_, rfl⟩
  rw [hu] at e1 a0 a1 ⊢
  rw [hv] at e2 b0 b1 ⊢
  have w1 : wrap64 (u + 1) = u + 1 := by unfold wrap64; omega
  have w2 : wrap64 (v + 1) = v + 1 := by unfold wrap64; omega
  obtain ⟨W, hW⟩ : ∃ W, W = (w.alloc (.cells #[.int .i64 key, .bool fin, .bool both, .int .i64 c, .int .i64 k] 28)).alloc (.cells #[.int .i64 0, .int .i64 0] 37) := ⟨_, rfl⟩
  have H : Hid (TagAt W (w.heap.size + 1) 0 0 ∧ Kept (fun _ => False) w W) := by
    rw [hW]
    exact ⟨⟨two1 _ _ _⟩, ((Kept.refl _ w).alloc _).alloc _⟩
  have EW : Hid (W = (w.alloc (.cells #[.int .i64 key, .bool fin, .bool both, .int .i64 c, .int .i64 k] 28)).alloc (.cells #[.int .i64 0, .int .i64 0] 37)) := hW
  have bx : W.heap[w.heap.size]? = some (.cells #[.int .i64 key, .bool fin, .bool both, .int .i64 c, .int .i64 k] 28 (0, 0)) := by rw [hW]; exact two0 _ _ _
  have c3 := cell_blk bx 3 (v := .int .i64 c) rfl
  have c4 := cell_blk bx 4 (v := .int .i64 k) rfl
  obtain ⟨t0, t1, f0, f1⟩ := H.out.1.facts
  clear hW bx hu hv a0 a1 b0 b1
  go_enter Tryz.func39, Tryz.ntmps39
  go_upto_region 1 with fail
  rw [← EW.out]
  go_wp2_with fail
  refine bodyPost_ret (results_tag rfl _ _ _ (u + 1) (v + 1) rfl ((H.out.1.set0 _).set1 _)) rfl ⟨rfl, ?_⟩
  exact (H.out.2.setCell (p := ⟨w.heap.size + 1, 0, none⟩) (fun z => by have z : w.heap.size + 1 < w.heap.size := z; omega) _).setCell (p := ⟨w.heap.size + 1, 1, none⟩) (fun z => by have z : w.heap.size + 1 < w.heap.size := z; omega) _
end Go.Proofs.YtojepeefphbekaaGreat
