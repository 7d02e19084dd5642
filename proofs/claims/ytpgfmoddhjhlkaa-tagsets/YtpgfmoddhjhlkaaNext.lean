import Derived.Test.YtpgfmoddhjhlkaaCalls
namespace Go.Proofs.Ytpgfmoddhjhlkaa
open Go.RowKit

theorem next_end {a b u k p q e : Int} {w w1 : World} {tmps : Array Value} (B1 : Below w.heap.size w w1) (Z1 : TagAt w1 (w.heap.size + 1) 0 0) (hp : tmps.getD 6 undef = .pointer (some ⟨w.heap.size + 1, 0, none⟩)) (he : tmps.getD 7 undef = .int .i64 e) (hn : nextT a b u k = (p, q, e)) :
    bodyPost Try.prog Try.f6 (fun x w' => ∃ p q e, x = .returned (.tuple #[.agg #[.int .i64 p, .int .i64 q], .int .i64 e]) ∧ nextT a b u k = (p, q, e) ∧ Below w.heap.size w w') .ret { tmps := tmps, defers := [] }
      ((w1.setCell ⟨w.heap.size + 1, 0, none⟩ (.int .i64 p)).setCell ⟨w.heap.size + 1, 1, none⟩ (.int .i64 q)) := by
  refine bodyPost_ret (results_tag_tmp rfl _ _ _ p q hp ((Z1.set0 p).set1 q)) rfl ⟨p, q, e, by rw [he], hn, ?_⟩
  exact (B1.setCell (by simp) _).setCell (by simp) _
set_option maxHeartbeats 1000000 in
theorem next (a b u k : Int) (w : World) (ha : -9223372036854775808 ≤ a ∧ a < 9223372036854775808) (hu : -9223372036854775808 ≤ u ∧ u < 9223372036854775808) :
    Calls Try.prog 6 #[.agg #[.int .i64 a, .int .i64 b], .int .i64 u, .int .i64 k] w fun x w' => ∃ p q e, x = .returned (.tuple #[.agg #[.int .i64 p, .int .i64 q], .int .i64 e]) ∧ nextT a b u k = (p, q, e) ∧ Below w.heap.size w w' := by
  have B0 : Hid (Below w.heap.size w ((w.alloc (Obj.cells #[.int .i64 a, .int .i64 b] 24)).alloc (Obj.cells #[.int .i64 0, .int .i64 0] 24))) := ((Below.refl _ _).alloc (Nat.le_refl _) _).alloc (by simp) _
  have T0 : Hid (TagAt ((w.alloc (Obj.cells #[.int .i64 a, .int .i64 b] 24)).alloc (Obj.cells #[.int .i64 0, .int .i64 0] 24)) w.heap.size a b) := (TagAt.new w a b).alloc _
  have Z0 : TagAt ((w.alloc (Obj.cells #[.int .i64 a, .int .i64 b] 24)).alloc (Obj.cells #[.int .i64 0, .int .i64 0] 24)) (w.heap.size + 1) 0 0 := by simpa using TagAt.new (w.alloc (Obj.cells #[.int .i64 a, .int .i64 b] 24)) 0 0
  have Z0' : Hid (TagAt _ _ _ _) := Z0
  clear Z0
  go_enter Try.func6, Try.ntmps6
  go_wp2_with fail
  refine (valid a b _).mono ?_
  rintro x w1 ⟨rfl, B1⟩
  have T1 : Hid (TagAt w1 w.heap.size a b) := T0.out.by B1
  have Z1 : Hid (TagAt w1 (w.heap.size + 1) 0 0) := Z0'.out.by B1
  have B1 : Hid (Below w.heap.size w w1) := B0.out.trans (B1.mono (by simp; omega))
  obtain ⟨c0, c1, _, _⟩ := T1.out.facts
  obtain ⟨z0, z1, fz0, fz1⟩ := Z1.out.facts
  have s1 := T1.out.lt
  have s2 := Z1.out.lt
  clear B0 T0 Z0'
  cases hv : isZero a b || isProper a b
  · go_wp2_with fail
    exact next_end B1.out Z1.out rfl rfl (by simp [nextT, hv])
  · by_cases hu0 : u < 0
    · go_wp2_with fail
      exact next_end B1.out Z1.out rfl rfl (by simp [nextT, hv, hu0])
    · by_cases hu1 : 4611686018427387903 < u
      · go_wp2_with fail
        exact next_end B1.out Z1.out rfl rfl (by simp [nextT, hv, hu1])
      · cases hk : isClientB k
        · go_wp2_with (first | (go_at_call 23; refine (isClient _ _).mono ?_; rintro x w1 ⟨rfl, rfl⟩) | fail)
          exact next_end B1.out Z1.out rfl rfl (by simp [nextT, hv, hk])
        · have fin : Hid (nextT a b u k = (if 4611686018427387903 < nextCount a b u k then (0, 0, 42) else (nextCount a b u k, k, 0))) := by
            show nextT a b u k = _
            simp only [nextT, hv, hk]
            simp
            intro h; omega
          have amax : a ≤ 4611686018427387903 := by
            have h := hv
            simp [isZero, isProper] at h
            omega
          by_cases hm : a < u + 1
          · have hm' : Hid (nextFirst a u = u + 1) := by show nextFirst a u = u + 1; unfold nextFirst; split <;> omega
            go_wp2_with (first | (go_at_call 23; refine (isClient _ _).mono ?_; rintro x w1 ⟨rfl, rfl⟩) | fail)
            refine (compare (u + 1) k a b _).mono ?_
            rintro x w3 ⟨rfl, B3'⟩
            have N3 : Hid (TagAt w3 w1.heap.size (u + 1) k) := (TagAt.new w1 (u + 1) k).by B3'
            have Z3 : Hid (TagAt w3 (w.heap.size + 1) 0 0) := (Z1.out.alloc _).by B3'
            have B3 : Hid (Below w.heap.size w w3) := (B1.out.alloc (by omega) _).trans (B3'.mono (by simp; omega))
            clear B3'
            obtain ⟨n0, n1, fn0, fn1⟩ := N3.out.facts
            obtain ⟨y0, y1, fy0, fy1⟩ := Z3.out.facts
            have s3 := N3.out.lt
            by_cases ht : tcmp (u + 1) k a b ≤ 0
            · have hc : nextCount a b u k = u + 1 + 1 := by unfold nextCount; rw [hm'.out, if_pos ht]
              have fin' := fin.out
              rw [hc] at fin'
              have Z4 : TagAt (w3.setCell ⟨w1.heap.size, 0, none⟩ (.int .i64 (u + 1 + 1))) (w.heap.size + 1) 0 0 := Z3.out.other _ (by omega)
              have Z4 : Hid (TagAt _ _ _ _) := Z4
              have B4 : Below w.heap.size w (w3.setCell ⟨w1.heap.size, 0, none⟩ (.int .i64 (u + 1 + 1))) := B3.out.setCell (by simp; omega) _
              have B4 : Hid (Below _ _ _) := B4
              by_cases hf : 4611686018427387903 < u + 1 + 1
              · rw [if_pos hf] at fin'
                have fin' : Hid (nextT a b u k = _) := fin'
                clear hc
                go_wp2_with fail
                exact next_end B4.out Z4.out rfl rfl fin'.out
              · rw [if_neg hf] at fin'
                have fin' : Hid (nextT a b u k = _) := fin'
                clear hc
                go_wp2_with fail
                exact next_end B4.out Z4.out rfl rfl fin'.out
            · have hc : nextCount a b u k = u + 1 := by unfold nextCount; rw [hm'.out, if_neg ht]
              have fin' := fin.out
              rw [hc] at fin'
              by_cases hf : 4611686018427387903 < u + 1
              · rw [if_pos hf] at fin'
                have fin' : Hid (nextT a b u k = _) := fin'
                clear hc
                go_wp2_with fail
                exact next_end B3.out Z3.out rfl rfl fin'.out
              · rw [if_neg hf] at fin'
                have fin' : Hid (nextT a b u k = _) := fin'
                clear hc
                go_wp2_with fail
                exact next_end B3.out Z3.out rfl rfl fin'.out
          · have hm' : Hid (nextFirst a u = a) := by show nextFirst a u = a; unfold nextFirst; split <;> omega
            go_wp2_with (first | (go_at_call 23; refine (isClient _ _).mono ?_; rintro x w1 ⟨rfl, rfl⟩) | fail)
            refine (compare (a) k a b _).mono ?_
            rintro x w3 ⟨rfl, B3'⟩
            have N3 : Hid (TagAt w3 w1.heap.size (a) k) := (TagAt.new w1 (a) k).by B3'
            have Z3 : Hid (TagAt w3 (w.heap.size + 1) 0 0) := (Z1.out.alloc _).by B3'
            have B3 : Hid (Below w.heap.size w w3) := (B1.out.alloc (by omega) _).trans (B3'.mono (by simp; omega))
            clear B3'
            obtain ⟨n0, n1, fn0, fn1⟩ := N3.out.facts
            obtain ⟨y0, y1, fy0, fy1⟩ := Z3.out.facts
            have s3 := N3.out.lt
            by_cases ht : tcmp (a) k a b ≤ 0
            · have hc : nextCount a b u k = a + 1 := by unfold nextCount; rw [hm'.out, if_pos ht]
              have fin' := fin.out
              rw [hc] at fin'
              have Z4 : TagAt (w3.setCell ⟨w1.heap.size, 0, none⟩ (.int .i64 (a + 1))) (w.heap.size + 1) 0 0 := Z3.out.other _ (by omega)
              have Z4 : Hid (TagAt _ _ _ _) := Z4
              have B4 : Below w.heap.size w (w3.setCell ⟨w1.heap.size, 0, none⟩ (.int .i64 (a + 1))) := B3.out.setCell (by simp; omega) _
              have B4 : Hid (Below _ _ _) := B4
              by_cases hf : 4611686018427387903 < a + 1
              · rw [if_pos hf] at fin'
                have fin' : Hid (nextT a b u k = _) := fin'
                clear hc
                go_wp2_with fail
                exact next_end B4.out Z4.out rfl rfl fin'.out
              · rw [if_neg hf] at fin'
                have fin' : Hid (nextT a b u k = _) := fin'
                clear hc
                go_wp2_with fail
                exact next_end B4.out Z4.out rfl rfl fin'.out
            · have hc : nextCount a b u k = a := by unfold nextCount; rw [hm'.out, if_neg ht]
              have fin' := fin.out
              rw [hc] at fin'
              by_cases hf : 4611686018427387903 < a
              · exact absurd hf (by omega)
              · rw [if_neg hf] at fin'
                have fin' : Hid (nextT a b u k = _) := fin'
                clear hc
                go_wp2_with fail
                exact next_end B3.out Z3.out rfl rfl fin'.out
end Go.Proofs.Ytpgfmoddhjhlkaa
