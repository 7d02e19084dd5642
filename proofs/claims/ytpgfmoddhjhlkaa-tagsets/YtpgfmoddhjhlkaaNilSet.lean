import Derived.Test.YtpgfmoddhjhlkaaStepFrom
namespace Go.Proofs.Ytpgfmoddhjhlkaa
open Go.RowKit

/-! The calls on a nil set. -/
set_option maxRecDepth 100000
theorem add_none (x y : Int) (w : World) : Calls Try.prog 11 #[.pointer none, .agg #[.int .i64 x, .int .i64 y]] w fun o w' => o = .returned (.tuple #[.bool false, .int .i64 0]) ∧ Below w.heap.size w w' := by
  have BH : Hid (Below w.heap.size w (w.alloc (Obj.cells #[.int .i64 x, .int .i64 y] 24))) := (Below.refl w.heap.size w).alloc (Nat.le_refl _) _
  go_enter Try.func11, Try.ntmps11
  go_wp2_with fail
  go_ret2
  exact ⟨rfl, BH.out⟩
theorem has_none (x y : Int) (w : World) : Calls Try.prog 12 #[.pointer none, .agg #[.int .i64 x, .int .i64 y]] w fun o w' => o = .returned (.bool false) ∧ Below w.heap.size w w' := by
  have BH : Hid (∀ n, Below w.heap.size w ((w.alloc (Obj.cells #[.int .i64 x, .int .i64 y] 24)).drewN n)) := fun n => below_dN ((Below.refl w.heap.size w).alloc (Nat.le_refl _) _) n
  go_enter Try.func12, Try.ntmps12
  go_wp2_with fail
  go_quiet (fail)
  go_wp2_with fail
  go_ret
  exact ⟨rfl, BH.out _⟩
theorem len_none (w : World) : Calls Try.prog 13 #[.pointer none] w fun o w' => o = .returned (.int .i64 0) ∧ Below w.heap.size w w' := by
  have BH : Hid (Below w.heap.size w w) := Below.refl _ _
  go_enter Try.func13, Try.ntmps13
  go_wp2_with fail
  go_ret
  exact ⟨rfl, BH.out⟩
theorem cut_none (x y : Int) (w : World) : Calls Try.prog 14 #[.pointer none, .agg #[.int .i64 x, .int .i64 y]] w fun o w' => o = .returned (.int .i64 0) ∧ Below w.heap.size w w' := by
  have BH : Hid (Below w.heap.size w (w.alloc (Obj.cells #[.int .i64 x, .int .i64 y] 24))) := (Below.refl w.heap.size w).alloc (Nat.le_refl _) _
  go_enter Try.func14, Try.ntmps14
  go_wp2_with fail
  go_ret
  exact ⟨rfl, BH.out⟩
theorem from_none (x y : Int) (w : World) : Calls Try.prog 15 #[.pointer none, .agg #[.int .i64 x, .int .i64 y]] w fun o w' => o = .returned (.slice none 0 0) ∧ Below w.heap.size w w' := by
  have BH : Hid (Below w.heap.size w (w.alloc (Obj.cells #[.int .i64 x, .int .i64 y] 24))) := (Below.refl w.heap.size w).alloc (Nat.le_refl _) _
  go_enter Try.func15, Try.ntmps15
  go_wp2_with fail
  go_ret
  exact ⟨rfl, BH.out⟩
theorem high_none (z : Int) (w : World) : Calls Try.prog 16 #[.pointer none, .int .i64 z] w fun o w' => o = .returned (.tuple #[.agg #[.int .i64 0, .int .i64 0], .int .i64 0]) ∧ Below w.heap.size w w' := by
  have BH : Hid (Below w.heap.size w (w.alloc (Obj.cells #[.int .i64 0, .int .i64 0] 24))) := (Below.refl w.heap.size w).alloc (Nat.le_refl _) _
  have TH : Hid (TagAt (w.alloc (Obj.cells #[.int .i64 0, .int .i64 0] 24)) w.heap.size 0 0) := TagAt.new w 0 0
  go_enter Try.func16, Try.ntmps16
  go_wp2_with fail
  exact bodyPost_ret (results_tag_tmp rfl _ _ _ 0 0 rfl TH.out) rfl ⟨rfl, BH.out⟩
/-- What both NewSets answer, together: the same fault, or the two sets side by side. -/
theorem newR_mem (l : List (Int × Int)) (t : Int × Int) : t ∈ newR l ↔ t ∈ l := by
  have gen : ∀ (l R : List (Int × Int)), t ∈ l.foldl addR R ↔ t ∈ R ∨ t ∈ l := by
    intro l
    induction l with
    | nil => intro R; simp
    | cons a l ih =>
      intro R
      rw [List.foldl_cons, ih]
      unfold addR
      by_cases h : a ∈ R
      · rw [if_pos h]
        constructor
        · rintro (e | e)
          · exact .inl e
          · exact .inr (List.mem_cons_of_mem _ e)
        · rintro (e | e)
          · exact .inl e
          · rcases List.mem_cons.1 e with rfl | e
            · exact .inl h
            · exact .inr e
      · rw [if_neg h, List.mem_append, List.mem_singleton, List.mem_cons, or_assoc]
  unfold newR
  rw [gen]
  simp
theorem newR_nodup (l : List (Int × Int)) : (newR l).Nodup := by
  have gen : ∀ (l R : List (Int × Int)), R.Nodup → (l.foldl addR R).Nodup := by
    intro l
    induction l with
    | nil => intro R h; exact h
    | cons a l ih =>
      intro R h
      rw [List.foldl_cons]
      apply ih
      unfold addR
      by_cases ha : a ∈ R
      · rw [if_pos ha]; exact h
      · rw [if_neg ha]
        rw [List.nodup_append]
        refine ⟨h, by simp, fun x hx y hy e => ?_⟩
        rw [List.mem_singleton] at hy
        exact ha (by rw [← hy, ← e]; exact hx)
  exact gen l [] List.nodup_nil
theorem new_perm {l S : List (Int × Int)} (hS : Rising S) (hm : ∀ t, t ∈ S ↔ t ∈ l) : (newR l).Perm S :=
  (List.perm_ext_iff_of_nodup (newR_nodup l) (rising_nodup S hS)).2 fun t => (newR_mem l t).trans (hm t).symm
end Go.Proofs.Ytpgfmoddhjhlkaa
