import Derived.Test.YteokeifkkhchmaaPhA
namespace Go.Proofs.Yteokeifkkhchmaa
open Go.RowKit 

theorem misI_nil (w : World) : Calls Try.prog 17 #[.pointer none] w fun x w' => x = .returned (.slice none 0 0) ∧ w' = w := by
  go_enter Try.func17, Try.ntmps17
  go_wp2_with fail
  go_ret
  exact ⟨rfl, rfl⟩
/-- Where Missing stands. -/
structure MsI (w wr : World) (pb mb : Nat) (N Q : Int) (M : Int → Option Int) (q : Option Addr) (n c : Nat) (t : List Int) : Prop where
  ph : IsP 49 (Value.int .i64) RI wr pb mb N Q M
  row : Row wr 3 q n c (ints t)
  far : ∀ g, blockOf q = some g → w.heap.size ≤ g
  kept : Kept (fun _ => False) w wr
set_option maxRecDepth 100000 in
set_option maxHeartbeats 2000000 in
theorem misI {pb mb : Nat} {N Q : Int} {M : Int → Option Int} (w : World) (h : IsP 49 (Value.int .i64) RI w pb mb N Q M) : Calls Try.prog 17 #[.pointer (some ⟨pb, 0, none⟩)] w fun o w' => ∃ q n c, o = .returned (.slice q n c) ∧ Hid (Row w' 3 q n c (ints (pick M false N.toNat)) ∧ (∀ g, blockOf q = some g → w.heap.size ≤ g) ∧ Kept (fun _ => False) w w') := by
  have nb := h.ok
  have LT : Hid (pb < w.heap.size ∧ mb < w.heap.size) := h.lt
  have H : Hid (IsP 49 (Value.int .i64) RI w pb mb N Q M) := h
  obtain ⟨c, hc⟩ : ∃ c, c = cntM M N.toNat := ⟨_, rfl⟩
  have cN : (c : Int) ≤ N := by have := cntM_le M N.toNat; omega
  have l2 : ∀ ty, (Builtin.len_ #[47] ty #[.map (some mb)]).run Try.prog w.drew = .ok (.int .i64 (c : Int)) w.drew := fun ty => by
    rw [hc]
    exact TM.len intsK (h.tm.kept ((Kept.refl (fun _ => False) w).drew) (fun z => z)) ty
  have c0 := cell_blk h.blk 0 (v := .int .i64 N) rfl
  have c2 := cell_blk h.blk 2 (v := .map (some mb)) rfl
  obtain ⟨cp, hcp⟩ : ∃ cp : Nat, (cp : Int) = N - (c : Int) := ⟨(N - c).toNat, by omega⟩
  have wr1 : IntKind.i64.wrap (N - (c : Int)) = (cp : Int) := by rw [IntKind.wrap_i64]; omega
  obtain ⟨i0, hi, hz0, hz1, hz2⟩ := info_parts int_info
  obtain ⟨w3, mk, ow, gr⟩ := run_make_own (P := Try.prog) w.drew w.heap.size 42 3 i0 _ 1 Try.underlying42 hi hz0 hz1 .i64 .i64 cp (by rw [hz2]; omega) (by unfold maxLen; omega) (Nat.le_refl _)
  have K3 : Kept (fun _ => False) w w3 := ((Kept.refl _ w).drew).grown gr (fun k _ z => by cases z)
  obtain ⟨a0, cap0, e0, r0, f0⟩ := Row.of_owns ow (fun _ z => by cases z)
  simp at e0
  obtain ⟨rfl, rfl⟩ := e0
  have F0 : Hid (MsI w w3 pb mb N Q M (some ⟨w.drew.heap.size, 0, none⟩) 0 cp (pick M false 0)) := ⟨h.k0 K3, r0, f0, K3⟩
  have d0 := cell_blk (h.k0 K3).blk 0 (v := .int .i64 N) rfl
  have d2 := cell_blk (h.k0 K3).blk 2 (v := .map (some mb)) rfl
  have l3 : ∀ ty, (Builtin.len_ #[47] ty #[.map (some mb)]).run Try.prog w3 = .ok (.int .i64 (c : Int)) w3 := fun ty => by
    rw [hc]
    exact TM.len intsK (h.k0 K3).tm ty
  clear h hc hi hz0 hz1 hz2 ow gr K3 r0 f0 hcp
  go_enter Try.func17, Try.ntmps17
  go_upto_region 3 with fail
  go_region_held3 (fun w' => w'.cell? ⟨pb, 0, none⟩ = some (.int .i64 N) ∧ w'.cell? ⟨pb, 2, none⟩ = some (.map (some mb)) ∧ ∀ ty, (Builtin.len_ #[47] ty #[.map (some mb)]).run Try.prog w' = .ok (.int .i64 (c : Int)) w') (first | exact ⟨c0, c2, l2⟩ | exact ⟨d0, d2, l3⟩ | go_keep) (fail)
  all_goals go_wp2_with fail
  clear c0 c2 l2 d0 d2 l3 mk wr1
  (try go_frame)
  go_loopw [3, 24] (fun y z wr => ∃ (i n c : Nat) (q : Option Addr), z = .int .i64 (i : Int) ∧ y = .slice q n c ∧ (i : Int) ≤ N ∧ n ≤ i ∧ Hid (MsI w wr pb mb N Q M q n c (pick M false i))) (fun _ z _ => N.toNat - (intOf z).toNat)
  case atStart => exact ⟨0, 0, cp, _, rfl, rfl, by omega, Nat.le_refl _, F0⟩
  case round =>
    obtain ⟨i, n, c3, q, rfl, rfl, hi, hn, F⟩ := hrel
    clear F0
    have c0 := cell_blk F.out.ph.blk 0 (v := .int .i64 N) rfl
    have c2 := cell_blk F.out.ph.blk 2 (v := .map (some mb)) rfl
    have cm := F.out.row.room
    have cs := F.out.row.small
    unfold maxLen at cs
    by_cases hlt : (i : Int) < N
    · have lk := F.out.ph.tm.look2 intsK (k := (i : Int)) (by unfold KF; omega)
      obtain ⟨a, ha⟩ : ∃ a, a = (M (i : Int)).getD 0 := ⟨_, rfl⟩
      rw [← ha] at lk
      cases hb : (M (i : Int)).isSome
      · have HP : Hid (pick M false (i + 1) = pick M false i ++ [(i : Int)]) := pick_hit _ _ _ hb
        rw [hb] at lk
        clear ha hb
        go_wp2_with (first | (at_builtin; refine wpList_append_row _ rfl (.tmp 38) (.tmp 40) 42 3 (.int .i64 0) rfl Try.underlying42 int_info rfl q n c3 1 (ints (pick M false i)) [.int .i64 (i : Int)] rfl (F.out.row.kept (k0_alloc _ _) (fun _ _ z => z)) wr.heap.size rfl (by omega) (fun u hu => by rw [List.mem_singleton] at hu; subst hu; rfl) rfl (one_src (by simp)) (by omega) ?_; intro q' c' w3 hr hg hq; have c5 := hr.out.room) | fail)
        have F2 : Hid (MsI w w3 pb mb N Q M q' (n + 1) c' (pick M false (i + 1))) := by
          have kk : Kept (fun k => w.heap.size ≤ k) wr w3 := ((Kept.refl _ _).alloc _).grown hg.out (fun k _ e => F.out.far k e)
          have hr' := hr.out
          have e1 : ints (pick M false i) ++ [.int .i64 (i : Int)] = ints (pick M false (i + 1)) := by rw [HP.out]; exact ints_app _ [(i : Int)]
          rw [e1] at hr'
          have hB := F.out.kept.size
          refine ⟨F.out.ph.kept kk (by have := LT.out.1; omega) (by have := LT.out.2; omega), hr', fun g e => ?_, F.out.kept.trans kk (fun j hj z => by have z : w.heap.size ≤ j := z; omega)⟩
          rcases hq.out with h | h
          · rw [h] at e; exact F.out.far g e
          · rw [h, blockOf_some] at e
            simp at e
            omega
        clear hr hg hq F c5
        go_roundw
        case rel => exact ⟨i + 1, n + 1, c', q', by go_num, rfl, by omega, by omega, F2⟩
        case measure => simp [intOf]; omega
      · have HP : Hid (pick M false (i + 1) = pick M false i) := pick_miss _ _ _ (by rw [hb]; decide)
        have F2 : Hid (MsI w wr pb mb N Q M q n c3 (pick M false (i + 1))) := by
          show MsI w wr pb mb N Q M q n c3 (pick M false (i + 1))
          rw [HP.out]; exact F.out
        rw [hb] at lk
        clear ha hb
        go_wp2_with fail
        go_roundw
        case rel => exact ⟨i + 1, n, c3, q, by go_num, rfl, by omega, by omega, F2⟩
        case measure => simp [intOf]; omega
    · have F2 : Hid (Row wr 3 q n c3 (ints (pick M false N.toNat)) ∧ (∀ g, blockOf q = some g → w.heap.size ≤ g) ∧ Kept (fun _ => False) w wr) := by
        have e : N.toNat = i := by omega
        rw [e]; exact ⟨F.out.row, F.out.far, F.out.kept⟩
      clear F
      go_wp2_with fail
      go_ret
      exact ⟨q, n, c3, rfl, F2⟩
theorem lenI_nil (w : World) : Calls Try.prog 20 #[.pointer none] w fun x w' => x = .returned (.int .i64 0) ∧ w' = w := by
  go_enter Try.func20, Try.ntmps20
  go_wp2_with fail
  go_ret
  exact ⟨rfl, rfl⟩
theorem lenI {pb mb : Nat} {N Q : Int} {M : Int → Option Int} (w : World) (h : IsP 49 (Value.int .i64) RI w pb mb N Q M) : Calls Try.prog 20 #[.pointer (some ⟨pb, 0, none⟩)] w fun x w' => x = .returned (.int .i64 (cntM M N.toNat : Int)) ∧ w' = w := by
  have c2 := cell_blk h.blk 2 (v := .map (some mb)) rfl
  have l2 : ∀ ty, (Builtin.len_ #[47] ty #[.map (some mb)]).run Try.prog w = .ok (.int .i64 (cntM M N.toNat : Int)) w := fun ty => TM.len intsK h.tm ty
  clear h
  go_enter Try.func20, Try.ntmps20
  go_wp2_with fail
  go_ret
  exact ⟨rfl, rfl⟩
end Go.Proofs.Yteokeifkkhchmaa
