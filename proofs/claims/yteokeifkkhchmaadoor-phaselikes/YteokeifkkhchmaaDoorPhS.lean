import Derived.Test.YteokeifkkhchmaaDoorMapG
import Derived.Deep.DeepCutAuto
import Derived.Deep.RegionLaw
import Derived.Deep.CutRange
import Derived.Deep.RegionHeldLaw
namespace Go.Proofs.YteokeifkkhchmaaDoor
open Go.RowKit 

theorem newS_ok (N K D : Int) (w : World) (h : okC N K D) : Calls Tryd.prog 5 #[.agg #[.int .i64 N, .int .i64 K, .int .i64 D]] w fun x w' => ∃ pb mb, w.heap.size ≤ pb ∧ w.heap.size ≤ mb ∧ x = .returned (.tuple #[.pointer (some ⟨pb, 0, none⟩), .int .i64 0]) ∧ IsP 60 Value.string RS w' pb mb N (quo N K) (fun _ => none) ∧ Kept (fun _ => False) w w' := by
  have B1 : Hid (Below w.heap.size w (w.alloc (Obj.cells #[.int .i64 N, .int .i64 K, .int .i64 D] 23))) := (Below.refl _ _).alloc (Nat.le_refl _) _
  have HO : Hid (okC N K D) := h
  go_enter Tryd.func5, Tryd.ntmps5
  go_wp2_with fail
  refine (size_ok N K D _ h).mono ?_
  rintro e w1 ⟨rfl, b1⟩
  have c0 : w1.cell? ⟨w.heap.size, 0, none⟩ = some (.int .i64 N) := (b1.cell (by simp)).trans (by simp)
  have BB : Hid (Below w.heap.size w w1) := B1.out.trans (b1.mono (by simp))
  have mk := run_makeMap (P := Tryd.prog) 58 w1
  clear b1 B1 h
  go_wp2_with fail
  go_ret2
  have K1 : Kept (fun _ => False) (w1.alloc (.map #[] 0)) ((w1.alloc (.map #[] 0)).alloc (.cells #[.int .i64 N, .int .i64 (quo N K), .map (some w1.heap.size)] 60)) := k0_alloc _ _
  have t0 : TM 3 (Lit.int .i64) KF Value.string RS (w1.alloc (.map #[] 0)) w1.heap.size 0 (fun _ => none) := TM.made w1
  have sz := BB.out.size
  refine ⟨w1.heap.size + 1, w1.heap.size, by omega, sz, rfl, ⟨two1 _ _ _, ?_, fun _ _ q => by simp at q, by have := HO.out.1; have := HO.out.2.1; omega, HO.out.2.2.1⟩, ((Kept.ofB BB.out).alloc _).alloc _⟩
  rw [cntM_none]
  exact t0.kept K1 (fun z => z)
theorem newS_not (N K D : Int) (w : World) (h : ¬ okC N K D) : Calls Tryd.prog 5 #[.agg #[.int .i64 N, .int .i64 K, .int .i64 D]] w fun x w' => x = .returned (.tuple #[.pointer none, .int .i64 40]) ∧ Kept (fun _ => False) w w' := by
  have B1 : Hid (Below w.heap.size w (w.alloc (Obj.cells #[.int .i64 N, .int .i64 K, .int .i64 D] 23))) := (Below.refl _ _).alloc (Nat.le_refl _) _
  go_enter Tryd.func5, Tryd.ntmps5
  go_wp2_with fail
  refine (size_not N K D _ h).mono ?_
  rintro e w1 ⟨rfl, b1⟩
  go_wp2_with fail
  go_ret2
  exact ⟨rfl, Kept.ofB (B1.out.trans (b1.mono (by simp)))⟩
theorem answerS_nil (s : Int) (v : ByteArray) (w : World) : Calls Tryd.prog 8 #[.pointer none, .int .i64 s, Value.string v] w fun x w' => x = .returned (.tuple #[.bool false, .int .i64 0]) ∧ w' = w := by
  go_enter Tryd.func8, Tryd.ntmps8
  go_wp2_with fail
  go_ret2
  exact ⟨rfl, rfl⟩
theorem answerS_off {pb mb : Nat} {N Q : Int} {M : Int → Option ByteArray} (s : Int) (v : ByteArray) (w : World) (h : IsP 60 Value.string RS w pb mb N Q M) (hs : s < 0 ∨ N ≤ s) : Calls Tryd.prog 8 #[.pointer (some ⟨pb, 0, none⟩), .int .i64 s, Value.string v] w fun x w' => x = .returned (.tuple #[.bool false, .int .i64 51]) ∧ w' = w := by
  have c0 := cell_blk h.blk 0 (v := .int .i64 N) rfl
  clear h
  by_cases h1 : s < 0
  · go_enter Tryd.func8, Tryd.ntmps8
    go_wp2_with fail
    go_ret2
    exact ⟨rfl, rfl⟩
  · have h2 : N ≤ s := by omega
    go_enter Tryd.func8, Tryd.ntmps8
    go_wp2_with fail
    go_ret2
    exact ⟨rfl, rfl⟩
theorem answerS_in {pb mb : Nat} {N Q : Int} {M : Int → Option ByteArray} (s : Int) (v : ByteArray) (w : World) (h : IsP 60 Value.string RS w pb mb N Q M) (h0 : 0 ≤ s) (h1 : s < N) : Calls Tryd.prog 8 #[.pointer (some ⟨pb, 0, none⟩), .int .i64 s, Value.string v] w fun x w' => x = .returned (.tuple #[.bool (!(M s).isSome), .int .i64 0]) ∧ IsP 60 Value.string RS w' pb mb N Q (upd M s v) ∧ Kept (fun j => j = mb) w w' := by
  have kf : KF s := by have := h.ok; unfold KF; omega
  have c0 := cell_blk h.blk 0 (v := .int .i64 N) rfl
  have c2 := cell_blk h.blk 2 (v := .map (some mb)) rfl
  have lk := h.tm.look2 strsK kf
  obtain ⟨a, ha⟩ : ∃ a, a = (M s).getD (ByteArray.mk #[]) := ⟨_, rfl⟩
  obtain ⟨b, hb⟩ : ∃ b, b = (M s).isSome := ⟨_, rfl⟩
  rw [← ha, ← hb] at lk
  rw [← hb]
  have H : Hid (IsP 60 Value.string RS w pb mb N Q M ∧ KF s ∧ 0 ≤ s ∧ s < N) := ⟨h, kf, h0, h1⟩
  have h0' : ¬ s < 0 := by omega
  have h1' : ¬ N ≤ s := by omega
  have CN : Hid (cntM M N.toNat < maxLen) := by
    show cntM M N.toNat < maxLen
    have := cntM_le M N.toNat
    have := h.ok
    unfold maxLen
    omega
  clear h kf ha hb h0 h1
  go_enter Tryd.func8, Tryd.ntmps8
  go_wp2_with
    (first
      | (at_mapUpdate; refine wpList_put strsK _ rfl _ _ _ rfl mb (cntM M N.toNat) M rfl H.out.1.tm CN.out s H.out.2.1 v rfl rfl ?_; intro w2 ht hk)
      | fail)
  go_ret2
  exact ⟨rfl, H.out.1.put s v H.out.2.2.1 H.out.2.2.2 ht.out hk.out, hk.out⟩
theorem getS_nil (s : Int) (w : World) : Calls Tryd.prog 17 #[.pointer none, .int .i64 s] w fun x w' => x = .returned (.tuple #[.string (ByteArray.mk #[]), .bool false]) ∧ w' = w := by
  go_enter Tryd.func17, Tryd.ntmps17
  go_wp2_with fail
  go_ret2
  exact ⟨rfl, rfl⟩
theorem getS {pb mb : Nat} {N Q : Int} {M : Int → Option ByteArray} (s : Int) (w : World) (h : IsP 60 Value.string RS w pb mb N Q M) (kf : KF s) : Calls Tryd.prog 17 #[.pointer (some ⟨pb, 0, none⟩), .int .i64 s] w fun x w' => x = .returned (.tuple #[Value.string ((M s).getD (ByteArray.mk #[])), .bool (M s).isSome]) ∧ w' = w := by
  have c2 := cell_blk h.blk 2 (v := .map (some mb)) rfl
  have lk := h.tm.look2 strsK kf
  obtain ⟨a, ha⟩ : ∃ a, a = (M s).getD (ByteArray.mk #[]) := ⟨_, rfl⟩
  obtain ⟨b, hb⟩ : ∃ b, b = (M s).isSome := ⟨_, rfl⟩
  rw [← ha, ← hb] at lk
  rw [← ha, ← hb]
  clear h kf ha hb
  go_enter Tryd.func17, Tryd.ntmps17
  go_wp2_with fail
  go_ret2
  exact ⟨rfl, rfl⟩
theorem metS_nil (w : World) : Calls Tryd.prog 13 #[.pointer none] w fun x w' => x = .returned (.bool false) ∧ ∃ k, w' = w.drewN k := by
  go_enter Tryd.func13, Tryd.ntmps13
  go_upto_region 1 with fail
  go_quiet (fail)
  go_wp2_with fail
  go_ret
  exact ⟨rfl, nq, rfl⟩
theorem metS {pb mb : Nat} {N Q : Int} {M : Int → Option ByteArray} (w : World) (h : IsP 60 Value.string RS w pb mb N Q M) : Calls Tryd.prog 13 #[.pointer (some ⟨pb, 0, none⟩)] w fun x w' => x = .returned (.bool (decide (Q ≤ (cntM M N.toNat : Int)))) ∧ ∃ k, w' = w.drewN k := by
  obtain ⟨c, hc⟩ : ∃ c, c = cntM M N.toNat := ⟨_, rfl⟩
  have LN : Hid (∀ W : World, W.heap = w.heap → ∀ ty, (Builtin.len_ #[58] ty #[.map (some mb)]).run Tryd.prog W = .ok (.int .i64 (c : Int)) W) := by
    intro W hW ty
    rw [hc]
    exact TM.len strsK (by obtain ⟨D, ⟨es, clock, hb, r⟩, s⟩ := h.tm; exact ⟨D, ⟨es, clock, by rw [hW]; exact hb, r⟩, s⟩) ty
  have c1 := cell_blk h.blk 1 (v := .int .i64 Q) rfl
  have c2 := cell_blk h.blk 2 (v := .map (some mb)) rfl
  rw [← hc]
  have l1 := LN.out w rfl
  have l2 := LN.out w.drew rfl
  clear h hc
  go_enter Tryd.func13, Tryd.ntmps13
  go_upto_region 1 with fail
  go_region_held3 (fun w' => w'.cell? ⟨pb, 1, none⟩ = some (.int .i64 Q) ∧ w'.cell? ⟨pb, 2, none⟩ = some (.map (some mb)) ∧ ∀ ty, (Builtin.len_ #[58] ty #[.map (some mb)]).run Tryd.prog w' = .ok (.int .i64 (c : Int)) w') (first | exact ⟨c1, c2, l2⟩ | go_keep) (fail)
  all_goals go_wp2_with fail
  all_goals go_ret
  all_goals exact ⟨rfl, 1, rfl⟩
theorem misS_nil (w : World) : Calls Tryd.prog 23 #[.pointer none] w fun x w' => x = .returned (.slice none 0 0) ∧ w' = w := by
  go_enter Tryd.func23, Tryd.ntmps23
  go_wp2_with fail
  go_ret
  exact ⟨rfl, rfl⟩
/-- Where Missing stands. -/
structure MsS (w wr : World) (pb mb : Nat) (N Q : Int) (M : Int → Option ByteArray) (q : Option Addr) (n c : Nat) (t : List Int) : Prop where
  ph : IsP 60 Value.string RS wr pb mb N Q M
  row : Row wr 3 q n c (ints t)
  far : ∀ g, blockOf q = some g → w.heap.size ≤ g
  kept : Kept (fun _ => False) w wr
set_option maxRecDepth 100000 in
set_option maxHeartbeats 2000000 in
theorem misS {pb mb : Nat} {N Q : Int} {M : Int → Option ByteArray} (w : World) (h : IsP 60 Value.string RS w pb mb N Q M) : Calls Tryd.prog 23 #[.pointer (some ⟨pb, 0, none⟩)] w fun o w' => ∃ q n c, o = .returned (.slice q n c) ∧ Hid (Row w' 3 q n c (ints (pick M false N.toNat)) ∧ (∀ g, blockOf q = some g → w.heap.size ≤ g) ∧ Kept (fun _ => False) w w') := by
  have nb := h.ok
  have LT : Hid (pb < w.heap.size ∧ mb < w.heap.size) := h.lt
  have H : Hid (IsP 60 Value.string RS w pb mb N Q M) := h
  obtain ⟨c, hc⟩ : ∃ c, c = cntM M N.toNat := ⟨_, rfl⟩
  have cN : (c : Int) ≤ N := by have := cntM_le M N.toNat; omega
  have l2 : ∀ ty, (Builtin.len_ #[58] ty #[.map (some mb)]).run Tryd.prog w.drew = .ok (.int .i64 (c : Int)) w.drew := fun ty => by
    rw [hc]
    exact TM.len strsK (h.tm.kept ((Kept.refl (fun _ => False) w).drew) (fun z => z)) ty
  have c0 := cell_blk h.blk 0 (v := .int .i64 N) rfl
  have c2 := cell_blk h.blk 2 (v := .map (some mb)) rfl
  obtain ⟨cp, hcp⟩ : ∃ cp : Nat, (cp : Int) = N - (c : Int) := ⟨(N - c).toNat, by omega⟩
  have wr1 : IntKind.i64.wrap (N - (c : Int)) = (cp : Int) := by rw [IntKind.wrap_i64]; omega
  obtain ⟨i0, hi, hz0, hz1, hz2⟩ := info_parts int_info
  obtain ⟨w3, mk, ow, gr⟩ := run_make_own (P := Tryd.prog) w.drew w.heap.size 24 3 i0 _ 1 Tryd.underlying24 hi hz0 hz1 .i64 .i64 cp (by rw [hz2]; omega) (by unfold maxLen; omega) (Nat.le_refl _)
  have K3 : Kept (fun _ => False) w w3 := ((Kept.refl _ w).drew).grown gr (fun k _ z => by cases z)
  obtain ⟨a0, cap0, e0, r0, f0⟩ := Row.of_owns ow (fun _ z => by cases z)
  simp at e0
  obtain ⟨rfl, rfl⟩ := e0
  have F0 : Hid (MsS w w3 pb mb N Q M (some ⟨w.drew.heap.size, 0, none⟩) 0 cp (pick M false 0)) := ⟨h.k0 K3, r0, f0, K3⟩
  have d0 := cell_blk (h.k0 K3).blk 0 (v := .int .i64 N) rfl
  have d2 := cell_blk (h.k0 K3).blk 2 (v := .map (some mb)) rfl
  have l3 : ∀ ty, (Builtin.len_ #[58] ty #[.map (some mb)]).run Tryd.prog w3 = .ok (.int .i64 (c : Int)) w3 := fun ty => by
    rw [hc]
    exact TM.len strsK (h.k0 K3).tm ty
  clear h hc hi hz0 hz1 hz2 ow gr K3 r0 f0 hcp
  go_enter Tryd.func23, Tryd.ntmps23
  go_upto_region 3 with fail
  go_region_held3 (fun w' => w'.cell? ⟨pb, 0, none⟩ = some (.int .i64 N) ∧ w'.cell? ⟨pb, 2, none⟩ = some (.map (some mb)) ∧ ∀ ty, (Builtin.len_ #[58] ty #[.map (some mb)]).run Tryd.prog w' = .ok (.int .i64 (c : Int)) w') (first | exact ⟨c0, c2, l2⟩ | exact ⟨d0, d2, l3⟩ | go_keep) (fail)
  all_goals go_wp2_with fail
  clear c0 c2 l2 d0 d2 l3 mk wr1
  (try go_frame)
  go_loopw [3, 24] (fun y z wr => ∃ (i n c : Nat) (q : Option Addr), z = .int .i64 (i : Int) ∧ y = .slice q n c ∧ (i : Int) ≤ N ∧ n ≤ i ∧ Hid (MsS w wr pb mb N Q M q n c (pick M false i))) (fun _ z _ => N.toNat - (intOf z).toNat)
  case atStart => exact ⟨0, 0, cp, _, rfl, rfl, by omega, Nat.le_refl _, F0⟩
  case round =>
    obtain ⟨i, n, c3, q, rfl, rfl, hi, hn, F⟩ := hrel
    clear F0
    have c0 := cell_blk F.out.ph.blk 0 (v := .int .i64 N) rfl
    have c2 := cell_blk F.out.ph.blk 2 (v := .map (some mb)) rfl
    have cm := F.out.row.room
    have cs := F.out.row.small
    unfold maxLen at cs
    by_cases hlt : (i : Int) < N
    · have lk := F.out.ph.tm.look2 strsK (k := (i : Int)) (by unfold KF; omega)
      obtain ⟨a, ha⟩ : ∃ a, a = (M (i : Int)).getD (ByteArray.mk #[]) := ⟨_, rfl⟩
      rw [← ha] at lk
      cases hb : (M (i : Int)).isSome
      · have HP : Hid (pick M false (i + 1) = pick M false i ++ [(i : Int)]) := pick_hit _ _ _ hb
        rw [hb] at lk
        clear ha hb
        go_wp2_with (first | (at_builtin; refine wpList_append_row _ rfl (.tmp 38) (.tmp 40) 24 3 (.int .i64 0) rfl Tryd.underlying24 int_info rfl q n c3 1 (ints (pick M false i)) [.int .i64 (i : Int)] rfl (F.out.row.kept (k0_alloc _ _) (fun _ _ z => z)) wr.heap.size rfl (by omega) (fun u hu => by rw [List.mem_singleton] at hu; subst hu; rfl) rfl (one_src (by simp)) (by omega) ?_; intro q' c' w3 hr hg hq; have c5 := hr.out.room) | fail)
        have F2 : Hid (MsS w w3 pb mb N Q M q' (n + 1) c' (pick M false (i + 1))) := by
          have kk : Kept (fun k => w.heap.size ≤ k) wr w3 := ((Kept.refl _ _).alloc _).grown hg.out (fun k _ e => F.out.far k e)
          have hr' := hr.out
          have e1 : ints (pick M false i) ++ [.int .i64 (i : Int)] = ints (pick M false (i + 1)) := by rw [HP.out]; exact ints_app _ [(i : Int)]
          rw [e1] at hr'
          have hB := F.out.kept.size
          refine ⟨F.out.ph.kept kk (by have := LT.out.1; omega) (by have := LT.out.2; omega), hr', fun g e => ?_, F.out.kept.trans kk (fun j hj z => by have z : w.heap.size ≤ j := z; omega)⟩
          rcases hq.out with h | h
          · rw [h] at e; exact F.out.far g e
          · rw [h, blockOf_some] at e
            simp at e
            omega
        clear hr hg hq F c5
        go_roundw
        case rel => exact ⟨i + 1, n + 1, c', q', by go_num, rfl, by omega, by omega, F2⟩
        case measure => simp [intOf]; omega
      · have HP : Hid (pick M false (i + 1) = pick M false i) := pick_miss _ _ _ (by rw [hb]; decide)
        have F2 : Hid (MsS w wr pb mb N Q M q n c3 (pick M false (i + 1))) := by
          show MsS w wr pb mb N Q M q n c3 (pick M false (i + 1))
          rw [HP.out]; exact F.out
        rw [hb] at lk
        clear ha hb
        go_wp2_with fail
        go_roundw
        case rel => exact ⟨i + 1, n, c3, q, by go_num, rfl, by omega, by omega, F2⟩
        case measure => simp [intOf]; omega
    · have F2 : Hid (Row wr 3 q n c3 (ints (pick M false N.toNat)) ∧ (∀ g, blockOf q = some g → w.heap.size ≤ g) ∧ Kept (fun _ => False) w wr) := by
        have e : N.toNat = i := by omega
        rw [e]; exact ⟨F.out.row, F.out.far, F.out.kept⟩
      clear F
      go_wp2_with fail
      go_ret
      exact ⟨q, n, c3, rfl, F2⟩
end Go.Proofs.YteokeifkkhchmaaDoor
