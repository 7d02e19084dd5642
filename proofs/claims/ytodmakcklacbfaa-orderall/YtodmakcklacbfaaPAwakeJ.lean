import Derived.Test.YtodmakcklacbfaaPByJ
import Derived.Test.YtodmakcklacbfaaPByTags
import Derived.Lib.SmallJoins
import Derived.Lib.SlBytesConst
namespace Go.Proofs.Ytodmakcklacbfaa
open Go.RowKit Go.Shelf Go.Lib Go.Sort

/-- The two calls of the document's first case. -/
def awA (g : Nat) : Cm := ⟨1, 1, true, ⟨#[107]⟩, some ⟨g, 0, none⟩, 1, 1, 0, 0, 1, false, 1, 1, [97]⟩
def awB (g : Nat) : Cm := ⟨2, 1, false, ⟨#[107]⟩, some ⟨g, 0, none⟩, 1, 1, 0, 2, 3, false, 1, 1, [97]⟩
def awL (g h : Nat) : List Cm := [awA g, awB h]
theorem awL_at {g h i : Nat} {c : Cl} (hc : ((awL g h).map Cm.cl)[i]? = some c) : (i = 0 ∧ c = (awA g).cl) ∨ (i = 1 ∧ c = (awB h).cl) := by
  match i, hc with
  | 0, hc => exact .inl ⟨rfl, (Option.some.inj hc).symm⟩
  | 1, hc => exact .inr ⟨rfl, (Option.some.inj hc).symm⟩
  | i + 2, hc => simp [awL] at hc
theorem awL_fit (g h : Nat) : FitL (awL g h) := by
  intro m hm
  rcases List.mem_cons.1 hm with rfl | hm
  · exact ⟨fun m0 e => by rw [← Option.some.inj e], rfl⟩
  · rcases List.mem_cons.1 hm with rfl | hm
    · exact ⟨fun m0 e => by rw [← Option.some.inj e]; rfl, rfl⟩
    · cases hm
theorem awL_yes (g h : Nat) : Expl (awL g h) [0, 1] := by
  refine ⟨[0, 1], rfl, (awA g).cl, ⟨rfl, rfl, by simp, .inl rfl, fun j a ha _ hh => ?_⟩, (awB h).cl, ⟨rfl, rfl, by simp, .inr rfl, fun j a ha _ hh => ?_⟩, fun i c hc _ => ?_⟩
  · rcases awL_at ha with ⟨_, rfl⟩ | ⟨_, rfl⟩ <;> cases hh
  · rcases awL_at ha with ⟨rfl, rfl⟩ | ⟨_, rfl⟩
    · simp
    · cases hh
  · rcases awL_at hc with ⟨rfl, _⟩ | ⟨rfl, _⟩ <;> simp
theorem awL_no1 (g h : Nat) : ¬ Expl (awL g h) [1, 0] := by
  rintro ⟨Rn, e, x⟩
  have e2 : Rn = [1, 0] := by
    have : Rn.map (fun r : Nat => (r : Int)) = [1, 0].map (fun r : Nat => (r : Int)) := e.symm
    exact map_inj this
  subst e2
  obtain ⟨c, ⟨hc, _, _, ht, _⟩, _⟩ := x
  rcases awL_at hc with ⟨z, _⟩ | ⟨_, rfl⟩
  · cases z
  · rcases ht with z | z <;> cases z
theorem awL_no2 (g h : Nat) : ¬ Expl (awL g h) [0] := by
  rintro ⟨Rn, e, x⟩
  have e2 : Rn = [0] := by
    have : Rn.map (fun r : Nat => (r : Int)) = [0].map (fun r : Nat => (r : Int)) := e.symm
    exact map_inj this
  subst e2
  obtain ⟨c, _, x⟩ := x
  have := x 1 (awB h).cl rfl rfl
  simp at this
theorem awL_by {g h : Nat} {L : List Nat} {e : Int} (b : ByT (awL g h) L e) : e = 0 ∧ L = [0, 1] := by
  rcases b with ⟨_, z, _⟩ | ⟨_, RA, RT, ⟨a1, _⟩, ⟨t1, t2⟩, z⟩
  · exact absurd (awL_fit g h) z
  · have eA : RA = [] := List.Perm.eq_nil (by simpa [numsK, awL, List.range_succ, absB, awA, awB] using a1)
    have t3 : RT.Perm [0, 1] := by simpa [numsK, awL, List.range_succ, Cm.tells, awA, awB] using t1
    have eT : RT = [0, 1] := by
      have hl := t3.length_eq
      match RT, hl, t3, t2 with
      | [x, y], _, t3, t2 =>
        have hx : x = 0 ∨ x = 1 := by have := (t3.mem_iff (a := x)).1 (by simp); simpa using this
        have hy : y = 0 ∨ y = 1 := by have := (t3.mem_iff (a := y)).1 (by simp); simpa using this
        have nd : x ≠ y := by
          have := t3.nodup_iff.2 (by simp)
          simpa using this
        rcases hx with rfl | rfl
        · rcases hy with rfl | rfl
          · exact absurd rfl nd
          · rfl
        · rcases hy with rfl | rfl
          · have := (List.pairwise_cons.1 t2).1 0 (by simp)
            refine absurd (fun a b ha hb => ?_) this
            have ea : awA g = a := Option.some.inj ha
            have eb : awB h = b := Option.some.inj hb
            subst ea
            subst eb
            refine .inr ⟨rfl, .inr ⟨rfl, .inl ?_⟩⟩
            show (0 : Int) < 2
            decide
          · exact absurd rfl nd
    subst eA
    subst eT
    have rn : runX (awL g h) [0, 1].length [0, 1] (silM (awL g h) (awL g h).length) [] = some [0, 1] := by rfl
    rcases z with ⟨_, z, _⟩ | ⟨rfl, z⟩
    · rw [rn] at z; cases z
    · rw [rn] at z
      exact ⟨rfl, (Option.some.inj z).symm⟩
end Go.Proofs.Ytodmakcklacbfaa

namespace Go.Proofs.Ytodmakcklacbfaa
open Go.RowKit Go.Shelf Go.Lib Go.Sort

theorem ird_one {W : World} {b : Nat} {x : Int} (h : W.heap[b]? = some (.cells #[.int .i64 x] 3 (0, 0))) : IRd W (some ⟨b, 0, none⟩) 1 1 [x] := by
  refine ⟨rfl, Nat.le_refl _, by unfold maxLen; omega, fun _ => ⟨b, 0, rfl, fun i y hy => ?_⟩⟩
  rw [Nat.zero_add]
  refine cell_blk h i ?_
  match i, hy with
  | 0, hy => rw [← Option.some.inj hy]; rfl
theorem ird_two {W : World} {b : Nat} {x y : Int} (h : W.heap[b]? = some (.cells #[.int .i64 x, .int .i64 y] 3 (0, 0))) : IRd W (some ⟨b, 0, none⟩) 2 2 [x, y] := by
  refine ⟨rfl, Nat.le_refl _, by unfold maxLen; omega, fun _ => ⟨b, 0, rfl, fun i z hz => ?_⟩⟩
  rw [Nat.zero_add]
  refine cell_blk h i ?_
  match i, hz with
  | 0, hz => rw [← Option.some.inj hz]; rfl
  | 1, hz => rw [← Option.some.inj hz]; rfl
theorem aw_rd {W : World} {g : Nat} (h : W.cell? ⟨g, 0, none⟩ = some (.int .u8 97)) : Reads W (some ⟨g, 0, none⟩) 1 1 [97] := by
  refine ⟨rfl, Nat.le_refl _, by unfold maxLen; omega, fun c hc => ?_, fun _ => ⟨g, 0, rfl, fun i hi => ?_⟩⟩
  · have : c = 97 := by simpa using hc
    omega
  · have : i = 0 := by omega
    subst this
    exact h
theorem aw_crd {W : World} {b g h : Nat} {C : Array Value} (hb : W.heap[b]? = some (.cells C 38 (0, 0))) (hC : ∀ k, k < 11 → C[k]? = (awA g).cs[k]? ∧ C[11 + k]? = (awB h).cs[k]?) (hg : W.cell? ⟨g, 0, none⟩ = some (.int .u8 97)) (hh : W.cell? ⟨h, 0, none⟩ = some (.int .u8 97)) : CRd W (some ⟨b, 0, none⟩) 2 2 (awL g h) := by
  refine ⟨rfl, Nat.le_refl _, by unfold maxLen; omega, fun _ => ⟨b, 0, rfl, fun i hi k v hv => ?_⟩, fun m hm => ?_⟩
  · have hi2 : i < 2 := hi
    refine cell_blk hb _ ?_
    rw [Nat.zero_add]
    obtain rfl | rfl : i = 0 ∨ i = 1 := by omega
    · have hv : (awA g).cs[k]? = some v := hv
      have hk : k < 11 := (Array.getElem?_eq_some_iff.1 hv).1
      rw [Nat.zero_mul, Nat.zero_add, (hC k hk).1]
      exact hv
    · have hv : (awB h).cs[k]? = some v := hv
      have hk : k < 11 := (Array.getElem?_eq_some_iff.1 hv).1
      rw [Nat.one_mul, (hC k hk).2]
      exact hv
  · rcases List.mem_cons.1 hm with rfl | hm
    · exact aw_rd hg
    · rcases List.mem_cons.1 hm with rfl | hm
      · exact aw_rd hh
      · cases hm
set_option maxRecDepth 100000 in
theorem oOneC (w : World) : Calls Try.prog 27 #[] w fun o w' => ∃ b g h, o = .returned (.slice (some ⟨b, 0, none⟩) 2 2) ∧ Hid (CRd w' (some ⟨b, 0, none⟩) 2 2 (awL g h) ∧ Kept (fun _ => False) w w') := by
  have cv1 := Go.Joins.run_convert_bytes_const_at (P := Try.prog) (w.alloc (Obj.cells #[.int .i64 1, .int .i64 1] 35)) 36 5 #[.int .u8 97] 1 1 (w.heap.size + 1) (by simp) Try.underlying36 Try.underlying5
  have cv2 := Go.Joins.run_convert_bytes_const_at (P := Try.prog) ((w.alloc (Obj.cells #[.int .i64 1, .int .i64 1] 35)).alloc (Obj.cells #[.int .u8 97] 5 (1, 2))) 36 5 #[.int .u8 97] 1 1 (w.heap.size + 1 + 1) (by simp) Try.underlying36 Try.underlying5
  go_enter Try.func27, Try.ntmps27
  go_wp2_with fail
  go_ret
  refine ⟨w.heap.size + 1 + 1 + 1, w.heap.size + 1, w.heap.size + 1 + 1, rfl, aw_crd (C := #[.int .i64 1, .int .i64 1, .bool true, .string ⟨#[107]⟩, .slice (some ⟨w.heap.size + 1, 0, none⟩) 1 1, .int .i64 0, .int .i64 0, .int .i64 1, .bool false, .int .i64 1, .int .i64 1, .int .i64 2, .int .i64 1, .bool false, .string ⟨#[107]⟩, .slice (some ⟨w.heap.size + 1 + 1, 0, none⟩) 1 1, .int .i64 0, .int .i64 2, .int .i64 3, .bool false, .int .i64 1, .int .i64 1]) ?_ ?_ ?_ ?_, ((((Kept.refl _ _).alloc _).alloc _).alloc _).alloc _⟩
  · have := alloc_new (((w.alloc (Obj.cells #[.int .i64 1, .int .i64 1] 35)).alloc (Obj.cells #[.int .u8 97] 5 (1, 2))).alloc (Obj.cells #[.int .u8 97] 5 (1, 2)))
    simp only [alloc_size] at this
    exact this _
  · intro k hk
    match k, hk with
    | 0, _ => exact ⟨rfl, rfl⟩
    | 1, _ => exact ⟨rfl, rfl⟩
    | 2, _ => exact ⟨rfl, rfl⟩
    | 3, _ => exact ⟨rfl, rfl⟩
    | 4, _ => exact ⟨rfl, rfl⟩
    | 5, _ => exact ⟨rfl, rfl⟩
    | 6, _ => exact ⟨rfl, rfl⟩
    | 7, _ => exact ⟨rfl, rfl⟩
    | 8, _ => exact ⟨rfl, rfl⟩
    | 9, _ => exact ⟨rfl, rfl⟩
    | 10, _ => exact ⟨rfl, rfl⟩
    | k + 11, hk => omega
  · refine ((Kept.refl (fun _ => False) _).alloc _).cell (((Kept.refl (fun _ => False) _).alloc _).cell ?_ (fun z => z)) (fun z => z)
    exact (Go.Joins.cell_alloc_mark_at _ _ _ _ _ _ (by simp)).trans rfl
  · refine ((Kept.refl (fun _ => False) _).alloc _).cell ?_ (fun z => z)
    exact (Go.Joins.cell_alloc_mark_at _ _ _ _ _ _ (by simp)).trans rfl
theorem awL_ki {g h : Nat} : (∀ m ∈ awL g h, KI m.client) ∧ (∀ m ∈ awL g h, KI m.ty) := by
  refine ⟨fun m hm => ?_, fun m hm => ?_⟩
  · rcases List.mem_cons.1 hm with rfl | hm
    · show KI 1
      exact ⟨by omega, by omega⟩
    · rcases List.mem_cons.1 hm with rfl | hm
      · show KI 2
        exact ⟨by omega, by omega⟩
      · cases hm
  · rcases List.mem_cons.1 hm with rfl | hm
    · show KI 1
      exact ⟨by omega, by omega⟩
    · rcases List.mem_cons.1 hm with rfl | hm
      · show KI 1
        exact ⟨by omega, by omega⟩
      · cases hm
theorem ck_yes {ms : List Cm} {R : List Int} {v : Int} (f : FitL ms) (x : Expl ms R) (h : CkA ms R v) : v = 0 := by
  rcases h with ⟨_, z⟩ | ⟨z, _⟩ | ⟨_, _, z⟩
  · exact absurd f z
  · exact z
  · exact absurd x z
theorem ck_no {ms : List Cm} {R : List Int} {v : Int} (f : FitL ms) (x : ¬ Expl ms R) (h : CkA ms R v) : v = 81 := by
  rcases h with ⟨_, z⟩ | ⟨_, _, z⟩ | ⟨z, _⟩
  · exact absurd f z
  · exact absurd z x
  · exact z
set_option maxRecDepth 100000 in
set_option maxHeartbeats 4000000 in
theorem oAwake (w : World) : Calls Try.prog 8 #[] w fun o w' => o = .returned (.bool true) ∧ Kept (fun _ => False) w w' := by
  go_enter Try.func8, Try.ntmps8
  go_wp2_with fail
  refine (oOneC _).mono ?_
  rintro o w1 ⟨b1, g1, h1, rfl, S1⟩
  have C2 : Hid (Calls Try.prog 10 #[.slice (some ⟨b1, 0, none⟩) 2 2] w1 (RetY (ByQ w1 (awL g1 h1)))) := oByTags S1.out.1 (by omega) awL_ki.1 awL_ki.2
  go_wp2_with fail
  refine C2.out.mono ?_
  rintro o w2 ⟨q, k, c, e, rfl, ⟨L, hL, row⟩, K2⟩
  obtain ⟨rfl, rfl⟩ := awL_by hL
  have T2 : Hid (IRd w2 q k c [0, 1] ∧ Kept (fun _ => False) w w2) := ⟨row.ird, S1.out.2.trans K2 (fun _ _ z => z)⟩
  clear C2 hL row K2 S1
  obtain ⟨W3, hW3⟩ : ∃ W3, W3 = w2.alloc (Obj.cells #[.int .i64 0, .int .i64 1] 3) := ⟨_, rfl⟩
  have T3 : Hid (IRd W3 q k c [0, 1] ∧ IRd W3 (some ⟨w2.heap.size, 0, none⟩) 2 2 [0, 1] ∧ Kept (fun _ => False) w W3) := by
    have K : Kept (fun _ => False) w2 W3 := by rw [hW3]; exact (Kept.refl _ _).alloc _
    exact ⟨T2.out.1.k0 K, by rw [hW3]; exact ird_two (alloc_new _ _), T2.out.2.trans K (fun _ _ z => z)⟩
  go_wp2_with fail
  rw [← hW3]
  refine (lEqual T3.out.1 T3.out.2.1).mono ?_
  rintro o w4 ⟨rfl, K4⟩
  have T4 : Hid (IRd w4 q k c [0, 1] ∧ Kept (fun _ => False) w w4) := ⟨T3.out.1.k0 K4, T3.out.2.2.trans K4 (fun _ _ z => z)⟩
  have ed : decide (([0, 1] : List Int) = [0, 1]) = true := by decide
  rw [ed]
  clear T3 T2 K4 hW3 ed
  go_wp2_with fail
  refine (oOneC _).mono ?_
  rintro o w5 ⟨b5, g5, h5, rfl, S5⟩
  have C6 : Hid (Calls Try.prog 11 #[.slice (some ⟨b5, 0, none⟩) 2 2, .slice q k c] w5 (RetC fun v w' => CkA (awL g5 h5) [0, 1] v ∧ Kept (fun _ => False) w5 w')) := oCheck S5.out.1 (by omega) (T4.out.1.k0 S5.out.2)
  have K5 : Hid (Kept (fun _ => False) w w5) := T4.out.2.trans S5.out.2 (fun _ _ z => z)
  clear T4 S5
  go_wp2_with fail
  refine C6.out.mono ?_
  rintro o w6 ⟨v6, rfl, hv6, K6'⟩
  have e6 := ck_yes (awL_fit _ _) (awL_yes _ _) hv6
  subst e6
  have K6 : Hid (Kept (fun _ => False) w w6) := K5.out.trans K6' (fun _ _ z => z)
  clear C6 hv6 K6' K5
  go_wp2_with fail
  refine (oOneC _).mono ?_
  rintro o w7 ⟨b7, g7, h7, rfl, S7⟩
  obtain ⟨W8, hW8⟩ : ∃ W8, W8 = w7.alloc (Obj.cells #[.int .i64 1, .int .i64 0] 3) := ⟨_, rfl⟩
  have KA : Hid (Kept (fun _ => False) w7 W8) := by rw [hW8]; exact (Kept.refl _ _).alloc _
  have C8 : Hid (Calls Try.prog 11 #[.slice (some ⟨b7, 0, none⟩) 2 2, .slice (some ⟨w7.heap.size, 0, none⟩) 2 2] W8 (RetC fun v w' => CkA (awL g7 h7) [1, 0] v ∧ Kept (fun _ => False) W8 w')) := oCheck (S7.out.1.k0 KA.out) (by omega) (by rw [hW8]; exact ird_two (alloc_new _ _))
  have K8 : Hid (Kept (fun _ => False) w W8) := (K6.out.trans S7.out.2 (fun _ _ z => z)).trans KA.out (fun _ _ z => z)
  clear K6 S7 KA
  go_wp2_with fail
  rw [← hW8]
  refine C8.out.mono ?_
  rintro o w9 ⟨v9, rfl, hv9, K9'⟩
  have e9 := ck_no (awL_fit _ _) (awL_no1 _ _) hv9
  subst e9
  have K9 : Hid (Kept (fun _ => False) w w9) := K8.out.trans K9' (fun _ _ z => z)
  clear C8 hv9 K9' K8 hW8
  go_wp2_with fail
  refine (oOneC _).mono ?_
  rintro o wa ⟨ba, ga, ha, rfl, Sa⟩
  obtain ⟨Wb, hWb⟩ : ∃ Wb, Wb = wa.alloc (Obj.cells #[.int .i64 0] 3) := ⟨_, rfl⟩
  have KB : Hid (Kept (fun _ => False) wa Wb) := by rw [hWb]; exact (Kept.refl _ _).alloc _
  have Cb : Hid (Calls Try.prog 11 #[.slice (some ⟨ba, 0, none⟩) 2 2, .slice (some ⟨wa.heap.size, 0, none⟩) 1 1] Wb (RetC fun v w' => CkA (awL ga ha) [0] v ∧ Kept (fun _ => False) Wb w')) := oCheck (Sa.out.1.k0 KB.out) (by omega) (by rw [hWb]; exact ird_one (alloc_new _ _))
  have Kb : Hid (Kept (fun _ => False) w Wb) := (K9.out.trans Sa.out.2 (fun _ _ z => z)).trans KB.out (fun _ _ z => z)
  clear K9 Sa KB
  go_wp2_with fail
  rw [← hWb]
  refine Cb.out.mono ?_
  rintro o wc ⟨vc, rfl, hvc, Kc'⟩
  have ec := ck_no (awL_fit _ _) (awL_no2 _ _) hvc
  subst ec
  have Kc : Hid (Kept (fun _ => False) w wc) := Kb.out.trans Kc' (fun _ _ z => z)
  clear Cb hvc Kc' Kb hWb
  go_wp2_with fail
  go_ret
  exact ⟨rfl, Kc.out⟩
end Go.Proofs.Ytodmakcklacbfaa
