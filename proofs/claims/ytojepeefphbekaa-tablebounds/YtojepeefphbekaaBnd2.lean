import Derived.Test.YtojepeefphbekaaBnd1
import Derived.Test.YtojepeefphbekaaTakn
namespace Go.Proofs.Ytojepeefphbekaa
open Go.RowKit

/-- The state of the innermost loop's round. -/
structure L3 (w w5 V : World) (d : Int) (t : TK) (i FB TB : Nat) (F G : Nat → Int × Int) (h6 : Nat) (cs : Array Value) : Prop where
  bs : BS w V d t i FB TB F G
  box : V.heap[h6]? = some (.cells cs 37 (0, 0))
  kept : Kept (fun _ => False) w5 V
theorem L3.k0 {w w5 V V' : World} {d : Int} {t : TK} {i FB TB : Nat} {F G : Nat → Int × Int} {h6 : Nat} {cs : Array Value} (h : L3 w w5 V d t i FB TB F G h6 cs) (K : Kept (fun _ => False) V V') : L3 w w5 V' d t i FB TB F G h6 cs := ⟨h.bs.k0 K, K.get h.box (fun z => z), h.kept.and0 K⟩
theorem finN_getD (L : List ((Int × Int) × Bool × Bool × Option Addr × Nat × Nat)) (j : Nat) (h : j < L.length) : finN (L.take (j + 1)) = finN (L.take j) + (if (L.getD j ((0, 0), false, false, none, 0, 0)).2.1 = true then 1 else 0) := by
  rw [finN_take L j h, getD_el L j h]
theorem wrap_dd (dd : Int) (d0 : 0 ≤ dd) (d4 : dd < 5) : IntKind.i64.wrap (dd + 1) = dd + 1 := by
  have dw : wrap64 (dd + 1) = dd + 1 := by unfold wrap64; omega
  first | exact dw | (rw [IntKind.wrap_i64]; omega)
theorem wrap_kk (k : Nat) (h : k < 9223372036854775807) : IntKind.i64.wrap (k : Int) = (k : Int) := by
  have dw : wrap64 (k : Int) = (k : Int) := by unfold wrap64; omega
  first | exact dw | (rw [IntKind.wrap_i64]; omega)
theorem cmp_ge {a b c d : Int} (h : ¬ tc (a, b) (c, d) < 0) : ∀ V : World, Calls Try.prog 10 #[.agg #[.int .i64 a, .int .i64 b], .agg #[.int .i64 c, .int .i64 d]] V fun o w' => ∃ z : Int, o = .returned (.int .i64 z) ∧ ¬ z < 0 ∧ Kept (fun _ => False) V w' := fun V => by
  refine (compare a b c d V).mono ?_
  rintro o w' ⟨rfl, B⟩
  exact ⟨_, rfl, h, k0_of B⟩
theorem cmp_lt {a b c d : Int} (h : tc (a, b) (c, d) < 0) : ∀ V : World, Calls Try.prog 10 #[.agg #[.int .i64 a, .int .i64 b], .agg #[.int .i64 c, .int .i64 d]] V fun o w' => ∃ z : Int, o = .returned (.int .i64 z) ∧ z < 0 ∧ Kept (fun _ => False) V w' := fun V => by
  refine (compare a b c d V).mono ?_
  rintro o w' ⟨rfl, B⟩
  exact ⟨_, rfl, h, k0_of B⟩
set_option maxRecDepth 100000 in
set_option maxHeartbeats 8000000 in
/-- TableBounds. -/
theorem boundsWalk (d : Int) (a : Option Addr) (len cap : Nat) (l : List Mv) (w : World) (hms : MReads w a len cap l) (hln : len ≤ 4398046510976) : Calls Try.prog 3 #[.int .i64 d, .slice a len cap] w fun o w' => o = .returned (.bool true) ∧ Kept (fun _ => False) w w' := by
  obtain ⟨dd, hdd⟩ : ∃ dd, dd = d % 5 := ⟨_, rfl⟩
  have d0 : 0 ≤ dd := by rw [hdd]; exact Int.emod_nonneg d (by omega)
  have d4 : dd < 5 := by rw [hdd]; exact Int.emod_lt_of_pos d (by omega)
  have SM : Hid (∀ V : World, Calls Try.prog 4 #[.int .i64 d] V fun o w' => o = .returned (.int .i64 dd) ∧ w' = V) := by rw [hdd]; exact fun V => small d V
  have HM : Hid (MReads w a len cap l) := hms
  have room := hms.room
  have smallc := hms.small
  unfold maxLen at smallc
  have dw : wrap64 (dd + 1) = dd + 1 := by unfold wrap64; omega
  clear hdd hms
  go_enter Try.func3, Try.ntmps3
  go_wp2_with fail
  refine (SM.out w).mono ?_
  rintro o w0 ⟨rfl, rfl⟩
  go_wp2_with fail
  refine (new_good dd w0 d0 (by omega)).mono ?_
  rintro o w1 ⟨tb, rb, rfl, i1, K1, l1, l2⟩
  have H1 : Hid (IsT w1 0 ⟨tb, rb, dd, fun _ => none⟩ ∧ Kept (fun _ => False) w0 w1 ∧ w0.heap.size ≤ rb ∧ w0.heap.size ≤ tb) := ⟨i1, K1, l2, l1⟩
  clear i1 K1 l1 l2
  go_upto_region 7 with fail
  obtain ⟨W, hW⟩ : ∃ W, W = (w1.alloc (.cells #[.int .i64 0, .int .i64 0, .int .i64 0, .int .i64 0, .int .i64 0, .int .i64 0] 30)).alloc (.cells #[.int .i64 0, .int .i64 0, .int .i64 0, .int .i64 0, .int .i64 0, .int .i64 0] 30) := ⟨_, rfl⟩
  obtain ⟨TB, hTB⟩ : ∃ B, B = w1.heap.size + 1 := ⟨_, rfl⟩
  obtain ⟨FB, hFB⟩ : ∃ A, A = w1.heap.size := ⟨_, rfl⟩
  have Q0 : Hid (BS w0 W dd ⟨tb, rb, dd, fun _ => none⟩ 0 FB TB (fun _ => (0, 0)) (fun _ => (0, 0))) := by
    have K : Kept (fun _ => False) w1 W := by rw [hW]; exact ((Kept.refl _ w1).alloc _).alloc _
    have l := H1.out.1.rows.lt
    have l : rb < w1.heap.size := l
    have sz := H1.out.2.1.size
    have lu : ∀ b, (⟨tb, rb, dd, fun _ => none⟩ : TK).Uses b → b = rb := by
      rintro b (z | ⟨k, r, hr, _⟩)
      · exact z
      · cases hr
    refine ⟨H1.out.1.k0 K, fun k r hr => (by cases hr), fun k r hr => (by cases hr), rfl, fun k => Inv.nil dd d0, H1.out.2.1.and0 K, fun b hb => by rw [lu b hb]; exact H1.out.2.2.1, H1.out.2.2.2, by rw [hW, hFB]; exact two0 _ _ _, by rw [hW, hTB]; exact two1 _ _ _, by omega, ⟨fun z => ?_, fun z => ?_⟩, fun n hn => ⟨?_, ?_⟩⟩
    · have := lu _ z
      omega
    · have := lu _ z
      omega
    · show ¬ tc (floorT [] dd) (0, 0) < 0
      have e : floorT [] dd = (0, 0) := by unfold floorT; rw [if_neg (by simp <;> omega)]
      rw [e, tc_self]
      decide
    · show ¬ tc (floorT [] 0) (0, 0) < 0
      decide
  rw [← hW, ← hTB, ← hFB]
  clear hW hTB hFB
  go_wp2_with fail
  go_loopw [4, 10, 11, 12, 13, 14, 15, 16, 32] (fun _ _ _ _ _ _ _ _ x wr => ∃ (i : Nat), x = .int .i64 (i : Int) ∧ i ≤ len ∧ Hid (∃ t F G, BS w0 wr dd t i FB TB F G ∧ t.tb = tb)) (fun _ _ _ _ _ _ _ _ x _ => len - (intOf x).toNat)
  case atStart => exact ⟨0, rfl, Nat.zero_le _, _, _, _, Q0.out, rfl⟩
  case round =>
    obtain ⟨i, rfl, hi, S⟩ := hrel
    by_cases hlt : i < len
    · have i1 : (i : Int) < (len : Int) := by omega
      obtain ⟨t, F, G, bs, et⟩ := S.out
      have B1 : Hid (BS w0 wr dd t i FB TB F G ∧ t.tb = tb) := ⟨bs, et⟩
      obtain ⟨mb, off, rfl, hc0⟩ := (HM.out.by B1.out.1.kept (fun _ _ z => z)).cells (by omega)
      obtain ⟨⟨mk, mf, mo, mc, ml⟩, hm⟩ : ∃ m, m = l.getD i Mv.zero := ⟨_, rfl⟩
      have hc := hc0 i hlt
      clear hc0
      rw [← hm] at hc
      obtain ⟨m0, m1, m2, m3, m4⟩ := hc
      clear hm bs et S
      dsimp only at m0 m1 m2 m3 m4
      rw [Nat.add_zero] at m0
      go_wp2_with fail
      refine (update mk mf mo mc ml _).mono ?_
      rintro o w2 ⟨⟨kd, key, x, y, fin, has, ua, un, uc⟩, lu, rfl, ek, exy, z1, z2, z3, rd, un5, z4, K2⟩
      clear z1 z2 z3 z4
      have B2 : Hid (BS w0 w2 dd t i FB TB F G ∧ t.tb = tb ∧ Kept (fun _ => False) wr w2) := ⟨B1.out.1.k0 ((k0_alloc _ _).and0 K2), B1.out.2, (k0_alloc _ _).and0 K2⟩
      have XY : Hid ((x, y) = tag60 mc ml ∧ key = key3 mk ∧ un ≤ 5 ∧ Reads w2 ua un uc lu) := ⟨exy, ek, un5, rd⟩
      have AP : Hid (Calls Try.prog 6 #[.pointer (some ⟨tb, 0, none⟩), .agg #[.int .i64 kd, .string key, .int .i64 x, .int .i64 y, .bool fin, .bool has, .slice ua un uc]] w2 fun o w' => (∃ (b : Bool) (e : Int), o = .returned (.tuple #[.bool b, .int .i64 e])) ∧ Hid (∃ t', BS w0 w' dd t' (i + 1) FB TB F G ∧ t'.tb = tb)) := bounds_apply B2.out.1 B2.out.2.1 d0 mc ml mk XY.out.1 XY.out.2.1 XY.out.2.2.1 XY.out.2.2.2 (by omega)
      clear K2 ek exy rd un5 m0 m1 m2 m3 m4
      unfold Upd.val
      dsimp only
      go_wp2_with fail
      refine AP.out.mono ?_
      rintro o w3 ⟨⟨rb3, re3, rfl⟩, S3⟩
      obtain ⟨t', bs3, et3⟩ := S3.out
      have B3 : Hid (BS w0 w3 dd t' (i + 1) FB TB F G ∧ t'.tb = tb) := ⟨bs3, et3⟩
      clear bs3 et3 S3 AP
      go_wp2_with fail
      go_loopw [4, 11, 12, 13, 14, 15, 16, 40] (fun _ _ _ _ _ _ _ x wr => ∃ (n : Nat), x = .int .i64 (n : Int) ∧ n ≤ 3 ∧ Hid (∃ F G, BS w0 wr dd t' (i + 1) FB TB F G)) (fun _ _ _ _ _ _ _ x _ => 3 - (intOf x).toNat)
      case atStart => exact ⟨0, rfl, Nat.zero_le _, _, _, B3.out.1⟩
      case round =>
        obtain ⟨n, rfl, hn, S4⟩ := hrel
        by_cases hn3 : n < 3
        · have n1 : (n : Int) < 3 := by omega
          obtain ⟨F4, G4, bs4⟩ := S4.out
          have B4 : Hid (BS w0 wr dd t' (i + 1) FB TB F4 G4) := bs4
          obtain ⟨key4, hkey4⟩ : ∃ k, k = key3 (n : Int) := ⟨_, rfl⟩
          have EK : Hid (key4 = key3 (n : Int) ∧ key4.size ≤ maxLen) := ⟨hkey4, by rw [hkey4]; have := key3_size (n : Int); unfold maxLen; omega⟩
          have KO : Hid (∀ V : World, Calls Try.prog 8 #[.int .i64 (n : Int)] V fun o w' => o = .returned (.string key4) ∧ Kept (fun _ => False) V w') := by rw [hkey4]; exact fun V => keyOf3 (n : Int) V
          clear bs4 S4 hkey4
          go_wp2_with fail
          refine (KO.out wr).mono ?_
          rintro o w4 ⟨rfl, K4⟩
          have B5 : Hid (BS w0 w4 dd t' (i + 1) FB TB F4 G4) := B4.out.k0 K4
          clear K4
          go_wp2_with fail
          refine (bounds_entries B5.out B3.out.2 EK.out.2 (by omega)).mono ?_
          rintro o w5 ⟨p5, cp5, L, g5, rfl, en, hp, K5⟩
          have B6 : Hid (BS w0 w5 dd t' (i + 1) FB TB F4 G4 ∧ EN w5 dd (TS t' key4) g5 cp5 L ∧ (0 < L.length → p5 = some ⟨g5, 0, none⟩)) := ⟨B5.out.k0 K5, en, hp⟩
          have hcp := en.room
          obtain ⟨N, hN⟩ : ∃ N, N = L.length := ⟨_, rfl⟩
          have LN : Hid (L.length = N) := hN.symm
          rw [← hN] at hcp ⊢
          have hcp1 := hcp.1
          have hcp2 := hcp.2
          unfold maxLen at hcp2
          clear K5 en hp hcp hN
          go_wp2_with fail
          go_loopw [4, 14, 15, 16, 50] (fun _ f _ _ x wr => ∃ (j : Nat) (fn : Nat), x = .int .i64 (j : Int) ∧ f = .int .i64 (fn : Int) ∧ j ≤ N ∧ fn ≤ j ∧ Hid (fn = finN (L.take j) ∧ Kept (fun _ => False) w5 wr)) (fun _ _ _ _ x _ => N - (intOf x).toNat)
          case atStart => exact ⟨0, 0, rfl, rfl, Nat.zero_le _, Nat.le_refl _, rfl, Kept.refl _ _⟩
          case round =>
            obtain ⟨j, fn, rfl, rfl, hj, hfj, S6⟩ := hrel
            by_cases hjl : j < N
            · have j1 : (j : Int) < (N : Int) := by omega
              have hjL : j < L.length := by have := LN.out; omega
              have hp5 : p5 = some ⟨g5, 0, none⟩ := B6.out.2.2 (by omega)
              subst hp5
              obtain ⟨⟨⟨ex, ey⟩, ef, eh, ea, el, ec⟩, he⟩ : ∃ e, e = L.getD j ((0, 0), false, false, none, 0, 0) := ⟨_, rfl⟩
              have E6 : Hid (EN wr dd (TS t' key4) g5 cp5 L) := B6.out.2.1.k0 S6.out.2
              obtain ⟨c0, c1, c2, c3, c4⟩ := E6.out.at j hjL he.symm
              have EL0 : Hid (¬ tc (ex, ey) (floorT (TS t' key4) dd) < 0 ∧ (ef = true ∨ eh = true) ∧ L.getD j ((0, 0), false, false, none, 0, 0) = ((ex, ey), ef, eh, ea, el, ec)) := by
                have z1 := E6.out.low j hjL
                have z2 := E6.out.sm j hjL
                rw [← he] at z1 z2
                exact ⟨z1, z2, he.symm⟩
              clear he hjL
              go_upto_region 20 with fail
              obtain ⟨W6, hW6⟩ : ∃ W6, W6 = wr.alloc (.cells #[.int .i64 ex, .int .i64 ey, .bool ef, .bool eh, .slice ea el ec] 37) := ⟨_, rfl⟩
              obtain ⟨h6, hh6⟩ : ∃ h6, h6 = wr.heap.size := ⟨_, rfl⟩
              have L6 : Hid (L3 w0 w5 W6 dd t' (i + 1) FB TB F4 G4 h6 #[.int .i64 ex, .int .i64 ey, .bool ef, .bool eh, .slice ea el ec]) := by
                have K : Kept (fun _ => False) wr W6 := by rw [hW6]; exact k0_alloc _ _
                exact ⟨(B6.out.1.k0 S6.out.2).k0 K, by rw [hW6, hh6]; exact heap_alloc_new _ _, S6.out.2.and0 K⟩
              rw [← hW6, ← hh6]
              clear hW6 hh6 c0 c1 c2 c3 c4
              cases ef
              · have e1 : eh = true := by
                  rcases EL0.out.2.1 with z | z
                  · cases z
                  · exact z
                subst e1
                have f2 := cell_blk L6.out.box 2 (v := .bool false) rfl
                go_upto_region 22 with fail
                clear f2
                have L6D : Hid (L3 w0 w5 W6.drew dd t' (i + 1) FB TB F4 G4 h6 #[.int .i64 ex, .int .i64 ey, .bool false, .bool true, .slice ea el ec]) := L6.out.k0 (Kept.refl _ _).drew
                cases j with
                | zero =>
                  have EL : Hid (¬ tc (ex, ey) (floorT (TS t' key4) dd) < 0 ∧ (L.getD 0 ((0, 0), false, false, none, 0, 0)).2.1 = false) := ⟨EL0.out.1, by rw [EL0.out.2.2]⟩
                  refine wp_region_held_drew (S := (fun V => V.cell? ⟨h6, 0, none⟩ = some (.int .i64 ex) ∧ V.cell? ⟨h6, 1, none⟩ = some (.int .i64 ey) ∧ V.cell? ⟨h6, 2, none⟩ = some (.bool false) ∧ V.cell? ⟨h6, 3, none⟩ = some (.bool true))) (by kernel_rfl) ?_ (fun hHeld => ?_)
                  · exact ⟨cell_blk L6D.out.box 0 rfl, cell_blk L6D.out.box 1 rfl, cell_blk L6D.out.box 2 rfl, cell_blk L6D.out.box 3 rfl⟩
                  refine wpAnyH_take (i := 0) (oi := { dst := some 59, op := Op.fieldAddr 37 (Operand.tmp 16) 0, type := 0, pos := "outright.go:180", after := #[], guard := none }) (v := .pointer (some ⟨h6, 0, none⟩)) rfl (by kernel_rfl) (by kernel_rfl) (by kernel_rfl) (fun _ _ _ h => h) (Or.inl ⟨by rfl, ?_⟩) (by assumption) ?_
                  · intro w9 hSw
                    (try dsimp only at hSw)
                    go_simp
                    all_goals (try omega)
                  (try simp only [Act.put, List.setIfInBounds_toArray, List.set_cons_zero, List.set_cons_succ])
                  refine wpAnyH_take (i := 1) (oi := { dst := some 60, op := Op.load 29 (Operand.tmp 59), type := 29, pos := "outright.go:180", after := #[{ on := 0, ground := Ground.data }], guard := none }) (v := .agg #[.int .i64 ex, .int .i64 ey]) rfl (by kernel_rfl) (by kernel_rfl) (by kernel_rfl) (fun _ _ _ h => h) (Or.inl ⟨by rfl, ?_⟩) (by assumption) ?_
                  · intro w9 hSw
                    (try dsimp only at hSw)
                    go_simp
                    all_goals (try omega)
                  (try simp only [Act.put, List.setIfInBounds_toArray, List.set_cons_zero, List.set_cons_succ])
                  refine wpAnyH_take (i := 2) (oi := { dst := some 61, op := Op.move (Operand.tmp 5), type := 24, pos := "outright.go:180", after := #[], guard := none }) (v := .pointer (some ⟨tb, 0, none⟩)) rfl (by kernel_rfl) (by kernel_rfl) (by kernel_rfl) (fun _ _ _ h => h) (Or.inl ⟨by rfl, ?_⟩) (by assumption) ?_
                  · intro w9 hSw
                    (try dsimp only at hSw)
                    go_simp
                    all_goals (try omega)
                  (try simp only [Act.put, List.setIfInBounds_toArray, List.set_cons_zero, List.set_cons_succ])
                  refine wpAnyH_take (i := 3) (oi := { dst := some 62, op := Op.move (Operand.tmp 12), type := 9, pos := "outright.go:180", after := #[], guard := none }) (v := .string key4) rfl (by kernel_rfl) (by kernel_rfl) (by kernel_rfl) (fun _ _ _ h => h) (Or.inl ⟨by rfl, ?_⟩) (by assumption) ?_
                  · intro w9 hSw
                    (try dsimp only at hSw)
                    go_simp
                    all_goals (try omega)
                  (try simp only [Act.put, List.setIfInBounds_toArray, List.set_cons_zero, List.set_cons_succ])
                  refine wpAnyH_ready (rs := [4]) (by kernel_rfl) (by simp) ?_
                  refine AllReadyH.cons (o := { dst := some 63, op := Op.call { callee := Callee.value (Operand.func 11), args := #[Operand.tmp 61, Operand.tmp 62], argTypes := #[24, 9] }, type := 29, pos := "outright.go:180", after := #[{ on := 2, ground := Ground.data }, { on := 3, ground := Ground.data }], guard := none }) rfl (fun K hK => ?_) AllReadyH.nil
                  go_simp
                  refine (bounds_floor L6D.out.bs B3.out.2 EK.out.2).mono ?_
                  rintro o w7 ⟨fx, fy, rfl, hf, K7⟩
                  have L7 : Hid _ := L6D.out.k0 K7
                  have CP : Hid (∀ V : World, Calls Try.prog 10 #[.agg #[.int .i64 ex, .int .i64 ey], .agg #[.int .i64 fx, .int .i64 fy]] V fun o w' => ∃ z : Int, o = .returned (.int .i64 z) ∧ ¬ z < 0 ∧ Kept (fun _ => False) V w') := cmp_ge (by rw [← hf]; have z := EL.out.1; omega)
                  clear K7 hf
                  refine hK.out _ _ ?_ (fun hHeld => ?_)
                  · exact ⟨cell_blk L7.out.box 0 rfl, cell_blk L7.out.box 1 rfl, cell_blk L7.out.box 2 rfl, cell_blk L7.out.box 3 rfl⟩
                  clear hK K
                  (try simp only [Act.put, List.setIfInBounds_toArray, List.set_cons_zero, List.set_cons_succ])
                  refine wpAnyH_ready (rs := [5]) (by kernel_rfl) (by simp) ?_
                  refine AllReadyH.cons (o := { dst := some 64, op := Op.call { callee := Callee.value (Operand.func 10), args := #[Operand.tmp 60, Operand.tmp 63], argTypes := #[29, 29] }, type := 3, pos := "outright.go:180", after := #[{ on := 1, ground := Ground.data }, { on := 4, ground := Ground.data }, { on := 4, ground := Ground.chain }], guard := none }) rfl (fun K hK => ?_) AllReadyH.nil
                  go_simp
                  refine (CP.out _).mono ?_
                  rintro o w8 ⟨z1, rfl, hz1, K8⟩
                  have L8 : Hid _ := L7.out.k0 K8
                  have hz1b : decide (z1 < 0) = false := by simp [hz1]
                  clear K8
                  refine hK.out _ _ ?_ (fun hHeld => ?_)
                  · exact ⟨cell_blk L8.out.box 0 rfl, cell_blk L8.out.box 1 rfl, cell_blk L8.out.box 2 rfl, cell_blk L8.out.box 3 rfl⟩
                  clear hK K
                  (try simp only [Act.put, List.setIfInBounds_toArray, List.set_cons_zero, List.set_cons_succ])
                  refine wpAnyH_take (i := 6) (oi := { dst := some 65, op := Op.binOp BinOp.lss 3 (Operand.tmp 64) (Operand.const (Value.int IntKind.i64 0)) 3, type := 4, pos := "outright.go:180", after := #[{ on := 5, ground := Ground.data }], guard := none }) (v := .bool false) rfl (by kernel_rfl) (by kernel_rfl) (by kernel_rfl) (fun _ _ _ h => h) (Or.inl ⟨by rfl, ?_⟩) (by assumption) ?_
                  · intro w9 hSw
                    (try dsimp only at hSw)
                    go_simp
                    all_goals (try omega)
                  (try simp only [Act.put, List.setIfInBounds_toArray, List.set_cons_zero, List.set_cons_succ])
                  refine wpAnyH_take (i := 7) (oi := { dst := some 66, op := Op.move (Operand.tmp 65), type := 4, pos := "outright.go:180", after := #[{ on := 6, ground := Ground.data }, { on := 5, ground := Ground.chain }], guard := none }) (v := .bool false) rfl (by kernel_rfl) (by kernel_rfl) (by kernel_rfl) (fun _ _ _ h => h) (Or.inl ⟨by rfl, ?_⟩) (by assumption) ?_
                  · intro w9 hSw
                    (try dsimp only at hSw)
                    go_simp
                    all_goals (try omega)
                  (try simp only [Act.put, List.setIfInBounds_toArray, List.set_cons_zero, List.set_cons_succ])
                  refine wpAnyH_take (i := 8) (oi := { dst := some 67, op := Op.fieldAddr 37 (Operand.tmp 16) 1, type := 0, pos := "outright.go:180", after := #[{ on := 7, ground := Ground.guard }], guard := some (7, false) }) (v := .pointer (some ⟨h6, 2, none⟩)) rfl (by kernel_rfl) (by kernel_rfl) (by kernel_rfl) (fun _ _ _ h => h) (Or.inl ⟨by rfl, ?_⟩) (by assumption) ?_
                  · intro w9 hSw
                    (try dsimp only at hSw)
                    go_simp
                    all_goals (try omega)
                  (try simp only [Act.put, List.setIfInBounds_toArray, List.set_cons_zero, List.set_cons_succ])
                  refine wpAnyH_take (i := 9) (oi := { dst := some 68, op := Op.load 4 (Operand.tmp 67), type := 4, pos := "outright.go:180", after := #[{ on := 8, ground := Ground.data }, { on := 7, ground := Ground.guard }], guard := some (7, false) }) (v := .bool false) rfl (by kernel_rfl) (by kernel_rfl) (by kernel_rfl) (fun _ _ _ h => h) (Or.inl ⟨by rfl, ?_⟩) (by assumption) ?_
                  · intro w9 hSw
                    (try dsimp only at hSw)
                    go_simp
                    all_goals (try omega)
                  (try simp only [Act.put, List.setIfInBounds_toArray, List.set_cons_zero, List.set_cons_succ])
                  refine wpAnyH_take (i := 10) (oi := { dst := some 69, op := Op.unOp UnOp.not 4 (Operand.tmp 68), type := 4, pos := "outright.go:180", after := #[{ on := 9, ground := Ground.data }, { on := 7, ground := Ground.guard }], guard := some (7, false) }) (v := .bool true) rfl (by kernel_rfl) (by kernel_rfl) (by kernel_rfl) (fun _ _ _ h => h) (Or.inl ⟨by rfl, ?_⟩) (by assumption) ?_
                  · intro w9 hSw
                    (try dsimp only at hSw)
                    go_simp
                    all_goals (try omega)
                  (try simp only [Act.put, List.setIfInBounds_toArray, List.set_cons_zero, List.set_cons_succ])
                  refine wpAnyH_take (i := 11) (oi := { dst := some 70, op := Op.move (Operand.tmp 69), type := 4, pos := "outright.go:180", after := #[{ on := 10, ground := Ground.data }, { on := 7, ground := Ground.chain }, { on := 7, ground := Ground.guard }], guard := some (7, false) }) (v := .bool true) rfl (by kernel_rfl) (by kernel_rfl) (by kernel_rfl) (fun _ _ _ h => h) (Or.inl ⟨by rfl, ?_⟩) (by assumption) ?_
                  · intro w9 hSw
                    (try dsimp only at hSw)
                    go_simp
                    all_goals (try omega)
                  (try simp only [Act.put, List.setIfInBounds_toArray, List.set_cons_zero, List.set_cons_succ])
                  refine wpAnyH_take (i := 12) (oi := { dst := some 71, op := Op.fieldAddr 37 (Operand.tmp 16) 2, type := 0, pos := "outright.go:180", after := #[{ on := 11, ground := Ground.guard }], guard := some (11, true) }) (v := .pointer (some ⟨h6, 3, none⟩)) rfl (by kernel_rfl) (by kernel_rfl) (by kernel_rfl) (fun _ _ _ h => h) (Or.inl ⟨by rfl, ?_⟩) (by assumption) ?_
                  · intro w9 hSw
                    (try dsimp only at hSw)
                    go_simp
                    all_goals (try omega)
                  (try simp only [Act.put, List.setIfInBounds_toArray, List.set_cons_zero, List.set_cons_succ])
                  refine wpAnyH_take (i := 13) (oi := { dst := some 72, op := Op.load 4 (Operand.tmp 71), type := 4, pos := "outright.go:180", after := #[{ on := 12, ground := Ground.data }, { on := 11, ground := Ground.guard }], guard := some (11, true) }) (v := .bool true) rfl (by kernel_rfl) (by kernel_rfl) (by kernel_rfl) (fun _ _ _ h => h) (Or.inl ⟨by rfl, ?_⟩) (by assumption) ?_
                  · intro w9 hSw
                    (try dsimp only at hSw)
                    go_simp
                    all_goals (try omega)
                  (try simp only [Act.put, List.setIfInBounds_toArray, List.set_cons_zero, List.set_cons_succ])
                  refine wpAnyH_take (i := 14) (oi := { dst := some 73, op := Op.unOp UnOp.not 4 (Operand.tmp 72), type := 4, pos := "outright.go:180", after := #[{ on := 13, ground := Ground.data }, { on := 11, ground := Ground.guard }], guard := some (11, true) }) (v := .bool false) rfl (by kernel_rfl) (by kernel_rfl) (by kernel_rfl) (fun _ _ _ h => h) (Or.inl ⟨by rfl, ?_⟩) (by assumption) ?_
                  · intro w9 hSw
                    (try dsimp only at hSw)
                    go_simp
                    all_goals (try omega)
                  (try simp only [Act.put, List.setIfInBounds_toArray, List.set_cons_zero, List.set_cons_succ])
                  refine wpAnyH_take (i := 15) (oi := { dst := some 74, op := Op.pick (Operand.tmp 70) (Operand.tmp 73) (Operand.const (Value.bool false)), type := 4, pos := "outright.go:180", after := #[{ on := 11, ground := Ground.data }, { on := 14, ground := Ground.data }, { on := 7, ground := Ground.guard }], guard := some (7, false) }) (v := .bool false) rfl (by kernel_rfl) (by kernel_rfl) (by kernel_rfl) (fun _ _ _ h => h) (Or.inl ⟨by rfl, ?_⟩) (by assumption) ?_
                  · intro w9 hSw
                    (try dsimp only at hSw)
                    go_simp
                    all_goals (try omega)
                  (try simp only [Act.put, List.setIfInBounds_toArray, List.set_cons_zero, List.set_cons_succ])
                  refine wpAnyH_take (i := 16) (oi := { dst := some 75, op := Op.pick (Operand.tmp 66) (Operand.const (Value.bool true)) (Operand.tmp 74), type := 4, pos := "outright.go:180", after := #[{ on := 7, ground := Ground.data }, { on := 15, ground := Ground.data }], guard := none }) (v := .bool false) rfl (by kernel_rfl) (by kernel_rfl) (by kernel_rfl) (fun _ _ _ h => h) (Or.inl ⟨by rfl, ?_⟩) (by assumption) ?_
                  · intro w9 hSw
                    (try dsimp only at hSw)
                    go_simp
                    all_goals (try omega)
                  (try simp only [Act.put, List.setIfInBounds_toArray, List.set_cons_zero, List.set_cons_succ])
                  refine wpAnyH_take (i := 17) (oi := { dst := some 76, op := Op.move (Operand.tmp 75), type := 4, pos := "outright.go:180", after := #[{ on := 16, ground := Ground.data }, { on := 11, ground := Ground.chain }], guard := none }) (v := .bool false) rfl (by kernel_rfl) (by kernel_rfl) (by kernel_rfl) (fun _ _ _ h => h) (Or.inl ⟨by rfl, ?_⟩) (by assumption) ?_
                  · intro w9 hSw
                    (try dsimp only at hSw)
                    go_simp
                    all_goals (try omega)
                  (try simp only [Act.put, List.setIfInBounds_toArray, List.set_cons_zero, List.set_cons_succ])
                  refine wpAnyH_take (i := 18) (oi := { dst := some 77, op := Op.move (Operand.tmp 15), type := 3, pos := "outright.go:180", after := #[{ on := 17, ground := Ground.guard }], guard := some (17, false) }) (v := .int .i64 0) rfl (by kernel_rfl) (by kernel_rfl) (by kernel_rfl) (fun _ _ _ h => h) (Or.inl ⟨by rfl, ?_⟩) (by assumption) ?_
                  · intro w9 hSw
                    (try dsimp only at hSw)
                    go_simp
                    all_goals (try omega)
                  (try simp only [Act.put, List.setIfInBounds_toArray, List.set_cons_zero, List.set_cons_succ])
                  refine wpAnyH_take (i := 19) (oi := { dst := some 78, op := Op.binOp BinOp.gtr 3 (Operand.tmp 77) (Operand.const (Value.int IntKind.i64 0)) 3, type := 4, pos := "outright.go:180", after := #[{ on := 18, ground := Ground.data }, { on := 17, ground := Ground.guard }], guard := some (17, false) }) (v := .bool false) rfl (by kernel_rfl) (by kernel_rfl) (by kernel_rfl) (fun _ _ _ h => h) (Or.inl ⟨by rfl, ?_⟩) (by assumption) ?_
                  · intro w9 hSw
                    (try dsimp only at hSw)
                    go_simp
                    all_goals (try omega)
                  (try simp only [Act.put, List.setIfInBounds_toArray, List.set_cons_zero, List.set_cons_succ])
                  refine wpAnyH_take (i := 20) (oi := { dst := some 79, op := Op.move (Operand.tmp 78), type := 4, pos := "outright.go:180", after := #[{ on := 19, ground := Ground.data }, { on := 17, ground := Ground.chain }, { on := 17, ground := Ground.guard }], guard := some (17, false) }) (v := .bool false) rfl (by kernel_rfl) (by kernel_rfl) (by kernel_rfl) (fun _ _ _ h => h) (Or.inl ⟨by rfl, ?_⟩) (by assumption) ?_
                  · intro w9 hSw
                    (try dsimp only at hSw)
                    go_simp
                    all_goals (try omega)
                  (try simp only [Act.put, List.setIfInBounds_toArray, List.set_cons_zero, List.set_cons_succ])
                  refine wpAnyH_take (i := 21) (oi := { dst := some 80, op := Op.move (Operand.tmp 13), type := 42, pos := "outright.go:180", after := #[{ on := 20, ground := Ground.guard }], guard := some (20, true) }) (v := undef) rfl (by kernel_rfl) (by kernel_rfl) (by kernel_rfl) (fun _ _ _ h => h) (Or.inr ⟨by rfl, rfl⟩) (by assumption) ?_
                  (try simp only [Act.put, List.setIfInBounds_toArray, List.set_cons_zero, List.set_cons_succ])
                  refine wpAnyH_take (i := 22) (oi := { dst := some 81, op := Op.move (Operand.tmp 15), type := 3, pos := "outright.go:180", after := #[{ on := 20, ground := Ground.guard }], guard := some (20, true) }) (v := undef) rfl (by kernel_rfl) (by kernel_rfl) (by kernel_rfl) (fun _ _ _ h => h) (Or.inr ⟨by rfl, rfl⟩) (by assumption) ?_
                  (try simp only [Act.put, List.setIfInBounds_toArray, List.set_cons_zero, List.set_cons_succ])
                  refine wpAnyH_take (i := 23) (oi := { dst := some 82, op := Op.binOp BinOp.sub 3 (Operand.tmp 81) (Operand.const (Value.int IntKind.i64 1)) 3, type := 3, pos := "outright.go:180", after := #[{ on := 22, ground := Ground.data }, { on := 20, ground := Ground.guard }], guard := some (20, true) }) (v := undef) rfl (by kernel_rfl) (by kernel_rfl) (by kernel_rfl) (fun _ _ _ h => h) (Or.inr ⟨by rfl, rfl⟩) (by assumption) ?_
                  (try simp only [Act.put, List.setIfInBounds_toArray, List.set_cons_zero, List.set_cons_succ])
                  refine wpAnyH_take (i := 24) (oi := { dst := some 83, op := Op.indexAddr 42 (Operand.tmp 80) (Operand.tmp 82), type := 0, pos := "outright.go:180", after := #[{ on := 21, ground := Ground.data }, { on := 23, ground := Ground.data }, { on := 20, ground := Ground.guard }], guard := some (20, true) }) (v := undef) rfl (by kernel_rfl) (by kernel_rfl) (by kernel_rfl) (fun _ _ _ h => h) (Or.inr ⟨by rfl, rfl⟩) (by assumption) ?_
                  (try simp only [Act.put, List.setIfInBounds_toArray, List.set_cons_zero, List.set_cons_succ])
                  refine wpAnyH_take (i := 25) (oi := { dst := some 84, op := Op.fieldAddr 37 (Operand.tmp 83) 0, type := 0, pos := "outright.go:180", after := #[{ on := 24, ground := Ground.data }, { on := 20, ground := Ground.guard }], guard := some (20, true) }) (v := undef) rfl (by kernel_rfl) (by kernel_rfl) (by kernel_rfl) (fun _ _ _ h => h) (Or.inr ⟨by rfl, rfl⟩) (by assumption) ?_
                  (try simp only [Act.put, List.setIfInBounds_toArray, List.set_cons_zero, List.set_cons_succ])
                  refine wpAnyH_take (i := 26) (oi := { dst := some 85, op := Op.load 29 (Operand.tmp 84), type := 29, pos := "outright.go:180", after := #[{ on := 25, ground := Ground.data }, { on := 20, ground := Ground.guard }], guard := some (20, true) }) (v := undef) rfl (by kernel_rfl) (by kernel_rfl) (by kernel_rfl) (fun _ _ _ h => h) (Or.inr ⟨by rfl, rfl⟩) (by assumption) ?_
                  (try simp only [Act.put, List.setIfInBounds_toArray, List.set_cons_zero, List.set_cons_succ])
                  refine wpAnyH_take (i := 27) (oi := { dst := some 86, op := Op.fieldAddr 37 (Operand.tmp 16) 0, type := 0, pos := "outright.go:180", after := #[{ on := 20, ground := Ground.guard }], guard := some (20, true) }) (v := undef) rfl (by kernel_rfl) (by kernel_rfl) (by kernel_rfl) (fun _ _ _ h => h) (Or.inr ⟨by rfl, rfl⟩) (by assumption) ?_
                  (try simp only [Act.put, List.setIfInBounds_toArray, List.set_cons_zero, List.set_cons_succ])
                  refine wpAnyH_take (i := 28) (oi := { dst := some 87, op := Op.load 29 (Operand.tmp 86), type := 29, pos := "outright.go:180", after := #[{ on := 27, ground := Ground.data }, { on := 20, ground := Ground.guard }], guard := some (20, true) }) (v := undef) rfl (by kernel_rfl) (by kernel_rfl) (by kernel_rfl) (fun _ _ _ h => h) (Or.inr ⟨by rfl, rfl⟩) (by assumption) ?_
                  (try simp only [Act.put, List.setIfInBounds_toArray, List.set_cons_zero, List.set_cons_succ])
                  refine wpAnyH_take (i := 29) (oi := { dst := some 88, op := Op.call { callee := Callee.value (Operand.func 10), args := #[Operand.tmp 85, Operand.tmp 87], argTypes := #[29, 29] }, type := 3, pos := "outright.go:180", after := #[{ on := 26, ground := Ground.data }, { on := 28, ground := Ground.data }, { on := 20, ground := Ground.chain }, { on := 20, ground := Ground.guard }], guard := some (20, true) }) (v := undef) rfl (by kernel_rfl) (by kernel_rfl) (by kernel_rfl) (fun _ _ _ h => h) (Or.inr ⟨by rfl, rfl⟩) (by assumption) ?_
                  (try simp only [Act.put, List.setIfInBounds_toArray, List.set_cons_zero, List.set_cons_succ])
                  refine wpAnyH_take (i := 30) (oi := { dst := some 89, op := Op.binOp BinOp.geq 3 (Operand.tmp 88) (Operand.const (Value.int IntKind.i64 0)) 3, type := 4, pos := "outright.go:180", after := #[{ on := 29, ground := Ground.data }, { on := 20, ground := Ground.guard }], guard := some (20, true) }) (v := undef) rfl (by kernel_rfl) (by kernel_rfl) (by kernel_rfl) (fun _ _ _ h => h) (Or.inr ⟨by rfl, rfl⟩) (by assumption) ?_
                  (try simp only [Act.put, List.setIfInBounds_toArray, List.set_cons_zero, List.set_cons_succ])
                  refine wpAnyH_take (i := 31) (oi := { dst := some 90, op := Op.pick (Operand.tmp 79) (Operand.tmp 89) (Operand.const (Value.bool false)), type := 4, pos := "outright.go:180", after := #[{ on := 20, ground := Ground.data }, { on := 30, ground := Ground.data }, { on := 17, ground := Ground.guard }], guard := some (17, false) }) (v := .bool false) rfl (by kernel_rfl) (by kernel_rfl) (by kernel_rfl) (fun _ _ _ h => h) (Or.inl ⟨by rfl, ?_⟩) (by assumption) ?_
                  · intro w9 hSw
                    (try dsimp only at hSw)
                    go_simp
                    all_goals (try omega)
                  (try simp only [Act.put, List.setIfInBounds_toArray, List.set_cons_zero, List.set_cons_succ])
                  refine wpAnyH_take (i := 32) (oi := { dst := some 91, op := Op.pick (Operand.tmp 76) (Operand.const (Value.bool true)) (Operand.tmp 90), type := 4, pos := "outright.go:180", after := #[{ on := 17, ground := Ground.data }, { on := 31, ground := Ground.data }], guard := none }) (v := .bool false) rfl (by kernel_rfl) (by kernel_rfl) (by kernel_rfl) (fun _ _ _ h => h) (Or.inl ⟨by rfl, ?_⟩) (by assumption) ?_
                  · intro w9 hSw
                    (try dsimp only at hSw)
                    go_simp
                    all_goals (try omega)
                  (try simp only [Act.put, List.setIfInBounds_toArray, List.set_cons_zero, List.set_cons_succ])
                  refine wpAnyH_done (by kernel_rfl) ?_ _
                  go_wp2_with fail
                  go_roundw
                  case rel =>
                    refine ⟨0 + 1, fn, by go_num, by go_num, by omega, by omega, ?_, L8.out.kept⟩
                    rw [finN_getD L (0) (by have := LN.out; omega), EL.out.2, ← S6.out.1]
                    rfl
                  case measure => simp [intOf]; omega
                | succ k =>
                  obtain ⟨⟨⟨px, py⟩, pf, ph, pa, pl, pc⟩, hpe⟩ : ∃ e, e = L.getD k ((0, 0), false, false, none, 0, 0) := ⟨_, rfl⟩
                  have PC : Hid (w5.cell? ⟨g5, k * 5, none⟩ = some (.int .i64 px) ∧ w5.cell? ⟨g5, k * 5 + 1, none⟩ = some (.int .i64 py) ∧ ∀ V : World, Calls Try.prog 10 #[.agg #[.int .i64 px, .int .i64 py], .agg #[.int .i64 ex, .int .i64 ey]] V fun o w' => ∃ z : Int, o = .returned (.int .i64 z) ∧ z < 0 ∧ Kept (fun _ => False) V w') := by
                    have q := B6.out.2.1.at k (by have := LN.out; omega) hpe.symm
                    have r := B6.out.2.1.rise (k + 1) (by omega) (by have := LN.out; omega)
                    rw [EL0.out.2.2, show k + 1 - 1 = k by omega, ← hpe] at r
                    exact ⟨q.1, q.2.1, cmp_lt r⟩
                  have EL : Hid (¬ tc (ex, ey) (floorT (TS t' key4) dd) < 0 ∧ (L.getD (k + 1) ((0, 0), false, false, none, 0, 0)).2.1 = false) := ⟨EL0.out.1, by rw [EL0.out.2.2]⟩
                  have k0 : (0 : Int) < ((k + 1 : Nat) : Int) := by omega
                  have k1 : IntKind.i64.wrap (k : Int) = (k : Int) := wrap_kk k (by omega)
                  have k2 : (k : Int) < (N : Int) := by omega
                  clear hpe
                  refine wp_region_held_drew (S := (fun V => V.cell? ⟨h6, 0, none⟩ = some (.int .i64 ex) ∧ V.cell? ⟨h6, 1, none⟩ = some (.int .i64 ey) ∧ V.cell? ⟨h6, 2, none⟩ = some (.bool false) ∧ V.cell? ⟨h6, 3, none⟩ = some (.bool true) ∧ V.cell? ⟨g5, k * 5, none⟩ = some (.int .i64 px) ∧ V.cell? ⟨g5, k * 5 + 1, none⟩ = some (.int .i64 py))) (by kernel_rfl) ?_ (fun hHeld => ?_)
                  · exact ⟨cell_blk L6D.out.box 0 rfl, cell_blk L6D.out.box 1 rfl, cell_blk L6D.out.box 2 rfl, cell_blk L6D.out.box 3 rfl, L6D.out.kept.cell PC.out.1 (fun z => z), L6D.out.kept.cell PC.out.2.1 (fun z => z)⟩
                  refine wpAnyH_take (i := 0) (oi := { dst := some 59, op := Op.fieldAddr 37 (Operand.tmp 16) 0, type := 0, pos := "outright.go:180", after := #[], guard := none }) (v := .pointer (some ⟨h6, 0, none⟩)) rfl (by kernel_rfl) (by kernel_rfl) (by kernel_rfl) (fun _ _ _ h => h) (Or.inl ⟨by rfl, ?_⟩) (by assumption) ?_
                  · intro w9 hSw
                    (try dsimp only at hSw)
                    go_simp
                    all_goals (try omega)
                  (try simp only [Act.put, List.setIfInBounds_toArray, List.set_cons_zero, List.set_cons_succ])
                  refine wpAnyH_take (i := 1) (oi := { dst := some 60, op := Op.load 29 (Operand.tmp 59), type := 29, pos := "outright.go:180", after := #[{ on := 0, ground := Ground.data }], guard := none }) (v := .agg #[.int .i64 ex, .int .i64 ey]) rfl (by kernel_rfl) (by kernel_rfl) (by kernel_rfl) (fun _ _ _ h => h) (Or.inl ⟨by rfl, ?_⟩) (by assumption) ?_
                  · intro w9 hSw
                    (try dsimp only at hSw)
                    go_simp
                    all_goals (try omega)
                  (try simp only [Act.put, List.setIfInBounds_toArray, List.set_cons_zero, List.set_cons_succ])
                  refine wpAnyH_take (i := 2) (oi := { dst := some 61, op := Op.move (Operand.tmp 5), type := 24, pos := "outright.go:180", after := #[], guard := none }) (v := .pointer (some ⟨tb, 0, none⟩)) rfl (by kernel_rfl) (by kernel_rfl) (by kernel_rfl) (fun _ _ _ h => h) (Or.inl ⟨by rfl, ?_⟩) (by assumption) ?_
                  · intro w9 hSw
                    (try dsimp only at hSw)
                    go_simp
                    all_goals (try omega)
                  (try simp only [Act.put, List.setIfInBounds_toArray, List.set_cons_zero, List.set_cons_succ])
                  refine wpAnyH_take (i := 3) (oi := { dst := some 62, op := Op.move (Operand.tmp 12), type := 9, pos := "outright.go:180", after := #[], guard := none }) (v := .string key4) rfl (by kernel_rfl) (by kernel_rfl) (by kernel_rfl) (fun _ _ _ h => h) (Or.inl ⟨by rfl, ?_⟩) (by assumption) ?_
                  · intro w9 hSw
                    (try dsimp only at hSw)
                    go_simp
                    all_goals (try omega)
                  (try simp only [Act.put, List.setIfInBounds_toArray, List.set_cons_zero, List.set_cons_succ])
                  refine wpAnyH_ready (rs := [4]) (by kernel_rfl) (by simp) ?_
                  refine AllReadyH.cons (o := { dst := some 63, op := Op.call { callee := Callee.value (Operand.func 11), args := #[Operand.tmp 61, Operand.tmp 62], argTypes := #[24, 9] }, type := 29, pos := "outright.go:180", after := #[{ on := 2, ground := Ground.data }, { on := 3, ground := Ground.data }], guard := none }) rfl (fun K hK => ?_) AllReadyH.nil
                  go_simp
                  refine (bounds_floor L6D.out.bs B3.out.2 EK.out.2).mono ?_
                  rintro o w7 ⟨fx, fy, rfl, hf, K7⟩
                  have L7 : Hid _ := L6D.out.k0 K7
                  have CP : Hid (∀ V : World, Calls Try.prog 10 #[.agg #[.int .i64 ex, .int .i64 ey], .agg #[.int .i64 fx, .int .i64 fy]] V fun o w' => ∃ z : Int, o = .returned (.int .i64 z) ∧ ¬ z < 0 ∧ Kept (fun _ => False) V w') := cmp_ge (by rw [← hf]; have z := EL.out.1; omega)
                  clear K7 hf
                  refine hK.out _ _ ?_ (fun hHeld => ?_)
                  · exact ⟨cell_blk L7.out.box 0 rfl, cell_blk L7.out.box 1 rfl, cell_blk L7.out.box 2 rfl, cell_blk L7.out.box 3 rfl, L7.out.kept.cell PC.out.1 (fun z => z), L7.out.kept.cell PC.out.2.1 (fun z => z)⟩
                  clear hK K
                  (try simp only [Act.put, List.setIfInBounds_toArray, List.set_cons_zero, List.set_cons_succ])
                  refine wpAnyH_ready (rs := [5]) (by kernel_rfl) (by simp) ?_
                  refine AllReadyH.cons (o := { dst := some 64, op := Op.call { callee := Callee.value (Operand.func 10), args := #[Operand.tmp 60, Operand.tmp 63], argTypes := #[29, 29] }, type := 3, pos := "outright.go:180", after := #[{ on := 1, ground := Ground.data }, { on := 4, ground := Ground.data }, { on := 4, ground := Ground.chain }], guard := none }) rfl (fun K hK => ?_) AllReadyH.nil
                  go_simp
                  refine (CP.out _).mono ?_
                  rintro o w8 ⟨z1, rfl, hz1, K8⟩
                  have L8 : Hid _ := L7.out.k0 K8
                  have hz1b : decide (z1 < 0) = false := by simp [hz1]
                  clear K8
                  refine hK.out _ _ ?_ (fun hHeld => ?_)
                  · exact ⟨cell_blk L8.out.box 0 rfl, cell_blk L8.out.box 1 rfl, cell_blk L8.out.box 2 rfl, cell_blk L8.out.box 3 rfl, L8.out.kept.cell PC.out.1 (fun z => z), L8.out.kept.cell PC.out.2.1 (fun z => z)⟩
                  clear hK K
                  (try simp only [Act.put, List.setIfInBounds_toArray, List.set_cons_zero, List.set_cons_succ])
                  refine wpAnyH_take (i := 6) (oi := { dst := some 65, op := Op.binOp BinOp.lss 3 (Operand.tmp 64) (Operand.const (Value.int IntKind.i64 0)) 3, type := 4, pos := "outright.go:180", after := #[{ on := 5, ground := Ground.data }], guard := none }) (v := .bool false) rfl (by kernel_rfl) (by kernel_rfl) (by kernel_rfl) (fun _ _ _ h => h) (Or.inl ⟨by rfl, ?_⟩) (by assumption) ?_
                  · intro w9 hSw
                    (try dsimp only at hSw)
                    go_simp
                    all_goals (try omega)
                  (try simp only [Act.put, List.setIfInBounds_toArray, List.set_cons_zero, List.set_cons_succ])
                  refine wpAnyH_take (i := 7) (oi := { dst := some 66, op := Op.move (Operand.tmp 65), type := 4, pos := "outright.go:180", after := #[{ on := 6, ground := Ground.data }, { on := 5, ground := Ground.chain }], guard := none }) (v := .bool false) rfl (by kernel_rfl) (by kernel_rfl) (by kernel_rfl) (fun _ _ _ h => h) (Or.inl ⟨by rfl, ?_⟩) (by assumption) ?_
                  · intro w9 hSw
                    (try dsimp only at hSw)
                    go_simp
                    all_goals (try omega)
                  (try simp only [Act.put, List.setIfInBounds_toArray, List.set_cons_zero, List.set_cons_succ])
                  refine wpAnyH_take (i := 8) (oi := { dst := some 67, op := Op.fieldAddr 37 (Operand.tmp 16) 1, type := 0, pos := "outright.go:180", after := #[{ on := 7, ground := Ground.guard }], guard := some (7, false) }) (v := .pointer (some ⟨h6, 2, none⟩)) rfl (by kernel_rfl) (by kernel_rfl) (by kernel_rfl) (fun _ _ _ h => h) (Or.inl ⟨by rfl, ?_⟩) (by assumption) ?_
                  · intro w9 hSw
                    (try dsimp only at hSw)
                    go_simp
                    all_goals (try omega)
                  (try simp only [Act.put, List.setIfInBounds_toArray, List.set_cons_zero, List.set_cons_succ])
                  refine wpAnyH_take (i := 9) (oi := { dst := some 68, op := Op.load 4 (Operand.tmp 67), type := 4, pos := "outright.go:180", after := #[{ on := 8, ground := Ground.data }, { on := 7, ground := Ground.guard }], guard := some (7, false) }) (v := .bool false) rfl (by kernel_rfl) (by kernel_rfl) (by kernel_rfl) (fun _ _ _ h => h) (Or.inl ⟨by rfl, ?_⟩) (by assumption) ?_
                  · intro w9 hSw
                    (try dsimp only at hSw)
                    go_simp
                    all_goals (try omega)
                  (try simp only [Act.put, List.setIfInBounds_toArray, List.set_cons_zero, List.set_cons_succ])
                  refine wpAnyH_take (i := 10) (oi := { dst := some 69, op := Op.unOp UnOp.not 4 (Operand.tmp 68), type := 4, pos := "outright.go:180", after := #[{ on := 9, ground := Ground.data }, { on := 7, ground := Ground.guard }], guard := some (7, false) }) (v := .bool true) rfl (by kernel_rfl) (by kernel_rfl) (by kernel_rfl) (fun _ _ _ h => h) (Or.inl ⟨by rfl, ?_⟩) (by assumption) ?_
                  · intro w9 hSw
                    (try dsimp only at hSw)
                    go_simp
                    all_goals (try omega)
                  (try simp only [Act.put, List.setIfInBounds_toArray, List.set_cons_zero, List.set_cons_succ])
                  refine wpAnyH_take (i := 11) (oi := { dst := some 70, op := Op.move (Operand.tmp 69), type := 4, pos := "outright.go:180", after := #[{ on := 10, ground := Ground.data }, { on := 7, ground := Ground.chain }, { on := 7, ground := Ground.guard }], guard := some (7, false) }) (v := .bool true) rfl (by kernel_rfl) (by kernel_rfl) (by kernel_rfl) (fun _ _ _ h => h) (Or.inl ⟨by rfl, ?_⟩) (by assumption) ?_
                  · intro w9 hSw
                    (try dsimp only at hSw)
                    go_simp
                    all_goals (try omega)
                  (try simp only [Act.put, List.setIfInBounds_toArray, List.set_cons_zero, List.set_cons_succ])
                  refine wpAnyH_take (i := 12) (oi := { dst := some 71, op := Op.fieldAddr 37 (Operand.tmp 16) 2, type := 0, pos := "outright.go:180", after := #[{ on := 11, ground := Ground.guard }], guard := some (11, true) }) (v := .pointer (some ⟨h6, 3, none⟩)) rfl (by kernel_rfl) (by kernel_rfl) (by kernel_rfl) (fun _ _ _ h => h) (Or.inl ⟨by rfl, ?_⟩) (by assumption) ?_
                  · intro w9 hSw
                    (try dsimp only at hSw)
                    go_simp
                    all_goals (try omega)
                  (try simp only [Act.put, List.setIfInBounds_toArray, List.set_cons_zero, List.set_cons_succ])
                  refine wpAnyH_take (i := 13) (oi := { dst := some 72, op := Op.load 4 (Operand.tmp 71), type := 4, pos := "outright.go:180", after := #[{ on := 12, ground := Ground.data }, { on := 11, ground := Ground.guard }], guard := some (11, true) }) (v := .bool true) rfl (by kernel_rfl) (by kernel_rfl) (by kernel_rfl) (fun _ _ _ h => h) (Or.inl ⟨by rfl, ?_⟩) (by assumption) ?_
                  · intro w9 hSw
                    (try dsimp only at hSw)
                    go_simp
                    all_goals (try omega)
                  (try simp only [Act.put, List.setIfInBounds_toArray, List.set_cons_zero, List.set_cons_succ])
                  refine wpAnyH_take (i := 14) (oi := { dst := some 73, op := Op.unOp UnOp.not 4 (Operand.tmp 72), type := 4, pos := "outright.go:180", after := #[{ on := 13, ground := Ground.data }, { on := 11, ground := Ground.guard }], guard := some (11, true) }) (v := .bool false) rfl (by kernel_rfl) (by kernel_rfl) (by kernel_rfl) (fun _ _ _ h => h) (Or.inl ⟨by rfl, ?_⟩) (by assumption) ?_
                  · intro w9 hSw
                    (try dsimp only at hSw)
                    go_simp
                    all_goals (try omega)
                  (try simp only [Act.put, List.setIfInBounds_toArray, List.set_cons_zero, List.set_cons_succ])
                  refine wpAnyH_take (i := 15) (oi := { dst := some 74, op := Op.pick (Operand.tmp 70) (Operand.tmp 73) (Operand.const (Value.bool false)), type := 4, pos := "outright.go:180", after := #[{ on := 11, ground := Ground.data }, { on := 14, ground := Ground.data }, { on := 7, ground := Ground.guard }], guard := some (7, false) }) (v := .bool false) rfl (by kernel_rfl) (by kernel_rfl) (by kernel_rfl) (fun _ _ _ h => h) (Or.inl ⟨by rfl, ?_⟩) (by assumption) ?_
                  · intro w9 hSw
                    (try dsimp only at hSw)
                    go_simp
                    all_goals (try omega)
                  (try simp only [Act.put, List.setIfInBounds_toArray, List.set_cons_zero, List.set_cons_succ])
                  refine wpAnyH_take (i := 16) (oi := { dst := some 75, op := Op.pick (Operand.tmp 66) (Operand.const (Value.bool true)) (Operand.tmp 74), type := 4, pos := "outright.go:180", after := #[{ on := 7, ground := Ground.data }, { on := 15, ground := Ground.data }], guard := none }) (v := .bool false) rfl (by kernel_rfl) (by kernel_rfl) (by kernel_rfl) (fun _ _ _ h => h) (Or.inl ⟨by rfl, ?_⟩) (by assumption) ?_
                  · intro w9 hSw
                    (try dsimp only at hSw)
                    go_simp
                    all_goals (try omega)
                  (try simp only [Act.put, List.setIfInBounds_toArray, List.set_cons_zero, List.set_cons_succ])
                  refine wpAnyH_take (i := 17) (oi := { dst := some 76, op := Op.move (Operand.tmp 75), type := 4, pos := "outright.go:180", after := #[{ on := 16, ground := Ground.data }, { on := 11, ground := Ground.chain }], guard := none }) (v := .bool false) rfl (by kernel_rfl) (by kernel_rfl) (by kernel_rfl) (fun _ _ _ h => h) (Or.inl ⟨by rfl, ?_⟩) (by assumption) ?_
                  · intro w9 hSw
                    (try dsimp only at hSw)
                    go_simp
                    all_goals (try omega)
                  (try simp only [Act.put, List.setIfInBounds_toArray, List.set_cons_zero, List.set_cons_succ])
                  refine wpAnyH_take (i := 18) (oi := { dst := some 77, op := Op.move (Operand.tmp 15), type := 3, pos := "outright.go:180", after := #[{ on := 17, ground := Ground.guard }], guard := some (17, false) }) (v := .int .i64 ((k + 1 : Nat) : Int)) rfl (by kernel_rfl) (by kernel_rfl) (by kernel_rfl) (fun _ _ _ h => h) (Or.inl ⟨by rfl, ?_⟩) (by assumption) ?_
                  · intro w9 hSw
                    (try dsimp only at hSw)
                    go_simp
                    all_goals (try omega)
                  (try simp only [Act.put, List.setIfInBounds_toArray, List.set_cons_zero, List.set_cons_succ])
                  refine wpAnyH_take (i := 19) (oi := { dst := some 78, op := Op.binOp BinOp.gtr 3 (Operand.tmp 77) (Operand.const (Value.int IntKind.i64 0)) 3, type := 4, pos := "outright.go:180", after := #[{ on := 18, ground := Ground.data }, { on := 17, ground := Ground.guard }], guard := some (17, false) }) (v := .bool true) rfl (by kernel_rfl) (by kernel_rfl) (by kernel_rfl) (fun _ _ _ h => h) (Or.inl ⟨by rfl, ?_⟩) (by assumption) ?_
                  · intro w9 hSw
                    (try dsimp only at hSw)
                    go_simp
                    all_goals (try omega)
                  (try simp only [Act.put, List.setIfInBounds_toArray, List.set_cons_zero, List.set_cons_succ])
                  refine wpAnyH_take (i := 20) (oi := { dst := some 79, op := Op.move (Operand.tmp 78), type := 4, pos := "outright.go:180", after := #[{ on := 19, ground := Ground.data }, { on := 17, ground := Ground.chain }, { on := 17, ground := Ground.guard }], guard := some (17, false) }) (v := .bool true) rfl (by kernel_rfl) (by kernel_rfl) (by kernel_rfl) (fun _ _ _ h => h) (Or.inl ⟨by rfl, ?_⟩) (by assumption) ?_
                  · intro w9 hSw
                    (try dsimp only at hSw)
                    go_simp
                    all_goals (try omega)
                  (try simp only [Act.put, List.setIfInBounds_toArray, List.set_cons_zero, List.set_cons_succ])
                  refine wpAnyH_take (i := 21) (oi := { dst := some 80, op := Op.move (Operand.tmp 13), type := 42, pos := "outright.go:180", after := #[{ on := 20, ground := Ground.guard }], guard := some (20, true) }) (v := .slice (some ⟨g5, 0, none⟩) N cp5) rfl (by kernel_rfl) (by kernel_rfl) (by kernel_rfl) (fun _ _ _ h => h) (Or.inl ⟨by rfl, ?_⟩) (by assumption) ?_
                  · intro w9 hSw
                    (try dsimp only at hSw)
                    go_simp
                    all_goals (try omega)
                  (try simp only [Act.put, List.setIfInBounds_toArray, List.set_cons_zero, List.set_cons_succ])
                  refine wpAnyH_take (i := 22) (oi := { dst := some 81, op := Op.move (Operand.tmp 15), type := 3, pos := "outright.go:180", after := #[{ on := 20, ground := Ground.guard }], guard := some (20, true) }) (v := .int .i64 ((k + 1 : Nat) : Int)) rfl (by kernel_rfl) (by kernel_rfl) (by kernel_rfl) (fun _ _ _ h => h) (Or.inl ⟨by rfl, ?_⟩) (by assumption) ?_
                  · intro w9 hSw
                    (try dsimp only at hSw)
                    go_simp
                    all_goals (try omega)
                  (try simp only [Act.put, List.setIfInBounds_toArray, List.set_cons_zero, List.set_cons_succ])
                  refine wpAnyH_take (i := 23) (oi := { dst := some 82, op := Op.binOp BinOp.sub 3 (Operand.tmp 81) (Operand.const (Value.int IntKind.i64 1)) 3, type := 3, pos := "outright.go:180", after := #[{ on := 22, ground := Ground.data }, { on := 20, ground := Ground.guard }], guard := some (20, true) }) (v := .int .i64 (k : Int)) rfl (by kernel_rfl) (by kernel_rfl) (by kernel_rfl) (fun _ _ _ h => h) (Or.inl ⟨by rfl, ?_⟩) (by assumption) ?_
                  · intro w9 hSw
                    (try dsimp only at hSw)
                    go_simp
                    all_goals (try omega)
                  (try simp only [Act.put, List.setIfInBounds_toArray, List.set_cons_zero, List.set_cons_succ])
                  refine wpAnyH_take (i := 24) (oi := { dst := some 83, op := Op.indexAddr 42 (Operand.tmp 80) (Operand.tmp 82), type := 0, pos := "outright.go:180", after := #[{ on := 21, ground := Ground.data }, { on := 23, ground := Ground.data }, { on := 20, ground := Ground.guard }], guard := some (20, true) }) (v := .pointer (some ⟨g5, k * 5, none⟩)) rfl (by kernel_rfl) (by kernel_rfl) (by kernel_rfl) (fun _ _ _ h => h) (Or.inl ⟨by rfl, ?_⟩) (by assumption) ?_
                  · intro w9 hSw
                    (try dsimp only at hSw)
                    go_simp
                    all_goals (try omega)
                  (try simp only [Act.put, List.setIfInBounds_toArray, List.set_cons_zero, List.set_cons_succ])
                  refine wpAnyH_take (i := 25) (oi := { dst := some 84, op := Op.fieldAddr 37 (Operand.tmp 83) 0, type := 0, pos := "outright.go:180", after := #[{ on := 24, ground := Ground.data }, { on := 20, ground := Ground.guard }], guard := some (20, true) }) (v := .pointer (some ⟨g5, k * 5, none⟩)) rfl (by kernel_rfl) (by kernel_rfl) (by kernel_rfl) (fun _ _ _ h => h) (Or.inl ⟨by rfl, ?_⟩) (by assumption) ?_
                  · intro w9 hSw
                    (try dsimp only at hSw)
                    go_simp
                    all_goals (try omega)
                  (try simp only [Act.put, List.setIfInBounds_toArray, List.set_cons_zero, List.set_cons_succ])
                  refine wpAnyH_take (i := 26) (oi := { dst := some 85, op := Op.load 29 (Operand.tmp 84), type := 29, pos := "outright.go:180", after := #[{ on := 25, ground := Ground.data }, { on := 20, ground := Ground.guard }], guard := some (20, true) }) (v := .agg #[.int .i64 px, .int .i64 py]) rfl (by kernel_rfl) (by kernel_rfl) (by kernel_rfl) (fun _ _ _ h => h) (Or.inl ⟨by rfl, ?_⟩) (by assumption) ?_
                  · intro w9 hSw
                    (try dsimp only at hSw)
                    go_simp
                    all_goals (try omega)
                  (try simp only [Act.put, List.setIfInBounds_toArray, List.set_cons_zero, List.set_cons_succ])
                  refine wpAnyH_take (i := 27) (oi := { dst := some 86, op := Op.fieldAddr 37 (Operand.tmp 16) 0, type := 0, pos := "outright.go:180", after := #[{ on := 20, ground := Ground.guard }], guard := some (20, true) }) (v := .pointer (some ⟨h6, 0, none⟩)) rfl (by kernel_rfl) (by kernel_rfl) (by kernel_rfl) (fun _ _ _ h => h) (Or.inl ⟨by rfl, ?_⟩) (by assumption) ?_
                  · intro w9 hSw
                    (try dsimp only at hSw)
                    go_simp
                    all_goals (try omega)
                  (try simp only [Act.put, List.setIfInBounds_toArray, List.set_cons_zero, List.set_cons_succ])
                  refine wpAnyH_take (i := 28) (oi := { dst := some 87, op := Op.load 29 (Operand.tmp 86), type := 29, pos := "outright.go:180", after := #[{ on := 27, ground := Ground.data }, { on := 20, ground := Ground.guard }], guard := some (20, true) }) (v := .agg #[.int .i64 ex, .int .i64 ey]) rfl (by kernel_rfl) (by kernel_rfl) (by kernel_rfl) (fun _ _ _ h => h) (Or.inl ⟨by rfl, ?_⟩) (by assumption) ?_
                  · intro w9 hSw
                    (try dsimp only at hSw)
                    go_simp
                    all_goals (try omega)
                  (try simp only [Act.put, List.setIfInBounds_toArray, List.set_cons_zero, List.set_cons_succ])
                  refine wpAnyH_ready (rs := [29]) (by kernel_rfl) (by simp) ?_
                  refine AllReadyH.cons (o := { dst := some 88, op := Op.call { callee := Callee.value (Operand.func 10), args := #[Operand.tmp 85, Operand.tmp 87], argTypes := #[29, 29] }, type := 3, pos := "outright.go:180", after := #[{ on := 26, ground := Ground.data }, { on := 28, ground := Ground.data }, { on := 20, ground := Ground.chain }, { on := 20, ground := Ground.guard }], guard := some (20, true) }) rfl (fun K hK => ?_) AllReadyH.nil
                  go_simp
                  refine (PC.out.2.2 _).mono ?_
                  rintro o w10 ⟨z2, rfl, hz2, K10⟩
                  have L9 : Hid _ := L8.out.k0 K10
                  have hz2b : decide (0 ≤ z2) = false := by simp [hz2]
                  have hz2c : ¬ 0 ≤ z2 := by omega
                  clear K10
                  refine hK.out _ _ ?_ (fun hHeld => ?_)
                  · exact ⟨cell_blk L9.out.box 0 rfl, cell_blk L9.out.box 1 rfl, cell_blk L9.out.box 2 rfl, cell_blk L9.out.box 3 rfl, L9.out.kept.cell PC.out.1 (fun z => z), L9.out.kept.cell PC.out.2.1 (fun z => z)⟩
                  clear hK K
                  (try simp only [Act.put, List.setIfInBounds_toArray, List.set_cons_zero, List.set_cons_succ])
                  refine wpAnyH_take (i := 30) (oi := { dst := some 89, op := Op.binOp BinOp.geq 3 (Operand.tmp 88) (Operand.const (Value.int IntKind.i64 0)) 3, type := 4, pos := "outright.go:180", after := #[{ on := 29, ground := Ground.data }, { on := 20, ground := Ground.guard }], guard := some (20, true) }) (v := .bool false) rfl (by kernel_rfl) (by kernel_rfl) (by kernel_rfl) (fun _ _ _ h => h) (Or.inl ⟨by rfl, ?_⟩) (by assumption) ?_
                  · intro w9 hSw
                    (try dsimp only at hSw)
                    go_simp
                    all_goals (try omega)
                  (try simp only [Act.put, List.setIfInBounds_toArray, List.set_cons_zero, List.set_cons_succ])
                  refine wpAnyH_take (i := 31) (oi := { dst := some 90, op := Op.pick (Operand.tmp 79) (Operand.tmp 89) (Operand.const (Value.bool false)), type := 4, pos := "outright.go:180", after := #[{ on := 20, ground := Ground.data }, { on := 30, ground := Ground.data }, { on := 17, ground := Ground.guard }], guard := some (17, false) }) (v := .bool false) rfl (by kernel_rfl) (by kernel_rfl) (by kernel_rfl) (fun _ _ _ h => h) (Or.inl ⟨by rfl, ?_⟩) (by assumption) ?_
                  · intro w9 hSw
                    (try dsimp only at hSw)
                    go_simp
                    all_goals (try omega)
                  (try simp only [Act.put, List.setIfInBounds_toArray, List.set_cons_zero, List.set_cons_succ])
                  refine wpAnyH_take (i := 32) (oi := { dst := some 91, op := Op.pick (Operand.tmp 76) (Operand.const (Value.bool true)) (Operand.tmp 90), type := 4, pos := "outright.go:180", after := #[{ on := 17, ground := Ground.data }, { on := 31, ground := Ground.data }], guard := none }) (v := .bool false) rfl (by kernel_rfl) (by kernel_rfl) (by kernel_rfl) (fun _ _ _ h => h) (Or.inl ⟨by rfl, ?_⟩) (by assumption) ?_
                  · intro w9 hSw
                    (try dsimp only at hSw)
                    go_simp
                    all_goals (try omega)
                  (try simp only [Act.put, List.setIfInBounds_toArray, List.set_cons_zero, List.set_cons_succ])
                  refine wpAnyH_done (by kernel_rfl) ?_ _
                  go_wp2_with fail
                  go_roundw
                  case rel =>
                    refine ⟨k + 1 + 1, fn, by go_num, by go_num, by omega, by omega, ?_, L9.out.kept⟩
                    rw [finN_getD L (k + 1) (by have := LN.out; omega), EL.out.2, ← S6.out.1]
                    rfl
                  case measure => simp [intOf]; omega
              · have f2 := cell_blk L6.out.box 2 (v := .bool true) rfl
                go_upto_region 22 with fail
                clear f2
                have L6D : Hid (L3 w0 w5 W6.drew dd t' (i + 1) FB TB F4 G4 h6 #[.int .i64 ex, .int .i64 ey, .bool true, .bool eh, .slice ea el ec]) := L6.out.k0 (Kept.refl _ _).drew
                cases j with
                | zero =>
                  have EL : Hid (¬ tc (ex, ey) (floorT (TS t' key4) dd) < 0 ∧ (L.getD 0 ((0, 0), false, false, none, 0, 0)).2.1 = true) := ⟨EL0.out.1, by rw [EL0.out.2.2]⟩
                  refine wp_region_held_drew (S := (fun V => V.cell? ⟨h6, 0, none⟩ = some (.int .i64 ex) ∧ V.cell? ⟨h6, 1, none⟩ = some (.int .i64 ey) ∧ V.cell? ⟨h6, 2, none⟩ = some (.bool true) ∧ V.cell? ⟨h6, 3, none⟩ = some (.bool eh))) (by kernel_rfl) ?_ (fun hHeld => ?_)
                  · exact ⟨cell_blk L6D.out.box 0 rfl, cell_blk L6D.out.box 1 rfl, cell_blk L6D.out.box 2 rfl, cell_blk L6D.out.box 3 rfl⟩
                  refine wpAnyH_take (i := 0) (oi := { dst := some 59, op := Op.fieldAddr 37 (Operand.tmp 16) 0, type := 0, pos := "outright.go:180", after := #[], guard := none }) (v := .pointer (some ⟨h6, 0, none⟩)) rfl (by kernel_rfl) (by kernel_rfl) (by kernel_rfl) (fun _ _ _ h => h) (Or.inl ⟨by rfl, ?_⟩) (by assumption) ?_
                  · intro w9 hSw
                    (try dsimp only at hSw)
                    go_simp
                    all_goals (try omega)
                  (try simp only [Act.put, List.setIfInBounds_toArray, List.set_cons_zero, List.set_cons_succ])
                  refine wpAnyH_take (i := 1) (oi := { dst := some 60, op := Op.load 29 (Operand.tmp 59), type := 29, pos := "outright.go:180", after := #[{ on := 0, ground := Ground.data }], guard := none }) (v := .agg #[.int .i64 ex, .int .i64 ey]) rfl (by kernel_rfl) (by kernel_rfl) (by kernel_rfl) (fun _ _ _ h => h) (Or.inl ⟨by rfl, ?_⟩) (by assumption) ?_
                  · intro w9 hSw
                    (try dsimp only at hSw)
                    go_simp
                    all_goals (try omega)
                  (try simp only [Act.put, List.setIfInBounds_toArray, List.set_cons_zero, List.set_cons_succ])
                  refine wpAnyH_take (i := 2) (oi := { dst := some 61, op := Op.move (Operand.tmp 5), type := 24, pos := "outright.go:180", after := #[], guard := none }) (v := .pointer (some ⟨tb, 0, none⟩)) rfl (by kernel_rfl) (by kernel_rfl) (by kernel_rfl) (fun _ _ _ h => h) (Or.inl ⟨by rfl, ?_⟩) (by assumption) ?_
                  · intro w9 hSw
                    (try dsimp only at hSw)
                    go_simp
                    all_goals (try omega)
                  (try simp only [Act.put, List.setIfInBounds_toArray, List.set_cons_zero, List.set_cons_succ])
                  refine wpAnyH_take (i := 3) (oi := { dst := some 62, op := Op.move (Operand.tmp 12), type := 9, pos := "outright.go:180", after := #[], guard := none }) (v := .string key4) rfl (by kernel_rfl) (by kernel_rfl) (by kernel_rfl) (fun _ _ _ h => h) (Or.inl ⟨by rfl, ?_⟩) (by assumption) ?_
                  · intro w9 hSw
                    (try dsimp only at hSw)
                    go_simp
                    all_goals (try omega)
                  (try simp only [Act.put, List.setIfInBounds_toArray, List.set_cons_zero, List.set_cons_succ])
                  refine wpAnyH_ready (rs := [4]) (by kernel_rfl) (by simp) ?_
                  refine AllReadyH.cons (o := { dst := some 63, op := Op.call { callee := Callee.value (Operand.func 11), args := #[Operand.tmp 61, Operand.tmp 62], argTypes := #[24, 9] }, type := 29, pos := "outright.go:180", after := #[{ on := 2, ground := Ground.data }, { on := 3, ground := Ground.data }], guard := none }) rfl (fun K hK => ?_) AllReadyH.nil
                  go_simp
                  refine (bounds_floor L6D.out.bs B3.out.2 EK.out.2).mono ?_
                  rintro o w7 ⟨fx, fy, rfl, hf, K7⟩
                  have L7 : Hid _ := L6D.out.k0 K7
                  have CP : Hid (∀ V : World, Calls Try.prog 10 #[.agg #[.int .i64 ex, .int .i64 ey], .agg #[.int .i64 fx, .int .i64 fy]] V fun o w' => ∃ z : Int, o = .returned (.int .i64 z) ∧ ¬ z < 0 ∧ Kept (fun _ => False) V w') := cmp_ge (by rw [← hf]; have z := EL.out.1; omega)
                  clear K7 hf
                  refine hK.out _ _ ?_ (fun hHeld => ?_)
                  · exact ⟨cell_blk L7.out.box 0 rfl, cell_blk L7.out.box 1 rfl, cell_blk L7.out.box 2 rfl, cell_blk L7.out.box 3 rfl⟩
                  clear hK K
                  (try simp only [Act.put, List.setIfInBounds_toArray, List.set_cons_zero, List.set_cons_succ])
                  refine wpAnyH_ready (rs := [5]) (by kernel_rfl) (by simp) ?_
                  refine AllReadyH.cons (o := { dst := some 64, op := Op.call { callee := Callee.value (Operand.func 10), args := #[Operand.tmp 60, Operand.tmp 63], argTypes := #[29, 29] }, type := 3, pos := "outright.go:180", after := #[{ on := 1, ground := Ground.data }, { on := 4, ground := Ground.data }, { on := 4, ground := Ground.chain }], guard := none }) rfl (fun K hK => ?_) AllReadyH.nil
                  go_simp
                  refine (CP.out _).mono ?_
                  rintro o w8 ⟨z1, rfl, hz1, K8⟩
                  have L8 : Hid _ := L7.out.k0 K8
                  have hz1b : decide (z1 < 0) = false := by simp [hz1]
                  clear K8
                  refine hK.out _ _ ?_ (fun hHeld => ?_)
                  · exact ⟨cell_blk L8.out.box 0 rfl, cell_blk L8.out.box 1 rfl, cell_blk L8.out.box 2 rfl, cell_blk L8.out.box 3 rfl⟩
                  clear hK K
                  (try simp only [Act.put, List.setIfInBounds_toArray, List.set_cons_zero, List.set_cons_succ])
                  refine wpAnyH_take (i := 6) (oi := { dst := some 65, op := Op.binOp BinOp.lss 3 (Operand.tmp 64) (Operand.const (Value.int IntKind.i64 0)) 3, type := 4, pos := "outright.go:180", after := #[{ on := 5, ground := Ground.data }], guard := none }) (v := .bool false) rfl (by kernel_rfl) (by kernel_rfl) (by kernel_rfl) (fun _ _ _ h => h) (Or.inl ⟨by rfl, ?_⟩) (by assumption) ?_
                  · intro w9 hSw
                    (try dsimp only at hSw)
                    go_simp
                    all_goals (try omega)
                  (try simp only [Act.put, List.setIfInBounds_toArray, List.set_cons_zero, List.set_cons_succ])
                  refine wpAnyH_take (i := 7) (oi := { dst := some 66, op := Op.move (Operand.tmp 65), type := 4, pos := "outright.go:180", after := #[{ on := 6, ground := Ground.data }, { on := 5, ground := Ground.chain }], guard := none }) (v := .bool false) rfl (by kernel_rfl) (by kernel_rfl) (by kernel_rfl) (fun _ _ _ h => h) (Or.inl ⟨by rfl, ?_⟩) (by assumption) ?_
                  · intro w9 hSw
                    (try dsimp only at hSw)
                    go_simp
                    all_goals (try omega)
                  (try simp only [Act.put, List.setIfInBounds_toArray, List.set_cons_zero, List.set_cons_succ])
                  refine wpAnyH_take (i := 8) (oi := { dst := some 67, op := Op.fieldAddr 37 (Operand.tmp 16) 1, type := 0, pos := "outright.go:180", after := #[{ on := 7, ground := Ground.guard }], guard := some (7, false) }) (v := .pointer (some ⟨h6, 2, none⟩)) rfl (by kernel_rfl) (by kernel_rfl) (by kernel_rfl) (fun _ _ _ h => h) (Or.inl ⟨by rfl, ?_⟩) (by assumption) ?_
                  · intro w9 hSw
                    (try dsimp only at hSw)
                    go_simp
                    all_goals (try omega)
                  (try simp only [Act.put, List.setIfInBounds_toArray, List.set_cons_zero, List.set_cons_succ])
                  refine wpAnyH_take (i := 9) (oi := { dst := some 68, op := Op.load 4 (Operand.tmp 67), type := 4, pos := "outright.go:180", after := #[{ on := 8, ground := Ground.data }, { on := 7, ground := Ground.guard }], guard := some (7, false) }) (v := .bool true) rfl (by kernel_rfl) (by kernel_rfl) (by kernel_rfl) (fun _ _ _ h => h) (Or.inl ⟨by rfl, ?_⟩) (by assumption) ?_
                  · intro w9 hSw
                    (try dsimp only at hSw)
                    go_simp
                    all_goals (try omega)
                  (try simp only [Act.put, List.setIfInBounds_toArray, List.set_cons_zero, List.set_cons_succ])
                  refine wpAnyH_take (i := 10) (oi := { dst := some 69, op := Op.unOp UnOp.not 4 (Operand.tmp 68), type := 4, pos := "outright.go:180", after := #[{ on := 9, ground := Ground.data }, { on := 7, ground := Ground.guard }], guard := some (7, false) }) (v := .bool false) rfl (by kernel_rfl) (by kernel_rfl) (by kernel_rfl) (fun _ _ _ h => h) (Or.inl ⟨by rfl, ?_⟩) (by assumption) ?_
                  · intro w9 hSw
                    (try dsimp only at hSw)
                    go_simp
                    all_goals (try omega)
                  (try simp only [Act.put, List.setIfInBounds_toArray, List.set_cons_zero, List.set_cons_succ])
                  refine wpAnyH_take (i := 11) (oi := { dst := some 70, op := Op.move (Operand.tmp 69), type := 4, pos := "outright.go:180", after := #[{ on := 10, ground := Ground.data }, { on := 7, ground := Ground.chain }, { on := 7, ground := Ground.guard }], guard := some (7, false) }) (v := .bool false) rfl (by kernel_rfl) (by kernel_rfl) (by kernel_rfl) (fun _ _ _ h => h) (Or.inl ⟨by rfl, ?_⟩) (by assumption) ?_
                  · intro w9 hSw
                    (try dsimp only at hSw)
                    go_simp
                    all_goals (try omega)
                  (try simp only [Act.put, List.setIfInBounds_toArray, List.set_cons_zero, List.set_cons_succ])
                  refine wpAnyH_take (i := 12) (oi := { dst := some 71, op := Op.fieldAddr 37 (Operand.tmp 16) 2, type := 0, pos := "outright.go:180", after := #[{ on := 11, ground := Ground.guard }], guard := some (11, true) }) (v := undef) rfl (by kernel_rfl) (by kernel_rfl) (by kernel_rfl) (fun _ _ _ h => h) (Or.inr ⟨by rfl, rfl⟩) (by assumption) ?_
                  (try simp only [Act.put, List.setIfInBounds_toArray, List.set_cons_zero, List.set_cons_succ])
                  refine wpAnyH_take (i := 13) (oi := { dst := some 72, op := Op.load 4 (Operand.tmp 71), type := 4, pos := "outright.go:180", after := #[{ on := 12, ground := Ground.data }, { on := 11, ground := Ground.guard }], guard := some (11, true) }) (v := undef) rfl (by kernel_rfl) (by kernel_rfl) (by kernel_rfl) (fun _ _ _ h => h) (Or.inr ⟨by rfl, rfl⟩) (by assumption) ?_
                  (try simp only [Act.put, List.setIfInBounds_toArray, List.set_cons_zero, List.set_cons_succ])
                  refine wpAnyH_take (i := 14) (oi := { dst := some 73, op := Op.unOp UnOp.not 4 (Operand.tmp 72), type := 4, pos := "outright.go:180", after := #[{ on := 13, ground := Ground.data }, { on := 11, ground := Ground.guard }], guard := some (11, true) }) (v := undef) rfl (by kernel_rfl) (by kernel_rfl) (by kernel_rfl) (fun _ _ _ h => h) (Or.inr ⟨by rfl, rfl⟩) (by assumption) ?_
                  (try simp only [Act.put, List.setIfInBounds_toArray, List.set_cons_zero, List.set_cons_succ])
                  refine wpAnyH_take (i := 15) (oi := { dst := some 74, op := Op.pick (Operand.tmp 70) (Operand.tmp 73) (Operand.const (Value.bool false)), type := 4, pos := "outright.go:180", after := #[{ on := 11, ground := Ground.data }, { on := 14, ground := Ground.data }, { on := 7, ground := Ground.guard }], guard := some (7, false) }) (v := .bool false) rfl (by kernel_rfl) (by kernel_rfl) (by kernel_rfl) (fun _ _ _ h => h) (Or.inl ⟨by rfl, ?_⟩) (by assumption) ?_
                  · intro w9 hSw
                    (try dsimp only at hSw)
                    go_simp
                    all_goals (try omega)
                  (try simp only [Act.put, List.setIfInBounds_toArray, List.set_cons_zero, List.set_cons_succ])
                  refine wpAnyH_take (i := 16) (oi := { dst := some 75, op := Op.pick (Operand.tmp 66) (Operand.const (Value.bool true)) (Operand.tmp 74), type := 4, pos := "outright.go:180", after := #[{ on := 7, ground := Ground.data }, { on := 15, ground := Ground.data }], guard := none }) (v := .bool false) rfl (by kernel_rfl) (by kernel_rfl) (by kernel_rfl) (fun _ _ _ h => h) (Or.inl ⟨by rfl, ?_⟩) (by assumption) ?_
                  · intro w9 hSw
                    (try dsimp only at hSw)
                    go_simp
                    all_goals (try omega)
                  (try simp only [Act.put, List.setIfInBounds_toArray, List.set_cons_zero, List.set_cons_succ])
                  refine wpAnyH_take (i := 17) (oi := { dst := some 76, op := Op.move (Operand.tmp 75), type := 4, pos := "outright.go:180", after := #[{ on := 16, ground := Ground.data }, { on := 11, ground := Ground.chain }], guard := none }) (v := .bool false) rfl (by kernel_rfl) (by kernel_rfl) (by kernel_rfl) (fun _ _ _ h => h) (Or.inl ⟨by rfl, ?_⟩) (by assumption) ?_
                  · intro w9 hSw
                    (try dsimp only at hSw)
                    go_simp
                    all_goals (try omega)
                  (try simp only [Act.put, List.setIfInBounds_toArray, List.set_cons_zero, List.set_cons_succ])
                  refine wpAnyH_take (i := 18) (oi := { dst := some 77, op := Op.move (Operand.tmp 15), type := 3, pos := "outright.go:180", after := #[{ on := 17, ground := Ground.guard }], guard := some (17, false) }) (v := .int .i64 0) rfl (by kernel_rfl) (by kernel_rfl) (by kernel_rfl) (fun _ _ _ h => h) (Or.inl ⟨by rfl, ?_⟩) (by assumption) ?_
                  · intro w9 hSw
                    (try dsimp only at hSw)
                    go_simp
                    all_goals (try omega)
                  (try simp only [Act.put, List.setIfInBounds_toArray, List.set_cons_zero, List.set_cons_succ])
                  refine wpAnyH_take (i := 19) (oi := { dst := some 78, op := Op.binOp BinOp.gtr 3 (Operand.tmp 77) (Operand.const (Value.int IntKind.i64 0)) 3, type := 4, pos := "outright.go:180", after := #[{ on := 18, ground := Ground.data }, { on := 17, ground := Ground.guard }], guard := some (17, false) }) (v := .bool false) rfl (by kernel_rfl) (by kernel_rfl) (by kernel_rfl) (fun _ _ _ h => h) (Or.inl ⟨by rfl, ?_⟩) (by assumption) ?_
                  · intro w9 hSw
                    (try dsimp only at hSw)
                    go_simp
                    all_goals (try omega)
                  (try simp only [Act.put, List.setIfInBounds_toArray, List.set_cons_zero, List.set_cons_succ])
                  refine wpAnyH_take (i := 20) (oi := { dst := some 79, op := Op.move (Operand.tmp 78), type := 4, pos := "outright.go:180", after := #[{ on := 19, ground := Ground.data }, { on := 17, ground := Ground.chain }, { on := 17, ground := Ground.guard }], guard := some (17, false) }) (v := .bool false) rfl (by kernel_rfl) (by kernel_rfl) (by kernel_rfl) (fun _ _ _ h => h) (Or.inl ⟨by rfl, ?_⟩) (by assumption) ?_
                  · intro w9 hSw
                    (try dsimp only at hSw)
                    go_simp
                    all_goals (try omega)
                  (try simp only [Act.put, List.setIfInBounds_toArray, List.set_cons_zero, List.set_cons_succ])
                  refine wpAnyH_take (i := 21) (oi := { dst := some 80, op := Op.move (Operand.tmp 13), type := 42, pos := "outright.go:180", after := #[{ on := 20, ground := Ground.guard }], guard := some (20, true) }) (v := undef) rfl (by kernel_rfl) (by kernel_rfl) (by kernel_rfl) (fun _ _ _ h => h) (Or.inr ⟨by rfl, rfl⟩) (by assumption) ?_
                  (try simp only [Act.put, List.setIfInBounds_toArray, List.set_cons_zero, List.set_cons_succ])
                  refine wpAnyH_take (i := 22) (oi := { dst := some 81, op := Op.move (Operand.tmp 15), type := 3, pos := "outright.go:180", after := #[{ on := 20, ground := Ground.guard }], guard := some (20, true) }) (v := undef) rfl (by kernel_rfl) (by kernel_rfl) (by kernel_rfl) (fun _ _ _ h => h) (Or.inr ⟨by rfl, rfl⟩) (by assumption) ?_
                  (try simp only [Act.put, List.setIfInBounds_toArray, List.set_cons_zero, List.set_cons_succ])
                  refine wpAnyH_take (i := 23) (oi := { dst := some 82, op := Op.binOp BinOp.sub 3 (Operand.tmp 81) (Operand.const (Value.int IntKind.i64 1)) 3, type := 3, pos := "outright.go:180", after := #[{ on := 22, ground := Ground.data }, { on := 20, ground := Ground.guard }], guard := some (20, true) }) (v := undef) rfl (by kernel_rfl) (by kernel_rfl) (by kernel_rfl) (fun _ _ _ h => h) (Or.inr ⟨by rfl, rfl⟩) (by assumption) ?_
                  (try simp only [Act.put, List.setIfInBounds_toArray, List.set_cons_zero, List.set_cons_succ])
                  refine wpAnyH_take (i := 24) (oi := { dst := some 83, op := Op.indexAddr 42 (Operand.tmp 80) (Operand.tmp 82), type := 0, pos := "outright.go:180", after := #[{ on := 21, ground := Ground.data }, { on := 23, ground := Ground.data }, { on := 20, ground := Ground.guard }], guard := some (20, true) }) (v := undef) rfl (by kernel_rfl) (by kernel_rfl) (by kernel_rfl) (fun _ _ _ h => h) (Or.inr ⟨by rfl, rfl⟩) (by assumption) ?_
                  (try simp only [Act.put, List.setIfInBounds_toArray, List.set_cons_zero, List.set_cons_succ])
                  refine wpAnyH_take (i := 25) (oi := { dst := some 84, op := Op.fieldAddr 37 (Operand.tmp 83) 0, type := 0, pos := "outright.go:180", after := #[{ on := 24, ground := Ground.data }, { on := 20, ground := Ground.guard }], guard := some (20, true) }) (v := undef) rfl (by kernel_rfl) (by kernel_rfl) (by kernel_rfl) (fun _ _ _ h => h) (Or.inr ⟨by rfl, rfl⟩) (by assumption) ?_
                  (try simp only [Act.put, List.setIfInBounds_toArray, List.set_cons_zero, List.set_cons_succ])
                  refine wpAnyH_take (i := 26) (oi := { dst := some 85, op := Op.load 29 (Operand.tmp 84), type := 29, pos := "outright.go:180", after := #[{ on := 25, ground := Ground.data }, { on := 20, ground := Ground.guard }], guard := some (20, true) }) (v := undef) rfl (by kernel_rfl) (by kernel_rfl) (by kernel_rfl) (fun _ _ _ h => h) (Or.inr ⟨by rfl, rfl⟩) (by assumption) ?_
                  (try simp only [Act.put, List.setIfInBounds_toArray, List.set_cons_zero, List.set_cons_succ])
                  refine wpAnyH_take (i := 27) (oi := { dst := some 86, op := Op.fieldAddr 37 (Operand.tmp 16) 0, type := 0, pos := "outright.go:180", after := #[{ on := 20, ground := Ground.guard }], guard := some (20, true) }) (v := undef) rfl (by kernel_rfl) (by kernel_rfl) (by kernel_rfl) (fun _ _ _ h => h) (Or.inr ⟨by rfl, rfl⟩) (by assumption) ?_
                  (try simp only [Act.put, List.setIfInBounds_toArray, List.set_cons_zero, List.set_cons_succ])
                  refine wpAnyH_take (i := 28) (oi := { dst := some 87, op := Op.load 29 (Operand.tmp 86), type := 29, pos := "outright.go:180", after := #[{ on := 27, ground := Ground.data }, { on := 20, ground := Ground.guard }], guard := some (20, true) }) (v := undef) rfl (by kernel_rfl) (by kernel_rfl) (by kernel_rfl) (fun _ _ _ h => h) (Or.inr ⟨by rfl, rfl⟩) (by assumption) ?_
                  (try simp only [Act.put, List.setIfInBounds_toArray, List.set_cons_zero, List.set_cons_succ])
                  refine wpAnyH_take (i := 29) (oi := { dst := some 88, op := Op.call { callee := Callee.value (Operand.func 10), args := #[Operand.tmp 85, Operand.tmp 87], argTypes := #[29, 29] }, type := 3, pos := "outright.go:180", after := #[{ on := 26, ground := Ground.data }, { on := 28, ground := Ground.data }, { on := 20, ground := Ground.chain }, { on := 20, ground := Ground.guard }], guard := some (20, true) }) (v := undef) rfl (by kernel_rfl) (by kernel_rfl) (by kernel_rfl) (fun _ _ _ h => h) (Or.inr ⟨by rfl, rfl⟩) (by assumption) ?_
                  (try simp only [Act.put, List.setIfInBounds_toArray, List.set_cons_zero, List.set_cons_succ])
                  refine wpAnyH_take (i := 30) (oi := { dst := some 89, op := Op.binOp BinOp.geq 3 (Operand.tmp 88) (Operand.const (Value.int IntKind.i64 0)) 3, type := 4, pos := "outright.go:180", after := #[{ on := 29, ground := Ground.data }, { on := 20, ground := Ground.guard }], guard := some (20, true) }) (v := undef) rfl (by kernel_rfl) (by kernel_rfl) (by kernel_rfl) (fun _ _ _ h => h) (Or.inr ⟨by rfl, rfl⟩) (by assumption) ?_
                  (try simp only [Act.put, List.setIfInBounds_toArray, List.set_cons_zero, List.set_cons_succ])
                  refine wpAnyH_take (i := 31) (oi := { dst := some 90, op := Op.pick (Operand.tmp 79) (Operand.tmp 89) (Operand.const (Value.bool false)), type := 4, pos := "outright.go:180", after := #[{ on := 20, ground := Ground.data }, { on := 30, ground := Ground.data }, { on := 17, ground := Ground.guard }], guard := some (17, false) }) (v := .bool false) rfl (by kernel_rfl) (by kernel_rfl) (by kernel_rfl) (fun _ _ _ h => h) (Or.inl ⟨by rfl, ?_⟩) (by assumption) ?_
                  · intro w9 hSw
                    (try dsimp only at hSw)
                    go_simp
                    all_goals (try omega)
                  (try simp only [Act.put, List.setIfInBounds_toArray, List.set_cons_zero, List.set_cons_succ])
                  refine wpAnyH_take (i := 32) (oi := { dst := some 91, op := Op.pick (Operand.tmp 76) (Operand.const (Value.bool true)) (Operand.tmp 90), type := 4, pos := "outright.go:180", after := #[{ on := 17, ground := Ground.data }, { on := 31, ground := Ground.data }], guard := none }) (v := .bool false) rfl (by kernel_rfl) (by kernel_rfl) (by kernel_rfl) (fun _ _ _ h => h) (Or.inl ⟨by rfl, ?_⟩) (by assumption) ?_
                  · intro w9 hSw
                    (try dsimp only at hSw)
                    go_simp
                    all_goals (try omega)
                  (try simp only [Act.put, List.setIfInBounds_toArray, List.set_cons_zero, List.set_cons_succ])
                  refine wpAnyH_done (by kernel_rfl) ?_ _
                  go_wp2_with fail
                  go_roundw
                  case rel =>
                    refine ⟨0 + 1, fn + 1, by go_num, by go_num, by omega, by omega, ?_, L8.out.kept⟩
                    rw [finN_getD L (0) (by have := LN.out; omega), EL.out.2, ← S6.out.1]
                    rfl
                  case measure => simp [intOf]; omega
                | succ k =>
                  obtain ⟨⟨⟨px, py⟩, pf, ph, pa, pl, pc⟩, hpe⟩ : ∃ e, e = L.getD k ((0, 0), false, false, none, 0, 0) := ⟨_, rfl⟩
                  have PC : Hid (w5.cell? ⟨g5, k * 5, none⟩ = some (.int .i64 px) ∧ w5.cell? ⟨g5, k * 5 + 1, none⟩ = some (.int .i64 py) ∧ ∀ V : World, Calls Try.prog 10 #[.agg #[.int .i64 px, .int .i64 py], .agg #[.int .i64 ex, .int .i64 ey]] V fun o w' => ∃ z : Int, o = .returned (.int .i64 z) ∧ z < 0 ∧ Kept (fun _ => False) V w') := by
                    have q := B6.out.2.1.at k (by have := LN.out; omega) hpe.symm
                    have r := B6.out.2.1.rise (k + 1) (by omega) (by have := LN.out; omega)
                    rw [EL0.out.2.2, show k + 1 - 1 = k by omega, ← hpe] at r
                    exact ⟨q.1, q.2.1, cmp_lt r⟩
                  have EL : Hid (¬ tc (ex, ey) (floorT (TS t' key4) dd) < 0 ∧ (L.getD (k + 1) ((0, 0), false, false, none, 0, 0)).2.1 = true) := ⟨EL0.out.1, by rw [EL0.out.2.2]⟩
                  have k0 : (0 : Int) < ((k + 1 : Nat) : Int) := by omega
                  have k1 : IntKind.i64.wrap (k : Int) = (k : Int) := wrap_kk k (by omega)
                  have k2 : (k : Int) < (N : Int) := by omega
                  clear hpe
                  refine wp_region_held_drew (S := (fun V => V.cell? ⟨h6, 0, none⟩ = some (.int .i64 ex) ∧ V.cell? ⟨h6, 1, none⟩ = some (.int .i64 ey) ∧ V.cell? ⟨h6, 2, none⟩ = some (.bool true) ∧ V.cell? ⟨h6, 3, none⟩ = some (.bool eh) ∧ V.cell? ⟨g5, k * 5, none⟩ = some (.int .i64 px) ∧ V.cell? ⟨g5, k * 5 + 1, none⟩ = some (.int .i64 py))) (by kernel_rfl) ?_ (fun hHeld => ?_)
                  · exact ⟨cell_blk L6D.out.box 0 rfl, cell_blk L6D.out.box 1 rfl, cell_blk L6D.out.box 2 rfl, cell_blk L6D.out.box 3 rfl, L6D.out.kept.cell PC.out.1 (fun z => z), L6D.out.kept.cell PC.out.2.1 (fun z => z)⟩
                  refine wpAnyH_take (i := 0) (oi := { dst := some 59, op := Op.fieldAddr 37 (Operand.tmp 16) 0, type := 0, pos := "outright.go:180", after := #[], guard := none }) (v := .pointer (some ⟨h6, 0, none⟩)) rfl (by kernel_rfl) (by kernel_rfl) (by kernel_rfl) (fun _ _ _ h => h) (Or.inl ⟨by rfl, ?_⟩) (by assumption) ?_
                  · intro w9 hSw
                    (try dsimp only at hSw)
                    go_simp
                    all_goals (try omega)
                  (try simp only [Act.put, List.setIfInBounds_toArray, List.set_cons_zero, List.set_cons_succ])
                  refine wpAnyH_take (i := 1) (oi := { dst := some 60, op := Op.load 29 (Operand.tmp 59), type := 29, pos := "outright.go:180", after := #[{ on := 0, ground := Ground.data }], guard := none }) (v := .agg #[.int .i64 ex, .int .i64 ey]) rfl (by kernel_rfl) (by kernel_rfl) (by kernel_rfl) (fun _ _ _ h => h) (Or.inl ⟨by rfl, ?_⟩) (by assumption) ?_
                  · intro w9 hSw
                    (try dsimp only at hSw)
                    go_simp
                    all_goals (try omega)
                  (try simp only [Act.put, List.setIfInBounds_toArray, List.set_cons_zero, List.set_cons_succ])
                  refine wpAnyH_take (i := 2) (oi := { dst := some 61, op := Op.move (Operand.tmp 5), type := 24, pos := "outright.go:180", after := #[], guard := none }) (v := .pointer (some ⟨tb, 0, none⟩)) rfl (by kernel_rfl) (by kernel_rfl) (by kernel_rfl) (fun _ _ _ h => h) (Or.inl ⟨by rfl, ?_⟩) (by assumption) ?_
                  · intro w9 hSw
                    (try dsimp only at hSw)
                    go_simp
                    all_goals (try omega)
                  (try simp only [Act.put, List.setIfInBounds_toArray, List.set_cons_zero, List.set_cons_succ])
                  refine wpAnyH_take (i := 3) (oi := { dst := some 62, op := Op.move (Operand.tmp 12), type := 9, pos := "outright.go:180", after := #[], guard := none }) (v := .string key4) rfl (by kernel_rfl) (by kernel_rfl) (by kernel_rfl) (fun _ _ _ h => h) (Or.inl ⟨by rfl, ?_⟩) (by assumption) ?_
                  · intro w9 hSw
                    (try dsimp only at hSw)
                    go_simp
                    all_goals (try omega)
                  (try simp only [Act.put, List.setIfInBounds_toArray, List.set_cons_zero, List.set_cons_succ])
                  refine wpAnyH_ready (rs := [4]) (by kernel_rfl) (by simp) ?_
                  refine AllReadyH.cons (o := { dst := some 63, op := Op.call { callee := Callee.value (Operand.func 11), args := #[Operand.tmp 61, Operand.tmp 62], argTypes := #[24, 9] }, type := 29, pos := "outright.go:180", after := #[{ on := 2, ground := Ground.data }, { on := 3, ground := Ground.data }], guard := none }) rfl (fun K hK => ?_) AllReadyH.nil
                  go_simp
                  refine (bounds_floor L6D.out.bs B3.out.2 EK.out.2).mono ?_
                  rintro o w7 ⟨fx, fy, rfl, hf, K7⟩
                  have L7 : Hid _ := L6D.out.k0 K7
                  have CP : Hid (∀ V : World, Calls Try.prog 10 #[.agg #[.int .i64 ex, .int .i64 ey], .agg #[.int .i64 fx, .int .i64 fy]] V fun o w' => ∃ z : Int, o = .returned (.int .i64 z) ∧ ¬ z < 0 ∧ Kept (fun _ => False) V w') := cmp_ge (by rw [← hf]; have z := EL.out.1; omega)
                  clear K7 hf
                  refine hK.out _ _ ?_ (fun hHeld => ?_)
                  · exact ⟨cell_blk L7.out.box 0 rfl, cell_blk L7.out.box 1 rfl, cell_blk L7.out.box 2 rfl, cell_blk L7.out.box 3 rfl, L7.out.kept.cell PC.out.1 (fun z => z), L7.out.kept.cell PC.out.2.1 (fun z => z)⟩
                  clear hK K
                  (try simp only [Act.put, List.setIfInBounds_toArray, List.set_cons_zero, List.set_cons_succ])
                  refine wpAnyH_ready (rs := [5]) (by kernel_rfl) (by simp) ?_
                  refine AllReadyH.cons (o := { dst := some 64, op := Op.call { callee := Callee.value (Operand.func 10), args := #[Operand.tmp 60, Operand.tmp 63], argTypes := #[29, 29] }, type := 3, pos := "outright.go:180", after := #[{ on := 1, ground := Ground.data }, { on := 4, ground := Ground.data }, { on := 4, ground := Ground.chain }], guard := none }) rfl (fun K hK => ?_) AllReadyH.nil
                  go_simp
                  refine (CP.out _).mono ?_
                  rintro o w8 ⟨z1, rfl, hz1, K8⟩
                  have L8 : Hid _ := L7.out.k0 K8
                  have hz1b : decide (z1 < 0) = false := by simp [hz1]
                  clear K8
                  refine hK.out _ _ ?_ (fun hHeld => ?_)
                  · exact ⟨cell_blk L8.out.box 0 rfl, cell_blk L8.out.box 1 rfl, cell_blk L8.out.box 2 rfl, cell_blk L8.out.box 3 rfl, L8.out.kept.cell PC.out.1 (fun z => z), L8.out.kept.cell PC.out.2.1 (fun z => z)⟩
                  clear hK K
                  (try simp only [Act.put, List.setIfInBounds_toArray, List.set_cons_zero, List.set_cons_succ])
                  refine wpAnyH_take (i := 6) (oi := { dst := some 65, op := Op.binOp BinOp.lss 3 (Operand.tmp 64) (Operand.const (Value.int IntKind.i64 0)) 3, type := 4, pos := "outright.go:180", after := #[{ on := 5, ground := Ground.data }], guard := none }) (v := .bool false) rfl (by kernel_rfl) (by kernel_rfl) (by kernel_rfl) (fun _ _ _ h => h) (Or.inl ⟨by rfl, ?_⟩) (by assumption) ?_
                  · intro w9 hSw
                    (try dsimp only at hSw)
                    go_simp
                    all_goals (try omega)
                  (try simp only [Act.put, List.setIfInBounds_toArray, List.set_cons_zero, List.set_cons_succ])
                  refine wpAnyH_take (i := 7) (oi := { dst := some 66, op := Op.move (Operand.tmp 65), type := 4, pos := "outright.go:180", after := #[{ on := 6, ground := Ground.data }, { on := 5, ground := Ground.chain }], guard := none }) (v := .bool false) rfl (by kernel_rfl) (by kernel_rfl) (by kernel_rfl) (fun _ _ _ h => h) (Or.inl ⟨by rfl, ?_⟩) (by assumption) ?_
                  · intro w9 hSw
                    (try dsimp only at hSw)
                    go_simp
                    all_goals (try omega)
                  (try simp only [Act.put, List.setIfInBounds_toArray, List.set_cons_zero, List.set_cons_succ])
                  refine wpAnyH_take (i := 8) (oi := { dst := some 67, op := Op.fieldAddr 37 (Operand.tmp 16) 1, type := 0, pos := "outright.go:180", after := #[{ on := 7, ground := Ground.guard }], guard := some (7, false) }) (v := .pointer (some ⟨h6, 2, none⟩)) rfl (by kernel_rfl) (by kernel_rfl) (by kernel_rfl) (fun _ _ _ h => h) (Or.inl ⟨by rfl, ?_⟩) (by assumption) ?_
                  · intro w9 hSw
                    (try dsimp only at hSw)
                    go_simp
                    all_goals (try omega)
                  (try simp only [Act.put, List.setIfInBounds_toArray, List.set_cons_zero, List.set_cons_succ])
                  refine wpAnyH_take (i := 9) (oi := { dst := some 68, op := Op.load 4 (Operand.tmp 67), type := 4, pos := "outright.go:180", after := #[{ on := 8, ground := Ground.data }, { on := 7, ground := Ground.guard }], guard := some (7, false) }) (v := .bool true) rfl (by kernel_rfl) (by kernel_rfl) (by kernel_rfl) (fun _ _ _ h => h) (Or.inl ⟨by rfl, ?_⟩) (by assumption) ?_
                  · intro w9 hSw
                    (try dsimp only at hSw)
                    go_simp
                    all_goals (try omega)
                  (try simp only [Act.put, List.setIfInBounds_toArray, List.set_cons_zero, List.set_cons_succ])
                  refine wpAnyH_take (i := 10) (oi := { dst := some 69, op := Op.unOp UnOp.not 4 (Operand.tmp 68), type := 4, pos := "outright.go:180", after := #[{ on := 9, ground := Ground.data }, { on := 7, ground := Ground.guard }], guard := some (7, false) }) (v := .bool false) rfl (by kernel_rfl) (by kernel_rfl) (by kernel_rfl) (fun _ _ _ h => h) (Or.inl ⟨by rfl, ?_⟩) (by assumption) ?_
                  · intro w9 hSw
                    (try dsimp only at hSw)
                    go_simp
                    all_goals (try omega)
                  (try simp only [Act.put, List.setIfInBounds_toArray, List.set_cons_zero, List.set_cons_succ])
                  refine wpAnyH_take (i := 11) (oi := { dst := some 70, op := Op.move (Operand.tmp 69), type := 4, pos := "outright.go:180", after := #[{ on := 10, ground := Ground.data }, { on := 7, ground := Ground.chain }, { on := 7, ground := Ground.guard }], guard := some (7, false) }) (v := .bool false) rfl (by kernel_rfl) (by kernel_rfl) (by kernel_rfl) (fun _ _ _ h => h) (Or.inl ⟨by rfl, ?_⟩) (by assumption) ?_
                  · intro w9 hSw
                    (try dsimp only at hSw)
                    go_simp
                    all_goals (try omega)
                  (try simp only [Act.put, List.setIfInBounds_toArray, List.set_cons_zero, List.set_cons_succ])
                  refine wpAnyH_take (i := 12) (oi := { dst := some 71, op := Op.fieldAddr 37 (Operand.tmp 16) 2, type := 0, pos := "outright.go:180", after := #[{ on := 11, ground := Ground.guard }], guard := some (11, true) }) (v := undef) rfl (by kernel_rfl) (by kernel_rfl) (by kernel_rfl) (fun _ _ _ h => h) (Or.inr ⟨by rfl, rfl⟩) (by assumption) ?_
                  (try simp only [Act.put, List.setIfInBounds_toArray, List.set_cons_zero, List.set_cons_succ])
                  refine wpAnyH_take (i := 13) (oi := { dst := some 72, op := Op.load 4 (Operand.tmp 71), type := 4, pos := "outright.go:180", after := #[{ on := 12, ground := Ground.data }, { on := 11, ground := Ground.guard }], guard := some (11, true) }) (v := undef) rfl (by kernel_rfl) (by kernel_rfl) (by kernel_rfl) (fun _ _ _ h => h) (Or.inr ⟨by rfl, rfl⟩) (by assumption) ?_
                  (try simp only [Act.put, List.setIfInBounds_toArray, List.set_cons_zero, List.set_cons_succ])
                  refine wpAnyH_take (i := 14) (oi := { dst := some 73, op := Op.unOp UnOp.not 4 (Operand.tmp 72), type := 4, pos := "outright.go:180", after := #[{ on := 13, ground := Ground.data }, { on := 11, ground := Ground.guard }], guard := some (11, true) }) (v := undef) rfl (by kernel_rfl) (by kernel_rfl) (by kernel_rfl) (fun _ _ _ h => h) (Or.inr ⟨by rfl, rfl⟩) (by assumption) ?_
                  (try simp only [Act.put, List.setIfInBounds_toArray, List.set_cons_zero, List.set_cons_succ])
                  refine wpAnyH_take (i := 15) (oi := { dst := some 74, op := Op.pick (Operand.tmp 70) (Operand.tmp 73) (Operand.const (Value.bool false)), type := 4, pos := "outright.go:180", after := #[{ on := 11, ground := Ground.data }, { on := 14, ground := Ground.data }, { on := 7, ground := Ground.guard }], guard := some (7, false) }) (v := .bool false) rfl (by kernel_rfl) (by kernel_rfl) (by kernel_rfl) (fun _ _ _ h => h) (Or.inl ⟨by rfl, ?_⟩) (by assumption) ?_
                  · intro w9 hSw
                    (try dsimp only at hSw)
                    go_simp
                    all_goals (try omega)
                  (try simp only [Act.put, List.setIfInBounds_toArray, List.set_cons_zero, List.set_cons_succ])
                  refine wpAnyH_take (i := 16) (oi := { dst := some 75, op := Op.pick (Operand.tmp 66) (Operand.const (Value.bool true)) (Operand.tmp 74), type := 4, pos := "outright.go:180", after := #[{ on := 7, ground := Ground.data }, { on := 15, ground := Ground.data }], guard := none }) (v := .bool false) rfl (by kernel_rfl) (by kernel_rfl) (by kernel_rfl) (fun _ _ _ h => h) (Or.inl ⟨by rfl, ?_⟩) (by assumption) ?_
                  · intro w9 hSw
                    (try dsimp only at hSw)
                    go_simp
                    all_goals (try omega)
                  (try simp only [Act.put, List.setIfInBounds_toArray, List.set_cons_zero, List.set_cons_succ])
                  refine wpAnyH_take (i := 17) (oi := { dst := some 76, op := Op.move (Operand.tmp 75), type := 4, pos := "outright.go:180", after := #[{ on := 16, ground := Ground.data }, { on := 11, ground := Ground.chain }], guard := none }) (v := .bool false) rfl (by kernel_rfl) (by kernel_rfl) (by kernel_rfl) (fun _ _ _ h => h) (Or.inl ⟨by rfl, ?_⟩) (by assumption) ?_
                  · intro w9 hSw
                    (try dsimp only at hSw)
                    go_simp
                    all_goals (try omega)
                  (try simp only [Act.put, List.setIfInBounds_toArray, List.set_cons_zero, List.set_cons_succ])
                  refine wpAnyH_take (i := 18) (oi := { dst := some 77, op := Op.move (Operand.tmp 15), type := 3, pos := "outright.go:180", after := #[{ on := 17, ground := Ground.guard }], guard := some (17, false) }) (v := .int .i64 ((k + 1 : Nat) : Int)) rfl (by kernel_rfl) (by kernel_rfl) (by kernel_rfl) (fun _ _ _ h => h) (Or.inl ⟨by rfl, ?_⟩) (by assumption) ?_
                  · intro w9 hSw
                    (try dsimp only at hSw)
                    go_simp
                    all_goals (try omega)
                  (try simp only [Act.put, List.setIfInBounds_toArray, List.set_cons_zero, List.set_cons_succ])
                  refine wpAnyH_take (i := 19) (oi := { dst := some 78, op := Op.binOp BinOp.gtr 3 (Operand.tmp 77) (Operand.const (Value.int IntKind.i64 0)) 3, type := 4, pos := "outright.go:180", after := #[{ on := 18, ground := Ground.data }, { on := 17, ground := Ground.guard }], guard := some (17, false) }) (v := .bool true) rfl (by kernel_rfl) (by kernel_rfl) (by kernel_rfl) (fun _ _ _ h => h) (Or.inl ⟨by rfl, ?_⟩) (by assumption) ?_
                  · intro w9 hSw
                    (try dsimp only at hSw)
                    go_simp
                    all_goals (try omega)
                  (try simp only [Act.put, List.setIfInBounds_toArray, List.set_cons_zero, List.set_cons_succ])
                  refine wpAnyH_take (i := 20) (oi := { dst := some 79, op := Op.move (Operand.tmp 78), type := 4, pos := "outright.go:180", after := #[{ on := 19, ground := Ground.data }, { on := 17, ground := Ground.chain }, { on := 17, ground := Ground.guard }], guard := some (17, false) }) (v := .bool true) rfl (by kernel_rfl) (by kernel_rfl) (by kernel_rfl) (fun _ _ _ h => h) (Or.inl ⟨by rfl, ?_⟩) (by assumption) ?_
                  · intro w9 hSw
                    (try dsimp only at hSw)
                    go_simp
                    all_goals (try omega)
                  (try simp only [Act.put, List.setIfInBounds_toArray, List.set_cons_zero, List.set_cons_succ])
                  refine wpAnyH_take (i := 21) (oi := { dst := some 80, op := Op.move (Operand.tmp 13), type := 42, pos := "outright.go:180", after := #[{ on := 20, ground := Ground.guard }], guard := some (20, true) }) (v := .slice (some ⟨g5, 0, none⟩) N cp5) rfl (by kernel_rfl) (by kernel_rfl) (by kernel_rfl) (fun _ _ _ h => h) (Or.inl ⟨by rfl, ?_⟩) (by assumption) ?_
                  · intro w9 hSw
                    (try dsimp only at hSw)
                    go_simp
                    all_goals (try omega)
                  (try simp only [Act.put, List.setIfInBounds_toArray, List.set_cons_zero, List.set_cons_succ])
                  refine wpAnyH_take (i := 22) (oi := { dst := some 81, op := Op.move (Operand.tmp 15), type := 3, pos := "outright.go:180", after := #[{ on := 20, ground := Ground.guard }], guard := some (20, true) }) (v := .int .i64 ((k + 1 : Nat) : Int)) rfl (by kernel_rfl) (by kernel_rfl) (by kernel_rfl) (fun _ _ _ h => h) (Or.inl ⟨by rfl, ?_⟩) (by assumption) ?_
                  · intro w9 hSw
                    (try dsimp only at hSw)
                    go_simp
                    all_goals (try omega)
                  (try simp only [Act.put, List.setIfInBounds_toArray, List.set_cons_zero, List.set_cons_succ])
                  refine wpAnyH_take (i := 23) (oi := { dst := some 82, op := Op.binOp BinOp.sub 3 (Operand.tmp 81) (Operand.const (Value.int IntKind.i64 1)) 3, type := 3, pos := "outright.go:180", after := #[{ on := 22, ground := Ground.data }, { on := 20, ground := Ground.guard }], guard := some (20, true) }) (v := .int .i64 (k : Int)) rfl (by kernel_rfl) (by kernel_rfl) (by kernel_rfl) (fun _ _ _ h => h) (Or.inl ⟨by rfl, ?_⟩) (by assumption) ?_
                  · intro w9 hSw
                    (try dsimp only at hSw)
                    go_simp
                    all_goals (try omega)
                  (try simp only [Act.put, List.setIfInBounds_toArray, List.set_cons_zero, List.set_cons_succ])
                  refine wpAnyH_take (i := 24) (oi := { dst := some 83, op := Op.indexAddr 42 (Operand.tmp 80) (Operand.tmp 82), type := 0, pos := "outright.go:180", after := #[{ on := 21, ground := Ground.data }, { on := 23, ground := Ground.data }, { on := 20, ground := Ground.guard }], guard := some (20, true) }) (v := .pointer (some ⟨g5, k * 5, none⟩)) rfl (by kernel_rfl) (by kernel_rfl) (by kernel_rfl) (fun _ _ _ h => h) (Or.inl ⟨by rfl, ?_⟩) (by assumption) ?_
                  · intro w9 hSw
                    (try dsimp only at hSw)
                    go_simp
                    all_goals (try omega)
                  (try simp only [Act.put, List.setIfInBounds_toArray, List.set_cons_zero, List.set_cons_succ])
                  refine wpAnyH_take (i := 25) (oi := { dst := some 84, op := Op.fieldAddr 37 (Operand.tmp 83) 0, type := 0, pos := "outright.go:180", after := #[{ on := 24, ground := Ground.data }, { on := 20, ground := Ground.guard }], guard := some (20, true) }) (v := .pointer (some ⟨g5, k * 5, none⟩)) rfl (by kernel_rfl) (by kernel_rfl) (by kernel_rfl) (fun _ _ _ h => h) (Or.inl ⟨by rfl, ?_⟩) (by assumption) ?_
                  · intro w9 hSw
                    (try dsimp only at hSw)
                    go_simp
                    all_goals (try omega)
                  (try simp only [Act.put, List.setIfInBounds_toArray, List.set_cons_zero, List.set_cons_succ])
                  refine wpAnyH_take (i := 26) (oi := { dst := some 85, op := Op.load 29 (Operand.tmp 84), type := 29, pos := "outright.go:180", after := #[{ on := 25, ground := Ground.data }, { on := 20, ground := Ground.guard }], guard := some (20, true) }) (v := .agg #[.int .i64 px, .int .i64 py]) rfl (by kernel_rfl) (by kernel_rfl) (by kernel_rfl) (fun _ _ _ h => h) (Or.inl ⟨by rfl, ?_⟩) (by assumption) ?_
                  · intro w9 hSw
                    (try dsimp only at hSw)
                    go_simp
                    all_goals (try omega)
                  (try simp only [Act.put, List.setIfInBounds_toArray, List.set_cons_zero, List.set_cons_succ])
                  refine wpAnyH_take (i := 27) (oi := { dst := some 86, op := Op.fieldAddr 37 (Operand.tmp 16) 0, type := 0, pos := "outright.go:180", after := #[{ on := 20, ground := Ground.guard }], guard := some (20, true) }) (v := .pointer (some ⟨h6, 0, none⟩)) rfl (by kernel_rfl) (by kernel_rfl) (by kernel_rfl) (fun _ _ _ h => h) (Or.inl ⟨by rfl, ?_⟩) (by assumption) ?_
                  · intro w9 hSw
                    (try dsimp only at hSw)
                    go_simp
                    all_goals (try omega)
                  (try simp only [Act.put, List.setIfInBounds_toArray, List.set_cons_zero, List.set_cons_succ])
                  refine wpAnyH_take (i := 28) (oi := { dst := some 87, op := Op.load 29 (Operand.tmp 86), type := 29, pos := "outright.go:180", after := #[{ on := 27, ground := Ground.data }, { on := 20, ground := Ground.guard }], guard := some (20, true) }) (v := .agg #[.int .i64 ex, .int .i64 ey]) rfl (by kernel_rfl) (by kernel_rfl) (by kernel_rfl) (fun _ _ _ h => h) (Or.inl ⟨by rfl, ?_⟩) (by assumption) ?_
                  · intro w9 hSw
                    (try dsimp only at hSw)
                    go_simp
                    all_goals (try omega)
                  (try simp only [Act.put, List.setIfInBounds_toArray, List.set_cons_zero, List.set_cons_succ])
                  refine wpAnyH_ready (rs := [29]) (by kernel_rfl) (by simp) ?_
                  refine AllReadyH.cons (o := { dst := some 88, op := Op.call { callee := Callee.value (Operand.func 10), args := #[Operand.tmp 85, Operand.tmp 87], argTypes := #[29, 29] }, type := 3, pos := "outright.go:180", after := #[{ on := 26, ground := Ground.data }, { on := 28, ground := Ground.data }, { on := 20, ground := Ground.chain }, { on := 20, ground := Ground.guard }], guard := some (20, true) }) rfl (fun K hK => ?_) AllReadyH.nil
                  go_simp
                  refine (PC.out.2.2 _).mono ?_
                  rintro o w10 ⟨z2, rfl, hz2, K10⟩
                  have L9 : Hid _ := L8.out.k0 K10
                  have hz2b : decide (0 ≤ z2) = false := by simp [hz2]
                  have hz2c : ¬ 0 ≤ z2 := by omega
                  clear K10
                  refine hK.out _ _ ?_ (fun hHeld => ?_)
                  · exact ⟨cell_blk L9.out.box 0 rfl, cell_blk L9.out.box 1 rfl, cell_blk L9.out.box 2 rfl, cell_blk L9.out.box 3 rfl, L9.out.kept.cell PC.out.1 (fun z => z), L9.out.kept.cell PC.out.2.1 (fun z => z)⟩
                  clear hK K
                  (try simp only [Act.put, List.setIfInBounds_toArray, List.set_cons_zero, List.set_cons_succ])
                  refine wpAnyH_take (i := 30) (oi := { dst := some 89, op := Op.binOp BinOp.geq 3 (Operand.tmp 88) (Operand.const (Value.int IntKind.i64 0)) 3, type := 4, pos := "outright.go:180", after := #[{ on := 29, ground := Ground.data }, { on := 20, ground := Ground.guard }], guard := some (20, true) }) (v := .bool false) rfl (by kernel_rfl) (by kernel_rfl) (by kernel_rfl) (fun _ _ _ h => h) (Or.inl ⟨by rfl, ?_⟩) (by assumption) ?_
                  · intro w9 hSw
                    (try dsimp only at hSw)
                    go_simp
                    all_goals (try omega)
                  (try simp only [Act.put, List.setIfInBounds_toArray, List.set_cons_zero, List.set_cons_succ])
                  refine wpAnyH_take (i := 31) (oi := { dst := some 90, op := Op.pick (Operand.tmp 79) (Operand.tmp 89) (Operand.const (Value.bool false)), type := 4, pos := "outright.go:180", after := #[{ on := 20, ground := Ground.data }, { on := 30, ground := Ground.data }, { on := 17, ground := Ground.guard }], guard := some (17, false) }) (v := .bool false) rfl (by kernel_rfl) (by kernel_rfl) (by kernel_rfl) (fun _ _ _ h => h) (Or.inl ⟨by rfl, ?_⟩) (by assumption) ?_
                  · intro w9 hSw
                    (try dsimp only at hSw)
                    go_simp
                    all_goals (try omega)
                  (try simp only [Act.put, List.setIfInBounds_toArray, List.set_cons_zero, List.set_cons_succ])
                  refine wpAnyH_take (i := 32) (oi := { dst := some 91, op := Op.pick (Operand.tmp 76) (Operand.const (Value.bool true)) (Operand.tmp 90), type := 4, pos := "outright.go:180", after := #[{ on := 17, ground := Ground.data }, { on := 31, ground := Ground.data }], guard := none }) (v := .bool false) rfl (by kernel_rfl) (by kernel_rfl) (by kernel_rfl) (fun _ _ _ h => h) (Or.inl ⟨by rfl, ?_⟩) (by assumption) ?_
                  · intro w9 hSw
                    (try dsimp only at hSw)
                    go_simp
                    all_goals (try omega)
                  (try simp only [Act.put, List.setIfInBounds_toArray, List.set_cons_zero, List.set_cons_succ])
                  refine wpAnyH_done (by kernel_rfl) ?_ _
                  go_wp2_with fail
                  go_roundw
                  case rel =>
                    refine ⟨k + 1 + 1, fn + 1, by go_num, by go_num, by omega, by omega, ?_, L9.out.kept⟩
                    rw [finN_getD L (k + 1) (by have := LN.out; omega), EL.out.2, ← S6.out.1]
                    rfl
                  case measure => simp [intOf]; omega
            · have j1 : ¬ (j : Int) < (N : Int) := by omega
              have ej : j = N := by omega
              obtain ⟨⟨f4x, f4y⟩, hf4⟩ : ∃ v, v = F4 n := ⟨_, rfl⟩
              obtain ⟨⟨g4x, g4y⟩, hg4⟩ : ∃ v, v = G4 n := ⟨_, rfl⟩
              have BE : Hid (BS w0 wr dd t' (i + 1) FB TB F4 G4 ∧ ¬ tc (floorT (TS t' key4) dd) (f4x, f4y) < 0 ∧ ¬ tc (floorT (TS t' key4) 0) (g4x, g4y) < 0) := by
                have b := B6.out.1.k0 S6.out.2
                have q := b.le n hn3
                rw [← EK.out.1, ← hf4, ← hg4] at q
                exact ⟨b, q.1, q.2⟩
              have CE : Hid (∀ V F G, BS w0 V dd t' (i + 1) FB TB F G → F n = (f4x, f4y) → G n = (g4x, g4y) → (V.cell? ⟨FB, n * 2, none⟩ = some (.int .i64 f4x) ∧ V.cell? ⟨FB, n * 2 + 1, none⟩ = some (.int .i64 f4y) ∧ V.cell? ⟨TB, n * 2, none⟩ = some (.int .i64 g4x) ∧ V.cell? ⟨TB, n * 2 + 1, none⟩ = some (.int .i64 g4y))) := by
                intro V F G b eF eG
                have q1 := fc_get F n hn3
                have q2 := fc_get G n hn3
                rw [eF] at q1
                rw [eG] at q2
                exact ⟨cell_blk b.fl _ q1.1, cell_blk b.fl _ q1.2, cell_blk b.tp _ q2.1, cell_blk b.tp _ q2.2⟩
              have HF : Hid (F4 n = (f4x, f4y) ∧ G4 n = (g4x, g4y)) := ⟨hf4.symm, hg4.symm⟩
              have ff : ¬ dd + 1 < (fn : Int) := by
                have q := B6.out.2.1.fins
                have q2 := S6.out.1
                rw [ej, ← LN.out, List.take_length] at q2
                omega
              have ffb : decide (dd + 1 < (fn : Int)) = false := by simp [ff]
              clear hf4 hg4 S6
              go_upto_region 25 with fail
              obtain ⟨c1, c2, c3, c4⟩ := CE.out wr F4 G4 BE.out.1 HF.out.1 HF.out.2
              have dwi := wrap_dd dd d0 d4
              go_region_held3 (fun V => V.cell? ⟨FB, n * 2, none⟩ = some (.int .i64 f4x) ∧ V.cell? ⟨FB, n * 2 + 1, none⟩ = some (.int .i64 f4y) ∧ V.cell? ⟨TB, n * 2, none⟩ = some (.int .i64 g4x) ∧ V.cell? ⟨TB, n * 2 + 1, none⟩ = some (.int .i64 g4y)) (first | go_keep)
                (first
                  | (go_at_call 11; refine (bounds_floor (BE.out.1.k0 (Kept.refl _ _).drew) B3.out.2 EK.out.2).mono ?_; rintro o w7 ⟨fx, fy, rfl, hf, K7⟩
                     have B7 : Hid (BS w0 w7 dd t' (i + 1) FB TB F4 G4) := BE.out.1.k0 ((Kept.refl _ _).drew.and0 K7)
                     have CP1 : Hid (∀ V : World, Calls Try.prog 10 #[.agg #[.int .i64 fx, .int .i64 fy], .agg #[.int .i64 f4x, .int .i64 f4y]] V fun o w' => ∃ z : Int, o = .returned (.int .i64 z) ∧ ¬ z < 0 ∧ Kept (fun _ => False) V w') := cmp_ge (by rw [← hf]; have z := BE.out.2.1; omega)
                     obtain ⟨c1, c2, c3, c4⟩ := CE.out w7 F4 G4 B7.out HF.out.1 HF.out.2
                     clear K7 hf)
                  | (go_at_call 12; refine (bounds_top B8.out B3.out.2 EK.out.2).mono ?_; rintro o w9 ⟨gx, gy, rfl, hg, K9⟩
                     have B9 : Hid (BS w0 w9 dd t' (i + 1) FB TB F4 G4) := B8.out.k0 K9
                     have CP2 : Hid (∀ V : World, Calls Try.prog 10 #[.agg #[.int .i64 gx, .int .i64 gy], .agg #[.int .i64 g4x, .int .i64 g4y]] V fun o w' => ∃ z : Int, o = .returned (.int .i64 z) ∧ ¬ z < 0 ∧ Kept (fun _ => False) V w') := cmp_ge (by rw [← hg]; have z := BE.out.2.2; omega)
                     obtain ⟨c1, c2, c3, c4⟩ := CE.out w9 F4 G4 B9.out HF.out.1 HF.out.2
                     clear K9 hg)
                  | (go_at_call 10; refine (CP2.out _).mono ?_; rintro o w10 ⟨z2, rfl, hz2, K10⟩
                     have B10 : Hid (BS w0 w10 dd t' (i + 1) FB TB F4 G4) := B9.out.k0 K10
                     have hz2b : decide (z2 < 0) = false := by simp [hz2]
                     obtain ⟨c1, c2, c3, c4⟩ := CE.out w10 F4 G4 B10.out HF.out.1 HF.out.2
                     clear K10)
                  | (go_at_call 10; refine (CP1.out _).mono ?_; rintro o w8 ⟨z1, rfl, hz1, K8⟩
                     have B8 : Hid (BS w0 w8 dd t' (i + 1) FB TB F4 G4) := B7.out.k0 K8
                     have hz1b : decide (z1 < 0) = false := by simp [hz1]
                     obtain ⟨c1, c2, c3, c4⟩ := CE.out w8 F4 G4 B8.out HF.out.1 HF.out.2
                     clear K8)
                  | fail)
              go_wp2_with fail
              refine (bounds_floor B10.out B3.out.2 EK.out.2).mono ?_
              rintro o w11 ⟨ax, ay, rfl, ha, K11⟩
              have B11 : Hid (BS w0 w11 dd t' (i + 1) FB TB F4 G4 ∧ floorT (TS t' key4) dd = (ax, ay)) := ⟨B10.out.k0 K11, ha⟩
              clear K11 ha c1 c2 c3 c4 hz1 hz1b hz2 hz2b
              obtain ⟨c1, c2, c3, c4⟩ := CE.out w11 F4 G4 B11.out.1 HF.out.1 HF.out.2
              have s1 := soft_blk B11.out.1.fl (n * 2)
              have s2 := soft_blk B11.out.1.fl (n * 2 + 1)
              go_wp2_with fail
              obtain ⟨W12, hW12⟩ : ∃ W12, W12 = (w11.setCell ⟨FB, n * 2, none⟩ (.int .i64 ax)).setCell ⟨FB, n * 2 + 1, none⟩ (.int .i64 ay) := ⟨_, rfl⟩
              have B12 : Hid (BS w0 W12 dd t' (i + 1) FB TB (Ytojepeefphbekaa.setF F4 n (ax, ay)) G4) := by
                rw [hW12]
                exact B11.out.1.setF n hn3 ax ay (by rw [← EK.out.1]; exact B11.out.2)
              rw [← hW12]
              clear hW12 c1 c2 c3 c4 s1 s2
              refine (bounds_top B12.out B3.out.2 EK.out.2).mono ?_
              rintro o w13 ⟨bx, byy, rfl, hb, K13⟩
              have B13 : Hid (BS w0 w13 dd t' (i + 1) FB TB (Ytojepeefphbekaa.setF F4 n (ax, ay)) G4 ∧ floorT (TS t' key4) 0 = (bx, byy)) := ⟨B12.out.k0 K13, hb⟩
              clear K13 hb
              have q2 := fc_get G4 n hn3
              rw [HF.out.2] at q2
              have c3 := cell_blk B13.out.1.tp _ q2.1
              have c4 := cell_blk B13.out.1.tp _ q2.2
              have s1 := soft_blk B13.out.1.tp (n * 2)
              have s2 := soft_blk B13.out.1.tp (n * 2 + 1)
              clear q2
              go_wp2_with fail
              have B14 : Hid (BS w0 ((w13.setCell ⟨TB, n * 2, none⟩ (.int .i64 bx)).setCell ⟨TB, n * 2 + 1, none⟩ (.int .i64 byy)) dd t' (i + 1) FB TB (Ytojepeefphbekaa.setF F4 n (ax, ay)) (Ytojepeefphbekaa.setF G4 n (bx, byy))) := B13.out.1.setG n hn3 bx byy (by rw [← EK.out.1]; exact B13.out.2)
              go_roundw
              case rel => exact ⟨n + 1, by go_num, by omega, _, _, B14.out⟩
              case measure => simp [intOf]; omega
        · have n1 : ¬ (n : Int) < 3 := by omega
          obtain ⟨F4, G4, bs4⟩ := S4.out
          have B4 : Hid (BS w0 wr dd t' (i + 1) FB TB F4 G4 ∧ t'.tb = tb) := ⟨bs4, B3.out.2⟩
          clear bs4 S4
          go_wp2_with fail
          go_roundw
          case rel => exact ⟨i + 1, by go_num, by omega, t', F4, G4, B4.out.1, B4.out.2⟩
          case measure => simp [intOf]; omega
    · have i1 : ¬ (i : Int) < (len : Int) := by omega
      obtain ⟨t, F, G, bs, et⟩ := S.out
      have B1 : Hid (Kept (fun _ => False) w0 wr) := bs.kept
      clear bs et S
      go_wp2_with fail
      refine (taken wr).mono ?_
      rintro o w9 ⟨rfl, K9⟩
      have B9 : Hid (Kept (fun _ => False) w0 w9) := B1.out.and0 K9
      clear K9
      go_wp2_with fail
      go_ret
      exact ⟨rfl, B9.out⟩
end Go.Proofs.Ytojepeefphbekaa
