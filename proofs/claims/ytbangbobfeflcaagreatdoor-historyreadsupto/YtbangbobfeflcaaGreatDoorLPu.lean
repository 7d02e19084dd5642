import Derived.Test.YtbangbobfeflcaaGreatDoorLCtJ
import Derived.Lib.ConvBytes
import Derived.Shelf.Strconv.ToError
import Derived.Shelf.Strconv.Lower
import Derived.Deep.Cut
import Derived.BigQuiet
namespace Go.Proofs.YtbangbobfeflcaaGreatDoor
open Go.RowKit 

def lowN (c : Nat) : Nat := (bits .or .u8 (c : Int) 32).toNat
theorem low_eq (c : Nat) : bits .or .u8 (c : Int) 32 = (lowN c : Int) ∧ lowN c < 256 := by
  have h : 0 ≤ bits .or .u8 (c : Int) 32 ∧ bits .or .u8 (c : Int) 32 < 256 := by
    show 0 ≤ IntKind.u8.wrap ((BitVec.ofInt 8 (c : Int) ||| BitVec.ofInt 8 32).toNat : Int) ∧ IntKind.u8.wrap ((BitVec.ofInt 8 (c : Int) ||| BitVec.ofInt 8 32).toNat : Int) < 256
    rw [IntKind.wrap_u8]
    omega
  unfold lowN
  omega
/-- What a digit of sixteen stands for. -/
def hxv (c : Nat) : Option Nat := if 48 ≤ c ∧ c ≤ 57 then some (c - 48) else if 97 ≤ lowN c ∧ lowN c ≤ 102 then some (lowN c - 87) else none
theorem hxv_hxd (n : Nat) (h : n < 16) : hxv (hxd n) = some n := by
  obtain rfl | rfl | rfl | rfl | rfl | rfl | rfl | rfl | rfl | rfl | rfl | rfl | rfl | rfl | rfl | rfl : n = 0 ∨ n = 1 ∨ n = 2 ∨ n = 3 ∨ n = 4 ∨ n = 5 ∨ n = 6 ∨ n = 7 ∨ n = 8 ∨ n = 9 ∨ n = 10 ∨ n = 11 ∨ n = 12 ∨ n = 13 ∨ n = 14 ∨ n = 15 := by omega
  all_goals kernel_rfl
theorem hxv_lt {c x : Nat} (h : hxv c = some x) : x < 16 := by
  unfold hxv at h
  split at h
  · have := Option.some.inj h
    omega
  · split at h
    · have := Option.some.inj h
      omega
    · cases h
theorem hLower (c : Nat) (w : World) : Calls Tryz.prog 147 #[.int .u8 (c : Int)] w fun o w' => o = .returned (.int .u8 (lowN c : Int)) ∧ w' = w := by
  have q := Any.internal_strconv_lower (ρ := Tryz.laysC174_ren) { Tryz.laysC174 with } (c : Int) w
  rw [(low_eq c).1] at q
  exact q
def UX (a b : Nat) (v : Int) (i : Value) : Prop := (∃ x y, hxv a = some x ∧ hxv b = some y ∧ v = ((x * 16 + y : Nat) : Int) ∧ i = .nilIface) ∨ ((hxv a = none ∨ hxv b = none) ∧ v = 0 ∧ i = .iface 153 (.int .i64 2))
/-- What the first digits stand for. -/
def UP (a b : Nat) (i n : Nat) : Prop := (i = 0 ∧ n = 0) ∨ (i = 1 ∧ hxv a = some n) ∨ (i = 2 ∧ ∃ x y, hxv a = some x ∧ hxv b = some y ∧ n = x * 16 + y)
set_option maxRecDepth 100000 in
set_option maxHeartbeats 4000000 in
theorem hPU {a b : Nat} (t : ByteArray) (ht : bl t = [a, b]) (w : World) : Calls Tryz.prog 130 #[.string t, .int .i64 16, .int .i64 8] w fun o w' => ∃ v i, o = .returned (.tuple #[.int .u64 v, i]) ∧ Hid (UX a b v i ∧ Below w.heap.size w w') := by
  have sz : t.size = 2 := by rw [← bl_len, ht]; rfl
  have al := bl_lt t
  rw [ht] at al
  have ha : a < 256 := al a (by simp)
  have hb : b < 256 := al b (by simp)
  have te : t.toList.isEmpty = false := by
    rw [Go.ByteArray.toList_eq]
    have : t.data.toList.length = 2 := by rw [← sz]; exact Array.length_toList
    cases h : t.data.toList with
    | nil => rw [h] at this; cases this
    | cons _ _ => rfl
  have cv := Lib.run_convert_string_bytes (P := Tryz.prog) w 9 34 5 t Tryz.underlying9 Tryz.underlying34 Tryz.underlying5
  rw [sz] at cv
  obtain ⟨cp, hcp⟩ : ∃ cp, grownCap w 2 0 5 = cp := ⟨_, rfl⟩
  obtain ⟨W, hW⟩ : ∃ W, Lib.bytesWorld w 5 t = W := ⟨_, rfl⟩
  have q0 := Lib.bytesWorld_cell w 5 t 0 (by omega)
  have q1 := Lib.bytesWorld_cell w 5 t 1 (by omega)
  have e0 : (t.data.toList.getD 0 0).toNat = a ∧ (t.data.toList.getD 1 0).toNat = b := by
    unfold bl at ht
    cases h : t.data.toList with
    | nil => rw [h] at ht; cases ht
    | cons x r =>
      rw [h] at ht
      cases r with
      | nil => cases ht
      | cons y r2 =>
        simp at ht
        exact ⟨ht.1, ht.2.1⟩
  rw [e0.1, hW] at q0
  rw [e0.2, hW] at q1
  rw [hcp, hW] at cv
  have CE : Hid (W.cell? ⟨w.heap.size, 0, none⟩ = some (.int .u8 (a : Int)) ∧ W.cell? ⟨w.heap.size, 1, none⟩ = some (.int .u8 (b : Int)) ∧ Below w.heap.size w W) := ⟨q0, q1, by rw [← hW]; exact Lib.bytesWorld_below w 5 t⟩
  have CL : Hid (∀ (c : Nat) V, Calls Tryz.prog 147 #[.int .u8 (c : Int)] V fun o w' => o = .returned (.int .u8 (lowN c : Int)) ∧ w' = V) := fun c V => hLower c V
  clear q0 q1 e0 hcp hW ht al
  go_enter Tryz.func130, Tryz.ntmps130
  go_upto_region 36 with fail
  obtain ⟨M, hM0⟩ : ∃ M : Int, M = 1152921504606846976 := ⟨_, rfl⟩
  rw [← hM0]
  have hM : Hid (M = 1152921504606846976) := hM0
  clear hM0
  go_loopw [6, 7, 12, 13, 15, 16, 17, 101] (fun u6 u7 u12 u13 _ _ _ u101 wr => ∃ (i n : Nat), u6 = .int .u64 0 ∧ u7 = .nilIface ∧ u12 = .bool false ∧ u13 = .int .u64 (n : Int) ∧ u101 = .int .i64 (i : Int) ∧ i ≤ 2 ∧ UP a b i n ∧ W = wr) (fun _ _ _ _ _ _ _ u101 _ => 2 - (intOf u101).toNat)
  case atStart => exact ⟨0, 0, rfl, rfl, rfl, rfl, rfl, by omega, Or.inl ⟨rfl, rfl⟩, rfl⟩
  case round =>
    obtain ⟨i, n, rfl, rfl, rfl, rfl, rfl, hi, up, rfl⟩ := hrel
    by_cases hlt : i < 2
    · have lti : (i : Int) < 2 := by omega
      obtain ⟨c, hc, cl, C1, C2, nb⟩ : ∃ c : Nat, W.cell? ⟨w.heap.size, i, none⟩ = some (.int .u8 (c : Int)) ∧ c < 256 ∧ Hid (∀ x, hxv c = some x → UP a b (i + 1) (n * 16 + x)) ∧ Hid (hxv c = none → hxv a = none ∨ hxv b = none) ∧ n < 16 := by
        rcases up with ⟨rfl, rfl⟩ | ⟨rfl, h1⟩ | ⟨rfl, _⟩
        · exact ⟨a, CE.out.1, ha, fun x hx => Or.inr (Or.inl ⟨rfl, by rw [hx]; congr 1; omega⟩), fun h => Or.inl h, by omega⟩
        · exact ⟨b, CE.out.2.1, hb, fun x hx => Or.inr (Or.inr ⟨rfl, _, _, h1, hx, rfl⟩), fun h => Or.inr h, hxv_lt h1⟩
        · omega
      clear up
      have n2 : ¬ M ≤ (n : Int) := by rw [hM.out]; omega
      have KT : Hid (Below w.heap.size w W) := CE.out.2.2
      have n3 : ¬ (n : Int) ≥ M := n2
      obtain ⟨y, hy⟩ : ∃ y : Nat, lowN c = y := ⟨_, rfl⟩
      have CM : Hid (∀ V, Calls Tryz.prog 147 #[.int .u8 (c : Int)] V fun o w' => o = .returned (.int .u8 (y : Int)) ∧ w' = V) := fun V => by rw [← hy]; exact hLower c V
      have yl : y < 256 := by rw [← hy]; exact (low_eq c).2
      by_cases cA : 48 ≤ c ∧ c ≤ 57
      · have f1 : (48 : Int) ≤ (c : Int) := by omega
        have f2 : (c : Int) ≤ 57 := by omega
        have f3 : ¬ (c : Int) = 95 := by omega
        obtain ⟨x, hx⟩ : ∃ x : Nat, c - 48 = x := ⟨_, rfl⟩
        have hX : Hid (hxv c = some x) := by
          show hxv c = some x
          unfold hxv
          rw [if_pos cA, hx]
        have f4 : (c : Int) - 48 = (x : Int) := by omega
        have f5 : ¬ (16 : Int) ≤ (x : Int) := by omega
        have f6 : ¬ (x : Int) ≥ 16 := by omega
        have g3 : ¬ (n : Int) * 16 + (x : Int) < (n : Int) * 16 := by omega
        have g4 : ¬ (n : Int) * 16 + (x : Int) > 255 := by omega
        have g4' : ¬ (255 : Int) < (n : Int) * 16 + (x : Int) := by omega
        have U9 := C1.out x hX.out
        clear cA hx hy yl cl CM
        go_upto_region 46 with fail
        go_upto_region 51 with fail
        go_wp2_with fail
        go_roundw
        case rel => exact ⟨i + 1, n * 16 + x, rfl, rfl, rfl, by go_num, by go_num, by omega, U9, trivial⟩
        case measure => simp [intOf] <;> omega
      · have HA : Hid (¬ (48 ≤ c ∧ c ≤ 57)) := cA
        by_cases cB : 97 ≤ y ∧ y ≤ 122
        · have f1 : (97 : Int) ≤ (y : Int) := by omega
          have f2 : (y : Int) ≤ 122 := by omega
          obtain ⟨x, hx⟩ : ∃ x : Nat, y - 87 = x := ⟨_, rfl⟩
          have f4 : (y : Int) - 97 + 10 = (x : Int) := by omega
          by_cases cC : y ≤ 102
          · have hX : Hid (hxv c = some x) := by
              show hxv c = some x
              unfold hxv
              rw [if_neg cA, hy, if_pos ⟨cB.1, cC⟩, hx]
            by_cases e1 : c ≤ 57
            · have z1 : (c : Int) ≤ 57 := by omega
              have z2 : ¬ (48 : Int) ≤ (c : Int) := by omega
              have z3 : ¬ (c : Int) = 95 := by omega
              have f5 : ¬ (16 : Int) ≤ (x : Int) := by omega
              have f6 : ¬ (x : Int) ≥ 16 := by omega
              have g3 : ¬ (n : Int) * 16 + (x : Int) < (n : Int) * 16 := by omega
              have g4 : ¬ (n : Int) * 16 + (x : Int) > 255 := by omega
              have g4' : ¬ (255 : Int) < (n : Int) * 16 + (x : Int) := by omega
              have U9 := C1.out x hX.out
              clear cA cB cC hx hy e1 yl cl
              go_wp2_with fail
              refine (CM.out _).mono ?_
              rintro o w5 ⟨rfl, rfl⟩
              go_wp2_with fail
              refine (CM.out _).mono ?_
              rintro o w5 ⟨rfl, rfl⟩
              go_wp2_with fail
              refine (CM.out _).mono ?_
              rintro o w5 ⟨rfl, rfl⟩
              go_upto_region 46 with fail
              go_upto_region 51 with fail
              go_wp2_with fail
              go_roundw
              case rel => exact ⟨i + 1, n * 16 + x, rfl, rfl, rfl, by go_num, by go_num, by omega, U9, trivial⟩
              case measure => simp [intOf] <;> omega
            · have z1 : ¬ (c : Int) ≤ 57 := by omega
              have z2 : (48 : Int) ≤ (c : Int) := by omega
              by_cases e2 : c = 95
              · exact absurd (hy.symm.trans (by rw [e2])) (show ¬ y = lowN 95 from by rw [show lowN 95 = 127 from by kernel_rfl]; omega)
              · have z3 : ¬ (c : Int) = 95 := by omega
                have f5 : ¬ (16 : Int) ≤ (x : Int) := by omega
                have f6 : ¬ (x : Int) ≥ 16 := by omega
                have g3 : ¬ (n : Int) * 16 + (x : Int) < (n : Int) * 16 := by omega
                have g4 : ¬ (n : Int) * 16 + (x : Int) > 255 := by omega
                have g4' : ¬ (255 : Int) < (n : Int) * 16 + (x : Int) := by omega
                have U9 := C1.out x hX.out
                clear cA cB cC hx hy e1 yl cl
                go_wp2_with fail
                refine (CM.out _).mono ?_
                rintro o w5 ⟨rfl, rfl⟩
                go_wp2_with fail
                refine (CM.out _).mono ?_
                rintro o w5 ⟨rfl, rfl⟩
                go_wp2_with fail
                refine (CM.out _).mono ?_
                rintro o w5 ⟨rfl, rfl⟩
                go_upto_region 46 with fail
                go_upto_region 51 with fail
                go_wp2_with fail
                go_roundw
                case rel => exact ⟨i + 1, n * 16 + x, rfl, rfl, rfl, by go_num, by go_num, by omega, U9, trivial⟩
                case measure => simp [intOf] <;> omega
          · have hX : Hid (hxv c = none) := by
              show hxv c = none
              unfold hxv
              rw [if_neg cA, hy, if_neg (fun h => cC h.2)]
            have N9 := C2.out hX.out
            have f5 : (16 : Int) ≤ (x : Int) := by omega
            have f6 : (x : Int) ≥ 16 := by omega
            by_cases e1 : c ≤ 57
            · have z1 : (c : Int) ≤ 57 := by omega
              have z2 : ¬ (48 : Int) ≤ (c : Int) := by omega
              have z3 : ¬ (c : Int) = 95 := by omega
              clear cA cB cC hx hy e1 yl cl
              go_wp2_with fail
              refine (CM.out _).mono ?_
              rintro o w5 ⟨rfl, rfl⟩
              go_wp2_with fail
              refine (CM.out _).mono ?_
              rintro o w5 ⟨rfl, rfl⟩
              go_wp2_with fail
              refine (CM.out _).mono ?_
              rintro o w5 ⟨rfl, rfl⟩
              go_wp2_with fail
              go_ret2
              exact ⟨_, _, rfl, ⟨Or.inr ⟨N9, rfl, rfl⟩, KT.out⟩⟩
            · have z1 : ¬ (c : Int) ≤ 57 := by omega
              have z2 : (48 : Int) ≤ (c : Int) := by omega
              by_cases e2 : c = 95
              · exact absurd (hy.symm.trans (by rw [e2])) (show ¬ y = lowN 95 from by rw [show lowN 95 = 127 from by kernel_rfl]; omega)
              · have z3 : ¬ (c : Int) = 95 := by omega
                clear cA cB cC hx hy e1 yl cl
                go_wp2_with fail
                refine (CM.out _).mono ?_
                rintro o w5 ⟨rfl, rfl⟩
                go_wp2_with fail
                refine (CM.out _).mono ?_
                rintro o w5 ⟨rfl, rfl⟩
                go_wp2_with fail
                refine (CM.out _).mono ?_
                rintro o w5 ⟨rfl, rfl⟩
                go_wp2_with fail
                go_ret2
                exact ⟨_, _, rfl, ⟨Or.inr ⟨N9, rfl, rfl⟩, KT.out⟩⟩
        · have hX : Hid (hxv c = none) := by
            show hxv c = none
            unfold hxv
            rw [if_neg cA, hy, if_neg (fun h => cB ⟨h.1, by omega⟩)]
          have N9 := C2.out hX.out
          by_cases e1 : c ≤ 57
          · have z1 : (c : Int) ≤ 57 := by omega
            have z2 : ¬ (48 : Int) ≤ (c : Int) := by omega
            have z3 : ¬ (c : Int) = 95 := by omega
            by_cases e3 : 97 ≤ y
            · have f1 : (97 : Int) ≤ (y : Int) := by omega
              have f2 : ¬ (y : Int) ≤ 122 := by omega
              clear cA cB hy e1 e3 yl cl
              go_wp2_with fail
              refine (CM.out _).mono ?_
              rintro o w5 ⟨rfl, rfl⟩
              go_wp2_with fail
              refine (CM.out _).mono ?_
              rintro o w5 ⟨rfl, rfl⟩
              go_wp2_with fail
              go_ret2
              exact ⟨_, _, rfl, ⟨Or.inr ⟨N9, rfl, rfl⟩, KT.out⟩⟩
            · have f1 : ¬ (97 : Int) ≤ (y : Int) := by omega
              clear cA cB hy e1 e3 yl cl
              go_wp2_with fail
              refine (CM.out _).mono ?_
              rintro o w5 ⟨rfl, rfl⟩
              go_wp2_with fail
              go_ret2
              exact ⟨_, _, rfl, ⟨Or.inr ⟨N9, rfl, rfl⟩, KT.out⟩⟩
          · have z1 : ¬ (c : Int) ≤ 57 := by omega
            have z2 : (48 : Int) ≤ (c : Int) := by omega
            by_cases e2 : c = 95
            · subst e2
              obtain rfl : y = 127 := by rw [← hy]; kernel_rfl
              have CM : Hid (∀ V, Calls Tryz.prog 147 #[.int .u8 95] V fun o w' => o = .returned (.int .u8 127) ∧ w' = V) := fun V => CM.out V
              clear cA cB hy e1 yl cl z1 z2
              go_wp2_with fail
              refine (CM.out _).mono ?_
              rintro o w5 ⟨rfl, rfl⟩
              go_wp2_with fail
              refine (CM.out _).mono ?_
              rintro o w5 ⟨rfl, rfl⟩
              go_wp2_with fail
              go_ret2
              exact ⟨_, _, rfl, ⟨Or.inr ⟨N9, rfl, rfl⟩, KT.out⟩⟩
            · have z3 : ¬ (c : Int) = 95 := by omega
              by_cases e3 : 97 ≤ y
              · have f1 : (97 : Int) ≤ (y : Int) := by omega
                have f2 : ¬ (y : Int) ≤ 122 := by omega
                clear cA cB hy e1 e3 yl cl
                go_wp2_with fail
                refine (CM.out _).mono ?_
                rintro o w5 ⟨rfl, rfl⟩
                go_wp2_with fail
                refine (CM.out _).mono ?_
                rintro o w5 ⟨rfl, rfl⟩
                go_wp2_with fail
                go_ret2
                exact ⟨_, _, rfl, ⟨Or.inr ⟨N9, rfl, rfl⟩, KT.out⟩⟩
              · have f1 : ¬ (97 : Int) ≤ (y : Int) := by omega
                clear cA cB hy e1 e3 yl cl
                go_wp2_with fail
                refine (CM.out _).mono ?_
                rintro o w5 ⟨rfl, rfl⟩
                go_wp2_with fail
                go_ret2
                exact ⟨_, _, rfl, ⟨Or.inr ⟨N9, rfl, rfl⟩, KT.out⟩⟩
    · have lti : ¬ (i : Int) < 2 := by omega
      have up2 : ∃ x y, hxv a = some x ∧ hxv b = some y ∧ n = x * 16 + y := by
        rcases up with ⟨rfl, _⟩ | ⟨rfl, _⟩ | ⟨_, h⟩
        · omega
        · omega
        · exact h
      have KT : Hid (Below w.heap.size w W) := CE.out.2.2
      go_wp2_with fail
      go_ret2
      obtain ⟨x, y, h1, h2, h3⟩ := up2
      exact ⟨_, _, rfl, ⟨Or.inl ⟨x, y, h1, h2, by rw [h3], rfl⟩, KT.out⟩⟩

end Go.Proofs.YtbangbobfeflcaaGreatDoor
