import Derived.Test.YtbangbobfeflcaaGreatDoorLPu
import Derived.Test.YtbangbobfeflcaaGreatDoorHTkJ
namespace Go.Proofs.YtbangbobfeflcaaGreatDoor
open Go.RowKit 

/-- What two bytes stand for. -/
def hx2 (a b : Nat) : Option Nat := match hxv a, hxv b with
  | some x, some y => some (x * 16 + y)
  | _, _ => none
def UY (a b : Nat) (v : Int) (i : Value) : Prop := v = (((hx2 a b).getD 0 : Nat) : Int) ∧ (i = .nilIface ∨ ∃ t q, i = .iface t (.pointer (some q)))
theorem UX.ok {a b : Nat} {v : Int} (h : UX a b v .nilIface) : UY a b v .nilIface := by
  rcases h with ⟨x, y, h1, h2, rfl, _⟩ | ⟨_, _, h3⟩
  · refine ⟨?_, .inl rfl⟩
    unfold hx2
    rw [h1, h2]
    rfl
  · cases h3
theorem hx2_none {a b : Nat} (h : hxv a = none ∨ hxv b = none) : hx2 a b = none := by
  unfold hx2
  rcases h with h | h
  · rw [h]
  · rw [h]
    cases hxv a <;> rfl
theorem toErr (t : ByteArray) (w : World) (hs : t.size ≤ 281474976710656) (V : EVs w) :
    Calls Tryz.prog 106 #[.string ⟨#[80, 97, 114, 115, 101, 85, 105, 110, 116]⟩, .string t, .int .i64 16, .int .i64 8, .iface 153 (.int .i64 2)] w fun e w' => ∃ T q, e = .returned (.iface T (.pointer (some q))) ∧ Below w.heap.size w w' := by
  obtain ⟨tp, p, hv⟩ := V.syn
  refine (Any.strconv_toError_syntax (ρ := Tryz.laysC174_ren) { Tryz.laysC174 with } ⟨#[80, 97, 114, 115, 101, 85, 105, 110, 116]⟩ t 16 8 (.iface tp p) w hs (by have h0 := World.var?_cell Tryz.laysC174.m15 hv 0; simpa using h0) (Or.inr ⟨tp, p, rfl⟩)).mono ?_
  rintro e w' ⟨N, rfl, _, _, hb⟩
  exact ⟨_, _, rfl, hb⟩
set_option maxRecDepth 100000 in
set_option maxHeartbeats 4000000 in
theorem hPUint {a b : Nat} (t : ByteArray) (ht : bl t = [a, b]) (w : World) (V : EVs w) : Calls Tryz.prog 107 #[.string t, .int .i64 16, .int .i64 8] w fun o w' => ∃ v i, o = .returned (.tuple #[.int .u64 v, i]) ∧ Hid (UY a b v i ∧ Below w.heap.size w w') := by
  have sz : t.size ≤ 281474976710656 := by rw [← bl_len, ht]; show 2 ≤ _; omega
  have c1 := hPU t ht w
  have VV : Hid (EVs w) := V
  have CT : Hid (∀ u, EVs u → Calls Tryz.prog 106 #[.string ⟨#[80, 97, 114, 115, 101, 85, 105, 110, 116]⟩, .string t, .int .i64 16, .int .i64 8, .iface 153 (.int .i64 2)] u fun e w' => ∃ T q, e = .returned (.iface T (.pointer (some q))) ∧ Below u.heap.size u w') := fun u h => toErr t u sz h
  clear V ht sz
  go_enter Tryz.func107, Tryz.ntmps107
  go_wp2_with fail
  refine c1.mono ?_
  rintro o w1 ⟨v, i, rfl, R⟩
  clear c1
  have R0 := R.out.1
  rcases R0 with ⟨x, y, h1, h2, h3, rfl⟩ | ⟨h1, rfl, rfl⟩
  · clear h1 h2 h3
    go_wp2_with fail
    go_ret2
    exact ⟨_, _, rfl, ⟨R.out.1.ok, R.out.2⟩⟩
  · have V1 : Hid (EVs w1) := VV.out.by R.out.2
    have N1 : Hid (hx2 a b = none) := hx2_none h1
    clear h1
    go_wp2_with fail
    refine (CT.out _ V1.out).mono ?_
    rintro o w2 ⟨T, q, rfl, B2⟩
    have F : Hid (Below w.heap.size w w2) := R.out.2.trans (B2.mono R.out.2.size)
    clear B2
    go_wp2_with fail
    go_ret2
    exact ⟨_, _, rfl, ⟨⟨by rw [N1.out]; rfl, .inr ⟨_, _, rfl⟩⟩, F.out⟩⟩
end Go.Proofs.YtbangbobfeflcaaGreatDoor

namespace Go.Proofs.YtbangbobfeflcaaGreatDoor
open Go.RowKit 

/-- What is written so between quotation marks. -/
def unqF : Nat → List Nat → List Nat
  | 0, _ => []
  | _ + 1, [] => []
  | k + 1, c :: r => if c = 92 ∧ 3 ≤ r.length then (hx2 (r.getD 1 0) (r.getD 2 0)).getD 0 :: unqF k (r.drop 3) else c :: unqF k r
theorem unqF_fuel : ∀ (k m : Nat) (l : List Nat), l.length ≤ k → l.length ≤ m → unqF k l = unqF m l
  | 0, 0, _, _, _ => rfl
  | 0, m + 1, l, h, _ => by
    have : l = [] := List.length_eq_zero_iff.1 (by omega)
    subst this
    rfl
  | k + 1, 0, l, _, h => by
    have : l = [] := List.length_eq_zero_iff.1 (by omega)
    subst this
    rfl
  | k + 1, m + 1, [], _, _ => rfl
  | k + 1, m + 1, c :: r, h, h' => by
    have e : (c :: r).length = r.length + 1 := rfl
    unfold unqF
    split
    · rw [unqF_fuel k m (r.drop 3) (by rw [List.length_drop]; omega) (by rw [List.length_drop]; omega)]
    · rw [unqF_fuel k m r (by omega) (by omega)]
theorem hx2_hxd {c : Nat} (h : c < 256) : hx2 (hxd (c / 16)) (hxd (c % 16)) = some c := by
  unfold hx2
  rw [hxv_hxd _ (by omega), hxv_hxd _ (by omega)]
  show some (c / 16 * 16 + c % 16) = some c
  congr 1
  omega
theorem hx2_lt (a b : Nat) : (hx2 a b).getD 0 < 256 := by
  unfold hx2
  split
  · next x y h1 h2 =>
    have := hxv_lt h1
    have := hxv_lt h2
    show x * 16 + y < 256
    omega
  · decide
theorem unqF_esc : ∀ (l : List Nat), (∀ c ∈ l, c < 256) → ∀ k, (escL l).length ≤ k → unqF k (escL l) = l
  | [], _, 0, _ => rfl
  | [], _, _ + 1, _ => rfl
  | c :: r, h, k, hk => by
    have e : escL (c :: r) = escN c ++ escL r := rfl
    have ih := unqF_esc r (fun x hx => h x (List.mem_cons_of_mem _ hx))
    have cl := h c List.mem_cons_self
    rw [e] at hk ⊢
    unfold escN at hk ⊢
    split at hk
    · next hp =>
      rw [if_pos hp]
      have ne : c ≠ 92 := by
        rintro rfl
        exact absurd hp (by decide)
      cases k with
      | zero => simp at hk
      | succ k =>
        show unqF (k + 1) (c :: escL r) = _
        unfold unqF
        rw [if_neg (fun q => ne q.1), ih k (by simp at hk; omega)]
    · next hp =>
      rw [if_neg hp]
      cases k with
      | zero => simp at hk
      | succ k =>
        show unqF (k + 1) (92 :: 120 :: hxd (c / 16) :: hxd (c % 16) :: escL r) = _
        unfold unqF
        rw [if_pos ⟨rfl, by simp⟩]
        show (hx2 (hxd (c / 16)) (hxd (c % 16))).getD 0 :: unqF k (escL r) = _
        rw [hx2_hxd cl, ih k (by simp at hk; omega)]
        rfl
theorem bl_ext (u : ByteArray) (i j : Nat) : bl (u.extract i j) = ((bl u).drop i).take (j - i) := by
  unfold bl
  rw [ByteArray.data_extract, Array.toList_extract, List.extract_eq_take_drop, List.map_take, List.map_drop]
theorem bl_from (u : ByteArray) (i : Nat) : bl (u.extract i u.size) = (bl u).drop i := by
  rw [bl_ext]
  exact List.take_of_length_le (by rw [List.length_drop, bl_len]; omega)
end Go.Proofs.YtbangbobfeflcaaGreatDoor

namespace Go.Proofs.YtbangbobfeflcaaGreatDoor
open Go.RowKit 

theorem below_of {w w' : World} (h : Kept (fun _ => False) w w') : Below w.heap.size w w' := h.below (Nat.le_refl _) (fun _ z => z.elim)
/-- One step of it. -/
theorem unq_step {u : ByteArray} {c : Nat} (hc : (bl u)[0]? = some c) (hn : ¬ (c = 92 ∧ 4 ≤ u.size)) : unqF u.size (bl u) = c :: unqF (u.extract 1 u.size).size (bl (u.extract 1 u.size)) := by
  cases e : bl u with
  | nil => rw [e] at hc; cases hc
  | cons x r =>
    rw [e] at hc
    obtain rfl : x = c := Option.some.inj hc
    have sz : u.size = r.length + 1 := by rw [← bl_len, e]; rfl
    have e2 : bl (u.extract 1 u.size) = r := by rw [bl_from, e]; rfl
    have s1 : (u.extract 1 u.size).size = r.length := by rw [← bl_len, e2]
    rw [e2, s1, sz]
    have hq : ¬ (x = 92 ∧ 3 ≤ r.length) := fun q => hn ⟨q.1, by omega⟩
    show (if x = 92 ∧ 3 ≤ r.length then (hx2 (r.getD 1 0) (r.getD 2 0)).getD 0 :: unqF r.length (r.drop 3) else x :: unqF r.length r) = _
    rw [if_neg hq]
theorem unq_leap {u : ByteArray} (hc : (bl u)[0]? = some 92) (hn : 4 ≤ u.size) : ∃ a b, bl (u.extract 2 4) = [a, b] ∧ unqF u.size (bl u) = (hx2 a b).getD 0 :: unqF (u.extract 4 u.size).size (bl (u.extract 4 u.size)) := by
  have sz := bl_len u
  have e4 := bl_from u 4
  have e24 := bl_ext u 2 4
  have sz4 := bl_len (u.extract 4 u.size)
  match e : bl u with
  | [] => rw [e] at hc; cases hc
  | [_] => rw [e] at sz; simp at sz; omega
  | [_, _] => rw [e] at sz; simp at sz; omega
  | [_, _, _] => rw [e] at sz; simp at sz; omega
  | x :: y :: a :: b :: r =>
    rw [e] at hc sz e4 e24
    obtain rfl : x = 92 := Option.some.inj hc
    have sz : u.size = r.length + 4 := by rw [← sz]; rfl
    have e4 : bl (u.extract 4 u.size) = r := e4
    have e24 : bl (u.extract 2 4) = [a, b] := e24
    refine ⟨a, b, e24, ?_⟩
    have s4 : (u.extract 4 u.size).size = r.length := by rw [← sz4, e4]
    rw [e4, s4, sz]
    show unqF (r.length + 3 + 1) (92 :: y :: a :: b :: r) = _
    show (if (92 : Nat) = 92 ∧ 3 ≤ (y :: a :: b :: r).length then (hx2 a b).getD 0 :: unqF (r.length + 3) r else 92 :: unqF (r.length + 3) (y :: a :: b :: r)) = _
    rw [if_pos ⟨rfl, by simp⟩]
    rw [unqF_fuel (r.length + 3) r.length r (by omega) (Nat.le_refl _)]
set_option maxRecDepth 100000 in
set_option maxHeartbeats 4000000 in
theorem hUnquoted (t : ByteArray) (w : World) (ht : t.size ≤ 1000000000) (V : EVs w) : Calls Tryz.prog 84 #[.string t] w fun o w' => ∃ p k c, o = .returned (.slice p k c) ∧ QS w (unqF t.size (bl t)) p k c w' := by
  obtain ⟨n, hn⟩ : ∃ n, t.size = n := ⟨_, rfl⟩
  obtain ⟨L, hL⟩ : ∃ L, unqF t.size (bl t) = L := ⟨_, rfl⟩
  rw [hL]
  have nb : n ≤ 1000000000 := by omega
  obtain ⟨i5, hi5, hz5, hs5, hb5⟩ := info_parts Tryz.info5
  obtain ⟨W, mk, ow, gr⟩ := run_make_own (P := Tryz.prog) (w := w) w.heap.size 34 5 i5 (.int .u8 0) 1 Tryz.underlying34 hi5 hz5 hs5 .i64 .i64 n (by rw [hb5]; omega) (by unfold maxLen; omega) (Nat.le_refl _)
  have S : Hid (QS w [] (some ⟨w.heap.size, 0, none⟩) 0 n W) := ⟨ow, (Kept.refl _ w).grown gr (fun j _ z => by simp at z)⟩
  have VV : Hid (EVs w) := V
  have R0 : Hid ([] ++ unqF t.size (bl t) = L) := hL
  clear hi5 hz5 hs5 hb5 ow gr ht hL V
  go_enter Tryz.func84, Tryz.ntmps84
  go_upto_region 2 with fail
  clear mk
  go_loopw [0, 3, 4, 5, 6, 7] (fun u0 u3 _ _ _ _ wr => ∃ (u : ByteArray) (o : List Nat) (p : Option Addr) (k c : Nat), u0 = .string u ∧ u3 = .slice p k c ∧ k + u.size ≤ n ∧ Hid (o ++ unqF u.size (bl u) = L) ∧ Hid (QS w o p k c wr)) (fun u0 _ _ _ _ _ _ => strLen u0)
  case atStart => exact ⟨t, [], _, 0, n, rfl, rfl, by omega, R0, S⟩
  case round =>
    clear S R0
    obtain ⟨u, o, p, k, c, rfl, rfl, kb, R, S⟩ := hrel
    obtain ⟨wo, hwo⟩ : ∃ wo, wo = wr := ⟨_, rfl⟩
    rw [← hwo] at S ⊢
    clear hwo
    by_cases us : u.size = 0
    · have lz : ¬ (0 : Int) < (u.size : Int) := by omega
      have lz2 : ¬ (u.size : Int) > 0 := by omega
      have E : Hid (QS w L p k c wo) := by
        have q : unqF u.size (bl u) = [] := by rw [us]; rfl
        have r := R.out
        rw [q, List.append_nil] at r
        rw [← r]
        exact S
      go_wp2_with fail
      go_ret
      exact ⟨p, k, c, rfl, E.out⟩
    · have lz : (0 : Int) < (u.size : Int) := by omega
      have lz2 : (u.size : Int) > 0 := by omega
      obtain ⟨x, hx⟩ : ∃ x, (bl u)[0]? = some x := ⟨_, List.getElem?_eq_getElem (by rw [bl_len]; omega)⟩
      have xl : x < 256 := bl_lt u x (List.mem_of_getElem? hx)
      have ix : ∀ V, (Instr.index 9 (.string u) (.int .i64 0)).run Tryz.prog V = .ok (.int .u8 (x : Int)) V := fun V => run_at (t := u) (j := 0) (x := x) hx V
      by_cases esc : x = 92 ∧ 4 ≤ u.size
      · obtain ⟨rfl, l4⟩ := esc
        have ix : ∀ V, (Instr.index 9 (.string u) (.int .i64 0)).run Tryz.prog V = .ok (.int .u8 92) V := ix
        obtain ⟨a, b, h24, hl⟩ := unq_leap hx l4
        obtain ⟨u2, hu2⟩ : ∃ u2, u.extract 2 4 = u2 := ⟨_, rfl⟩
        obtain ⟨u1, hu1⟩ : ∃ u1, u.extract 4 u.size = u1 := ⟨_, rfl⟩
        have us1 : u1.size + 4 = u.size := by rw [← hu1, ← bl_len, bl_from, List.length_drop, bl_len]; omega
        have m4 : (4 : Int) ≤ (u.size : Int) := by omega
        have m4' : (u.size : Int) ≥ 4 := by omega
        obtain ⟨z, hz⟩ : ∃ z, (hx2 a b).getD 0 = z := ⟨_, rfl⟩
        have zl : z < 256 := by rw [← hz]; exact hx2_lt a b
        have CU := hPUint u2 (by rw [← hu2]; exact h24) wo (VV.out.by (below_of S.out.kept))
        have HU : Hid (u.extract 4 u.size = u1 ∧ u.extract 2 4 = u2) := ⟨hu1, hu2⟩
        have HZ : Hid ((hx2 a b).getD 0 = z) := hz
        have R1 : Hid ((o ++ [z]) ++ unqF u1.size (bl u1) = L) := by
          show (o ++ [z]) ++ unqF u1.size (bl u1) = L
          rw [← R.out, hl, hu1, List.append_assoc, hz]
          rfl
        have cw : IntKind.u8.wrap (z : Int) = (z : Int) := by rw [IntKind.wrap_u8]; omega
        clear hx hl h24 R hz xl hu1 hu2
        go_wp2_with fail
        rw [HU.out.2]
        refine CU.mono ?_
        rintro o5 w5 ⟨v, e5, rfl, D⟩
        have D1 := D.out.1.1
        rw [HZ.out] at D1
        subst D1
        obtain ⟨Y, hY⟩ : ∃ Y, w5.alloc (.cells #[.int .u8 (z : Int)] 5) = Y := ⟨_, rfl⟩
        have A1 : Hid (QS w o p k c Y) := by rw [← hY]; exact (S.out.on (kept_below D.out.2)).on ((Kept.refl _ _).alloc _)
        have SR : Hid (Src Tryz.prog 1 34 (.slice (some ⟨w5.heap.size, 0, none⟩) 1 1) 1 (cellsOf [z]) Y) := by rw [← hY]; exact src_row (alloc_new _ _) rfl rfl
        have EV : Hid (w5.alloc (.cells #[.int .u8 (z : Int)] 5) = Y) := hY
        clear hY S CU D ix
        go_upto_region 8 with
          (first
            | (at_builtin; rw [EV.out]; refine wpList_append_bytes _ rfl (.tmp 31) (.tmp 33) rfl w.heap.size (.slice p k c) k o rfl A1.out.row _ 1 [z] rfl SR.out (by omega) A1.out.kept.size ?_; intro p9 c9 w9 ho hg hn9)
            | fail)
        have N9 : Hid (QS w (o ++ [z]) p9 (k + 1) c9 w9) := ⟨ho.out, A1.out.grow hg.out⟩
        clear ho hg hn9 A1 SR EV
        go_wp2_with fail
        rw [HU.out.1]
        go_roundw
        case rel => exact ⟨u1, o ++ [z], p9, k + 1, c9, rfl, rfl, by omega, R1, N9⟩
        case measure => show u1.size < u.size; omega
      · obtain ⟨u1, hu1⟩ : ∃ u1, u.extract 1 u.size = u1 := ⟨_, rfl⟩
        have st := unq_step hx esc
        have R1 : Hid ((o ++ [x]) ++ unqF u1.size (bl u1) = L) := by
          show (o ++ [x]) ++ unqF u1.size (bl u1) = L
          rw [← R.out, st, hu1, List.append_assoc]
          rfl
        have us1 : u1.size + 1 = u.size := by rw [← hu1, ← bl_len, bl_from, List.length_drop, bl_len]; omega
        have HU : Hid (u.extract 1 u.size = u1) := hu1
        have m1 : (1 : Int) ≤ (u.size : Int) := by omega
        clear st hx R hu1
        obtain ⟨Y, hY⟩ : ∃ Y, wo.alloc (.cells #[.int .u8 (x : Int)] 5) = Y := ⟨_, rfl⟩
        have A1 : Hid (QS w o p k c Y) := by rw [← hY]; exact S.out.on ((Kept.refl _ _).alloc _)
        have SR : Hid (Src Tryz.prog 1 34 (.slice (some ⟨wo.heap.size, 0, none⟩) 1 1) 1 (cellsOf [x]) Y) := by rw [← hY]; exact src_row (alloc_new _ _) rfl rfl
        have EV : Hid (wo.alloc (.cells #[.int .u8 (x : Int)] 5) = Y) := hY
        clear hY S
        by_cases x9 : x = 92
        · subst x9
          have ix : ∀ V, (Instr.index 9 (.string u) (.int .i64 0)).run Tryz.prog V = .ok (.int .u8 92) V := ix
          have EV : Hid (wo.alloc (.cells #[.int .u8 92] 5) = Y) := EV
          have m4 : ¬ (4 : Int) ≤ (u.size : Int) := by omega
          have m4' : ¬ (u.size : Int) ≥ 4 := by omega
          clear esc
          go_upto_region 8 with
            (first
              | (at_builtin; rw [EV.out]; refine wpList_append_bytes _ rfl (.tmp 31) (.tmp 33) rfl w.heap.size (.slice p k c) k o rfl A1.out.row _ 1 [92] rfl SR.out (by omega) A1.out.kept.size ?_; intro p9 c9 w9 ho hg hn9)
              | fail)
          have N9 : Hid (QS w (o ++ [92]) p9 (k + 1) c9 w9) := ⟨ho.out, A1.out.grow hg.out⟩
          clear ho hg hn9 A1 SR EV ix
          go_wp2_with fail
          rw [HU.out]
          go_roundw
          case rel => exact ⟨u1, o ++ [92], p9, k + 1, c9, rfl, rfl, by omega, R1, N9⟩
          case measure => show u1.size < u.size; omega
        · have x9' : ¬ (x : Int) = 92 := by omega
          clear esc
          go_upto_region 8 with
            (first
              | (at_builtin; rw [EV.out]; refine wpList_append_bytes _ rfl (.tmp 31) (.tmp 33) rfl w.heap.size (.slice p k c) k o rfl A1.out.row _ 1 [x] rfl SR.out (by omega) A1.out.kept.size ?_; intro p9 c9 w9 ho hg hn9)
              | fail)
          have N9 : Hid (QS w (o ++ [x]) p9 (k + 1) c9 w9) := ⟨ho.out, A1.out.grow hg.out⟩
          clear ho hg hn9 A1 SR EV ix
          go_wp2_with fail
          rw [HU.out]
          go_roundw
          case rel => exact ⟨u1, o ++ [x], p9, k + 1, c9, rfl, rfl, by omega, R1, N9⟩
          case measure => show u1.size < u.size; omega
end Go.Proofs.YtbangbobfeflcaaGreatDoor
