import Derived.Test.YtbangbobfeflcaaGreatDoorRLn
namespace Go.Proofs.YtbangbobfeflcaaGreatDoor
open Go.RowKit 

def hexN (c : Nat) : Nat := if 48 ≤ c ∧ c ≤ 57 then c - 48 else if 97 ≤ c ∧ c ≤ 102 then c - 87 else 16
theorem hexN_le (c : Nat) : hexN c ≤ 16 := by
  unfold hexN
  split
  · omega
  · split <;> omega
theorem hexN_hxd {x : Nat} (h : x < 16) : hexN (hxd x) = x := by
  unfold hexN hxd
  split
  · rw [if_pos ⟨by omega, by omega⟩]
    omega
  · rw [if_neg (by omega), if_pos ⟨by omega, by omega⟩]
    omega
theorem hHex (c : Nat) (hc : c < 256) (w : World) : Calls Tryz.prog 93 #[.int .u8 (c : Int)] w fun o w' => o = .returned (.int .i64 (hexN c : Int)) ∧ w' = w := by
  obtain ⟨v, hv⟩ : ∃ v, hexN c = v := ⟨_, rfl⟩
  rw [hv]
  unfold hexN at hv
  by_cases h1 : 48 ≤ c
  · have g1 : (48 : Int) ≤ (c : Int) := by omega
    have g1' : (c : Int) ≥ 48 := g1
    by_cases h2 : c ≤ 57
    · have g2 : (c : Int) ≤ 57 := by omega
      rw [if_pos ⟨h1, h2⟩] at hv
      have e : (c : Int) - 48 = (v : Int) := by omega
      have e2 : IntKind.u8.wrap (v : Int) = (v : Int) := by rw [IntKind.wrap_u8]; omega
      clear hv h1 h2
      go_enter Tryz.func93, Tryz.ntmps93
      go_wp2_with fail
      go_ret
      exact ⟨by first | rfl | simp, rfl⟩
    · have g2 : ¬ (c : Int) ≤ 57 := by omega
      rw [if_neg (by omega)] at hv
      by_cases h3 : 97 ≤ c
      · have g3 : (97 : Int) ≤ (c : Int) := by omega
        have g3' : (c : Int) ≥ 97 := g3
        by_cases h4 : c ≤ 102
        · have g4 : (c : Int) ≤ 102 := by omega
          rw [if_pos ⟨h3, h4⟩] at hv
          obtain ⟨u, hu⟩ : ∃ u, c - 97 = u := ⟨_, rfl⟩
          have e : (c : Int) - 97 = (u : Int) := by omega
          have e2 : IntKind.u8.wrap (u : Int) = (u : Int) := by rw [IntKind.wrap_u8]; omega
          have e3 : (u : Int) + 10 = (v : Int) := by omega
          have e4 : IntKind.i64.wrap (v : Int) = (v : Int) := by rw [IntKind.wrap_i64]; omega
          clear hv h1 h2 h3 h4 hu
          go_enter Tryz.func93, Tryz.ntmps93
          go_wp2_with fail
          go_ret
          exact ⟨by first | rfl | simp, rfl⟩
        · have g4 : ¬ (c : Int) ≤ 102 := by omega
          rw [if_neg (by omega)] at hv
          subst hv
          clear h1 h2 h3 h4
          go_enter Tryz.func93, Tryz.ntmps93
          go_wp2_with fail
          go_ret
          exact ⟨by first | rfl | simp, rfl⟩
      · have g3 : ¬ (97 : Int) ≤ (c : Int) := by omega
        have g3' : ¬ (c : Int) ≥ 97 := g3
        rw [if_neg (by omega)] at hv
        subst hv
        clear h1 h2 h3
        go_enter Tryz.func93, Tryz.ntmps93
        go_wp2_with fail
        go_ret
        exact ⟨by first | rfl | simp, rfl⟩
  · have g1 : ¬ (48 : Int) ≤ (c : Int) := by omega
    have g1' : ¬ (c : Int) ≥ 48 := g1
    have g3 : ¬ (97 : Int) ≤ (c : Int) := by omega
    have g3' : ¬ (c : Int) ≥ 97 := g3
    rw [if_neg (by omega), if_neg (by omega)] at hv
    subst hv
    clear h1
    go_enter Tryz.func93, Tryz.ntmps93
    go_wp2_with fail
    go_ret
    exact ⟨by first | rfl | simp, rfl⟩
/-- What a quoted text may mean, from some place on (its last byte is left out). -/
def mnF : Nat → List Nat → List Nat
  | 0, _ => []
  | _ + 1, [] => []
  | f + 1, c :: r => if r = [] then [] else if c = 92 ∧ 3 ≤ r.length then ((16 * hexN (r.getD 1 0) + hexN (r.getD 2 0)) % 256) :: mnF f (r.drop 3) else c :: mnF f r
theorem mnF_fuel : ∀ (f g : Nat) (r : List Nat), r.length ≤ f → r.length ≤ g → mnF f r = mnF g r
  | 0, 0, _, _, _ => rfl
  | 0, g + 1, r, h, _ => by
    have : r = [] := List.length_eq_zero_iff.1 (by omega)
    subst this
    rfl
  | f + 1, 0, r, _, h => by
    have : r = [] := List.length_eq_zero_iff.1 (by omega)
    subst this
    rfl
  | f + 1, g + 1, [], _, _ => rfl
  | f + 1, g + 1, c :: r, h, h' => by
    have e : (c :: r).length = r.length + 1 := rfl
    unfold mnF
    split
    · rfl
    · split
      · rw [mnF_fuel f g (r.drop 3) (by rw [List.length_drop]; omega) (by rw [List.length_drop]; omega)]
      · rw [mnF_fuel f g r (by omega) (by omega)]
def mnL (r : List Nat) : List Nat := mnF r.length r
theorem mnL_stop {r : List Nat} (h : r.length < 2) : mnL r = [] := by
  match r, h with
  | [], _ => rfl
  | [c], _ => rfl
theorem mnL_esc {c : Nat} {r : List Nat} (h : c = 92 ∧ 3 ≤ r.length) : mnL (c :: r) = ((16 * hexN (r.getD 1 0) + hexN (r.getD 2 0)) % 256) :: mnL (r.drop 3) := by
  have hr : r ≠ [] := fun z => by rw [z] at h; simp at h
  show mnF (r.length + 1) (c :: r) = _
  unfold mnF mnL
  rw [if_neg hr, if_pos h, mnF_fuel r.length (r.drop 3).length (r.drop 3) (by rw [List.length_drop]; omega) (Nat.le_refl _)]
theorem mnL_one {c : Nat} {r : List Nat} (hr : r ≠ []) (h : ¬ (c = 92 ∧ 3 ≤ r.length)) : mnL (c :: r) = c :: mnL r := by
  show mnF (r.length + 1) (c :: r) = _
  unfold mnF mnL
  rw [if_neg hr, if_neg h]
theorem mnL_back : ∀ l : List Nat, (∀ c ∈ l, c < 256) → mnL (escL l ++ [34]) = l
  | [], _ => rfl
  | c :: l, h => by
    have ih := mnL_back l (fun x hx => h x (List.mem_cons_of_mem _ hx))
    have cl := h c List.mem_cons_self
    have e : escL (c :: l) ++ [34] = escN c ++ (escL l ++ [34]) := by
      show (escN c ++ escL l) ++ [34] = _
      rw [List.append_assoc]
    rw [e]
    unfold escN
    split
    · next hp =>
      have ne : c ≠ 92 := by
        rintro rfl
        exact absurd hp (by decide)
      show mnL (c :: (escL l ++ [34])) = _
      rw [mnL_one (by simp) (fun z => ne z.1), ih]
    · show mnL (92 :: (120 :: hxd (c / 16) :: hxd (c % 16) :: (escL l ++ [34]))) = _
      rw [mnL_esc ⟨rfl, by simp⟩]
      show ((16 * hexN (hxd (c / 16)) + hexN (hxd (c % 16))) % 256) :: mnL (escL l ++ [34]) = _
      rw [hexN_hxd (by omega), hexN_hxd (by omega), ih]
      congr 1
      omega
theorem quoB_bl (k : ByteArray) : bl (quoB k) = 34 :: (escL (bl k) ++ [34]) := by
  unfold quoB
  rw [bl_str (quoN_lt (bl_lt k))]
  rfl
/-- What meant gives. -/
def meaB (s : ByteArray) : List Nat := mnL ((bl s).drop 1)
theorem meaB_back (k : ByteArray) : meaB (quoB k) = bl k := by
  unfold meaB
  rw [quoB_bl]
  exact mnL_back _ (bl_lt k)
theorem drop_cons {l : List Nat} {i x : Nat} (h : l[i]? = some x) : l.drop i = x :: l.drop (i + 1) := by
  obtain ⟨hl, e⟩ := List.getElem?_eq_some_iff.1 h
  rw [List.drop_eq_getElem_cons hl, e]
set_option maxRecDepth 100000 in
set_option maxHeartbeats 4000000 in
theorem hMeant (s : ByteArray) (hs : s.size ≤ 1000000000) (w : World) : Calls Tryz.prog 68 #[.string s] w fun o w' => ∃ p k c, o = .returned (.slice p k c) ∧ QS w (meaB s) p k c w' ∧ (∀ x ∈ meaB s, x < 256) := by
  obtain ⟨n, hn⟩ : ∃ n, s.size = n := ⟨_, rfl⟩
  obtain ⟨b, hb⟩ : ∃ b, bl s = b := ⟨_, rfl⟩
  obtain ⟨M, hM⟩ : ∃ M, meaB s = M := ⟨_, rfl⟩
  rw [hM]
  have HB : Hid (bl s = b ∧ b.length = n ∧ (∀ c ∈ b, c < 256) ∧ mnL (b.drop 1) = M) := ⟨hb, by rw [← hb, bl_len, hn], by rw [← hb]; exact bl_lt s, by rw [← hM, ← hb]; rfl⟩
  have nb : n ≤ 1000000000 := by omega
  have sn : (s.size : Int) = (n : Int) := by rw [hn]
  have S0 : Hid (QS w [] none 0 0 w ∧ [] ++ mnL (b.drop 1) = M ∧ ∀ x ∈ ([] : List Nat), x < 256) := ⟨⟨⟨rfl, .inl ⟨rfl, rfl⟩⟩, Kept.refl _ _⟩, by rw [List.nil_append]; exact HB.out.2.2.2, fun x hx => by cases hx⟩
  clear hb hM hs hn
  go_enter Tryz.func68, Tryz.ntmps68
  go_wp2_with fail
  go_loopw [3, 4] (fun u3 u4 wr => ∃ (i : Nat) (p : Option Addr) (k c : Nat) (L : List Nat), u3 = .slice p k c ∧ u4 = .int .i64 (i : Int) ∧ 1 ≤ i ∧ i ≤ n + 1 ∧ k ≤ i ∧ Hid (QS w L p k c wr ∧ L ++ mnL (b.drop i) = M ∧ ∀ x ∈ L, x < 256)) (fun _ u4 _ => n + 1 - (intOf u4).toNat)
  case atStart => exact ⟨1, none, 0, 0, [], rfl, rfl, Nat.le_refl _, by omega, by omega, S0⟩
  case round =>
    clear S0
    obtain ⟨i, p, k, c, L, rfl, rfl, hi1, hi2, kb, S⟩ := hrel
    obtain ⟨wo, hwo⟩ : ∃ wo, wo = wr := ⟨_, rfl⟩
    rw [← hwo] at S ⊢
    clear hwo
    by_cases hlt : i + 1 < n
    · have lti : (i : Int) + 1 < (n : Int) := by omega
      obtain ⟨x, hx⟩ : ∃ x, b[i]? = some x := ⟨_, List.getElem?_eq_getElem (by rw [HB.out.2.1]; omega)⟩
      have xl : x < 256 := HB.out.2.2.1 x (List.mem_of_getElem? hx)
      have ix := fun V => run_at (t := s) (j := i) (x := x) (by rw [HB.out.1]; exact hx) V
      have DC : Hid (b.drop i = x :: b.drop (i + 1) ∧ (b.drop (i + 1)).length = n - (i + 1)) := ⟨drop_cons hx, by rw [List.length_drop, HB.out.2.1]⟩
      by_cases h92 : x = 92 ∧ i + 3 < n
      · obtain ⟨rfl, h3⟩ := h92
        have lt3 : (i : Int) + 3 < (n : Int) := by omega
        obtain ⟨y, hy⟩ : ∃ y, b[i + 2]? = some y := ⟨_, List.getElem?_eq_getElem (by rw [HB.out.2.1]; omega)⟩
        obtain ⟨z, hz⟩ : ∃ z, b[i + 3]? = some z := ⟨_, List.getElem?_eq_getElem (by rw [HB.out.2.1]; omega)⟩
        have yl : y < 256 := HB.out.2.2.1 y (List.mem_of_getElem? hy)
        have zl : z < 256 := HB.out.2.2.1 z (List.mem_of_getElem? hz)
        have iy := fun V => run_at (t := s) (j := i + 2) (x := y) (by rw [HB.out.1]; exact hy) V
        have iz := fun V => run_at (t := s) (j := i + 3) (x := z) (by rw [HB.out.1]; exact hz) V
        rw [show ((i + 2 : Nat) : Int) = (i : Int) + 2 by omega] at iy
        rw [show ((i + 3 : Nat) : Int) = (i : Int) + 3 by omega] at iz
        have CY : Hid (∀ V, Calls Tryz.prog 93 #[.int .u8 (y : Int)] V fun o w' => o = .returned (.int .i64 (hexN y : Int)) ∧ w' = V) := fun V => hHex y yl V
        have CZ : Hid (∀ V, Calls Tryz.prog 93 #[.int .u8 (z : Int)] V fun o w' => o = .returned (.int .i64 (hexN z : Int)) ∧ w' = V) := fun V => hHex z zl V
        have q1 := hexN_le y
        have q2 := hexN_le z
        obtain ⟨g, hg1⟩ : ∃ g, hexN y = g := ⟨_, rfl⟩
        obtain ⟨h, hh1⟩ : ∃ h, hexN z = h := ⟨_, rfl⟩
        have NE : Hid (mnL (b.drop i) = ((16 * g + h) % 256) :: mnL (b.drop (i + 4))) := by
          show mnL (b.drop i) = _
          rw [DC.out.1, mnL_esc ⟨rfl, by rw [DC.out.2]; omega⟩]
          have e1 : (b.drop (i + 1)).getD 1 0 = y := by rw [List.getD_eq_getElem?_getD, List.getElem?_drop, show i + 1 + 1 = i + 2 by omega, hy]; rfl
          have e2 : (b.drop (i + 1)).getD 2 0 = z := by rw [List.getD_eq_getElem?_getD, List.getElem?_drop, show i + 1 + 2 = i + 3 by omega, hz]; rfl
          rw [e1, e2, hg1, hh1, List.drop_drop, show i + 1 + 3 = i + 4 by omega]
        rw [hg1] at CY q1
        rw [hh1] at CZ q2
        obtain ⟨d, hd⟩ : ∃ d, (16 * g + h) % 256 = d := ⟨_, rfl⟩
        obtain ⟨m, hm⟩ : ∃ m, 16 * g = m := ⟨_, rfl⟩
        obtain ⟨v, hv⟩ : ∃ v, m + h = v := ⟨_, rfl⟩
        rw [hd] at NE
        have b1 : 16 * (g : Int) = (m : Int) := by omega
        have b2 : IntKind.i64.wrap (m : Int) = (m : Int) := by rw [IntKind.wrap_i64]; omega
        have b3 : (m : Int) + (h : Int) = (v : Int) := by omega
        have b4 : IntKind.i64.wrap (v : Int) = (v : Int) := by rw [IntKind.wrap_i64]; omega
        have b5 : IntKind.u8.wrap (v : Int) = (d : Int) := by rw [IntKind.wrap_u8]; omega
        have dl : d < 256 := by omega
        have A4 : Hid (QS w L p k c (wo.drew.alloc (.cells #[.int .u8 (d : Int)] 5))) := S.out.1.on ((Kept.refl _ _).drew.alloc _)
        have SR4 : Hid (Src Tryz.prog 1 34 (.slice (some ⟨wo.heap.size, 0, none⟩) 1 1) 1 (cellsOf [d]) (wo.drew.alloc (.cells #[.int .u8 (d : Int)] 5))) := src_row (alloc_new wo.drew _) rfl rfl
        have LN4 : Hid (k + 1 ≤ maxLen ∧ ((k + 1) + (k + 1) / 4 + 192) * 1 ≤ 281474976710656) := by unfold maxLen; exact ⟨by omega, by omega⟩
        have SX : Hid (L ++ mnL (b.drop i) = M ∧ ∀ x ∈ L, x < 256) := S.out.2
        have i2 : IntKind.i64.wrap ((i : Int) + 2) = (i : Int) + 2 := by rw [IntKind.wrap_i64]; omega
        have i3 : IntKind.i64.wrap ((i : Int) + 3) = (i : Int) + 3 := by rw [IntKind.wrap_i64]; omega
        clear S hg1 hh1 hd hm hv hx hy hz xl yl zl
        go_upto_region 6 with fail
        refine wp_region_held_drew (S := (fun _ => True)) (by kernel_rfl) trivial (fun hHeld => ?_)
        refine wpAnyH_take (i := 0) (oi := { dst := some 23, op := Go.Op.move (Go.Operand.tmp 3), type := 34, pos := "ref.go:312", after := #[], guard := none }) (v := .slice p k c) rfl (by kernel_rfl) (by kernel_rfl) (by kernel_rfl) (fun _ _ _ h => h) (Or.inl ⟨by rfl, ?_⟩) (by assumption) ?_
        · intro w9 hSw
          (try dsimp only at hSw)
          go_simp
        (try simp only [Act.put, List.setIfInBounds_toArray, List.set_cons_zero, List.set_cons_succ])
        refine wpAnyH_take (i := 1) (oi := { dst := some 24, op := Go.Op.move (Go.Operand.tmp 0), type := 9, pos := "ref.go:312", after := #[], guard := none }) (v := .string s) rfl (by kernel_rfl) (by kernel_rfl) (by kernel_rfl) (fun _ _ _ h => h) (Or.inl ⟨by rfl, ?_⟩) (by assumption) ?_
        · intro w9 hSw
          (try dsimp only at hSw)
          go_simp
        (try simp only [Act.put, List.setIfInBounds_toArray, List.set_cons_zero, List.set_cons_succ])
        refine wpAnyH_take (i := 2) (oi := { dst := some 25, op := Go.Op.move (Go.Operand.tmp 4), type := 3, pos := "ref.go:312", after := #[], guard := none }) (v := .int .i64 (i : Int)) rfl (by kernel_rfl) (by kernel_rfl) (by kernel_rfl) (fun _ _ _ h => h) (Or.inl ⟨by rfl, ?_⟩) (by assumption) ?_
        · intro w9 hSw
          (try dsimp only at hSw)
          go_simp
        (try simp only [Act.put, List.setIfInBounds_toArray, List.set_cons_zero, List.set_cons_succ])
        refine wpAnyH_take (i := 3) (oi := { dst := some 26, op := Go.Op.binOp Go.BinOp.add 3 (Go.Operand.tmp 25) (Go.Operand.const (Go.Value.int Go.IntKind.i64 2)) 3, type := 3, pos := "ref.go:312", after := #[{ on := 2, ground := Go.Ground.data }], guard := none }) (v := .int .i64 ((i : Int) + 2)) rfl (by kernel_rfl) (by kernel_rfl) (by kernel_rfl) (fun _ _ _ h => h) (Or.inl ⟨by rfl, ?_⟩) (by assumption) ?_
        · intro w9 hSw
          (try dsimp only at hSw)
          go_simp
        (try simp only [Act.put, List.setIfInBounds_toArray, List.set_cons_zero, List.set_cons_succ])
        refine wpAnyH_take (i := 4) (oi := { dst := some 27, op := Go.Op.index 9 (Go.Operand.tmp 24) (Go.Operand.tmp 26), type := 5, pos := "ref.go:312", after := #[{ on := 1, ground := Go.Ground.data }, { on := 3, ground := Go.Ground.data }], guard := none }) (v := .int .u8 (y : Int)) rfl (by kernel_rfl) (by kernel_rfl) (by kernel_rfl) (fun _ _ _ h => h) (Or.inl ⟨by rfl, ?_⟩) (by assumption) ?_
        · intro w9 hSw
          (try dsimp only at hSw)
          go_simp
        (try simp only [Act.put, List.setIfInBounds_toArray, List.set_cons_zero, List.set_cons_succ])
        refine wpAnyH_take (i := 7) (oi := { dst := some 30, op := Go.Op.move (Go.Operand.tmp 0), type := 9, pos := "ref.go:312", after := #[], guard := none }) (v := .string s) rfl (by kernel_rfl) (by kernel_rfl) (by kernel_rfl) (fun _ _ _ h => h) (Or.inl ⟨by rfl, ?_⟩) (by assumption) ?_
        · intro w9 hSw
          (try dsimp only at hSw)
          go_simp
        (try simp only [Act.put, List.setIfInBounds_toArray, List.set_cons_zero, List.set_cons_succ])
        refine wpAnyH_take (i := 8) (oi := { dst := some 31, op := Go.Op.move (Go.Operand.tmp 4), type := 3, pos := "ref.go:312", after := #[], guard := none }) (v := .int .i64 (i : Int)) rfl (by kernel_rfl) (by kernel_rfl) (by kernel_rfl) (fun _ _ _ h => h) (Or.inl ⟨by rfl, ?_⟩) (by assumption) ?_
        · intro w9 hSw
          (try dsimp only at hSw)
          go_simp
        (try simp only [Act.put, List.setIfInBounds_toArray, List.set_cons_zero, List.set_cons_succ])
        refine wpAnyH_take (i := 9) (oi := { dst := some 32, op := Go.Op.binOp Go.BinOp.add 3 (Go.Operand.tmp 31) (Go.Operand.const (Go.Value.int Go.IntKind.i64 3)) 3, type := 3, pos := "ref.go:312", after := #[{ on := 8, ground := Go.Ground.data }], guard := none }) (v := .int .i64 ((i : Int) + 3)) rfl (by kernel_rfl) (by kernel_rfl) (by kernel_rfl) (fun _ _ _ h => h) (Or.inl ⟨by rfl, ?_⟩) (by assumption) ?_
        · intro w9 hSw
          (try dsimp only at hSw)
          go_simp
        (try simp only [Act.put, List.setIfInBounds_toArray, List.set_cons_zero, List.set_cons_succ])
        refine wpAnyH_take (i := 10) (oi := { dst := some 33, op := Go.Op.index 9 (Go.Operand.tmp 30) (Go.Operand.tmp 32), type := 5, pos := "ref.go:312", after := #[{ on := 7, ground := Go.Ground.data }, { on := 9, ground := Go.Ground.data }], guard := none }) (v := .int .u8 (z : Int)) rfl (by kernel_rfl) (by kernel_rfl) (by kernel_rfl) (fun _ _ _ h => h) (Or.inl ⟨by rfl, ?_⟩) (by assumption) ?_
        · intro w9 hSw
          (try dsimp only at hSw)
          go_simp
        (try simp only [Act.put, List.setIfInBounds_toArray, List.set_cons_zero, List.set_cons_succ])
        refine wpAnyH_ready (rs := [5]) (by kernel_rfl) (by simp) ?_
        refine (AllReadyH.cons (o := { dst := some 28, op := Go.Op.call { callee := Go.Callee.value (Go.Operand.func 93), args := #[Go.Operand.tmp 27], argTypes := #[5] }, type := 3, pos := "ref.go:312", after := #[{ on := 4, ground := Go.Ground.data }], guard := none }) rfl (fun K hK => ?_) AllReadyH.nil)
        go_simp
        refine (CY.out _).mono ?_
        rintro o w2 ⟨rfl, rfl⟩
        refine hK.out _ _ ?_ (fun hHeld => ?_)
        · exact trivial
        clear hK K
        (try simp only [Act.put, List.setIfInBounds_toArray, List.set_cons_zero, List.set_cons_succ])
        refine wpAnyH_take (i := 6) (oi := { dst := some 29, op := Go.Op.binOp Go.BinOp.mul 3 (Go.Operand.const (Go.Value.int Go.IntKind.i64 16)) (Go.Operand.tmp 28) 3, type := 3, pos := "ref.go:312", after := #[{ on := 5, ground := Go.Ground.data }], guard := none }) (v := .int .i64 (m : Int)) rfl (by kernel_rfl) (by kernel_rfl) (by kernel_rfl) (fun _ _ _ h => h) (Or.inl ⟨by rfl, ?_⟩) (by assumption) ?_
        · intro w9 hSw
          (try dsimp only at hSw)
          go_simp
        (try simp only [Act.put, List.setIfInBounds_toArray, List.set_cons_zero, List.set_cons_succ])
        refine wpAnyH_ready (rs := [11]) (by kernel_rfl) (by simp) ?_
        refine (AllReadyH.cons (o := { dst := some 34, op := Go.Op.call { callee := Go.Callee.value (Go.Operand.func 93), args := #[Go.Operand.tmp 33], argTypes := #[5] }, type := 3, pos := "ref.go:312", after := #[{ on := 10, ground := Go.Ground.data }, { on := 5, ground := Go.Ground.chain }], guard := none }) rfl (fun K hK => ?_) AllReadyH.nil)
        go_simp
        refine (CZ.out _).mono ?_
        rintro o w3 ⟨rfl, rfl⟩
        refine hK.out _ _ ?_ (fun hHeld => ?_)
        · exact trivial
        clear hK K
        (try simp only [Act.put, List.setIfInBounds_toArray, List.set_cons_zero, List.set_cons_succ])
        refine wpAnyH_take (i := 12) (oi := { dst := some 35, op := Go.Op.binOp Go.BinOp.add 3 (Go.Operand.tmp 29) (Go.Operand.tmp 34) 3, type := 3, pos := "ref.go:312", after := #[{ on := 6, ground := Go.Ground.data }, { on := 11, ground := Go.Ground.data }], guard := none }) (v := .int .i64 (v : Int)) rfl (by kernel_rfl) (by kernel_rfl) (by kernel_rfl) (fun _ _ _ h => h) (Or.inl ⟨by rfl, ?_⟩) (by assumption) ?_
        · intro w9 hSw
          (try dsimp only at hSw)
          go_simp
        (try simp only [Act.put, List.setIfInBounds_toArray, List.set_cons_zero, List.set_cons_succ])
        refine wpAnyH_take (i := 13) (oi := { dst := some 36, op := Go.Op.convert 3 5 (Go.Operand.tmp 35), type := 5, pos := "ref.go:312", after := #[{ on := 12, ground := Go.Ground.data }], guard := none }) (v := .int .u8 (d : Int)) rfl (by kernel_rfl) (by kernel_rfl) (by kernel_rfl) (fun _ _ _ h => h) (Or.inl ⟨by rfl, ?_⟩) (by assumption) ?_
        · intro w9 hSw
          (try dsimp only at hSw)
          go_simp
        (try simp only [Act.put, List.setIfInBounds_toArray, List.set_cons_zero, List.set_cons_succ])
        refine wpAnyH_ready (rs := [14]) (by kernel_rfl) (by simp) ?_
        refine (AllReadyH.cons (o := { dst := some 37, op := Go.Op.buildSlice 34 1 #[(0, Go.Operand.tmp 36)], type := 34, pos := "ref.go:312", after := #[{ on := 13, ground := Go.Ground.data }], guard := none }) rfl (fun K hK => ?_) AllReadyH.nil)
        go_simp
        refine hK.out _ _ ?_ (fun hHeld => ?_)
        · exact trivial
        clear hK K
        (try simp only [Act.put, List.setIfInBounds_toArray, List.set_cons_zero, List.set_cons_succ])
        refine wpAnyH_ready (rs := [15]) (by kernel_rfl) (by simp) ?_
        refine (AllReadyH.cons (o := { dst := some 38, op := Go.Op.call { callee := Go.Callee.builtin Go.Builtin.append, args := #[Go.Operand.tmp 23, Go.Operand.tmp 37], argTypes := #[34, 34] }, type := 34, pos := "ref.go:312", after := #[{ on := 0, ground := Go.Ground.data }, { on := 14, ground := Go.Ground.data }, { on := 11, ground := Go.Ground.chain }], guard := none }) rfl (fun K hK => ?_) AllReadyH.nil)
        refine step_append_all _ rfl (.tmp 23) (.tmp 37) 34 5 34 _ 1 1 rfl Tryz.underlying34 Tryz.info5 rfl w.heap.size (.slice p k c) k (cellsOf L) rfl A4.out.row _ 1 (cellsOf [d]) rfl SR4.out LN4.out.1 LN4.out.2 A4.out.kept.size ?_
        intro p9 c9 w9 ho hg hn9
        have N9 : Hid (QS w (L ++ [d]) p9 (k + 1) c9 w9 ∧ (L ++ [d]) ++ mnL (b.drop (i + 4)) = M ∧ ∀ x ∈ L ++ [d], x < 256) := by
          refine ⟨A4.out.more (k := [d]) ho.out hg.out, ?_, fun x hx => ?_⟩
          · have q := SX.out.1
            rw [NE.out] at q
            rw [← q, List.append_assoc]
            rfl
          · rcases List.mem_append.1 hx with q | q
            · exact SX.out.2 x q
            · rw [List.mem_singleton.1 q]; exact dl
        refine hK.out _ _ ?_ (fun hHeld => ?_)
        · exact trivial
        clear hK K
        (try simp only [Act.put, List.setIfInBounds_toArray, List.set_cons_zero, List.set_cons_succ])
        clear ho hg hn9 A4 SR4 LN4
        refine wpAnyH_take (i := 16) (oi := { dst := some 3, op := Go.Op.assign (Go.Operand.tmp 38), type := 34, pos := "ref.go:312", after := #[{ on := 15, ground := Go.Ground.data }, { on := 15, ground := Go.Ground.chain }, { on := 0, ground := Go.Ground.phase }, { on := 1, ground := Go.Ground.phase }, { on := 2, ground := Go.Ground.phase }, { on := 3, ground := Go.Ground.phase }, { on := 4, ground := Go.Ground.phase }, { on := 5, ground := Go.Ground.phase }, { on := 6, ground := Go.Ground.phase }, { on := 7, ground := Go.Ground.phase }, { on := 8, ground := Go.Ground.phase }, { on := 9, ground := Go.Ground.phase }, { on := 10, ground := Go.Ground.phase }, { on := 11, ground := Go.Ground.phase }, { on := 12, ground := Go.Ground.phase }, { on := 13, ground := Go.Ground.phase }, { on := 14, ground := Go.Ground.phase }, { on := 15, ground := Go.Ground.phase }], guard := none }) (v := .slice p9 (k + 1) c9) rfl (by kernel_rfl) (by kernel_rfl) (by kernel_rfl) (fun _ _ _ h => h) (Or.inl ⟨by rfl, ?_⟩) (by assumption) ?_
        · intro w9 hSw
          (try dsimp only at hSw)
          go_simp
        (try simp only [Act.put, List.setIfInBounds_toArray, List.set_cons_zero, List.set_cons_succ])
        refine wpAnyH_done (by kernel_rfl) ?_ _
        clear hHeld
        go_wp2_with fail
        go_roundw
        case rel => exact ⟨i + 4, p9, k + 1, c9, L ++ [d], rfl, by go_num, by omega, by omega, by omega, N9⟩
        case measure => simp [intOf] <;> omega
      · have NO : Hid (mnL (b.drop i) = x :: mnL (b.drop (i + 1))) := by
          show mnL (b.drop i) = _
          rw [DC.out.1]
          have q := DC.out.2
          refine mnL_one (fun z => ?_) (fun z => h92 ⟨z.1, ?_⟩)
          · rw [z] at q
            simp at q
            omega
          · have := z.2
            rw [q] at this
            omega
        obtain ⟨V, hV⟩ : ∃ V, wo.alloc (.cells #[.int .u8 (x : Int)] 5) = V := ⟨_, rfl⟩
        have A1 : Hid (QS w L p k c V) := by rw [← hV]; exact S.out.1.on ((Kept.refl _ _).alloc _)
        have SR : Hid (Src Tryz.prog 1 34 (.slice (some ⟨wo.heap.size, 0, none⟩) 1 1) 1 (cellsOf [x]) V) := by rw [← hV]; exact src_row (alloc_new _ _) rfl rfl
        have EV : Hid (wo.alloc (.cells #[.int .u8 (x : Int)] 5) = V) := hV
        have SX : Hid (L ++ mnL (b.drop i) = M ∧ ∀ x ∈ L, x < 256) := S.out.2
        have XL : Hid (x < 256) := xl
        clear hV S hx xl
        by_cases e92 : x = 92
        · have f92 : ((x : Int) == 92) = true := by rw [e92]; rfl
          have lt3 : ¬ (i : Int) + 3 < (n : Int) := fun z => h92 ⟨e92, by omega⟩
          clear e92 h92
          go_upto_region 8 with fail
          go_upto_region 4 with
            (first
              | (at_builtin; rw [EV.out]; refine wpList_append_bytes _ rfl (.tmp 41) (.tmp 45) rfl w.heap.size (.slice p k c) k L rfl A1.out.row _ 1 [x] rfl SR.out (by omega) A1.out.kept.size ?_; intro p9 c9 w9 ho hg hn9)
              | fail)
          have N9 : Hid (QS w (L ++ [x]) p9 (k + 1) c9 w9 ∧ (L ++ [x]) ++ mnL (b.drop (i + 1)) = M ∧ ∀ y ∈ L ++ [x], y < 256) := by
            refine ⟨⟨ho.out, A1.out.grow hg.out⟩, ?_, fun y hy => ?_⟩
            · have q := SX.out.1
              rw [NO.out] at q
              rw [← q, List.append_assoc]
              rfl
            · rcases List.mem_append.1 hy with q | q
              · exact SX.out.2 y q
              · rw [List.mem_singleton.1 q]; exact XL.out
          clear ho hg hn9 A1 SR EV
          go_wp2_with fail
          go_roundw
          case rel => exact ⟨i + 1, p9, k + 1, c9, L ++ [x], rfl, by go_num, by omega, by omega, by omega, N9⟩
          case measure => simp [intOf] <;> omega
        · have f92 : ((x : Int) == 92) = false := by rw [beq_eq_false_iff_ne]; omega
          clear e92 h92
          go_upto_region 8 with fail
          go_upto_region 4 with
            (first
              | (at_builtin; rw [EV.out]; refine wpList_append_bytes _ rfl (.tmp 41) (.tmp 45) rfl w.heap.size (.slice p k c) k L rfl A1.out.row _ 1 [x] rfl SR.out (by omega) A1.out.kept.size ?_; intro p9 c9 w9 ho hg hn9)
              | fail)
          have N9 : Hid (QS w (L ++ [x]) p9 (k + 1) c9 w9 ∧ (L ++ [x]) ++ mnL (b.drop (i + 1)) = M ∧ ∀ y ∈ L ++ [x], y < 256) := by
            refine ⟨⟨ho.out, A1.out.grow hg.out⟩, ?_, fun y hy => ?_⟩
            · have q := SX.out.1
              rw [NO.out] at q
              rw [← q, List.append_assoc]
              rfl
            · rcases List.mem_append.1 hy with q | q
              · exact SX.out.2 y q
              · rw [List.mem_singleton.1 q]; exact XL.out
          clear ho hg hn9 A1 SR EV
          go_wp2_with fail
          go_roundw
          case rel => exact ⟨i + 1, p9, k + 1, c9, L ++ [x], rfl, by go_num, by omega, by omega, by omega, N9⟩
          case measure => simp [intOf] <;> omega
    · have lti : ¬ (i : Int) + 1 < (n : Int) := by omega
      have FI : Hid (QS w M p k c wo ∧ ∀ x ∈ M, x < 256) := by
        have q := S.out.2.1
        rw [mnL_stop (by rw [List.length_drop, HB.out.2.1]; omega), List.append_nil] at q
        rw [← q]
        exact ⟨S.out.1, S.out.2.2⟩
      clear S
      go_wp2_with fail
      go_ret
      exact ⟨p, k, c, by first | rfl | simp, FI.out.1, FI.out.2⟩
end Go.Proofs.YtbangbobfeflcaaGreatDoor
