import Derived.Test.YtonfefhegghapaaDoorSConJ
import Derived.Test.YtonfefhegghapaaDoorSPurJ
namespace Go.Proofs.YtonfefhegghapaaDoor
open Go.RowKit 

theorem parse_big (l : List UInt8) : ∀ acc, (∀ c ∈ l, Digit c) → dv acc l < 18446744073709551616 → Lib.parseUint10 acc l = .ok (dv acc l) := by
  induction l with
  | nil => intro acc _ _; rfl
  | cons c r ih =>
    intro acc hd hs
    have hc : 48 ≤ c.toNat ∧ c.toNat ≤ 57 := hd c (by simp)
    have ge := dv_ge r (acc * 10 + (c.toNat - 48))
    have hs' : dv (acc * 10 + (c.toNat - 48)) r < 18446744073709551616 := hs
    unfold Lib.parseUint10
    rw [if_pos hc, if_neg (by omega), if_neg (by omega)]
    exact ih _ (fun x hx => hd x (by simp [hx])) hs'
theorem atoi_back (n : Int) (h : KI n) : Lib.atoiAll (Lib.itoa n) = .ok n := by
  obtain ⟨h1, h2⟩ := h
  unfold Lib.itoa
  by_cases h : n < 0
  · rw [if_pos h, Lib.atoiAll_minus]
    have p := parse_big (Lib.decDigits n.natAbs) 0 (digs_digit _) (by rw [digs_dv]; omega)
    rw [digs_dv] at p
    unfold Lib.parseMag
    rw [if_neg (digs_ne _), p]
    unfold Lib.signed
    simp only []
    rw [if_neg (by omega)]
    congr 1
    omega
  · rw [if_neg h, atoi_digs n.toNat (by omega)]
    congr 1
    omega
theorem atoiV_back (n : Int) (h : KI n) : atoiV (Lib.itoa n) = n := by
  unfold atoiV
  rw [atoi_back n h]
theorem itoa_ne (n : Int) : Lib.itoa n ≠ [] := by
  unfold Lib.itoa
  split
  · simp
  · exact digs_ne _
theorem dec_no10 (u : Nat) : (10 : UInt8) ∉ Lib.decDigits u := fun hc => by
  have h := digs_digit u _ hc
  unfold Digit at h
  revert h
  decide
theorem itoa_no10 (n : Int) : (10 : UInt8) ∉ Lib.itoa n := by
  unfold Lib.itoa
  split
  · intro h
    rcases List.mem_cons.1 h with z | z
    · revert z
      decide
    · exact dec_no10 _ z
  · exact dec_no10 _
/-- Nothing, or something behind a blank. -/
def Bl (r : List UInt8) : Prop := r = [] ∨ ∃ q, r = 32 :: q
theorem cut_bl {x r : List UInt8} (h : ∀ c ∈ x, c ≠ 32) (b : Bl r) : cutE 32 (x ++ r) = (x, r.tail) := by
  rcases b with rfl | ⟨q, rfl⟩
  · rw [List.append_nil]
    exact cutE_last 32 x h
  · exact cutE_word 32 x q h
theorem Bl.app {x r : List UInt8} (hx : Bl x) (hr : Bl r) : Bl (x ++ r) := by
  rcases hx with rfl | ⟨q, rfl⟩
  · exact hr
  · exact .inr ⟨q ++ r, rfl⟩
theorem bl_if {p : Prop} [Decidable p] {x : List UInt8} (h : Bl x) : Bl (if p then x else []) := by
  split
  · exact h
  · exact .inl rfl
theorem numL_cons (z : Int) (r : List Int) : numL (z :: r) = 32 :: (Lib.itoa z ++ numL r) := by unfold numL; simp
theorem bl_num (zs : List Int) : Bl (numL zs) := by
  cases zs with
  | nil => exact .inl rfl
  | cons z r => exact .inr ⟨_, numL_cons z r⟩
theorem bl_byt (l : List UInt8) : Bl (bytL l) := by
  unfold bytL
  split
  · exact .inr ⟨_, rfl⟩
  · exact .inr ⟨_, rfl⟩
theorem nums_back : ∀ (zs : List Int) (f : Nat), (∀ z ∈ zs, KI z) → (numL zs).tail.length ≤ f → numsF f (numL zs).tail = zs
  | [], f, _, _ => by
    show numsF f [] = []
    cases f with
    | zero => rfl
    | succ f => unfold numsF; rw [if_pos rfl]
  | z :: r, f, hk, hf => by
    rw [numL_cons] at hf ⊢
    have hf : (Lib.itoa z ++ numL r).length ≤ f := hf
    show numsF f (Lib.itoa z ++ numL r) = z :: r
    have ne : Lib.itoa z ++ numL r ≠ [] := fun q => itoa_ne z (List.append_eq_nil_iff.1 q).1
    have c := cut_bl (fun c hc => (itoa_plain z c hc).1) (bl_num r) (x := Lib.itoa z)
    cases f with
    | zero => exact absurd (List.eq_nil_of_length_eq_zero (by omega)) ne
    | succ f =>
      unfold numsF
      rw [if_neg ne, c]
      have hl := (cutE_len 32 (Lib.itoa z ++ numL r)).2.2 ne
      rw [c] at hl
      have hl : (numL r).tail.length < (Lib.itoa z ++ numL r).length := hl
      show atoiV (Lib.itoa z) :: numsF f (numL r).tail = z :: r
      rw [atoiV_back z (hk z (by simp)), nums_back r f (fun y hy => hk y (by simp [hy])) (by omega)]
theorem decode_at {s : ByteArray} {pos : Nat} {c : UInt8} (h : s.data.toList[pos]? = some c) (hc : c.toNat < 128) : pos < s.size ∧ Utf8.decode s pos = (c.toNat, 1) := by
  have hp : pos < s.size := by
    have := (List.getElem?_eq_some_iff.1 h).1
    rw [Array.length_toList] at this
    exact this
  have e : s[pos]'hp = c := by
    have := get_list s pos hp
    rw [this] at h
    exact Option.some.inj h
  have d := decode_ascii s pos hp (by rw [e]; exact hc)
  rw [e] at d
  exact ⟨hp, d⟩
theorem hxd_val : ∀ n : Fin 16, valB (hxd n.val) = n.val ∧ hxd n.val < 128 := by decide +kernel
theorem hxd_nat (n : Nat) (h : n < 16) : (UInt8.ofNat (hxd n)).toNat = hxd n := by
  have := (hxd_val ⟨n, h⟩).2
  have : hxd n < 128 := this
  rw [UInt8.toNat_ofNat']
  omega
theorem hex_join : ∀ b : Fin 256, (b.val / 16 * 16 % 256) ||| (b.val % 16) = b.val := by decide +kernel
theorem hexs_cons (b : UInt8) (r : List UInt8) : hexs (b :: r) = UInt8.ofNat (hxd (b.toNat / 16)) :: UInt8.ofNat (hxd (b.toNat % 16)) :: hexs r := by unfold hexs; simp
theorem hex_back : ∀ (l pre acc : List UInt8) (hi f : Nat), pre.length % 2 = 0 → (hexs l).length ≤ f → hexF (ofL (pre ++ hexs l)) f pre.length hi acc = acc ++ l
  | [], pre, acc, hi, f, _, _ => by
    have e : hexs [] = [] := rfl
    rw [e, List.append_nil, List.append_nil]
    cases f with
    | zero => rfl
    | succ f =>
      unfold hexF
      rw [if_neg (by rw [ofL_sizeE]; omega)]
  | b :: r, pre, acc, hi, f, hp, hf => by
    have hb := b.toNat_lt
    have hb : b.toNat < 256 := hb
    rw [hexs_cons] at hf ⊢
    have hf : (hexs r).length + 1 + 1 ≤ f := hf
    obtain ⟨f, rfl⟩ : ∃ g, f = g + 1 + 1 := ⟨f - 2, by omega⟩
    have n1 : b.toNat / 16 < 16 := by omega
    have n2 : b.toNat % 16 < 16 := by omega
    have v1 := hxd_val ⟨_, n1⟩
    have v2 := hxd_val ⟨_, n2⟩
    dsimp only at v1 v2
    have t1 := hxd_nat _ n1
    have t2 := hxd_nat _ n2
    generalize hA : UInt8.ofNat (hxd (b.toNat / 16)) = A at t1
    generalize hB : UInt8.ofNat (hxd (b.toNat % 16)) = B at t2
    obtain ⟨s1, d1⟩ := decode_at (s := ofL (pre ++ A :: B :: hexs r)) (pos := pre.length) (c := A) (by rw [ofL_listE, List.getElem?_append_right (Nat.le_refl _), Nat.sub_self]; rfl) (by rw [t1]; exact v1.2)
    obtain ⟨s2, d2⟩ := decode_at (s := ofL (pre ++ A :: B :: hexs r)) (pos := pre.length + 1) (c := B) (by rw [ofL_listE, List.getElem?_append_right (by omega), show pre.length + 1 - pre.length = 1 by omega]; rfl) (by rw [t2]; exact v2.2)
    unfold hexF
    rw [if_pos s1, if_pos hp, d1]
    dsimp only
    unfold hexF
    rw [if_pos s2, if_neg (by omega), d2]
    dsimp only
    rw [t1, t2, v1.1, v2.1, hex_join ⟨b.toNat, hb⟩]
    have e : pre ++ A :: B :: hexs r = (pre ++ [A, B]) ++ hexs r := by simp
    have el : pre.length + 1 + 1 = (pre ++ [A, B]).length := by simp
    rw [e, el, hex_back r (pre ++ [A, B]) _ _ f (by simp; omega) (by omega)]
    simp
theorem hexL_back (l : List UInt8) : hexL (ofL (hexs l)) = l := by
  have h := hex_back l [] [] 0 (hexs l).length rfl (Nat.le_refl _)
  unfold hexL
  rw [ofL_sizeE]
  exact h
theorem hexL_dash : hexL (ofL [45]) = [] := by
  obtain ⟨s1, d1⟩ := decode_at (s := ofL [45]) (pos := 0) (c := 45) rfl (by decide)
  unfold hexL
  rw [ofL_sizeE]
  show hexF (ofL [45]) (0 + 1) 0 0 [] = []
  unfold hexF
  rw [if_pos s1, if_pos rfl]
  rfl
/-- The word of bytes. -/
def bytW (l : List UInt8) : List UInt8 := if l = [] then [45] else hexs l
theorem bytL_w (l : List UInt8) : bytL l = 32 :: bytW l := by
  unfold bytL bytW
  split
  · rfl
  · rfl
theorem bytW_back (l : List UInt8) : hexL (ofL (bytW l)) = l := by
  unfold bytW
  split
  · rename_i h
    rw [h]
    exact hexL_dash
  · exact hexL_back l
theorem hxd_plain : ∀ n : Fin 16, UInt8.ofNat (hxd n.val) ≠ 32 ∧ UInt8.ofNat (hxd n.val) ≠ 10 := by decide +kernel
theorem hexs_plain (l : List UInt8) : ∀ c ∈ hexs l, c ≠ 32 ∧ c ≠ 10 := fun c hc => by
  unfold hexs at hc
  obtain ⟨b, _, hb⟩ := List.mem_flatMap.1 hc
  have hlt : b.toNat < 256 := b.toNat_lt
  rcases List.mem_cons.1 hb with z | z
  · rw [z]
    exact hxd_plain ⟨b.toNat / 16, by omega⟩
  · rw [List.mem_singleton.1 z]
    exact hxd_plain ⟨b.toNat % 16, by omega⟩
theorem bytW_plain (l : List UInt8) : ∀ c ∈ bytW l, c ≠ 32 ∧ c ≠ 10 := fun c hc => by
  unfold bytW at hc
  split at hc
  · rw [List.mem_singleton.1 hc]
    decide
  · exact hexs_plain l c hc
theorem kw_all {k : Nat} (h : k < 17) : (∀ c ∈ kw k, c ≠ 32 ∧ c ≠ 10) ∧ (1 ≤ k → kindL (kw k) = k ∧ kw k ≠ []) := by
  obtain rfl | rfl | rfl | rfl | rfl | rfl | rfl | rfl | rfl | rfl | rfl | rfl | rfl | rfl | rfl | rfl | rfl : k = 0 ∨ k = 1 ∨ k = 2 ∨ k = 3 ∨ k = 4 ∨ k = 5 ∨ k = 6 ∨ k = 7 ∨ k = 8 ∨ k = 9 ∨ k = 10 ∨ k = 11 ∨ k = 12 ∨ k = 13 ∨ k = 14 ∨ k = 15 ∨ k = 16 := by omega
  all_goals decide
theorem and_not : ∀ f u : Fin 32, bits .andNot .u8 (f.val : Int) (u.val : Int) = 0 → (f.val % 2 = 1 → u.val % 2 = 1) ∧ (f.val / 2 % 2 = 1 → u.val / 2 % 2 = 1) ∧ (f.val / 4 % 2 = 1 → u.val / 4 % 2 = 1) ∧ (f.val / 8 % 2 = 1 → u.val / 8 % 2 = 1) ∧ (f.val / 16 % 2 = 1 → u.val / 16 % 2 = 1) := by decide +kernel
theorem useN_lt (k : Nat) : useN k < 32 := by
  unfold useN
  split <;> omega
theorem b2_two (p : Prop) [Decidable p] (n : Nat) : b2 p n = 0 ∨ b2 p n = n := by
  unfold b2
  split
  · exact .inr rfl
  · exact .inl rfl
theorem five {x1 x2 x3 x4 x5 : Nat} (q1 : x1 = 0 ∨ x1 = 1) (q2 : x2 = 0 ∨ x2 = 2) (q3 : x3 = 0 ∨ x3 = 4) (q4 : x4 = 0 ∨ x4 = 8) (q5 : x5 = 0 ∨ x5 = 16) : (x1 + x2 + x3 + x4 + x5) < 32 ∧ (x1 = 1 → (x1 + x2 + x3 + x4 + x5) % 2 = 1) ∧ (x2 = 2 → (x1 + x2 + x3 + x4 + x5) / 2 % 2 = 1) ∧ (x3 = 4 → (x1 + x2 + x3 + x4 + x5) / 4 % 2 = 1) ∧ (x4 = 8 → (x1 + x2 + x3 + x4 + x5) / 8 % 2 = 1) ∧ (x5 = 16 → (x1 + x2 + x3 + x4 + x5) / 16 % 2 = 1) := by
  rcases q1 with rfl | rfl <;> rcases q2 with rfl | rfl <;> rcases q3 with rfl | rfl <;> rcases q4 with rfl | rfl <;> rcases q5 with rfl | rfl <;> decide
/-- What may be has nothing that its line has not. -/
theorem chk_zero {s : St} (h : chkS s = 0) : 1 ≤ s.kind ∧ s.kind ≤ 16 ∧ (¬ useN s.kind.toNat % 2 = 1 → s.a = 0) ∧ (¬ useN s.kind.toNat / 2 % 2 = 1 → s.b = 0) ∧ (¬ useN s.kind.toNat / 4 % 2 = 1 → s.key = []) ∧ (¬ useN s.kind.toNat / 8 % 2 = 1 → s.val = []) ∧ (¬ useN s.kind.toNat / 16 % 2 = 1 → s.l = []) := by
  unfold chkS chkN at h
  by_cases hk : s.kind < 1 ∨ 16 < s.kind
  · rw [if_pos hk] at h
    omega
  rw [if_neg hk] at h
  by_cases hu : bits .andNot .u8 (filS s : Int) (useN s.kind.toNat : Int) ≠ 0
  · rw [if_pos hu] at h
    omega
  have hu : bits .andNot .u8 (filS s : Int) (useN s.kind.toNat : Int) = 0 := Classical.not_not.1 hu
  have q1 := b2_two (s.a ≠ 0) 1
  have q2 := b2_two (s.b ≠ 0) 2
  have q3 := b2_two (0 < s.key.length) 4
  have q4 := b2_two (0 < s.val.length) 8
  have q5 := b2_two (0 < s.l.length) 16
  obtain ⟨hf, g1, g2, g3, g4, g5⟩ := five q1 q2 q3 q4 q5
  have k := and_not ⟨filS s, hf⟩ ⟨useN s.kind.toNat, useN_lt _⟩ hu
  obtain ⟨k1, k2, k3, k4, k5⟩ := k
  have hk1 : 1 ≤ s.kind ∧ s.kind ≤ 16 := by clear k1 k2 k3 k4 k5 g1 g2 g3 g4 g5 q1 q2 q3 q4 q5 hf hu h; omega
  refine ⟨hk1.1, hk1.2, fun z => ?_, fun z => ?_, fun z => ?_, fun z => ?_, fun z => ?_⟩
  · exact Classical.byContradiction fun y => z (k1 (g1 (b2_yes (p := s.a ≠ 0) y 1)))
  · exact Classical.byContradiction fun y => z (k2 (g2 (b2_yes (p := s.b ≠ 0) y 2)))
  · exact Classical.byContradiction fun y => z (k3 (g3 (b2_yes (p := 0 < s.key.length) (List.length_pos_iff.2 y) 4)))
  · exact Classical.byContradiction fun y => z (k4 (g4 (b2_yes (p := 0 < s.val.length) (List.length_pos_iff.2 y) 8)))
  · exact Classical.byContradiction fun y => z (k5 (g5 (b2_yes (p := 0 < s.l.length) (List.length_pos_iff.2 y) 16)))
/-- A step whose numbers are ints. -/
structure KS (s : St) : Prop where
  a : KI s.a
  b : KI s.b
  l : ∀ z ∈ s.l, KI z
/-- The step of a step's line is that step. -/
theorem gs_line {s : St} (h : chkS s = 0) (K : KS s) : gs (lineL s) = s := by
  obtain ⟨k1, k2, z1, z2, z3, z4, z5⟩ := chk_zero h
  obtain ⟨kind, a, b, key, val, l⟩ := s
  dsimp only at k1 k2 z1 z2 z3 z4 z5
  obtain ⟨k, rfl⟩ : ∃ k : Nat, kind = (k : Int) := ⟨kind.toNat, by omega⟩
  rw [Int.toNat_natCast] at z1 z2 z3 z4 z5
  have kk : k < 17 := by omega
  obtain ⟨kp, kq⟩ := kw_all kk
  obtain ⟨kq, _⟩ := kq (by omega)
  unfold lineL
  dsimp only
  rw [Int.toNat_natCast]
  generalize hu : useN k = u at z1 z2 z3 z4 z5
  unfold tailU
  dsimp only
  generalize h4 : (if u / 16 % 2 = 1 then numL l else []) = R4
  have b4 : Bl R4 := by rw [← h4]; exact bl_if (bl_num l)
  generalize h3 : (if u / 8 % 2 = 1 then bytL val else []) ++ R4 = R3
  have b3 : Bl R3 := by rw [← h3]; exact (bl_if (bl_byt val)).app b4
  generalize h2 : (if u / 4 % 2 = 1 then bytL key else []) ++ R3 = R2
  have b2 : Bl R2 := by rw [← h2]; exact (bl_if (bl_byt key)).app b3
  generalize h1 : (if u / 2 % 2 = 1 then numL [b] else []) ++ R2 = R1
  have b1 : Bl R1 := by rw [← h1]; exact (bl_if (bl_num _)).app b2
  generalize h0 : (if u % 2 = 1 then numL [a] else []) ++ R1 = R0
  have b0 : Bl R0 := by rw [← h0]; exact (bl_if (bl_num _)).app b1
  have cb : ∀ (x : Int) (r : List UInt8), Bl r → cutE 32 (numL [x] ++ r).tail = (Lib.itoa x, r.tail) := fun x r hr => by
    rw [numL_cons]
    have e : (32 :: (Lib.itoa x ++ numL []) ++ r).tail = Lib.itoa x ++ r := by simp [numL]
    rw [e]
    exact cut_bl (fun c hc => (itoa_plain x c hc).1) hr
  have cy : ∀ (x r : List UInt8), Bl r → cutE 32 (bytL x ++ r).tail = (bytW x, r.tail) := fun x r hr => by
    rw [bytL_w]
    exact cut_bl (fun c hc => (bytW_plain x c hc).1) hr
  unfold gs
  rw [cut_bl (fun c hc => (kp c hc).1) b0]
  dsimp only
  rw [kq, hu]
  unfold gsU
  dsimp only
  have p1 : (if u % 2 = 1 then (atoiV (cutE 32 R0.tail).1, (cutE 32 R0.tail).2) else (0, R0.tail)) = (a, R1.tail) := by
    rw [← h0]
    by_cases q : u % 2 = 1
    · rw [if_pos q, if_pos q, cb a R1 b1]
      show (atoiV (Lib.itoa a), _) = _
      rw [atoiV_back a K.a]
    · rw [if_neg q, if_neg q, z1 q]
      rfl
  rw [p1]
  dsimp only
  have p2 : (if u / 2 % 2 = 1 then (atoiV (cutE 32 R1.tail).1, (cutE 32 R1.tail).2) else (0, R1.tail)) = (b, R2.tail) := by
    rw [← h1]
    by_cases q : u / 2 % 2 = 1
    · rw [if_pos q, if_pos q, cb b R2 b2]
      show (atoiV (Lib.itoa b), _) = _
      rw [atoiV_back b K.b]
    · rw [if_neg q, if_neg q, z2 q]
      rfl
  rw [p2]
  dsimp only
  have p3 : (if u / 4 % 2 = 1 then (hexL (ofL (cutE 32 R2.tail).1), (cutE 32 R2.tail).2) else ([], R2.tail)) = (key, R3.tail) := by
    rw [← h2]
    by_cases q : u / 4 % 2 = 1
    · rw [if_pos q, if_pos q, cy key R3 b3]
      show (hexL (ofL (bytW key)), _) = _
      rw [bytW_back]
    · rw [if_neg q, if_neg q, z3 q]
      rfl
  rw [p3]
  dsimp only
  have p4 : (if u / 8 % 2 = 1 then (hexL (ofL (cutE 32 R3.tail).1), (cutE 32 R3.tail).2) else ([], R3.tail)) = (val, R4.tail) := by
    rw [← h3]
    by_cases q : u / 8 % 2 = 1
    · rw [if_pos q, if_pos q, cy val R4 b4]
      show (hexL (ofL (bytW val)), _) = _
      rw [bytW_back]
    · rw [if_neg q, if_neg q, z4 q]
      rfl
  rw [p4]
  dsimp only
  have p5 : (if u / 16 % 2 = 1 then numsL R4.tail else []) = l := by
    rw [← h4]
    by_cases q : u / 16 % 2 = 1
    · rw [if_pos q, if_pos q]
      exact nums_back l _ K.l (Nat.le_refl _)
    · rw [if_neg q, z5 q]
  rw [p5]
theorem num_no10 (zs : List Int) : (10 : UInt8) ∉ numL zs := fun h => by
  unfold numL at h
  obtain ⟨z, _, hz⟩ := List.mem_flatMap.1 h
  rcases List.mem_cons.1 hz with q | q
  · revert q
    decide
  · exact itoa_no10 z q
theorem byt_no10 (l : List UInt8) : (10 : UInt8) ∉ bytL l := fun h => by
  rw [bytL_w] at h
  rcases List.mem_cons.1 h with q | q
  · revert q
    decide
  · exact (bytW_plain l _ q).2 rfl
theorem if_no10 {p : Prop} [Decidable p] {x : List UInt8} (h : (10 : UInt8) ∉ x) : (10 : UInt8) ∉ (if p then x else []) := by
  split
  · exact h
  · simp
theorem line_no10 {s : St} (h : chkS s = 0) : (10 : UInt8) ∉ lineL s := fun q => by
  have k := chk_ok h
  unfold lineL tailU at q
  rcases List.mem_append.1 q with q | q
  · exact ((kw_all (by omega)).1 _ q).2 rfl
  rcases List.mem_append.1 q with q | q
  · exact if_no10 (num_no10 _) q
  rcases List.mem_append.1 q with q | q
  · exact if_no10 (num_no10 _) q
  rcases List.mem_append.1 q with q | q
  · exact if_no10 (byt_no10 _) q
  rcases List.mem_append.1 q with q | q
  · exact if_no10 (byt_no10 _) q
  · exact if_no10 (num_no10 _) q
theorem line_ne {s : St} (h : chkS s = 0) : lineL s ≠ [] := fun q => by
  obtain ⟨k1, k2, _⟩ := chk_zero h
  unfold lineL at q
  exact ((kw_all (k := s.kind.toNat) (by omega)).2 (by omega)).2 (List.append_eq_nil_iff.1 q).1
theorem line_ok {s : St} (h : chkS s = 0) (K : KS s) : okL (lineL s) := by
  unfold okL
  rw [gs_line h K]
  exact ⟨h, rfl⟩
theorem lns_tex (ss : List St) : lnsL ss = tex (ss.map lineL) := by
  unfold lnsL tex
  rw [List.flatMap_map]
theorem map_back {ss : List St} (h : ∀ s ∈ ss, chkS s = 0 ∧ KS s) : (ss.map lineL).map gs = ss := by
  rw [List.map_map]
  conv => rhs; rw [← List.map_id ss]
  exact List.map_congr_left fun s hs => gs_line (h s hs).1 (h s hs).2
/-- Steps come back from their text. -/
theorem par_back {ss : List St} (h : ∀ s ∈ ss, chkS s = 0 ∧ KS s) (hl : ss.length ≤ 4096) : parL (lnsL ss) = (ss, 0, 0) := by
  rw [lns_tex, par_all (ss.map lineL) (fun t ht => ?_) (by rw [List.length_map]; exact hl) (fun t ht => ?_), map_back h]
  · obtain ⟨s, hs, rfl⟩ := List.mem_map.1 ht
    exact line_no10 (h s hs).1
  · obtain ⟨s, hs, rfl⟩ := List.mem_map.1 ht
    exact line_ok (h s hs).1 (h s hs).2
theorem lines_last {t : List UInt8} (h : 10 ∉ t) (h0 : t ≠ []) : linesN t = 1 := by
  unfold linesN
  have h2 : t.count 10 = 0 := List.count_eq_zero.2 h
  rw [h2, List.getLast?_eq_some_getLast h0, if_neg ?_]
  intro z
  rcases z with z | z
  · cases z
  · exact h (Option.some.inj z ▸ List.getLast_mem h0)
theorem cut10_last {t : List UInt8} (h : 10 ∉ t) : cutE 10 t = (t, []) := cutE_last 10 t (fun _ hc z => h (z ▸ hc))
theorem lines_more : ∀ (ts : List (List UInt8)) (t : List UInt8), (∀ u ∈ ts, 10 ∉ u) → 10 ∉ t → t ≠ [] → linesN (tex ts ++ t) = ts.length + 1
  | [], t, _, h, h0 => lines_last h h0
  | a :: r, t, hs, h, h0 => by
    rw [tex_cons, List.append_assoc, List.cons_append, lines_at a _ (hs a (by simp)), lines_more r t (fun u hu => hs u (by simp [hu])) h h0, List.length_cons]
    omega
theorem parF_last {t : List UInt8} {acc : List St} (h : 10 ∉ t) (h0 : t ≠ []) (ok : okL t) : parF t.length t acc = (acc ++ [gs t], 0, 0) := by
  have c := cut10_last h
  have q := parF_step (l := t) (acc := acc) h0 (by rw [c]; exact ok)
  rw [c] at q
  rw [q]
  exact parF_end _ _
theorem parF_more2 : ∀ (ts : List (List UInt8)) (t : List UInt8) (acc : List St), (∀ u ∈ ts, 10 ∉ u ∧ okL u) → 10 ∉ t → t ≠ [] → okL t → parF (tex ts ++ t).length (tex ts ++ t) acc = (acc ++ ts.map gs ++ [gs t], 0, 0)
  | [], t, acc, _, h, h0, ok => by
    have e : tex [] ++ t = t := rfl
    rw [e, parF_last h h0 ok]
    simp
  | a :: r, t, acc, hs, h, h0, ok => by
    have e : tex (a :: r) ++ t = a ++ 10 :: (tex r ++ t) := by rw [tex_cons, List.append_assoc, List.cons_append]
    rw [e, parF_good (hs a (by simp)).1 (hs a (by simp)).2, parF_more2 r t _ (fun u hu => hs u (by simp [hu])) h h0 ok]
    simp
/-- And from their text without its last line's end. -/
theorem par_short {ss : List St} (h : ∀ s ∈ ss, chkS s = 0 ∧ KS s) (hl : ss.length ≤ 4096) : parL (lnsL ss).dropLast = (ss, 0, 0) := by
  cases e : ss.reverse with
  | nil =>
    have : ss = [] := by simpa using e
    subst this
    rfl
  | cons s r =>
    have e2 : ss = r.reverse ++ [s] := by
      have := congrArg List.reverse e
      simpa using this
    subst e2
    have hs := h s (by simp)
    have e3 : (lnsL (r.reverse ++ [s])).dropLast = tex (r.reverse.map lineL) ++ lineL s := by
      rw [lnsL_snoc, List.dropLast_concat, lns_tex]
    have h2 : ∀ u ∈ r.reverse.map lineL, 10 ∉ u ∧ okL u := fun u hu => by
      obtain ⟨x, hx, rfl⟩ := List.mem_map.1 hu
      have q := h x (List.mem_append_left _ hx)
      exact ⟨line_no10 q.1, line_ok q.1 q.2⟩
    have n1 := line_no10 hs.1
    have n2 := line_ne hs.1
    unfold parL
    rw [e3, lines_more _ _ (fun u hu => (h2 u hu).1) n1 n2, if_neg (by rw [List.length_map]; rw [List.length_append] at hl; simp at hl ⊢; omega), parF_more2 _ _ [] h2 n1 n2 (line_ok hs.1 hs.2), map_back (fun x hx => h x (List.mem_append_left _ hx)), gs_line hs.1 hs.2]
    rfl
theorem cut_spec (e : UInt8) : ∀ l : List UInt8, e ∉ (cutE e l).1 ∧ ((l = (cutE e l).1 ++ e :: (cutE e l).2) ∨ (l = (cutE e l).1 ∧ (cutE e l).2 = []))
  | [] => ⟨by simp [cutE], .inr ⟨rfl, rfl⟩⟩
  | c :: r => by
    obtain ⟨h1, h2⟩ := cut_spec e r
    unfold cutE
    by_cases h : c = e
    · rw [if_pos h]
      exact ⟨by simp, .inl (by rw [h]; rfl)⟩
    · rw [if_neg h]
      refine ⟨fun z => ?_, ?_⟩
      · rcases List.mem_cons.1 z with z | z
        · exact h z.symm
        · exact h1 z
      · rcases h2 with h2 | ⟨h2, h3⟩
        · exact .inl (congrArg (c :: ·) h2)
        · exact .inr ⟨congrArg (c :: ·) h2, h3⟩
theorem lnsL_cons (s : St) (r : List St) : lnsL (s :: r) = lineL s ++ 10 :: lnsL r := by unfold lnsL; simp
/-- What Parse's loop answers. -/
theorem parF_inv : ∀ (f : Nat) (l : List UInt8) (acc : List St), l.length ≤ f → (∃ new, parF f l acc = (acc ++ new, 0, 0) ∧ (∀ s ∈ new, chkS s = 0) ∧ new.length = linesN l ∧ (lnsL new = l ∨ lnsL new = l ++ [10])) ∨ ∃ n, parF f l acc = ([], n, 82)
  | 0, l, acc, h => by
    have : l = [] := List.eq_nil_of_length_eq_zero (by omega)
    subst this
    exact .inl ⟨[], by rw [parF_end, List.append_nil], fun s hs => (by cases hs), by decide, .inl rfl⟩
  | f + 1, l, acc, h => by
    by_cases h0 : l = []
    · subst h0
      exact .inl ⟨[], by rw [parF_end, List.append_nil], fun s hs => (by cases hs), by decide, .inl rfl⟩
    · unfold parF
      rw [if_neg h0]
      by_cases ok : chkS (gs (cutE 10 l).1) = 0 ∧ lineL (gs (cutE 10 l).1) = (cutE 10 l).1
      · rw [if_pos ok]
        have hlen := (cutE_len 10 l).2.2 h0
        obtain ⟨n1, sp⟩ := cut_spec 10 l
        generalize (cutE 10 l).1 = t at ok n1 sp
        generalize (cutE 10 l).2 = r at hlen sp
        rcases parF_inv f r (acc ++ [gs t]) (by omega) with ⟨new, e, hc, hn, hl⟩ | ⟨n, e⟩
        · refine .inl ⟨gs t :: new, by rw [e]; simp, fun s hs => ?_, ?_, ?_⟩
          · rcases List.mem_cons.1 hs with rfl | hs
            · exact ok.1
            · exact hc s hs
          · rcases sp with sp | ⟨sp, sr⟩
            · rw [sp, lines_at t r n1, ← hn, List.length_cons]
              omega
            · subst sr
              have : new.length = 0 := hn.trans (by decide)
              have h2 := lines_last n1 (by rw [← sp]; exact h0)
              rw [sp, h2, List.length_cons, this]
          · rw [lnsL_cons, ok.2]
            rcases sp with sp | ⟨sp, sr⟩
            · rcases hl with hl | hl
              · left
                rw [hl]
                exact sp.symm
              · right
                rw [hl]
                conv => rhs; rw [sp]
                simp
            · subst sr
              have : new = [] := List.eq_nil_of_length_eq_zero (hn.trans (by decide))
              subst this
              right
              rw [sp]
              rfl
        · exact .inr ⟨n, e⟩
      · rw [if_neg ok]
        exact .inr ⟨_, rfl⟩
/-- What Parse answers. -/
theorem par_inv (l : List UInt8) : (∃ ss x, parL l = (ss, 0, 0) ∧ txtL ss = (ofL x, 0) ∧ lnsL ss = x ∧ (x = l ∨ x = l ++ [10])) ∨ parL l = ([], 0, 2) ∨ ∃ n, parL l = ([], n, 82) := by
  unfold parL
  by_cases h : 4096 < linesN l
  · rw [if_pos h]
    exact .inr (.inl rfl)
  · rw [if_neg h]
    rcases parF_inv l.length l [] (Nat.le_refl _) with ⟨new, e, hc, hn, hl⟩ | ⟨n, e⟩
    · refine .inl ⟨new, lnsL new, by rw [e]; rfl, ?_, rfl, hl⟩
      unfold txtL
      rw [if_neg (by omega), if_pos (fst_none new (fun j t ht => hc t (List.mem_of_getElem? ht)))]
    · exact .inr (.inr ⟨n, e⟩)
theorem GSm.mono {n m : Nat} {s : St} (h : GSm n s) (hn : n ≤ m) : GSm m s := ⟨h.kind, h.a, h.b, Nat.le_trans h.key hn, Nat.le_trans h.val hn, Nat.le_trans h.l hn, h.ki⟩
theorem parF_gsm : ∀ (f : Nat) (l : List UInt8) (acc : List St) (n : Nat), l.length ≤ n → (∀ s ∈ acc, GSm n s) → ∀ s ∈ (parF f l acc).1, GSm n s
  | 0, l, acc, n, _, h => h
  | f + 1, l, acc, n, hl, h => by
    unfold parF
    by_cases h0 : l = []
    · rw [if_pos h0]
      exact h
    · rw [if_neg h0]
      split
      · have c := cutE_len 10 l
        refine parF_gsm f _ _ n (by omega) (fun s hs => ?_)
        rcases List.mem_append.1 hs with q | q
        · exact h s q
        · rw [List.mem_singleton.1 q]
          exact (gs_small _).mono (by omega)
      · intro s hs
        cases hs
theorem par_gsm (l : List UInt8) : ∀ s ∈ (parL l).1, GSm l.length s := by
  unfold parL
  split
  · intro s hs
    cases hs
  · exact parF_gsm _ _ _ _ (Nat.le_refl _) (fun s hs => by cases hs)
end Go.Proofs.YtonfefhegghapaaDoor
