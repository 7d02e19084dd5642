import Derived.Test.YtpgfmoddhjhlkaaDoorRefText
namespace Go.Proofs.YtpgfmoddhjhlkaaDoor
open Go.RowKit

/-- One byte more. -/
def pstep (st : Nat × Int × Int) (c : UInt8) : Nat × Int × Int :=
  if c = 46 then (st.1 + 1, st.2.1, st.2.2)
  else if st.1 = 0 then (st.1, wrap64 (wrap64 (st.2.1 * 10) + ((c.toNat : Int) - 48)), st.2.2)
  else (st.1, st.2.1, wrap64 (wrap64 (st.2.2 * 10) + ((c.toNat : Int) - 48)))
def pst (l : List UInt8) : Nat × Int × Int := l.foldl pstep (0, 0, 0)
theorem wrap_small (x : Int) (h : 0 ≤ x ∧ x < 9223372036854775808) : wrap64 x = x := by unfold wrap64; omega
theorem pst_left (l : List UInt8) : ∀ acc : Nat, (∀ c ∈ l, Digit c) → dv acc l < 9223372036854775808 → l.foldl pstep (0, (acc : Int), 0) = (0, ((dv acc l : Nat) : Int), 0) := by
  induction l with
  | nil => intro acc _ _; rfl
  | cons c r ih =>
    intro acc hd hs
    have hc : 48 ≤ c.toNat ∧ c.toNat ≤ 57 := hd c (by simp)
    have hs' : dv (acc * 10 + (c.toNat - 48)) r < 9223372036854775808 := hs
    have ge := dv_ge r (acc * 10 + (c.toNat - 48))
    have hn : c ≠ 46 := by
      intro e; subst e
      have : (46 : UInt8).toNat = 46 := rfl
      omega
    have st : pstep (0, (acc : Int), 0) c = (0, ((acc * 10 + (c.toNat - 48) : Nat) : Int), 0) := by
      unfold pstep
      rw [if_neg hn, if_pos rfl]
      simp only []
      rw [wrap_small ((acc : Int) * 10) (by omega), wrap_small _ (by omega)]
      congr 2
      omega
    rw [List.foldl_cons, st]
    exact ih _ (fun x hx => hd x (by simp [hx])) hs'
theorem pst_right (l : List UInt8) (C : Int) : ∀ acc : Nat, (∀ c ∈ l, Digit c) → dv acc l < 9223372036854775808 → l.foldl pstep (1, C, (acc : Int)) = (1, C, ((dv acc l : Nat) : Int)) := by
  induction l with
  | nil => intro acc _ _; rfl
  | cons c r ih =>
    intro acc hd hs
    have hc : 48 ≤ c.toNat ∧ c.toNat ≤ 57 := hd c (by simp)
    have hs' : dv (acc * 10 + (c.toNat - 48)) r < 9223372036854775808 := hs
    have ge := dv_ge r (acc * 10 + (c.toNat - 48))
    have hn : c ≠ 46 := by
      intro e; subst e
      have : (46 : UInt8).toNat = 46 := rfl
      omega
    have st : pstep (1, C, (acc : Int)) c = (1, C, ((acc * 10 + (c.toNat - 48) : Nat) : Int)) := by
      unfold pstep
      rw [if_neg hn, if_neg (by simp)]
      simp only []
      rw [wrap_small ((acc : Int) * 10) (by omega), wrap_small _ (by omega)]
      congr 2
      omega
    rw [List.foldl_cons, st]
    exact ih _ (fun x hx => hd x (by simp [hx])) hs'
theorem pst_text (p q : Int) (h : (isZero p q || isProper p q) = true) : pst (textL p q) = (1, p, q) := by
  have b := valid_bounds p q h
  rw [text_valid p q h]
  unfold pst
  rw [List.foldl_append, List.foldl_cons]
  have l1 := pst_left (Lib.decDigits p.toNat) 0 (digs_digit _) (by rw [digs_dv]; omega)
  have l2 := pst_right (Lib.decDigits q.toNat) p 0 (digs_digit _) (by rw [digs_dv]; omega)
  rw [digs_dv, Int.toNat_of_nonneg b.1] at l1
  rw [digs_dv, Int.toNat_of_nonneg b.2.2.1] at l2
  have e0 : ((0 : Nat) : Int) = 0 := rfl
  rw [e0] at l1 l2
  rw [l1]
  show List.foldl pstep (1, p, 0) (Lib.decDigits q.toNat) = _
  rw [l2]
theorem nDigits_le : ∀ (k u : Nat), u < 10 ^ (k + 1) → Lib.nDigits u ≤ k + 1 := by
  intro k
  induction k with
  | zero => intro u h; rw [Lib.nDigits_small (by simpa using h)]; omega
  | succ k ih =>
    intro u h
    by_cases h1 : u < 10
    · rw [Lib.nDigits_small h1]; omega
    · rw [Lib.nDigits_big h1]
      have : u / 10 < 10 ^ (k + 1) := by
        rw [Nat.div_lt_iff_lt_mul (by omega)]
        rw [Nat.pow_succ] at h
        exact h
      have := ih _ this
      omega
theorem text_short (p q : Int) : (textL p q).length ≤ 40 := by
  cases h : isZero p q || isProper p q
  · rw [text_none p q h]; simp
  · have b := valid_bounds p q h
    rw [text_valid p q h, List.length_append, List.length_cons, Lib.decDigits_length, Lib.decDigits_length]
    have h1 := nDigits_le 18 p.toNat (by have : (10 : Nat) ^ (18 + 1) = 10000000000000000000 := by decide
                                         omega)
    have h2 := nDigits_le 4 q.toNat (by have : (10 : Nat) ^ (4 + 1) = 100000 := by decide
                                        omega)
    omega
theorem text_bytes (p q : Int) : ∀ c ∈ textL p q, c = 46 ∨ Digit c := by
  cases h : isZero p q || isProper p q
  · rw [text_none p q h]; simp
  · rw [text_valid p q h]
    intro c hc
    rcases List.mem_append.1 hc with m | m
    · exact .inr (digs_digit _ c m)
    · rcases List.mem_cons.1 m with m | m
      · exact .inl m
      · exact .inr (digs_digit _ c m)
/-- What the document's Parse takes is what Parse takes. -/
theorem parseT_of (l : List UInt8) (n : Nat) (C K : Int) (h : pst l = (n, C, K)) : parseT l = if textL C K = l ∧ l ≠ [] then (C, K, 0) else (0, 0, 31) := by
  rcases parseT_cases l with ⟨p, q, h1, h2, h3⟩ | ⟨h1, h2⟩
  · have e := pst_text p q h2
    rw [h3, h] at e
    simp at e
    obtain ⟨_, rfl, rfl⟩ := e
    rw [h1, if_pos]
    refine ⟨h3, fun e => ?_⟩
    rw [text_valid C K h2, e] at h3
    simp at h3
  · rw [h1, if_neg]
    rintro ⟨e, ne⟩
    cases hv : isZero C K || isProper C K
    · rw [text_none C K hv] at e
      exact ne e.symm
    · exact h2 C K hv e
theorem parseT_bad (l : List UInt8) (h : ∀ p q, textL p q ≠ l) : parseT l = (0, 0, 31) := by
  rcases parseT_cases l with ⟨p, q, _, _, h3⟩ | ⟨h1, _⟩
  · exact absurd h3 (h p q)
  · exact h1
theorem rParse_end {w w1 : World} {s : ByteArray} {p q e : Int} {tmps : Array Value} (B1 : Below w.heap.size w w1) (Z1 : TagAt w1 w.heap.size 0 0) (hp : tmps.getD 2 undef = .pointer (some ⟨w.heap.size, 0, none⟩)) (he : tmps.getD 3 undef = .int .i64 e) (hn : parseT s.data.toList = (p, q, e)) :
    bodyPost Tryd.prog Tryd.f20 (fun x w' => ∃ p q e, x = .returned (.tuple #[.agg #[.int .i64 p, .int .i64 q], .int .i64 e]) ∧ parseT s.data.toList = (p, q, e) ∧ Below w.heap.size w w') .ret { tmps := tmps, defers := [] }
      ((w1.setCell ⟨w.heap.size, 0, none⟩ (.int .i64 p)).setCell ⟨w.heap.size, 1, none⟩ (.int .i64 q)) := by
  refine bodyPost_ret (results_tag_tmp rfl _ _ _ p q hp ((Z1.set0 p).set1 q)) rfl ⟨p, q, e, by rw [he], hn, ?_⟩
  exact (B1.setCell (by simp) _).setCell (by simp) _
theorem rParse_end0 {w w1 : World} {s : ByteArray} {p q e : Int} {tmps : Array Value} (B1 : Below w.heap.size w w1) (Z1 : TagAt w1 w.heap.size p q) (hp : tmps.getD 2 undef = .pointer (some ⟨w.heap.size, 0, none⟩)) (he : tmps.getD 3 undef = .int .i64 e) (hn : parseT s.data.toList = (p, q, e)) :
    bodyPost Tryd.prog Tryd.f20 (fun x w' => ∃ p q e, x = .returned (.tuple #[.agg #[.int .i64 p, .int .i64 q], .int .i64 e]) ∧ parseT s.data.toList = (p, q, e) ∧ Below w.heap.size w w') .ret { tmps := tmps, defers := [] } w1 :=
  bodyPost_ret (results_tag_tmp rfl _ _ _ p q hp Z1) rfl ⟨p, q, e, by rw [he], hn, B1⟩
/-- Where the loop stands. -/
structure PL (w wr : World) (l : List UInt8) (i n : Nat) (C K : Int) : Prop where
  st : pst (l.take i) = (n, C, K)
  bel : Below w.heap.size w wr
  z : TagAt wr w.heap.size 0 0
  t : TagAt wr (w.heap.size + 1) C K
  n : n ≤ i
theorem pst_take (l : List UInt8) (i : Nat) (h : i < l.length) : pst (l.take (i + 1)) = pstep (pst (l.take i)) l[i] := by
  rw [List.take_succ_eq_append_getElem h]
  unfold pst
  rw [List.foldl_append]
  rfl
set_option maxRecDepth 100000 in
set_option maxHeartbeats 1000000 in
theorem rParse (s : ByteArray) (w : World) (hs : s.size ≤ 140737488355328) :
    Calls Tryd.prog 20 #[.string s] w fun x w' => ∃ p q e, x = .returned (.tuple #[.agg #[.int .i64 p, .int .i64 q], .int .i64 e]) ∧ parseT s.data.toList = (p, q, e) ∧ Below w.heap.size w w' := by
  have hl := size_list s
  have B0 : Hid (Below w.heap.size w (w.alloc (Obj.cells #[.int .i64 0, .int .i64 0] 23)) ∧ TagAt (w.alloc (Obj.cells #[.int .i64 0, .int .i64 0] 23)) w.heap.size 0 0) := ⟨(Below.refl w.heap.size w).alloc (Nat.le_refl _) _, TagAt.new w 0 0⟩
  by_cases h40 : 40 < s.size
  · have fin : Hid (parseT s.data.toList = (0, 0, 31)) := parseT_bad _ fun p q e => by
      have := text_short p q
      rw [e] at this
      omega
    clear hl
    go_enter Tryd.func20, Tryd.ntmps20
    go_wp2_with fail
    exact rParse_end0 B0.out.1 B0.out.2 rfl rfl fin.out
  · have P0 : PL w ((w.alloc (Obj.cells #[.int .i64 0, .int .i64 0] 23)).alloc (Obj.cells #[.int .i64 0, .int .i64 0] 23)) s.data.toList 0 0 0 0 :=
      ⟨rfl, B0.out.1.alloc (by simp) _, B0.out.2.alloc _, by simpa using TagAt.new (w.alloc (Obj.cells #[.int .i64 0, .int .i64 0] 23)) 0 0, Nat.le_refl _⟩
    have P0' : Hid (PL _ _ _ _ _ _ _) := P0
    have HL : Hid (s.data.toList.length = s.size) := hl
    clear P0 B0 hl
    go_enter Tryd.func20, Tryd.ntmps20
    go_wp2_with fail
    go_loopw [5, 6] (fun x y wr => ∃ (n i : Nat) (C K : Int), x = .int .i64 (n : Int) ∧ y = .int .i64 (i : Int) ∧ i ≤ s.size ∧ n ≤ i ∧ Hid (PL w wr s.data.toList i n C K)) (fun _ y _ => s.size - (intOf y).toNat)
    case atStart => exact ⟨0, 0, 0, 0, rfl, rfl, Nat.zero_le _, Nat.le_refl _, P0'.out⟩
    case round =>
      clear P0'
      obtain ⟨n, i, C, K, rfl, rfl, hi, hn, P⟩ := hrel
      obtain ⟨z0, z1, fz0, fz1⟩ := P.out.z.facts
      obtain ⟨t0, t1, ft0, ft1⟩ := P.out.t.facts
      have lt := P.out.t.lt
      by_cases hlt : i < s.size
      · have i1 : (i : Int) < (s.size : Int) := by omega
        have hll : i < s.data.toList.length := by rw [HL.out]; exact hlt
        have ge : s.data.toList[i] = s[i] := by
          rw [Array.getElem_toList]
          rfl
        have stp := pst_take s.data.toList i hll
        rw [P.out.st, ge] at stp
        obtain ⟨b, hb⟩ : ∃ b, s[i] = b := ⟨_, rfl⟩
        rw [hb] at stp ge
        obtain ⟨c, hc⟩ : ∃ c, b.toNat = c := ⟨_, rfl⟩
        have sc : s[i].toNat = c := by rw [hb, hc]
        have STP : Hid (pst (s.data.toList.take (i + 1)) = pstep (n, C, K) b) := stp
        have GE : Hid (s.data.toList[i] = b) := ge
        have HC : Hid (b.toNat = c) := hc
        have cl : c < 256 := by rw [← hc]; exact b.toNat_lt
        clear stp ge hb hc
        by_cases hd : c = 46
        · have b46 : b = 46 := by
            have := HC.out
            rw [hd] at this
            exact UInt8.toNat_inj.1 (by rw [this]; rfl)
          have ns : Hid (pst (s.data.toList.take (i + 1)) = (n + 1, C, K)) := by
            show pst (s.data.toList.take (i + 1)) = _
            rw [STP.out, b46]
            rfl
          subst hd
          go_wp2_with fail
          go_roundw
          case rel => exact ⟨n + 1, i + 1, C, K, by go_num, by go_num, by omega, by omega, ⟨ns.out, P.out.bel, P.out.z, P.out.t, by omega⟩⟩
          case measure => simp [intOf]; omega
        · have n46 : ((c : Int) == 46) = false := by simp; omega
          have b46 : b ≠ 46 := by
            intro e
            apply hd
            rw [← HC.out, e]
            rfl
          by_cases h1 : c < 48
          · have fin : Hid (parseT s.data.toList = (0, 0, 31)) := parseT_bad _ fun p q e => by
              have m : s.data.toList[i] ∈ textL p q := by rw [e]; exact List.getElem_mem hll
              rw [GE.out] at m
              rcases text_bytes p q b m with q1 | q1
              · exact b46 q1
              · have := q1.1
                rw [HC.out] at this
                omega
            go_wp2_with fail
            exact rParse_end P.out.bel P.out.z rfl rfl fin.out
          · by_cases h2 : 57 < c
            · have fin : Hid (parseT s.data.toList = (0, 0, 31)) := parseT_bad _ fun p q e => by
                have m : s.data.toList[i] ∈ textL p q := by rw [e]; exact List.getElem_mem hll
                rw [GE.out] at m
                rcases text_bytes p q b m with q1 | q1
                · exact b46 q1
                · have := q1.2
                  rw [HC.out] at this
                  omega
              go_wp2_with fail
              exact rParse_end P.out.bel P.out.z rfl rfl fin.out
            · by_cases hn0 : n = 0
              · have ns : Hid (pst (s.data.toList.take (i + 1)) = (n, wrap64 (wrap64 (C * 10) + ((c : Int) - 48)), K)) := by
                  show pst (s.data.toList.take (i + 1)) = _
                  rw [STP.out]
                  unfold pstep
                  rw [if_neg b46, if_pos hn0, HC.out]
                subst hn0
                go_wp2_with fail
                go_roundw
                case rel => exact ⟨0, i + 1, _, K, rfl, by go_num, by omega, by omega, ⟨ns.out, P.out.bel.setCell (by simp) _, P.out.z.other _ (by omega), P.out.t.set0 _, by omega⟩⟩
                case measure => simp [intOf]; omega
              · have nz : ((n : Int) == 0) = false := by simp; omega
                have ns : Hid (pst (s.data.toList.take (i + 1)) = (n, C, wrap64 (wrap64 (K * 10) + ((c : Int) - 48)))) := by
                  show pst (s.data.toList.take (i + 1)) = _
                  rw [STP.out]
                  unfold pstep
                  rw [if_neg b46, if_neg hn0, HC.out]
                go_wp2_with fail
                go_roundw
                case rel => exact ⟨n, i + 1, C, _, rfl, by go_num, by omega, by omega, ⟨ns.out, P.out.bel.setCell (by simp) _, P.out.z.other _ (by omega), P.out.t.set1 _, by omega⟩⟩
                case measure => simp [intOf]; omega
      · have he : s.size = i := by omega
        have PS := P.out.st
        rw [List.take_of_length_le (by rw [HL.out]; omega)] at PS
        have PT : Hid (parseT s.data.toList = _) := parseT_of _ n C K PS
        have P' : Hid (Below w.heap.size w wr ∧ TagAt wr w.heap.size 0 0 ∧ TagAt wr (w.heap.size + 1) C K) := ⟨P.out.bel, P.out.z, P.out.t⟩
        have i2 : ¬ (i : Int) < (s.size : Int) := by omega
        obtain ⟨D, hD⟩ : ∃ D, (⟨(textL C K).toArray⟩ : ByteArray) = D := ⟨_, rfl⟩
        have cT : Hid (∀ w, Calls Tryd.prog 19 #[.agg #[.int .i64 C, .int .i64 K]] w fun x w' => x = .returned (.string D) ∧ Below w.heap.size w w') := fun w => by
          have := rText C K w
          rw [hD] at this
          exact this
        have DH : Hid ((⟨(textL C K).toArray⟩ : ByteArray) = D) := hD
        clear PS P hD z0 z1 fz0 fz1 ft0 ft1
        go_wp2_with fail
        refine (cT.out _).mono ?_
        rintro x w4 ⟨rfl, B4⟩
        have S4 : Hid (Below w.heap.size w w4 ∧ TagAt w4 w.heap.size 0 0 ∧ TagAt w4 (w.heap.size + 1) C K) := ⟨P'.out.1.trans (B4.mono P'.out.1.size), P'.out.2.1.by B4, P'.out.2.2.by B4⟩
        clear B4 P' t0 t1 lt cT
        obtain ⟨z0, z1, fz0, fz1⟩ := S4.out.2.1.facts
        obtain ⟨t0, t1, _, _⟩ := S4.out.2.2.facts
        by_cases hds : D = s
        · by_cases hse : s.size = 0
          · have fin : Hid (parseT s.data.toList = (0, 0, 31)) := by
              show parseT s.data.toList = _
              rw [PT.out, if_neg]
              rintro ⟨_, ne⟩
              apply ne
              rw [empty_of s hse]
            have se : s.toList.isEmpty = true := by rw [empty_of s hse, Go.ByteArray.toList_eq]; rfl
            clear DH
            subst hds
            go_wp2_with fail
            exact rParse_end S4.out.1 S4.out.2.1 rfl rfl fin.out
          · have fin : Hid (parseT s.data.toList = (C, K, 0)) := by
              show parseT s.data.toList = _
              rw [PT.out, if_pos]
              refine ⟨by rw [← hds, ← DH.out], fun e => ?_⟩
              have := HL.out
              rw [e] at this
              simp at this
              omega
            have se : s.toList.isEmpty = false := by
              rw [Go.ByteArray.toList_eq]
              have := HL.out
              cases e : s.data.toList with
              | nil => rw [e] at this; simp at this; omega
              | cons c r => rfl
            clear DH
            subst hds
            go_wp2_with fail
            exact rParse_end S4.out.1 S4.out.2.1 rfl rfl fin.out
        · have fin : Hid (parseT s.data.toList = (0, 0, 31)) := by
            show parseT s.data.toList = _
            rw [PT.out, if_neg]
            rintro ⟨e, _⟩
            apply hds
            rw [← DH.out, e]
          have hne : (D.toList == s.toList) = false := by rw [eq_bytes]; exact decide_eq_false hds
          clear DH
          go_wp2_with fail
          exact rParse_end S4.out.1 S4.out.2.1 rfl rfl fin.out
end Go.Proofs.YtpgfmoddhjhlkaaDoor
