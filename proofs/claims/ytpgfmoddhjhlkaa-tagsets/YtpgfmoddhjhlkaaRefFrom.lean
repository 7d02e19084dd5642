import Derived.Test.YtpgfmoddhjhlkaaRefSet
namespace Go.Proofs.Ytpgfmoddhjhlkaa
open Go.RowKit

/-- What the inner loop has found. -/
def found (R : List (Int × Int)) (n j : Nat) : List (Int × Int) := (R.take j).filter fun x => decide (ahead R x = n)
theorem found_next (R : List (Int × Int)) (n j : Nat) (h : j < R.length) : found R n (j + 1) = found R n j ++ (if ahead R (R.getD j (0, 0)) = n then [R.getD j (0, 0)] else []) := by
  unfold found
  rw [List.take_succ_eq_append_getElem h, List.filter_append, getD_at R j h]
  congr 1
  by_cases q : ahead R R[j] = n
  · rw [if_pos q, List.filter_cons_of_pos (by simpa using q)]; rfl
  · rw [if_neg q, List.filter_cons_of_neg (by simpa using q)]; rfl
theorem found_all (R S : List (Int × Int)) (h : Rising S) (hp : R.Perm S) (n : Nat) (hn : n < S.length) : found R n R.length = [S[n]] := by
  unfold found
  rw [List.take_of_length_le (Nat.le_refl _)]
  exact nth_of R S h hp n hn
theorem found_le (R S : List (Int × Int)) (h : Rising S) (hp : R.Perm S) (n j : Nat) (hn : n < S.length) : (found R n j).length ≤ 1 := by
  have e := found_all R S h hp n hn
  have : (found R n j).length ≤ (found R n R.length).length := by
    unfold found
    apply List.Sublist.length_le
    apply List.Sublist.filter
    rw [List.take_of_length_le (Nat.le_refl _)]
    exact List.take_sublist _ _
  rw [e] at this
  simpa using this
theorem part_next (S : List (Int × Int)) (p n : Nat) (hp : p ≤ n) (hn : n < S.length) : (S.drop p).take (n - p) ++ [S[n]] = (S.drop p).take (n + 1 - p) := by
  have e : n + 1 - p = (n - p) + 1 := by omega
  rw [e, List.take_succ_eq_append_getElem (by rw [List.length_drop]; omega)]
  congr 2
  rw [List.getElem_drop]
  congr 1
  omega
theorem Below.grew0 {w wr w' : World} {v : Value} {n : Nat} {xs : List Value} (B : Below w.heap.size w wr) (o : wr.ownsRow w.heap.size 24 2 v n xs) (g : wr.grownBy w' v.ownBlock) : Below w.heap.size w w' := Below.grew B o g
set_option maxRecDepth 100000 in
set_option maxHeartbeats 2000000 in
theorem rFrom (C : Nat) (a : Option Addr) (len cap : Nat) (R S : List (Int × Int)) (x y : Int) (w : World) (h : SV w C 65 a len cap R) (hS : Rising S) (hP : R.Perm S) (hb : len * 16 ≤ 211106232532992) :
    Calls Try.prog 39 #[.pointer (some ⟨C, 0, none⟩), .agg #[.int .i64 x, .int .i64 y]] w fun e w' => ∃ p c, e = .returned (.slice p (len - ahead S (x, y)) c) ∧ w'.ownsRow w.heap.size 24 2 (.slice p (len - ahead S (x, y)) c) (len - ahead S (x, y)) (tcells (S.drop (ahead S (x, y)))) ∧ Below w.heap.size w w' := by
  obtain ⟨hl, hr, hs⟩ := h.nums
  have hlS : S.length = len := by rw [← hP.length_eq]; exact hl
  obtain ⟨P, hPP⟩ : ∃ P, ahead S (x, y) = P := ⟨_, rfl⟩
  have hPl : P ≤ len := by rw [← hPP, ← hlS]; exact ahead_le S _
  rw [hPP]
  have HB : Hid (∀ w, SV w C 65 a len cap R → Calls Try.prog 50 #[.pointer (some ⟨C, 0, none⟩), .agg #[.int .i64 x, .int .i64 y]] w fun e w' => e = .returned (.int .i64 (P : Int)) ∧ Below w.heap.size w w') := fun w h => by
    have := below C a len cap R x y w h
    rw [ahead_perm hP, hPP] at this
    exact this
  have B0 : Below w.heap.size w (w.alloc (Obj.cells #[.int .i64 x, .int .i64 y] 24)) := (Below.refl w.heap.size w).alloc (Nat.le_refl _) _
  have HH : Hid (SV w C 65 a len cap R ∧ Rising S ∧ R.Perm S) := ⟨h, hS, hP⟩
  have HB0 : Hid (Below w.heap.size w (w.alloc (Obj.cells #[.int .i64 x, .int .i64 y] 24))) := B0
  clear hPP B0 h hS hP
  go_enter Try.func39, Try.ntmps39
  go_wp2_with fail
  refine (HB.out _ (HH.out.1.by HB0.out)).mono ?_
  rintro e w1 ⟨rfl, B1⟩
  have S1 : Hid (Below w.heap.size w w1) := HB0.out.trans (B1.mono HB0.out.size)
  clear B1 HB HB0
  have cC := (HH.out.1.by S1.out).cell
  go_wp2_with fail
  go_loopw [5, 6, 7] (fun o q _ wr => ∃ (n : Nat) (p : Option Addr) (c : Nat), q = .int .i64 (n : Int) ∧ o = .slice p (n - P) c ∧ P ≤ n ∧ n ≤ len ∧ Hid (wr.ownsRow w.heap.size 24 2 (.slice p (n - P) c) (n - P) (tcells ((S.drop P).take (n - P))) ∧ Below w.heap.size w wr)) (fun _ q _ _ => len - (intOf q).toNat)
  case atStart => exact ⟨P, none, 0, rfl, by simp, Nat.le_refl _, hPl, by simpa [tcells] using World.ownsRow_nil w1 w.heap.size 24 2, S1.out⟩
  case round =>
    clear S1 cC
    obtain ⟨n, p, c, rfl, rfl, hPn, hn, O⟩ := hrel
    have cC := (HH.out.1.by O.out.2).cell
    by_cases hlt : n < len
    · have n1 : (n : Int) < (len : Int) := by omega
      obtain ⟨M, hM⟩ : ∃ M, n - P = M := ⟨_, rfl⟩
      rw [hM] at O ⊢
      go_wp2_with fail
      go_loopw [5, 7] (fun o q wr => ∃ (j m : Nat) (p : Option Addr) (c : Nat), q = .int .i64 (j : Int) ∧ o = .slice p m c ∧ j ≤ len ∧ Hid (m = M + (found R n j).length ∧ wr.ownsRow w.heap.size 24 2 (.slice p m c) m (tcells ((S.drop P).take M ++ found R n j)) ∧ Below w.heap.size w wr)) (fun _ q _ => len - (intOf q).toNat)
      case atStart => exact ⟨0, M, p, c, rfl, rfl, Nat.zero_le _, rfl, by simpa [found] using O.out.1, O.out.2⟩
      case round =>
        clear O cC
        obtain ⟨j, m, p, c, rfl, rfl, hj, O⟩ := hrel
        have cC := (HH.out.1.by O.out.2.2).cell
        by_cases hjl : j < len
        · obtain ⟨b, off, rfl, hc⟩ := (HH.out.1.by O.out.2.2).r.cells (by omega)
          obtain ⟨e0, e1⟩ := hc j hjl
          obtain ⟨⟨u, v⟩, huv⟩ : ∃ t, R.getD j (0, 0) = t := ⟨_, rfl⟩
          rw [huv] at e0 e1
          have FN := found_next R n j (by omega)
          rw [huv] at FN
          have FN' : Hid (found R n (j + 1) = found R n j ++ (if ahead R (u, v) = n then [(u, v)] else [])) := FN
          obtain ⟨A, hA⟩ : ∃ A, ahead R (u, v) = A := ⟨_, rfl⟩
          rw [hA] at FN'
          have cB : Hid (∀ w, SV w C 65 (some ⟨b, off, none⟩) len cap R → Calls Try.prog 50 #[.pointer (some ⟨C, 0, none⟩), .agg #[.int .i64 u, .int .i64 v]] w fun e w' => e = .returned (.int .i64 (A : Int)) ∧ Below w.heap.size w w') := fun w h => by
            have := below C _ len cap R u v w h
            rw [hA] at this
            exact this
          have j1 : (j : Int) < (len : Int) := by omega
          have FL : Hid ((found R n j).length ≤ 1 ∧ (found R n (j + 1)).length ≤ 1) := ⟨found_le R S HH.out.2.1 HH.out.2.2 n j (by omega), found_le R S HH.out.2.1 HH.out.2.2 n (j + 1) (by omega)⟩
          clear hc huv hA FN
          go_wp2_with fail
          refine (cB.out _ (HH.out.1.by O.out.2.2)).mono ?_
          rintro e w2 ⟨rfl, B2⟩
          have O2 : Hid (m = M + (found R n j).length ∧ w2.ownsRow w.heap.size 24 2 (.slice p m c) m (tcells ((S.drop P).take M ++ found R n j)) ∧ Below w.heap.size w w2) := ⟨O.out.1, (Kept.of_below B2).owns O.out.2.1 (fun k hk q => by
            have := (O.out.2.1.lt k hk).2
            omega), O.out.2.2.trans (B2.mono O.out.2.2.size)⟩
          have lb : b < wr.heap.size := World.block_lt_of_cell? wr _ e0
          have lC := (HH.out.1.by O.out.2.2).lt
          have d0 : w2.cell? ⟨b, off + j * 2, none⟩ = some (.int .i64 u) := (B2.cell lb).trans e0
          have d1 : w2.cell? ⟨b, off + j * 2 + 1, none⟩ = some (.int .i64 v) := (B2.cell lb).trans e1
          have dC : w2.cell? ⟨C, 0, none⟩ = some (.slice (some ⟨b, off, none⟩) len cap) := (B2.cell lC).trans cC
          clear O B2 e0 e1 cC lb lC cB
          by_cases hA : A = n
          · have FE := FN'.out
            rw [if_pos hA] at FE
            have FE' : Hid (found R n (j + 1) = found R n j ++ [(u, v)]) := FE
            have a1 : ((A : Int) == (n : Int)) = true := by simp [hA]
            have bd : Hid ((m + 1) * 16 ≤ 211106232532992) := by
              have q1 := O2.out.1
              have q2 := FL.out.2
              rw [FE'.out, List.length_append, List.length_singleton] at q2
              show (m + 1) * 16 ≤ 211106232532992
              omega
            clear FE FN' hA
            go_wp2_with (first | (at_builtin; refine wpList_append_tag _ rfl (.tmp 42) (.tmp 50) rfl w.heap.size (.slice p m c) m ((S.drop P).take M ++ found R n j) rfl (O2.out.2.1.alloc _) w2.heap.size (u, v) rfl (by simp) (by simp) bd.out (by have := O2.out.2.2.size; simp; omega) ?_; intro g2 c2 w3 ho hg hh) | fail)
            go_roundw
            case rel => exact ⟨j + 1, m + 1, _, c2, by go_num, rfl, by omega, by rw [FE'.out, List.length_append, O2.out.1]; simp; omega, by rw [FE'.out, ← List.append_assoc]; exact ho.out, Below.grew (O2.out.2.2.alloc O2.out.2.2.size _) (O2.out.2.1.alloc _) hg.out⟩
            case measure => simp [intOf]; omega
          · have FE := FN'.out
            rw [if_neg hA, List.append_nil] at FE
            have FE' : Hid (found R n (j + 1) = found R n j) := FE
            have a1 : ((A : Int) == (n : Int)) = false := by simp; omega
            clear FE FN'
            go_wp2_with fail
            go_roundw
            case rel => exact ⟨j + 1, m, p, c, by go_num, rfl, by omega, by rw [FE'.out]; exact O2.out⟩
            case measure => simp [intOf]; omega
        · have j2 : ¬ (j : Int) < (len : Int) := by omega
          have jl : j = R.length := by omega
          have FA := found_all R S HH.out.2.1 HH.out.2.2 n (by omega)
          rw [← jl] at FA
          have O3 : Hid (m = n + 1 - P ∧ wr.ownsRow w.heap.size 24 2 (.slice p m c) m (tcells ((S.drop P).take (n + 1 - P))) ∧ Below w.heap.size w wr) := by
            have q1 := O.out.1
            have q2 := O.out.2.1
            rw [FA] at q1 q2
            rw [← hM, part_next S P n hPn (by omega)] at q2
            exact ⟨by simp at q1; omega, q2, O.out.2.2⟩
          clear O FA
          obtain ⟨mm, hmm⟩ : ∃ mm, n + 1 - P = mm := ⟨_, rfl⟩
          go_wp2_with fail
          go_roundw
          case rel =>
            have e := O3.out.1
            subst e
            exact ⟨n + 1, p, c, by go_num, rfl, by omega, by omega, O3.out.2⟩
          case measure => simp [intOf]; omega
    · have n2 : ¬ (n : Int) < (len : Int) := by omega
      have nl : n = len := by omega
      have O3 : Hid (wr.ownsRow w.heap.size 24 2 (.slice p (n - P) c) (n - P) (tcells (S.drop P)) ∧ Below w.heap.size w wr) := by
        have := O.out
        rw [List.take_of_length_le (by rw [List.length_drop]; omega)] at this
        exact this
      subst nl
      go_wp2_with fail
      go_ret
      exact ⟨p, c, rfl, O3.out⟩
end Go.Proofs.Ytpgfmoddhjhlkaa
