import Derived.Test.YtpgfmoddhjhlkaaRefAdd
namespace Go.Proofs.Ytpgfmoddhjhlkaa
open Go.RowKit

theorem fit_perm {R S : List (Int × Int)} (h : Fit R) (p : R.Perm S) : Fit S := fun t ht => h t (p.symm.subset ht)
theorem fit_drop {S : List (Int × Int)} (h : Fit S) (k : Nat) : Fit (S.drop k) := fun t ht => h t (List.mem_of_mem_drop ht)
set_option maxRecDepth 100000 in
theorem rCut (C : Nat) (q : Option Addr) (len cap : Nat) (R S : List (Int × Int)) (x y : Int) (w : World) (h : IsSet 65 w C q len cap R) (hS : Rising S) (hP : R.Perm S) (hb : len * 16 ≤ 211106232532992) :
    Calls Try.prog 40 #[.pointer (some ⟨C, 0, none⟩), .agg #[.int .i64 x, .int .i64 y]] w fun o w' => ∃ q' cap', o = .returned (.int .i64 ((ahead S (x, y) : Nat) : Int)) ∧ IsSet 65 w' C q' (len - ahead S (x, y)) cap' (S.drop (ahead S (x, y))) ∧ Moved w w' C q q' := by
  obtain ⟨P, hPP⟩ : ∃ P, ahead S (x, y) = P := ⟨_, rfl⟩
  have HB : Hid (∀ w, SV w C 65 q len cap R → Calls Try.prog 50 #[.pointer (some ⟨C, 0, none⟩), .agg #[.int .i64 x, .int .i64 y]] w fun e w' => e = .returned (.int .i64 (P : Int)) ∧ Below w.heap.size w w') := fun w h => by
    have := below C q len cap R x y w h
    rw [ahead_perm hP, hPP] at this
    exact this
  have HF : Hid (∀ w, SV w C 65 q len cap R → Calls Try.prog 39 #[.pointer (some ⟨C, 0, none⟩), .agg #[.int .i64 x, .int .i64 y]] w fun e w' => ∃ p c, e = .returned (.slice p (len - P) c) ∧ w'.ownsRow w.heap.size 24 2 (.slice p (len - P) c) (len - P) (tcells (S.drop P)) ∧ Below w.heap.size w w') := fun w h => by
    have := rFrom C q len cap R S x y w h hS hP hb
    rw [hPP] at this
    exact this
  rw [hPP]
  have B0 : Below w.heap.size w (w.alloc (Obj.cells #[.int .i64 x, .int .i64 y] 24)) := (Below.refl w.heap.size w).alloc (Nat.le_refl _) _
  have S0 : Hid (Below w.heap.size w (w.alloc (Obj.cells #[.int .i64 x, .int .i64 y] 24)) ∧ IsSet 65 (w.alloc (Obj.cells #[.int .i64 x, .int .i64 y] 24)) C q len cap R ∧ TagAt (w.alloc (Obj.cells #[.int .i64 x, .int .i64 y] 24)) w.heap.size x y) := ⟨B0, h.by B0, TagAt.new w x y⟩
  have Fzs : Hid (Fit (S.drop P)) := fit_drop (fit_perm h.row.fit hP) P
  clear B0 h hS hP hPP
  go_enter Try.func40, Try.ntmps40
  go_wp2_with fail
  refine (HB.out _ S0.out.2.1.sv).mono ?_
  rintro o w1 ⟨rfl, B1⟩
  have S1 : Hid (Below w.heap.size w w1 ∧ IsSet 65 w1 C q len cap R ∧ TagAt w1 w.heap.size x y) := ⟨S0.out.1.trans (B1.mono S0.out.1.size), S0.out.2.1.by B1, S0.out.2.2.by B1⟩
  clear B1 S0 HB
  obtain ⟨t0, t1, _, _⟩ := S1.out.2.2.facts
  go_wp2_with fail
  refine (HF.out _ S1.out.2.1.sv).mono ?_
  rintro o w2 ⟨p, c, rfl, O2, B2⟩
  obtain ⟨RW, near⟩ := Row.of_owns O2 Fzs.out
  have S2 : Hid (Below w.heap.size w w2 ∧ IsSet 65 w2 C q len cap R ∧ Row w2 p (len - P) c (S.drop P) ∧ ∀ k, blockOf p = some k → w1.heap.size ≤ k) := ⟨S1.out.1.trans (B2.mono S1.out.1.size), S1.out.2.1.by B2, RW, fun k hk => by
    cases p with
    | none => simp [blockOf] at hk
    | some pp =>
      simp [blockOf] at hk
      have := near pp rfl
      omega⟩
  have W1 : Hid (w.heap.size ≤ w1.heap.size) := S1.out.1.size
  clear O2 B2 RW near S1 HF t0 t1
  have cC := S2.out.2.1.sv.cell
  have fC : w2.frozen? ⟨C, 0, none⟩ = false := by simp [World.frozen?, S2.out.2.1.blk]
  go_wp2_with fail
  go_ret
  refine ⟨p, c, rfl, IsSet.laid S2.out.2.1.blk (by decide) S2.out.2.2.1, ?_, fun k hk => .inr (Nat.le_trans W1.out (S2.out.2.2.2 k hk))⟩
  exact ⟨S2.out.1.os, S2.out.1.tape, S2.out.1.output, Nat.le_trans S2.out.1.size (by simp [World.setCell]), fun k hk hne => by
    rw [Below.heap_setCell w2 ⟨C, 0, none⟩ _ k (fun e => hne (.inl e))]
    exact S2.out.1.block k hk⟩
/-- All that is the set's lies from N on. -/
def From (N : Nat) (q : Option Addr) : Prop := ∀ k, blockOf q = some k → N ≤ k
theorem Moved.below {N : Nat} {w0 w w' : World} {C : Nat} {q q' : Option Addr} (B : Below N w0 w) (h : Moved w w' C q q') (hN : N ≤ w.heap.size) (hC : N ≤ C) (hq : From N q) : Below N w0 w' ∧ From N q' := by
  refine ⟨⟨h.kept.os.trans B.os, h.kept.tape.trans B.tape, h.kept.output.trans B.output, Nat.le_trans B.size h.kept.size, fun k hk => ?_⟩, fun k hk => ?_⟩
  · refine (h.kept.block k (by omega) (fun e => ?_)).trans (B.block k hk)
    rcases e with rfl | e
    · omega
    · have := hq k e; omega
  · rcases h.near k hk with e | e
    · exact hq k e
    · omega
/-- The document's list of some tags. -/
def addR (R : List (Int × Int)) (t : Int × Int) : List (Int × Int) := if t ∈ R then R else R ++ [t]
def newR (l : List (Int × Int)) : List (Int × Int) := l.foldl addR []
theorem newR_take (l : List (Int × Int)) (i : Nat) (h : i < l.length) : newR (l.take (i + 1)) = addR (newR (l.take i)) (l.getD i (0, 0)) := by
  rw [List.take_succ_eq_append_getElem h, getD_at l i h]
  unfold newR
  rw [List.foldl_append]
  rfl
theorem addR_length (R : List (Int × Int)) (t : Int × Int) : (addR R t).length ≤ R.length + 1 := by
  unfold addR
  split <;> simp
theorem newR_length (l : List (Int × Int)) (i : Nat) : (newR (l.take i)).length ≤ i := by
  induction i with
  | zero => simp [newR]
  | succ i ih =>
    by_cases h : i < l.length
    · rw [newR_take l i h]
      have := addR_length (newR (l.take i)) (l.getD i (0, 0))
      omega
    · rw [List.take_of_length_le (by omega)]
      rw [List.take_of_length_le (by omega)] at ih
      omega
/-- What the document's NewSet answers. -/
def NewR (w : World) (l : List (Int × Int)) (o : Ending) (w' : World) : Prop := ((∀ t ∈ l, isProper t.1 t.2 = true) ∧ ∃ q m c, o = .returned (.tuple #[.pointer (some ⟨w.heap.size, 0, none⟩), .int .i64 0]) ∧ IsSet 65 w' w.heap.size q m c (newR l) ∧ From w.heap.size q ∧ Below w.heap.size w w') ∨ ((∃ t ∈ l, isProper t.1 t.2 = false) ∧ o = .returned (.tuple #[.pointer none, .int .i64 41]) ∧ Below w.heap.size w w')
set_option maxRecDepth 100000 in
set_option maxHeartbeats 2000000 in
theorem rNewSet (a : Option Addr) (len cap : Nat) (l : List (Int × Int)) (w : World) (r : TReads w a len cap l) (hb : (len + 1) * 16 ≤ 211106232532992) :
    Calls Try.prog 19 #[.slice a len cap] w (NewR w l) := by
  have hl := r.length
  have hr := r.room
  have hs := r.small
  unfold maxLen at hs
  have RH : Hid (TReads w a len cap l) := r
  have S0 : IsSet 65 (w.alloc (.cells #[.slice none 0 0] 65)) w.heap.size none 0 0 [] := ⟨heap_alloc_new w _, ⟨rfl, Nat.le_refl _, by unfold maxLen; omega, fun _ h => absurd h (by simp), .inl ⟨rfl, rfl⟩⟩, by decide⟩
  have S0' : Hid (IsSet 65 (w.alloc (.cells #[.slice none 0 0] 65)) w.heap.size none 0 0 [] ∧ Below w.heap.size w (w.alloc (.cells #[.slice none 0 0] 65))) := ⟨S0, (Below.refl _ _).alloc (Nat.le_refl _) _⟩
  clear r S0
  go_enter Try.func19, Try.ntmps19
  go_wp2_with fail
  go_loopw [5, 6, 7] (fun x _ _ wr => ∃ (i : Nat) (q : Option Addr) (m c : Nat), x = .int .i64 (i : Int) ∧ i ≤ len ∧ Hid ((∀ t ∈ l.take i, isProper t.1 t.2 = true) ∧ IsSet 65 wr w.heap.size q m c (newR (l.take i)) ∧ From w.heap.size q ∧ Below w.heap.size w wr)) (fun x _ _ _ => len - (intOf x).toNat)
  case atStart => exact ⟨0, none, 0, 0, rfl, Nat.zero_le _, fun t ht => absurd ht (by simp), S0'.out.1, fun k hk => by simp [blockOf] at hk, S0'.out.2⟩
  case round =>
    clear S0'
    obtain ⟨i, q, m, c, rfl, hi, S⟩ := hrel
    by_cases hlt : i < len
    · obtain ⟨b, off, rfl, hc⟩ := (RH.out.by S.out.2.2.2).cells (by omega)
      obtain ⟨e0, e1⟩ := hc i hlt
      have NT := newR_take l i (by omega)
      have MT : ∀ t ∈ l.take (i + 1), t ∈ l.take i ∨ t = l.getD i (0, 0) := fun t ht => by
        rw [List.take_succ_eq_append_getElem (by omega)] at ht
        rcases List.mem_append.1 ht with h | h
        · exact .inl h
        · rw [List.mem_singleton] at h
          exact .inr (by rw [getD_at l i (by omega), h])
      have GM : l.getD i (0, 0) ∈ l := by rw [getD_at l i (by omega)]; exact List.getElem_mem _
      obtain ⟨⟨x, y⟩, hxy⟩ : ∃ t, l.getD i (0, 0) = t := ⟨_, rfl⟩
      rw [hxy] at e0 e1 NT MT GM
      have HN : Hid (newR (l.take (i + 1)) = addR (newR (l.take i)) (x, y) ∧ (∀ t ∈ l.take (i + 1), t ∈ l.take i ∨ t = (x, y)) ∧ (x, y) ∈ l) := ⟨NT, MT, GM⟩
      have i1 : (i : Int) < (len : Int) := by omega
      have ml : m = (newR (l.take i)).length := S.out.2.1.row.length.symm
      have nl := newR_length l i
      clear hc hxy NT MT GM
      go_wp2_with fail
      refine (rAdd w.heap.size q m c (newR (l.take i)) x y wr S.out.2.1 (fun t ht => by rw [List.mem_singleton] at ht; subst ht; exact RH.out.fit _ HN.out.2.2) (by omega)).mono ?_
      rintro o w2 ⟨bb, ee, q', m', c', R', rfl, AI, I2, MV⟩
      obtain ⟨B2, F2⟩ := Moved.below S.out.2.2.2 MV S.out.2.2.2.size (Nat.le_refl _) S.out.2.2.1
      have PR := S.out.1
      rcases AI with ⟨h1, rfl, rfl, rfl⟩ | ⟨h1, h2, rfl, rfl, rfl⟩ | ⟨h1, h2, rfl, rfl, rfl⟩
      · have fin : Hid ((∃ t ∈ l, isProper t.1 t.2 = false) ∧ Below w.heap.size w w2) := ⟨⟨(x, y), HN.out.2.2, h1⟩, B2⟩
        clear I2 MV B2 F2 PR S
        go_wp2_with fail
        go_ret2
        exact Or.inr ⟨fin.out.1, rfl, fin.out.2⟩
      · have S2 : Hid ((∀ t ∈ l.take (i + 1), isProper t.1 t.2 = true) ∧ IsSet 65 w2 w.heap.size q' m' c' (newR (l.take (i + 1))) ∧ From w.heap.size q' ∧ Below w.heap.size w w2) := by
          refine ⟨fun t ht => ?_, ?_, F2, B2⟩
          · rcases HN.out.2.1 t ht with q1 | q1
            · exact PR t q1
            · subst q1; exact h1
          · rw [HN.out.1]
            unfold addR
            rw [if_pos h2]
            exact I2
        clear I2 MV B2 F2 PR S h1 h2
        go_wp2_with fail
        go_roundw
        case rel => exact ⟨i + 1, q', m', c', by go_num, by omega, S2.out⟩
        case measure => simp [intOf]; omega
      · have S2 : Hid ((∀ t ∈ l.take (i + 1), isProper t.1 t.2 = true) ∧ IsSet 65 w2 w.heap.size q' m' c' (newR (l.take (i + 1))) ∧ From w.heap.size q' ∧ Below w.heap.size w w2) := by
          refine ⟨fun t ht => ?_, ?_, F2, B2⟩
          · rcases HN.out.2.1 t ht with q1 | q1
            · exact PR t q1
            · subst q1; exact h1
          · rw [HN.out.1]
            unfold addR
            rw [if_neg h2]
            exact I2
        clear I2 MV B2 F2 PR S h1 h2
        go_wp2_with fail
        go_roundw
        case rel => exact ⟨i + 1, q', m', c', by go_num, by omega, S2.out⟩
        case measure => simp [intOf]; omega
    · have i2 : ¬ (i : Int) < (len : Int) := by omega
      have S2 : Hid ((∀ t ∈ l, isProper t.1 t.2 = true) ∧ IsSet 65 wr w.heap.size q m c (newR l) ∧ From w.heap.size q ∧ Below w.heap.size w wr) := by
        have := S.out
        rw [List.take_of_length_le (by omega)] at this
        exact this
      clear S
      go_wp2_with fail
      go_ret2
      exact Or.inl ⟨S2.out.1, q, m, c, rfl, S2.out.2⟩
end Go.Proofs.Ytpgfmoddhjhlkaa
