import Derived.Test.YtpgfmoddhjhlkaaBase
import Derived.Test.YtpgfmoddhjhlkaaSetMath
import Derived.Deep.DeepCutAuto
namespace Go.Proofs.Ytpgfmoddhjhlkaa
open Go.RowKit

/-- Five ways in which two tags lie. -/
theorem tcmp_5 (a b c d : Int) : (a < c ∧ tcmp a b c d = -1 ∧ tcmp c d a b = 1) ∨ (a = c ∧ b < d ∧ tcmp a b c d = -1 ∧ tcmp c d a b = 1) ∨ (a = c ∧ b = d ∧ tcmp a b c d = 0 ∧ tcmp c d a b = 0) ∨ (c < a ∧ tcmp a b c d = 1 ∧ tcmp c d a b = -1) ∨ (a = c ∧ d < b ∧ tcmp a b c d = 1 ∧ tcmp c d a b = -1) := by
  have h1 := tc_3 (a, b) (c, d)
  have h2 := tc_3 (c, d) (a, b)
  unfold tc at h1 h2
  simp only [Prod.mk.injEq] at h1 h2
  omega
theorem rProper (a b : Int) (w : World) : Calls Try.prog 49 #[.agg #[.int .i64 a, .int .i64 b]] w fun x w' => x = .returned (.bool (isProper a b)) ∧ Below w.heap.size w w' := by
  have bel := (Below.refl w.heap.size w).alloc (Nat.le_refl _) (Obj.cells #[.int .i64 a, .int .i64 b] 24)
  have BH : Hid (Below w.heap.size w (w.alloc (Obj.cells #[.int .i64 a, .int .i64 b] 24))) := bel
  clear bel
  unfold isProper
  go_enter Try.func49, Try.ntmps49
  by_cases h : 1 ≤ a
  · by_cases h2 : a ≤ 4611686018427387903
    · by_cases h3 : 1 ≤ b
      · by_cases h4 : b ≤ 65535
        · go_wp2_with fail
          go_ret
          exact ⟨by simp [h, h2, h3, h4], BH.out⟩
        · go_wp2_with fail
          go_ret
          exact ⟨by simp; omega, BH.out⟩
      · go_wp2_with fail
        go_ret
        exact ⟨by simp; omega, BH.out⟩
    · go_wp2_with fail
      go_ret
      exact ⟨by simp; omega, BH.out⟩
  · go_wp2_with fail
    go_ret
    exact ⟨by simp; omega, BH.out⟩
theorem rCompare (a b c d : Int) (w : World) : Calls Try.prog 62 #[.agg #[.int .i64 a, .int .i64 b], .agg #[.int .i64 c, .int .i64 d]] w fun x w' => x = .returned (.int .i64 (tcmp a b c d)) ∧ Below w.heap.size w w' := by
  rcases tcmp_5 a b c d with ⟨h1, h2, _⟩ | ⟨rfl, h1, h2, _⟩ | ⟨rfl, rfl, h2, _⟩ | ⟨h1, h2, _⟩ | ⟨rfl, h1, h2, _⟩
  · rw [h2]
    clear h2
    go_enter Try.func62, Try.ntmps62
    go_wp2_with fail
    go_ret
    exact ⟨rfl, ((Below.refl _ _).alloc (Nat.le_refl _) _).alloc (by simp) _⟩
  · rw [h2]
    clear h2
    go_enter Try.func62, Try.ntmps62
    go_wp2_with fail
    go_ret
    exact ⟨rfl, ((Below.refl _ _).alloc (Nat.le_refl _) _).alloc (by simp) _⟩
  · rw [h2]
    clear h2
    go_enter Try.func62, Try.ntmps62
    go_wp2_with fail
    go_ret
    exact ⟨rfl, ((Below.refl _ _).alloc (Nat.le_refl _) _).alloc (by simp) _⟩
  · rw [h2]
    clear h2
    have n1 : ¬ a = c := by omega
    have n2 : ¬ a < c := by omega
    go_enter Try.func62, Try.ntmps62
    go_wp2_with fail
    go_ret
    exact ⟨rfl, ((Below.refl _ _).alloc (Nat.le_refl _) _).alloc (by simp) _⟩
  · rw [h2]
    clear h2
    have n1 : ¬ b = d := by omega
    have n2 : ¬ b < d := by omega
    go_enter Try.func62, Try.ntmps62
    go_wp2_with fail
    go_ret
    exact ⟨rfl, ((Below.refl _ _).alloc (Nat.le_refl _) _).alloc (by simp) _⟩

theorem below_dN {N : Nat} {a b : World} (h : Below N a b) (n : Nat) : Below N a (b.drewN n) := ⟨h.os, h.tape, h.output, h.size, h.block⟩
/-- A set that can be read: its block, and what its list reads as. -/
structure SV (w : World) (C ty : Nat) (a : Option Addr) (len cap : Nat) (R : List (Int × Int)) : Prop where
  blk : w.heap[C]? = some (.cells #[.slice a len cap] ty (0, 0))
  r : TReads w a len cap R
theorem SV.lt {w : World} {C ty : Nat} {a : Option Addr} {len cap : Nat} {R : List (Int × Int)} (h : SV w C ty a len cap R) : C < w.heap.size := (Array.getElem?_eq_some_iff.1 h.blk).1
theorem SV.by {w w' : World} {C ty : Nat} {a : Option Addr} {len cap : Nat} {R : List (Int × Int)} (h : SV w C ty a len cap R) (B : Below w.heap.size w w') : SV w' C ty a len cap R := ⟨(B.block C h.lt).trans h.blk, h.r.by B⟩
theorem SV.cell {w : World} {C ty : Nat} {a : Option Addr} {len cap : Nat} {R : List (Int × Int)} (h : SV w C ty a len cap R) : w.cell? ⟨C, 0, none⟩ = some (.slice a len cap) := by
  rw [cell_of_row w C 0 _ ty (0, 0) h.blk]; rfl
theorem SV.nums {w : World} {C ty : Nat} {a : Option Addr} {len cap : Nat} {R : List (Int × Int)} (h : SV w C ty a len cap R) : R.length = len ∧ len ≤ cap ∧ cap ≤ 9223372036854775807 := ⟨h.r.length, h.r.room, by have := h.r.small; unfold maxLen at this; omega⟩
theorem ahead_take (R : List (Int × Int)) (t : Int × Int) (i : Nat) (h : i < R.length) : ahead (R.take (i + 1)) t = ahead (R.take i) t + (if tc (R.getD i (0, 0)) t < 0 then 1 else 0) := by
  rw [List.take_succ_eq_append_getElem h, getD_at R i h]
  unfold ahead
  rw [List.countP_append]
  simp [List.countP_cons]
set_option maxRecDepth 100000 in
set_option maxHeartbeats 1000000 in
theorem below (C : Nat) (a : Option Addr) (len cap : Nat) (R : List (Int × Int)) (x y : Int) (w : World) (h : SV w C 65 a len cap R) :
    Calls Try.prog 50 #[.pointer (some ⟨C, 0, none⟩), .agg #[.int .i64 x, .int .i64 y]] w fun e w' => e = .returned (.int .i64 ((ahead R (x, y) : Nat) : Int)) ∧ Below w.heap.size w w' := by
  obtain ⟨hl, hr, hs⟩ := h.nums
  have B0 : Below w.heap.size w (w.alloc (Obj.cells #[.int .i64 x, .int .i64 y] 24)) := (Below.refl w.heap.size w).alloc (Nat.le_refl _) _
  have S0 : Hid (Below w.heap.size w (w.alloc (Obj.cells #[.int .i64 x, .int .i64 y] 24)) ∧ SV (w.alloc (Obj.cells #[.int .i64 x, .int .i64 y] 24)) C 65 a len cap R ∧ TagAt (w.alloc (Obj.cells #[.int .i64 x, .int .i64 y] 24)) w.heap.size x y) := ⟨B0, h.by B0, TagAt.new w x y⟩
  clear B0 h
  go_enter Try.func50, Try.ntmps50
  go_wp2_with fail
  go_loopw [5, 6] (fun p q wr => ∃ (i n : Nat), q = .int .i64 (i : Int) ∧ p = .int .i64 (n : Int) ∧ i ≤ len ∧ n ≤ i ∧ Hid (n = ahead (R.take i) (x, y) ∧ Below w.heap.size w wr ∧ SV wr C 65 a len cap R ∧ TagAt wr w.heap.size x y)) (fun _ q _ => len - (intOf q).toNat)
  case atStart => exact ⟨0, 0, rfl, rfl, Nat.zero_le _, Nat.le_refl _, rfl, S0.out⟩
  case round =>
    clear S0
    obtain ⟨i, n, rfl, rfl, hi, hn, S⟩ := hrel
    have cC := S.out.2.2.1.cell
    obtain ⟨t0, t1, _, _⟩ := S.out.2.2.2.facts
    have lt := S.out.2.2.2.lt
    have lC := S.out.2.2.1.lt
    by_cases hlt : i < len
    · obtain ⟨b, off, rfl, hc⟩ := S.out.2.2.1.r.cells (by omega)
      obtain ⟨e0, e1⟩ := hc i hlt
      have lb : b < wr.heap.size := World.block_lt_of_cell? wr _ e0
      have AT := ahead_take R (x, y) i (by omega)
      obtain ⟨⟨u, v⟩, huv⟩ : ∃ t, R.getD i (0, 0) = t := ⟨_, rfl⟩
      rw [huv] at e0 e1 AT
      have AT' : Hid (ahead (R.take (i + 1)) (x, y) = ahead (R.take i) (x, y) + (if tcmp u v x y < 0 then 1 else 0)) := AT
      have i1 : (i : Int) < (len : Int) := by omega
      clear hc huv AT
      have KP : Hid (∀ w2, Below wr.drew.heap.size wr.drew w2 → (w2.cell? ⟨C, 0, none⟩ = some (.slice (some ⟨b, off, none⟩) len cap) ∧ w2.cell? ⟨b, off + i * 2, none⟩ = some (.int .i64 u) ∧ w2.cell? ⟨b, off + i * 2 + 1, none⟩ = some (.int .i64 v) ∧ w2.cell? ⟨w.heap.size, 0, none⟩ = some (.int .i64 x) ∧ w2.cell? ⟨w.heap.size, 1, none⟩ = some (.int .i64 y)) ∧ Below w.heap.size w w2 ∧ SV w2 C 65 (some ⟨b, off, none⟩) len cap R ∧ TagAt w2 w.heap.size x y) :=
        fun w2 B2 => by
          have B3 : Below wr.heap.size wr w2 := ((Below.refl _ _).drew).trans B2
          exact ⟨⟨(B2.cell lC).trans cC, (B2.cell lb).trans e0, (B2.cell lb).trans e1, (B2.cell lt).trans t0, (B2.cell lt).trans t1⟩, S.out.2.1.trans (B3.mono S.out.2.1.size), S.out.2.2.1.by B3, S.out.2.2.2.by B3⟩
      go_upto_region 5 with fail
      go_cut [25] (fun s wc => s = .bool (decide (tcmp u v x y < 0)) ∧ Hid (Below w.heap.size w wc ∧ SV wc C 65 (some ⟨b, off, none⟩) len cap R ∧ TagAt wc w.heap.size x y))
      case first =>
        go_region_held3 (fun w' => w'.cell? ⟨C, 0, none⟩ = some (.slice (some ⟨b, off, none⟩) len cap) ∧ w'.cell? ⟨b, off + i * 2, none⟩ = some (.int .i64 u) ∧ w'.cell? ⟨b, off + i * 2 + 1, none⟩ = some (.int .i64 v) ∧ w'.cell? ⟨w.heap.size, 0, none⟩ = some (.int .i64 x) ∧ w'.cell? ⟨w.heap.size, 1, none⟩ = some (.int .i64 y)) (go_keep)
          (first | (go_at_call 62; refine (rCompare u v x y _).mono ?_; rintro e w2 ⟨rfl, B2⟩; obtain ⟨⟨q0, q1, q2, q3, q4⟩, SS⟩ := KP.out w2 B2; have SH : Hid (_ ∧ _ ∧ _) := SS; clear SS B2) | fail)
        go_wp2_with fail
        go_meet
        case rel => exact ⟨by simp, SH.out⟩
      case rest =>
      have N0 : Hid (n = ahead (R.take i) (x, y)) := S.out.1
      clear KP S t0 t1 lt e0 e1 lb lC cC
      obtain ⟨rfl, S⟩ := hcut
      by_cases ht : tcmp u v x y < 0
      · have N1 : Hid (n + 1 = ahead (R.take (i + 1)) (x, y)) := by
          show n + 1 = _
          rw [AT'.out, if_pos ht, ← N0.out]
        go_wp2_with fail
        go_roundw
        case rel => exact ⟨i + 1, n + 1, by go_num, by go_num, by omega, by omega, N1.out, S.out⟩
        case measure => simp [intOf]; omega
      · have N1 : Hid (n = ahead (R.take (i + 1)) (x, y)) := by
          show n = _
          rw [AT'.out, if_neg ht, ← N0.out]
          rfl
        go_wp2_with fail
        go_roundw
        case rel => exact ⟨i + 1, n, by go_num, rfl, by omega, by omega, N1.out, S.out⟩
        case measure => simp [intOf]; omega
    · have i2 : ¬ (i : Int) < (len : Int) := by omega
      have N1 : Hid (n = ahead R (x, y)) := by
        have := S.out.1
        rw [List.take_of_length_le (by omega)] at this
        exact this
      go_wp2_with fail
      go_ret
      exact ⟨by rw [← N1.out]; rfl, S.out.2.1⟩
theorem mem_take (R : List (Int × Int)) (t : Int × Int) (i : Nat) (h : i < R.length) (hn : t ∉ R.take i) (hx : R.getD i (0, 0) ≠ t) : t ∉ R.take (i + 1) := by
  rw [List.take_succ_eq_append_getElem h]
  intro m
  rcases List.mem_append.1 m with q | q
  · exact hn q
  · rw [List.mem_singleton] at q
    apply hx
    rw [getD_at R i h, q]
set_option maxRecDepth 100000 in
set_option maxHeartbeats 1000000 in
theorem rHas (C : Nat) (a : Option Addr) (len cap : Nat) (R : List (Int × Int)) (x y : Int) (w : World) (h : SV w C 65 a len cap R) :
    Calls Try.prog 37 #[.pointer (some ⟨C, 0, none⟩), .agg #[.int .i64 x, .int .i64 y]] w fun e w' => e = .returned (.bool (decide ((x, y) ∈ R))) ∧ Below w.heap.size w w' := by
  obtain ⟨hl, hr, hs⟩ := h.nums
  have B0 : Below w.heap.size w (w.alloc (Obj.cells #[.int .i64 x, .int .i64 y] 24)) := (Below.refl w.heap.size w).alloc (Nat.le_refl _) _
  have S0 : Hid (Below w.heap.size w (w.alloc (Obj.cells #[.int .i64 x, .int .i64 y] 24)) ∧ SV (w.alloc (Obj.cells #[.int .i64 x, .int .i64 y] 24)) C 65 a len cap R ∧ TagAt (w.alloc (Obj.cells #[.int .i64 x, .int .i64 y] 24)) w.heap.size x y) := ⟨B0, h.by B0, TagAt.new w x y⟩
  clear B0 h
  go_enter Try.func37, Try.ntmps37
  go_wp2_with fail
  generalize (w.alloc (Obj.cells #[.int .i64 x, .int .i64 y] 24)) = w0 at S0 ⊢
  have cC := S0.out.2.1.cell
  obtain ⟨t0, t1, _, _⟩ := S0.out.2.2.facts
  go_loopw [5] (fun q wr => ∃ (i k : Nat), q = .int .i64 (i : Int) ∧ i ≤ len ∧ wr = w0.drewN k ∧ Hid ((x, y) ∉ R.take i)) (fun q _ => len - (intOf q).toNat)
  case atStart => exact ⟨0, 0, rfl, Nat.zero_le _, rfl, fun q => by simp at q⟩
  case round =>
    obtain ⟨i, k, rfl, hi, rfl, H⟩ := hrel
    by_cases hlt : i < len
    · obtain ⟨b, off, rfl, hc⟩ := S0.out.2.1.r.cells (by omega)
      obtain ⟨e0, e1⟩ := hc i hlt
      have MT := mem_take R (x, y) i (by omega) H.out
      have GM : R.getD i (0, 0) ∈ R := by rw [getD_at R i (by omega)]; exact List.getElem_mem _
      obtain ⟨⟨u, v⟩, huv⟩ : ∃ t, R.getD i (0, 0) = t := ⟨_, rfl⟩
      rw [huv] at e0 e1 MT GM
      have MT' : Hid ((u, v) ≠ (x, y) → (x, y) ∉ R.take (i + 1)) := MT
      have GM' : Hid ((u, v) ∈ R) := GM
      have i1 : (i : Int) < (len : Int) := by omega
      clear hc huv MT GM
      by_cases h1 : u = x
      · by_cases h2 : v = y
        · subst h1 h2
          have fin : Hid (decide ((u, v) ∈ R) = true) := decide_eq_true GM'.out
          go_upto_region 6 with fail
          go_quiet (fail)
          go_wp2_with fail
          go_ret
          exact ⟨by rw [fin.out]; rfl, below_dN S0.out.1 _⟩
        · subst h1
          have N1 : Hid ((u, y) ∉ R.take (i + 1)) := MT'.out (by simpa using h2)
          go_upto_region 6 with fail
          go_quiet (fail)
          go_wp2_with fail
          go_roundw
          case rel => exact ⟨i + 1, k + nq, by go_num, by omega, rfl, N1.out⟩
          case measure => simp [intOf]; omega
      · have N1 : Hid ((x, y) ∉ R.take (i + 1)) := MT'.out (by intro e; apply h1; simpa using congrArg Prod.fst e)
        go_upto_region 6 with fail
        go_quiet (fail)
        go_wp2_with fail
        go_roundw
        case rel => exact ⟨i + 1, k + nq, by go_num, by omega, rfl, N1.out⟩
        case measure => simp [intOf]; omega
    · have i2 : ¬ (i : Int) < (len : Int) := by omega
      have fin : Hid (decide ((x, y) ∈ R) = false) := by
        show decide ((x, y) ∈ R) = false
        have := H.out
        rw [List.take_of_length_le (by omega)] at this
        exact decide_eq_false this
      go_wp2_with fail
      go_ret
      exact ⟨by rw [fin.out]; rfl, below_dN S0.out.1 _⟩
theorem rLen (C : Nat) (a : Option Addr) (len cap : Nat) (R : List (Int × Int)) (w : World) (h : SV w C 65 a len cap R) :
    Calls Try.prog 22 #[.pointer (some ⟨C, 0, none⟩)] w fun e w' => e = .returned (.int .i64 ((R.length : Nat) : Int)) ∧ Below w.heap.size w w' := by
  obtain ⟨hl, hr, hs⟩ := h.nums
  have cC := h.cell
  clear h
  subst hl
  go_enter Try.func22, Try.ntmps22
  go_wp2_with fail
  go_ret
  exact ⟨rfl, Below.refl _ _⟩
end Go.Proofs.Ytpgfmoddhjhlkaa
