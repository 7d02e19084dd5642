import Derived.Test.YtpgfmoddhjhlkaaRefSet
namespace Go.Proofs.Ytpgfmoddhjhlkaa
open Go.RowKit

/-- What the document's High answers. -/
def HighIs (R : List (Int × Int)) (K : Int) (p q e : Int) : Prop := (∃ j, j < R.length ∧ ((ahead R (R.getD j (0, 0)) : Nat) : Int) = K ∧ R.getD j (0, 0) = (p, q) ∧ e = 0) ∨ ((∀ j, j < R.length → ((ahead R (R.getD j (0, 0)) : Nat) : Int) ≠ K) ∧ p = 0 ∧ q = 0 ∧ e = 50)
set_option maxRecDepth 100000 in
set_option maxHeartbeats 1000000 in
theorem rHigh (C : Nat) (a : Option Addr) (len cap : Nat) (R : List (Int × Int)) (z : Int) (w : World) (h : SV w C 65 a len cap R) (K : Int) (hK : IntKind.i64.wrap (IntKind.i64.wrap ((len : Int) - 1) - z) = K) :
    Calls Try.prog 38 #[.pointer (some ⟨C, 0, none⟩), .int .i64 z] w fun e w' => ∃ p q c, e = .returned (.tuple #[.agg #[.int .i64 p, .int .i64 q], .int .i64 c]) ∧ HighIs R K p q c ∧ Below w.heap.size w w' := by
  obtain ⟨hl, hr, hs⟩ := h.nums
  have B0 : Below w.heap.size w (w.alloc (Obj.cells #[.int .i64 0, .int .i64 0] 24)) := (Below.refl w.heap.size w).alloc (Nat.le_refl _) _
  have S0 : Hid (Below w.heap.size w (w.alloc (Obj.cells #[.int .i64 0, .int .i64 0] 24)) ∧ SV (w.alloc (Obj.cells #[.int .i64 0, .int .i64 0] 24)) C 65 a len cap R ∧ TagAt (w.alloc (Obj.cells #[.int .i64 0, .int .i64 0] 24)) w.heap.size 0 0) := ⟨B0, h.by B0, TagAt.new w 0 0⟩
  have HK : Hid (IntKind.i64.wrap (IntKind.i64.wrap ((len : Int) - 1) - z) = K) := hK
  clear B0 h hK
  go_enter Try.func38, Try.ntmps38
  go_wp2_with fail
  go_loopw [6] (fun x wr => ∃ (j : Nat), x = .int .i64 (j : Int) ∧ j ≤ len ∧ Hid ((∀ i, i < j → ((ahead R (R.getD i (0, 0)) : Nat) : Int) ≠ K) ∧ Below w.heap.size w wr ∧ SV wr C 65 a len cap R ∧ TagAt wr w.heap.size 0 0)) (fun x _ => len - (intOf x).toNat)
  case atStart => exact ⟨0, rfl, Nat.zero_le _, fun _ q => absurd q (by omega), S0.out⟩
  case round =>
    clear S0
    obtain ⟨j, rfl, hj, S⟩ := hrel
    have cC := S.out.2.2.1.cell
    obtain ⟨t0, t1, ft0, ft1⟩ := S.out.2.2.2.facts
    have lt := S.out.2.2.2.lt
    have lC := S.out.2.2.1.lt
    by_cases hlt : j < len
    · obtain ⟨b, off, rfl, hc⟩ := S.out.2.2.1.r.cells (by omega)
      obtain ⟨e0, e1⟩ := hc j hlt
      have lb : b < wr.heap.size := World.block_lt_of_cell? wr _ e0
      obtain ⟨⟨u, v⟩, huv⟩ : ∃ t, R.getD j (0, 0) = t := ⟨_, rfl⟩
      rw [huv] at e0 e1
      have HU : Hid (R.getD j (0, 0) = (u, v)) := huv
      obtain ⟨A, hA⟩ : ∃ A, ahead R (u, v) = A := ⟨_, rfl⟩
      have cB : Hid (∀ w, SV w C 65 (some ⟨b, off, none⟩) len cap R → Calls Try.prog 50 #[.pointer (some ⟨C, 0, none⟩), .agg #[.int .i64 u, .int .i64 v]] w fun e w' => e = .returned (.int .i64 (A : Int)) ∧ Below w.heap.size w w') := fun w h => by
        have := below C _ len cap R u v w h
        rw [hA] at this
        exact this
      have HA : Hid (ahead R (u, v) = A) := hA
      have j1 : (j : Int) < (len : Int) := by omega
      clear hc huv hA
      have SV0 : Hid (SV wr.drew C 65 (some ⟨b, off, none⟩) len cap R) := S.out.2.2.1.by ((Below.refl _ _).drew)
      have KP : Hid (∀ w2, Below wr.drew.heap.size wr.drew w2 → (w2.cell? ⟨C, 0, none⟩ = some (.slice (some ⟨b, off, none⟩) len cap) ∧ w2.cell? ⟨b, off + j * 2, none⟩ = some (.int .i64 u) ∧ w2.cell? ⟨b, off + j * 2 + 1, none⟩ = some (.int .i64 v)) ∧ Below w.heap.size w w2 ∧ SV w2 C 65 (some ⟨b, off, none⟩) len cap R ∧ TagAt w2 w.heap.size 0 0) :=
        fun w2 B2 => by
          have B3 : Below wr.heap.size wr w2 := ((Below.refl _ _).drew).trans B2
          exact ⟨⟨(B2.cell lC).trans cC, (B2.cell lb).trans e0, (B2.cell lb).trans e1⟩, S.out.2.1.trans (B3.mono S.out.2.1.size), S.out.2.2.1.by B3, S.out.2.2.2.by B3⟩
      go_upto_region 6 with fail
      go_cut [36] (fun s wc => s = .bool (decide ((A : Int) = K)) ∧ Hid (Below w.heap.size w wc ∧ SV wc C 65 (some ⟨b, off, none⟩) len cap R ∧ TagAt wc w.heap.size 0 0))
      case first =>
        go_region_held3 (fun w' => w'.cell? ⟨C, 0, none⟩ = some (.slice (some ⟨b, off, none⟩) len cap) ∧ w'.cell? ⟨b, off + j * 2, none⟩ = some (.int .i64 u) ∧ w'.cell? ⟨b, off + j * 2 + 1, none⟩ = some (.int .i64 v)) (go_keep)
          (first | (go_at_call 50; refine (cB.out _ SV0.out).mono ?_; rintro e w2 ⟨rfl, B2⟩; obtain ⟨⟨q0, q1, q2⟩, SS⟩ := KP.out w2 B2; have SH : Hid (_ ∧ _ ∧ _) := SS; clear SS B2) | fail)
        go_wp2_with fail
        go_meet
        case rel => exact ⟨by rw [HK.out]; rfl, SH.out⟩
      case rest =>
      have ST := S.out.1
      have ST' : Hid (∀ i, i < j → ((ahead R (R.getD i (0, 0)) : Nat) : Int) ≠ K) := ST
      clear KP S t0 t1 ft0 ft1 lt e0 e1 lb lC cC ST SV0 cB
      obtain ⟨rfl, S⟩ := hcut
      have cC := S.out.2.1.cell
      obtain ⟨b', off', eb, hc⟩ := S.out.2.1.r.cells (by omega)
      simp at eb
      obtain ⟨rfl, rfl⟩ := eb
      obtain ⟨e0, e1⟩ := hc j hlt
      rw [HU.out] at e0 e1
      obtain ⟨t0, t1, ft0, ft1⟩ := S.out.2.2.facts
      clear hc
      by_cases he : (A : Int) = K
      · have fin : Hid (HighIs R K u v 0) := .inl ⟨j, by omega, by rw [HU.out, HA.out, he], HU.out, rfl⟩
        go_wp2_with fail
        (try simp only [Exit.inBlock, Exit.then])
        refine bodyPost_ret (results_tag_tmp rfl _ _ _ u v rfl ((S.out.2.2.set0 u).set1 v)) rfl ⟨u, v, 0, rfl, fin.out, (S.out.1.setCell (by simp) _).setCell (by simp) _⟩
      · have ST2 : Hid (∀ i, i < j + 1 → ((ahead R (R.getD i (0, 0)) : Nat) : Int) ≠ K) := fun i hi => by
          by_cases q : i < j
          · exact ST'.out i q
          · have : i = j := by omega
            subst this
            rw [HU.out, HA.out]
            exact he
        go_wp2_with fail
        go_roundw
        case rel => exact ⟨j + 1, by go_num, by omega, ST2.out, S.out⟩
        case measure => simp [intOf]; omega
    · have i2 : ¬ (j : Int) < (len : Int) := by omega
      have fin : Hid (HighIs R K 0 0 50) := .inr ⟨fun i hi => S.out.1 i (by omega), rfl, rfl, rfl⟩
      go_wp2_with fail
      (try simp only [Exit.inBlock, Exit.then])
      refine bodyPost_ret (results_tag_tmp rfl _ _ _ 0 0 rfl ((S.out.2.2.2.set0 0).set1 0)) rfl ⟨0, 0, 50, rfl, fin.out, (S.out.2.1.setCell (by simp) _).setCell (by simp) _⟩
end Go.Proofs.Ytpgfmoddhjhlkaa
