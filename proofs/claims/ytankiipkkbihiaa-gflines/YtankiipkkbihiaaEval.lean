import Derived.Test.YtankiipkkbihiaaCalls
namespace Go.Proofs.Ytankiipkkbihiaa
open Go.RowKit

namespace Gf
/-- A polynomial's value, its coefficients from the lowest on. -/
def ev (P : Nat) : List Nat → Nat → Nat
  | [], _ => 0
  | c :: t, x => mul P (ev P t x) x ^^^ c
theorem ev_lt {P : Nat} (g : Good P) (l : List Nat) (h : ∀ c ∈ l, c < 256) (x : Nat) : ev P l x < 256 := by
  cases l with
  | nil => show 0 < 256; omega
  | cons c t => exact xor_lt _ _ (g.mul_lt _ _) (h c (by simp))
end Gf

/-- The slice reads as the bytes l. -/
structure Reads (w : World) (a : Option Addr) (len cap : Nat) (l : List Nat) : Prop where
  length : l.length = len
  room : len ≤ cap
  small : cap ≤ maxLen
  bytes : ∀ c ∈ l, c < 256
  cells : 0 < len → ∃ b off, a = some ⟨b, off, none⟩ ∧ ∀ i, i < len → w.cell? ⟨b, off + i, none⟩ = some (.int .u8 ((l.getD i 0 : Nat) : Int))
theorem Qt.reads {w w' : World} (h : Qt w w') {a : Option Addr} {len cap : Nat} {l : List Nat} (r : Reads w a len cap l) : Reads w' a len cap l := by
  obtain ⟨n, rfl⟩ := h; exact ⟨r.length, r.room, r.small, r.bytes, r.cells⟩
theorem getD_lt (l : List Nat) (h : ∀ c ∈ l, c < 256) (i : Nat) : l.getD i 0 < 256 := by
  rw [List.getD_eq_getElem?_getD]
  cases e : l[i]? with
  | none => simp
  | some c => simpa using h c (List.mem_of_getElem? e)
theorem drop_getD (l : List Nat) (k : Nat) (h : k < l.length) : l.drop k = l.getD k 0 :: l.drop (k + 1) := by
  rw [List.drop_eq_getElem_cons h, List.getD_eq_getElem?_getD, List.getElem?_eq_getElem h]; rfl

set_option maxRecDepth 100000 in
set_option maxHeartbeats 800000 in
theorem eval_some (P B b off len cap x : Nat) (l : List Nat) (w : World) (g : Gf.Good P) (f : IsF P B w) (hx : x < 256) (hl : l.length = len) (hb : ∀ c ∈ l, c < 256) (hm : len ≤ maxLen)
    (hc : ∀ i, i < len → w.cell? ⟨b, off + i, none⟩ = some (.int .u8 ((l.getD i 0 : Nat) : Int))) :
    Calls Try.prog 9 #[.pointer (some ⟨B, 0, none⟩), .slice (some ⟨b, off, none⟩) len cap, .int .u8 (x : Int)] w fun e w' => e = .returned (.int .u8 ((Gf.ev P l x : Nat) : Int)) ∧ ∃ n, w' = w.drewN n := by
  unfold maxLen at hm
  have HC : Hid (∀ i, i < len → w.cell? ⟨b, off + i, none⟩ = some (.int .u8 ((l.getD i 0 : Nat) : Int))) := hc
  have HL : Hid (l.length = len) := hl
  clear hc hl
  go_enter Try.func9, Try.ntmps9
  go_wp2
  go_loopw [7, 8] (fun y i wr => ∃ k : Nat, k ≤ len ∧ i = .int .i64 ((k : Int) - 1) ∧ y = .int .u8 ((Gf.ev P (l.drop k) x : Nat) : Int) ∧ Qt w wr) (fun _ i _ => ((intOf i) + 1).toNat)
  case atStart =>
    refine ⟨len, Nat.le_refl _, rfl, ?_, Qt.refl _⟩
    rw [List.drop_of_length_le (by rw [HL.out]; exact Nat.le_refl _)]; rfl
  case round =>
    obtain ⟨k, hk, rfl, rfl, q⟩ := hrel
    by_cases hk0 : k = 0
    · subst hk0
      go_wp2
      go_ret
      exact ⟨rfl, q⟩
    · obtain ⟨j, rfl⟩ : ∃ j, k = j + 1 := ⟨k - 1, by omega⟩
      have c1 : wr.cell? ⟨b, off + j, none⟩ = some (.int .u8 ((l.getD j 0 : Nat) : Int)) := by rw [q.cell]; exact HC.out j (by omega)
      have fr := q.isF f
      have ej : ((j + 1 : Nat) : Int) - 1 = (j : Int) := by omega
      rw [ej]
      clear ej
      obtain ⟨y, hy⟩ : ∃ y, Gf.ev P (l.drop (j + 1)) x = y := ⟨_, rfl⟩
      obtain ⟨c, hcc⟩ : ∃ c, l.getD j 0 = c := ⟨_, rfl⟩
      obtain ⟨m, hm'⟩ : ∃ m, Gf.mul P y x = m := ⟨_, rfl⟩
      have ly : y < 256 := hy ▸ Gf.ev_lt g _ (fun c h => hb c (List.mem_of_mem_drop h)) x
      have lc : c < 256 := hcc ▸ getD_lt l hb j
      have lm : m < 256 := hm' ▸ g.mul_lt y x
      rw [hy]
      rw [hcc] at c1
      have M : Hid (∀ n, Calls Try.prog 10 #[.pointer (some ⟨B, 0, none⟩), .int .u8 (y : Int), .int .u8 (x : Int)] (wr.drewN n) fun e w' => e = .returned (.int .u8 (m : Int)) ∧ ∃ q, w' = (wr.drewN n).drewN q) := fun n =>
        mul_n P B y x m (wr.drewN n) g (Qt.isF (Qt.drewN wr n) fr) ly hx hm'
      have A : Hid (∀ n, Calls Try.prog 8 #[.int .u8 (m : Int), .int .u8 (c : Int)] (wr.drewN n) fun e w' => e = .returned (.int .u8 ((m ^^^ c : Nat) : Int)) ∧ w' = wr.drewN n) := fun n => add_any m c (wr.drewN n) lm lc
      have V : Hid (Gf.ev P (l.drop j) x = m ^^^ c) := by
        show Gf.ev P (l.drop j) x = m ^^^ c
        rw [drop_getD l j (by rw [HL.out]; omega), hcc]
        show Gf.mul P (Gf.ev P (l.drop (j + 1)) x) x ^^^ c = _
        rw [hy, hm']
      clear hy hcc hm'
      go_wp2
      go_quiet (first | (go_at_call 10; exact Calls.quiet_of (M.out _)) | (go_at_call 8; exact Calls.quiet_of_same (A.out _)))
      go_wp2
      go_roundw
      case rel => exact ⟨j, by omega, by go_num, by rw [V.out], q.trans (Qt.drewN _ _)⟩
      case measure => simp [intOf]

set_option maxHeartbeats 400000 in
theorem eval_none (B cap x : Nat) (a : Option Addr) (w : World) :
    Calls Try.prog 9 #[.pointer (some ⟨B, 0, none⟩), .slice a 0 cap, .int .u8 (x : Int)] w fun e w' => e = .returned (.int .u8 ((0 : Nat) : Int)) ∧ Qt w w' := by
  go_enter Try.func9, Try.ntmps9
  go_wp2
  refine wp_loop_rounds 1 ?_
  rw [rounds_succ]
  go_wp2
  go_ret
  exact ⟨rfl, Qt.refl _⟩

theorem eval_any (P B len cap x v : Nat) (a : Option Addr) (l : List Nat) (w : World) (g : Gf.Good P) (f : IsF P B w) (hx : x < 256) (r : Reads w a len cap l) (hv : Gf.ev P l x = v) :
    Calls Try.prog 9 #[.pointer (some ⟨B, 0, none⟩), .slice a len cap, .int .u8 (x : Int)] w fun e w' => e = .returned (.int .u8 (v : Int)) ∧ Qt w w' := by
  subst hv
  by_cases h : 0 < len
  · obtain ⟨b, off, rfl, hc⟩ := r.cells h
    exact eval_some P B b off len cap x l w g f hx r.length r.bytes (Nat.le_trans r.room r.small) hc
  · have h0 : len = 0 := by omega
    have e := r.length
    subst h0
    rw [List.eq_nil_of_length_eq_zero e]
    exact eval_none B cap x a w
end Go.Proofs.Ytankiipkkbihiaa
