import Derived.Test.YtonfefhegghapaaDoorTRd
import Derived.Deep.Cut
namespace Go.Proofs.YtonfefhegghapaaDoor
open Go.RowKit 

/-- A digit's value, whatever the rune. -/
def valB (r : Nat) : Nat := if 97 ≤ r then (((r : Int) - 97) % 256 + 10).toNat % 256 else (((r : Int) - 48) % 256).toNat
theorem hVal (r : Nat) (hr : r ≤ 2147483647) (w : World) : Calls Tryd.prog 63 #[.int .i32 (r : Int)] w fun o w' => o = .returned (.int .u8 (valB r : Int)) ∧ w' = w := by
  obtain ⟨v, hv⟩ : ∃ v, valB r = v := ⟨_, rfl⟩
  rw [hv]
  unfold valB at hv
  by_cases h : 97 ≤ r
  · rw [if_pos h] at hv
    have h1 : (97 : Int) ≤ (r : Int) := by omega
    have e1 : IntKind.i32.wrap ((r : Int) - 97) = (r : Int) - 97 := by rw [IntKind.wrap_i32]; omega
    obtain ⟨x, hx⟩ : ∃ x : Nat, ((r : Int) - 97) % 256 = (x : Int) := ⟨(((r : Int) - 97) % 256).toNat, by omega⟩
    have e2 : IntKind.u8.wrap ((r : Int) - 97) = (x : Int) := by rw [IntKind.wrap_u8]; omega
    have e3 : IntKind.u8.wrap ((x : Int) + 10) = (v : Int) := by rw [IntKind.wrap_u8]; omega
    clear hv hx h
    go_enter Tryd.func63, Tryd.ntmps63
    go_wp2_with fail
    go_ret
    exact ⟨by first | rfl | simp, rfl⟩
  · rw [if_neg h] at hv
    have h1 : ¬ (97 : Int) ≤ (r : Int) := by omega
    have e1 : IntKind.i32.wrap ((r : Int) - 48) = (r : Int) - 48 := by rw [IntKind.wrap_i32]; omega
    have e2 : IntKind.u8.wrap ((r : Int) - 48) = (v : Int) := by rw [IntKind.wrap_u8]; omega
    clear hv h
    go_enter Tryd.func63, Tryd.ntmps63
    go_wp2_with fail
    go_ret
    exact ⟨by first | rfl | simp, rfl⟩
/-- The bytes that digits spell, two runes a byte by where they stand. -/
def hexF (s : ByteArray) : Nat → Nat → Nat → List UInt8 → List UInt8
  | 0, _, _, acc => acc
  | f + 1, pos, hi, acc => if pos < s.size then (if pos % 2 = 0 then hexF s f (pos + (Utf8.decode s pos).2) (valB (Utf8.decode s pos).1) acc else hexF s f (pos + (Utf8.decode s pos).2) hi (acc ++ [UInt8.ofNat ((hi * 16 % 256) ||| valB (Utf8.decode s pos).1)])) else acc
def hexL (s : ByteArray) : List UInt8 := hexF s s.size 0 0 []
end Go.Proofs.YtonfefhegghapaaDoor
