import Derived.Test.YtojepeefphbekaaBnd0
import Derived.Test.YtojepeefphbekaaAppl
import Derived.Test.YtojepeefphbekaaUpdt
import Derived.Test.YtojepeefphbekaaMoves
namespace Go.Proofs.Ytojepeefphbekaa
open Go.RowKit

/-- Apply, in the law. -/
theorem bounds_apply {w wr : World} {d : Int} {t : TK} {i FB TB tb : Nat} {F G : Nat → Int × Int} (h : BS w wr d t i FB TB F G) (et : t.tb = tb) (h0 : 0 ≤ d) (mc ml mk : Int) {kd : Int} {key : ByteArray} {x y : Int} {fin has : Bool} {ua : Option Addr} {un uc : Nat} {lu : List Nat} (exy : (x, y) = tag60 mc ml) (ek : key = key3 mk) (hn : un ≤ 5) (rd : Reads wr ua un uc lu) (hi : i < 4398046510976) : Calls Try.prog 6 #[.pointer (some ⟨tb, 0, none⟩), .agg #[.int .i64 kd, .string key, .int .i64 x, .int .i64 y, .bool fin, .bool has, .slice ua un uc]] wr fun o w' => (∃ (b : Bool) (e : Int), o = .returned (.tuple #[.bool b, .int .i64 e])) ∧ Hid (∃ t', BS w w' d t' (i + 1) FB TB F G ∧ t'.tb = tb) := by
  rw [← et]
  have a0 := Int.emod_nonneg mc (show (12 : Int) ≠ 0 by omega)
  have a1 := Int.emod_lt_of_pos mc (show (0 : Int) < 12 by omega)
  have b0 := Int.emod_nonneg ml (show (5 : Int) ≠ 0 by omega)
  have b1 := Int.emod_lt_of_pos ml (show (0 : Int) < 5 by omega)
  have ex : x = mc % 12 + 1 := congrArg Prod.fst exy
  have ey : y = ml % 5 + 1 := congrArg Prod.snd exy
  have ks := key3_size mk
  refine (apply i i t ⟨kd, key, x, y, fin, has, ua, un, uc⟩ lu wr h.tab h.dat h.len (by omega) (by show key.size ≤ maxLen; rw [ek]; unfold maxLen; omega) ⟨⟨by show _ ≤ x; omega, by show x < _; omega⟩, ⟨by show _ ≤ y; omega, by show y < _; omega⟩⟩ rd (by show un ≤ _; omega) (by unfold maxLen; omega)).mono ?_
  rintro o w' ⟨rfl, t', p, i'⟩
  refine ⟨⟨_, _, rfl⟩, t', h.ap p i' h0 ?_, p.tb⟩
  show isProper x y = true
  unfold isProper
  rw [decide_eq_true_iff]
  omega
/-- Entries, in the law. -/
theorem bounds_entries {w wr : World} {d : Int} {t : TK} {i FB TB tb : Nat} {F G : Nat → Int × Int} {key : ByteArray} (h : BS w wr d t i FB TB F G) (et : t.tb = tb) (hk : key.size ≤ maxLen) (hi : i ≤ 4398046511104) : Calls Try.prog 9 #[.pointer (some ⟨tb, 0, none⟩), .string key] wr fun o w' => ∃ (p : Option Addr) (cp : Nat) (L : List ((Int × Int) × Bool × Bool × Option Addr × Nat × Nat)) (g : Nat), o = .returned (.slice p L.length cp) ∧ EN w' d (TS t key) g cp L ∧ (0 < L.length → p = some ⟨g, 0, none⟩) ∧ Kept (fun _ => False) wr w' := by
  rw [← et]
  refine (tEntries i t key wr h.tab hk (fun r hr => (h.dat key r hr).ok) hi).mono ?_
  rintro o w' ⟨p, cp, L, rfl, g, srt, ow, K⟩
  obtain ⟨gb, en, hp⟩ := en_of (h.inv key) g srt ow
  exact ⟨p, cp, L, gb, rfl, en, hp, K⟩
theorem bounds_floor {w wr : World} {d : Int} {t : TK} {i FB TB tb : Nat} {F G : Nat → Int × Int} {key : ByteArray} (h : BS w wr d t i FB TB F G) (et : t.tb = tb) (hk : key.size ≤ maxLen) : Calls Try.prog 11 #[.pointer (some ⟨tb, 0, none⟩), .string key] wr fun o w' => ∃ x y : Int, o = .returned (.agg #[.int .i64 x, .int .i64 y]) ∧ floorT (TS t key) d = (x, y) ∧ Kept (fun _ => False) wr w' := by
  rw [← et]
  have := tFloor i t key wr h.tab hk
  rw [h.delta] at this
  exact this
theorem bounds_top {w wr : World} {d : Int} {t : TK} {i FB TB tb : Nat} {F G : Nat → Int × Int} {key : ByteArray} (h : BS w wr d t i FB TB F G) (et : t.tb = tb) (hk : key.size ≤ maxLen) : Calls Try.prog 12 #[.pointer (some ⟨tb, 0, none⟩), .string key] wr fun o w' => ∃ x y : Int, o = .returned (.agg #[.int .i64 x, .int .i64 y]) ∧ floorT (TS t key) 0 = (x, y) ∧ Kept (fun _ => False) wr w' := by
  rw [← et]
  exact tTop i t key wr h.tab hk
end Go.Proofs.Ytojepeefphbekaa
