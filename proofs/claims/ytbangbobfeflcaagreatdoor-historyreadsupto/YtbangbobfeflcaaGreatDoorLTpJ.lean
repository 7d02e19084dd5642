import Derived.Test.YtbangbobfeflcaaGreatDoorLUwJ
import Derived.Test.YtbangbobfeflcaaGreatDoorHTkJ
namespace Go.Proofs.YtbangbobfeflcaaGreatDoor
open Go.RowKit 

theorem hBytesT {w : World} {g : Nat} {C : List Nat} {s a1 b1 t b2 a3 b3 : ByteArray} {f1 f2 f3 : Bool} (h : Rdr w g s) (h1 : CutAt s ⟨#[34]⟩ a1 b1 f1) (h2 : CutAt b1 ⟨#[34]⟩ t b2 f2) (h3 : CutAt b2 ⟨#[32]⟩ a3 b3 f3) (hu : ∀ V, Kept (fun j => j = g) w V → Calls Tryz.prog 84 #[.string t] V fun o w' => ∃ p k c, o = .returned (.slice p k c) ∧ QS V C p k c w') : Calls Tryz.prog 53 #[.pointer (some ⟨g, 0, none⟩)] w fun o w' => ∃ p k c, o = .returned (.slice p k c) ∧ w'.ownsRow w.heap.size 5 1 (.slice p k c) k (cellsOf C) ∧ Rdr w' g b3 ∧ Kept (fun j => j = g) w w' := by
  obtain ⟨x, hx⟩ := h.lib
  have C1 : Hid (Calls Tryz.prog 29 #[.string s, .string ⟨#[34]⟩] w fun o w' => o = .returned (.tuple #[.string a1, .string b1, .bool f1]) ∧ ∃ n, w' = w.drewN n) := hCut h1 hx
  have HU : Hid (∀ V, Kept (fun j => j = g) w V → Calls Tryz.prog 84 #[.string t] V fun o w' => ∃ p k c, o = .returned (.slice p k c) ∧ QS V C p k c w') := hu
  have H : Hid (Rdr w g s ∧ CutAt b1 ⟨#[34]⟩ t b2 f2 ∧ CutAt b2 ⟨#[32]⟩ a3 b3 f3) := ⟨h, h2, h3⟩
  have c0 := cell_blk h.at_ 0 (v := .string s) rfl
  have s0 := soft_blk h.at_ 0
  clear h h1 h2 h3 hx hu
  go_enter Tryz.func53, Tryz.ntmps53
  go_wp2_with fail
  refine C1.out.mono ?_
  rintro o w1 ⟨rfl, n1, hw1⟩
  have K1 : Hid (Kept (fun j => j = g) w w1) := by rw [hw1]; exact (Kept.refl _ _).drewN n1
  have R1 : Hid (Rdr w1 g s) := H.out.1.next K1.out (by rw [hw1]; exact H.out.1.at_)
  clear hw1 C1 c0 s0
  obtain ⟨x, hx⟩ := R1.out.lib
  have C2 : Hid (Calls Tryz.prog 29 #[.string b1, .string ⟨#[34]⟩] w1 fun o w' => o = .returned (.tuple #[.string t, .string b2, .bool f2]) ∧ ∃ n, w' = w1.drewN n) := hCut H.out.2.1 hx
  clear hx
  go_wp2_with fail
  refine C2.out.mono ?_
  rintro o w2 ⟨rfl, n2, hw2⟩
  have K2 : Hid (Kept (fun j => j = g) w1 w2) := by rw [hw2]; exact (Kept.refl _ _).drewN n2
  have R2 : Hid (Rdr w2 g s) := R1.out.next K2.out (by rw [hw2]; exact R1.out.at_)
  clear hw2 C2
  have d0 := cell_blk R2.out.at_ 0 (v := .string s) rfl
  have t0 := soft_blk R2.out.at_ 0
  obtain ⟨W, hW⟩ : ∃ W, W = w2.setCell ⟨g, 0, none⟩ (.string b2) := ⟨_, rfl⟩
  have K3 : Hid (Kept (fun j => j = g) w W) := by
    rw [hW]
    exact (K1.out.trans K2.out (fun _ _ z => z)).setCell (p := ⟨g, 0, none⟩) (fun _ => rfl) (.string b2)
  have R3 : Hid (Rdr W g b2) := by
    refine H.out.1.next K3.out ?_
    rw [hW, set_heap R2.out.at_ 0]
    rfl
  have CW : Hid (Calls Tryz.prog 51 #[.pointer (some ⟨g, 0, none⟩)] W fun o w' => o = .returned (.string a3) ∧ Rdr w' g b3 ∧ Kept (fun j => j = g) W w') := hWordR R3.out H.out.2.2
  rw [hW] at CW
  have EW : Hid (W = w2.setCell ⟨g, 0, none⟩ (.string b2)) := hW
  clear hW
  go_wp2_with fail
  refine CW.out.mono ?_
  rintro o w4 ⟨rfl, R4', K4'⟩
  have R4 : Hid (Rdr w4 g b3) := R4'
  have K4 : Hid (Kept (fun j => j = g) w w4) := by
    rw [← EW.out] at K4'
    exact K3.out.trans K4' (fun _ _ z => z)
  clear R4' K4' CW EW d0 t0
  go_wp2_with fail
  refine (HU.out w4 K4.out).mono ?_
  rintro o w5 ⟨p, k, c, rfl, Q5⟩
  have F : Hid (w5.ownsRow w.heap.size 5 1 (.slice p k c) k (cellsOf C) ∧ Rdr w5 g b3 ∧ Kept (fun j => j = g) w w5) := by
    have K5 : Kept (fun j => j = g) w4 w5 := Q5.kept.mono (fun _ _ z => z.elim)
    exact ⟨owns_mono Q5.row K4.out.size, R4.out.next K5 (Q5.kept.get R4.out.at_ (fun z => z)), K4.out.trans K5 (fun _ _ z => z)⟩
  clear Q5
  go_wp2_with fail
  go_ret
  exact ⟨p, k, c, by first | rfl | simp, F.out⟩
/-- What a reader gives, and what it leaves. -/
def txtB (s : ByteArray) : ByteArray := preB (sufB s 34) 34
def bytB (s : ByteArray) : List Nat := unqF (txtB s).size (bl (txtB s))
def byrB (s : ByteArray) : ByteArray := sufB (sufB (sufB s 34) 34) 32
theorem byrB_size (s : ByteArray) : (byrB s).size ≤ s.size := by
  have q1 := sufB_size s 34
  have q2 := sufB_size (sufB s 34) 34
  have q3 := sufB_size (sufB (sufB s 34) 34) 32
  show (sufB (sufB (sufB s 34) 34) 32).size ≤ s.size
  omega
theorem hBytesG {w : World} {g : Nat} {s : ByteArray} (h : Rdr w g s) (hs : s.size ≤ 1000000000) (hE : ∀ V, Kept (fun j => j = g) w V → EVs V) : Calls Tryz.prog 53 #[.pointer (some ⟨g, 0, none⟩)] w fun o w' => ∃ p k c, o = .returned (.slice p k c) ∧ w'.ownsRow w.heap.size 5 1 (.slice p k c) k (cellsOf (bytB s)) ∧ Rdr w' g (byrB s) ∧ Kept (fun j => j = g) w w' := by
  have q1 := sufB_size s 34
  have q2 := sufB_size (sufB s 34) 34
  have q3 := preB_size (sufB s 34) 34
  exact hBytesT h (cutAtG s 34 (by omega)) (cutAtG _ 34 (by omega)) (cutAtG _ 32 (by omega)) (fun V k => hUnquoted _ V (by show (preB (sufB s 34) 34).size ≤ _; omega) (hE V k))
theorem hWordG {w : World} {g : Nat} {s : ByteArray} (h : Rdr w g s) (hs : s.size ≤ 1000000000) : Calls Tryz.prog 51 #[.pointer (some ⟨g, 0, none⟩)] w fun o w' => o = .returned (.string (preB s 32)) ∧ Rdr w' g (sufB s 32) ∧ Kept (fun j => j = g) w w' := hWordR h (cutAtG s 32 (by omega))
theorem hNumberG {w : World} {g : Nat} {s : ByteArray} (h : Rdr w g s) (hs : s.size ≤ 1000000000) (hE : ∀ V, Kept (fun j => j = g) w V → EVs V) : Calls Tryz.prog 52 #[.pointer (some ⟨g, 0, none⟩)] w fun o w' => ∃ v, o = .returned (.int .i64 v) ∧ (∀ u, Lib.atoiAll (preB s 32).data.toList = .ok u → u = v) ∧ Rdr w' g (sufB s 32) ∧ Kept (fun j => j = g) w w' := by
  obtain ⟨a, ha⟩ : ∃ a, preB s 32 = a := ⟨_, rfl⟩
  obtain ⟨b, hb⟩ : ∃ b, sufB s 32 = b := ⟨_, rfl⟩
  have az : a.size ≤ 281474976710656 := by rw [← ha]; have := preB_size s 32; omega
  have CW : Hid (Calls Tryz.prog 51 #[.pointer (some ⟨g, 0, none⟩)] w fun o w' => o = .returned (.string a) ∧ Rdr w' g b ∧ Kept (fun j => j = g) w w') := by rw [← ha, ← hb]; exact hWordG h hs
  rw [ha, hb]
  have CI : Hid (∀ V, Kept (fun j => j = g) w V → Calls Tryz.prog 83 #[.string a, .int .i64 10, .int .i64 64] V fun x w' => ∃ v i, x = .returned (.tuple #[.int .i64 v, i]) ∧ NumIs a.data.toList v i ∧ Below V.heap.size V w') := fun V k => parseAny a V az (hE V k)
  clear h hs hE ha hb az
  go_enter Tryz.func52, Tryz.ntmps52
  go_wp2_with fail
  refine CW.out.mono ?_
  rintro o w1 ⟨rfl, R1', K1'⟩
  have R1 : Hid (Rdr w1 g b ∧ Kept (fun j => j = g) w w1) := ⟨R1', K1'⟩
  clear R1' K1' CW
  go_wp2_with fail
  refine (CI.out w1 R1.out.2).mono ?_
  rintro o w2 ⟨v, i, rfl, N, B2⟩
  have F : Hid ((∀ u, Lib.atoiAll a.data.toList = .ok u → u = v) ∧ Rdr w2 g b ∧ Kept (fun j => j = g) w w2) := by
    have K2 := kept_below B2
    have K : Kept (fun j => j = g) w1 w2 := K2.mono (fun _ _ z => z.elim)
    refine ⟨fun u hu => ?_, R1.out.1.next K (K2.get R1.out.1.at_ (fun z => z)), R1.out.2.trans K (fun _ _ z => z)⟩
    rcases N with ⟨u', h1, h2, _⟩ | ⟨h1, _⟩
    · rw [hu] at h1
      cases h1
      exact h2
    · exact absurd hu (h1 u)
  clear N B2 R1 CI
  go_wp2_with fail
  go_ret
  exact ⟨v, by first | rfl | simp, F.out⟩
end Go.Proofs.YtbangbobfeflcaaGreatDoor

namespace Go.Proofs.YtbangbobfeflcaaGreatDoor
open Go.RowKit 

def kdW : Nat → ByteArray
  | 0 => ⟨#[]⟩
  | 1 => ⟨#[105, 110, 118, 111, 107, 101]⟩
  | 2 => ⟨#[114, 101, 116, 117, 114, 110]⟩
  | _ => ⟨#[99, 97, 110, 99, 101, 108]⟩
/-- The kind that a word tells of. -/
def kdN (t : ByteArray) : Nat := if kdW 1 = t then 1 else if kdW 2 = t then 2 else if kdW 3 = t then 3 else 0
theorem tl_ne {a t : ByteArray} (h : ¬ a = t) : (a.data.toList == t.toList) = false := by
  rw [beq_eq_false_iff_ne]
  intro q
  rw [Go.ByteArray.toList_eq] at q
  exact h (ByteArray.ext (Array.toList_inj.1 q))
set_option maxRecDepth 100000 in
theorem hKindG (t : ByteArray) (w : World) (h : KWs w) : Calls Tryz.prog 50 #[.string t] w fun o w' => o = .returned (.int .i64 (kdN t : Int)) ∧ w' = w := by
  obtain ⟨c0, c1, c2, c3⟩ := h
  obtain ⟨m, hm⟩ : ∃ m, kdN t = m := ⟨_, rfl⟩
  rw [hm]
  have HM : Hid (kdN t = m) := hm
  clear hm
  go_enter Tryz.func50, Tryz.ntmps50
  go_wp2_with fail
  clear c0 c1 c2 c3
  go_loopw [3, 4, 6] (fun _ _ u6 wr => ∃ i : Nat, u6 = .int .i64 (i : Int) ∧ i ≤ 4 ∧ Hid (∀ j, j < i → ¬ kdW j = t) ∧ wr = w) (fun _ _ u6 _ => 4 - (intOf u6).toNat)
  case atStart => exact ⟨0, rfl, by omega, fun j hj => by omega, rfl⟩
  case round =>
    obtain ⟨i, rfl, hi, HB, rfl⟩ := hrel
    have hc : i = 0 ∨ i = 1 ∨ i = 2 ∨ i = 3 ∨ i = 4 := by omega
    rcases hc with rfl | rfl | rfl | rfl | rfl
    · clear hi
      have ix := kix0 wr
      by_cases e : kdW 0 = t
      · have M : Hid (m = 0) := by
          show m = 0
          rw [← HM.out]
          have q := HB.out
          unfold kdN
          rw [← e]
          rfl
        subst e
        have e0 : kdW 0 = ⟨#[]⟩ := rfl
        rw [e0]
        clear HM HB
        go_wp2_with fail
        go_ret
        exact ⟨by rw [M.out]; first | rfl | simp, rfl⟩
      · have ne : ¬ (⟨#[]⟩ : ByteArray) = t := e
        have nt := tl_ne ne
        have nt : t.toList.isEmpty = false := by
          cases q : t.toList with
          | nil => rw [q] at nt; exact absurd nt (by decide)
          | cons _ _ => rfl
        clear ne
        have HC : Hid (∀ j, j < 0 + 1 → ¬ kdW j = t) := fun j hj => by
          rcases Nat.lt_succ_iff_lt_or_eq.1 hj with z | z
          · exact HB.out j z
          · rw [z]; exact e
        clear e HB
        go_wp2_with fail
        go_roundw
        case rel => exact ⟨0 + 1, by go_num, by omega, HC, by trivial⟩
        case measure => simp [intOf]
    · clear hi
      have ix := kix1 wr
      by_cases e : kdW 1 = t
      · have M : Hid (m = 1) := by
          show m = 1
          rw [← HM.out]
          have q := HB.out
          unfold kdN
          rw [if_pos e]
        subst e
        have e0 : kdW 1 = ⟨#[105, 110, 118, 111, 107, 101]⟩ := rfl
        rw [e0]
        clear HM HB
        go_wp2_with fail
        go_ret
        exact ⟨by rw [M.out]; first | rfl | simp, rfl⟩
      · have ne : ¬ (⟨#[105, 110, 118, 111, 107, 101]⟩ : ByteArray) = t := e
        have nt := tl_ne ne
        have nt2 : (([105, 110, 118, 111, 107, 101] : List UInt8) == t.toList) = false := nt
        have nt3 : ¬ ([105, 110, 118, 111, 107, 101] : List UInt8) = t.toList := beq_eq_false_iff_ne.1 nt2
        have nt4 : ¬ t.toList = ([105, 110, 118, 111, 107, 101] : List UInt8) := fun z => nt3 z.symm
        clear ne
        have HC : Hid (∀ j, j < 1 + 1 → ¬ kdW j = t) := fun j hj => by
          rcases Nat.lt_succ_iff_lt_or_eq.1 hj with z | z
          · exact HB.out j z
          · rw [z]; exact e
        clear e HB
        go_wp2_with fail
        go_roundw
        case rel => exact ⟨1 + 1, by go_num, by omega, HC, by trivial⟩
        case measure => simp [intOf]
    · clear hi
      have ix := kix2 wr
      by_cases e : kdW 2 = t
      · have M : Hid (m = 2) := by
          show m = 2
          rw [← HM.out]
          have q := HB.out
          unfold kdN
          rw [if_neg (q 1 (by omega))]
          rw [if_pos e]
        subst e
        have e0 : kdW 2 = ⟨#[114, 101, 116, 117, 114, 110]⟩ := rfl
        rw [e0]
        clear HM HB
        go_wp2_with fail
        go_ret
        exact ⟨by rw [M.out]; first | rfl | simp, rfl⟩
      · have ne : ¬ (⟨#[114, 101, 116, 117, 114, 110]⟩ : ByteArray) = t := e
        have nt := tl_ne ne
        have nt2 : (([114, 101, 116, 117, 114, 110] : List UInt8) == t.toList) = false := nt
        have nt3 : ¬ ([114, 101, 116, 117, 114, 110] : List UInt8) = t.toList := beq_eq_false_iff_ne.1 nt2
        have nt4 : ¬ t.toList = ([114, 101, 116, 117, 114, 110] : List UInt8) := fun z => nt3 z.symm
        clear ne
        have HC : Hid (∀ j, j < 2 + 1 → ¬ kdW j = t) := fun j hj => by
          rcases Nat.lt_succ_iff_lt_or_eq.1 hj with z | z
          · exact HB.out j z
          · rw [z]; exact e
        clear e HB
        go_wp2_with fail
        go_roundw
        case rel => exact ⟨2 + 1, by go_num, by omega, HC, by trivial⟩
        case measure => simp [intOf]
    · clear hi
      have ix := kix3 wr
      by_cases e : kdW 3 = t
      · have M : Hid (m = 3) := by
          show m = 3
          rw [← HM.out]
          have q := HB.out
          unfold kdN
          rw [if_neg (q 1 (by omega))]
          rw [if_neg (q 2 (by omega))]
          rw [if_pos e]
        subst e
        have e0 : kdW 3 = ⟨#[99, 97, 110, 99, 101, 108]⟩ := rfl
        rw [e0]
        clear HM HB
        go_wp2_with fail
        go_ret
        exact ⟨by rw [M.out]; first | rfl | simp, rfl⟩
      · have ne : ¬ (⟨#[99, 97, 110, 99, 101, 108]⟩ : ByteArray) = t := e
        have nt := tl_ne ne
        have nt2 : (([99, 97, 110, 99, 101, 108] : List UInt8) == t.toList) = false := nt
        have nt3 : ¬ ([99, 97, 110, 99, 101, 108] : List UInt8) = t.toList := beq_eq_false_iff_ne.1 nt2
        have nt4 : ¬ t.toList = ([99, 97, 110, 99, 101, 108] : List UInt8) := fun z => nt3 z.symm
        clear ne
        have HC : Hid (∀ j, j < 3 + 1 → ¬ kdW j = t) := fun j hj => by
          rcases Nat.lt_succ_iff_lt_or_eq.1 hj with z | z
          · exact HB.out j z
          · rw [z]; exact e
        clear e HB
        go_wp2_with fail
        go_roundw
        case rel => exact ⟨3 + 1, by go_num, by omega, HC, by trivial⟩
        case measure => simp [intOf]
    · clear hi
      have M : Hid (m = 0) := by
        show m = 0
        rw [← HM.out]
        have q := HB.out
        unfold kdN
        rw [if_neg (q 1 (by omega)), if_neg (q 2 (by omega)), if_neg (q 3 (by omega))]
      clear HM HB
      go_wp2_with fail
      go_ret
      exact ⟨by rw [M.out]; first | rfl | simp, rfl⟩
end Go.Proofs.YtbangbobfeflcaaGreatDoor

namespace Go.Proofs.YtbangbobfeflcaaGreatDoor
open Go.RowKit 

theorem itB_list (v : Int) : (itB v).data.toList = Lib.itoa v := by unfold itB; simp
theorem tagB_list (a b : Int) : (tagB a b).data.toList = Lib.itoa a ++ 46 :: Lib.itoa b := by
  unfold tagB
  rw [ByteArray.data_append, ByteArray.data_append, Array.toList_append, Array.toList_append, itB_list, itB_list, List.append_assoc]
  rfl
theorem tagB_cut {a b : Int} (ha : KI a) (hb : KI b) : CutAt (tagB a b) ⟨#[46]⟩ (itB a) (itB b) true := by
  refine ⟨?_, ?_⟩
  · have q1 := itB_size a ha
    have q2 := itB_size b hb
    unfold tagB
    rw [ByteArray.size_append, ByteArray.size_append]
    show (itB a).size + 1 + (itB b).size < _
    omega
  · rw [tagB_list, itB_list, itB_list]
    exact cut_hit _ _ 46 (itoa_no a 46 (by decide))
theorem intB {v : Int} (h : KI v) : IntAt (itB v) v := hInt (by have := itB_size v h; omega) (by rw [Lib.parseIntB_64, itB_list]; exact atoi_back v h)
theorem atoiB {v : Int} (h : KI v) (V : World) : Calls Tryz.prog 86 #[.string (itB v)] V fun o w' => o = .returned (.tuple #[.int .i64 v, .nilIface]) ∧ Kept (fun _ => False) V w' := by
  refine (Tryz.strconv_Atoi_ok (itB v) (by have := itB_size v h; omega) v (by rw [itB_list]; exact atoi_back v h) V).mono ?_
  rintro o w1 ⟨rfl, hw⟩
  refine ⟨rfl, ?_⟩
  rcases hw with rfl | ⟨t, rfl⟩
  · exact Kept.refl _ _
  · exact kept_below (Lib.bytesWorld_below _ _ _)
set_option maxRecDepth 100000 in
theorem hTagParseE (X Y : Int) (hv : (kIsZero X Y || kIsProper X Y) = true) (w : World) (V : Tab w) (gm : ∃ x, w.cell? ⟨1, 0, none⟩ = some (.int .i64 x)) : Calls Tryz.prog 56 #[.string (tagB X Y)] w fun o w' => o = .returned (.tuple #[.agg #[.int .i64 X, .int .i64 Y], .int .i64 0]) ∧ Kept (fun _ => False) w w' := by
  have kx := (val_ok hv).1
  have ky := (val_ok hv).2
  have hcut := tagB_cut kx ky
  have C2 : Hid (IntAt (itB X) X) := intB kx
  have CA : Hid (∀ V, Calls Tryz.prog 86 #[.string (itB Y)] V fun o w' => o = .returned (.tuple #[.int .i64 Y, .nilIface]) ∧ Kept (fun _ => False) V w') := fun V => atoiB ky V
  have CT : Hid (∀ W, Tab W → Calls Tryz.prog 64 #[.agg #[.int .i64 X, .int .i64 Y]] W fun x w' => x = .returned (.string (tagB X Y)) ∧ Below W.heap.size W w') := fun W h => hTagTextG X Y hv W h
  obtain ⟨t, ht⟩ : ∃ t, tagB X Y = t := ⟨_, rfl⟩
  obtain ⟨A, hA⟩ : ∃ A, itB X = A := ⟨_, rfl⟩
  obtain ⟨B, hB⟩ : ∃ B, itB Y = B := ⟨_, rfl⟩
  rw [ht] at hcut CT ⊢
  rw [hA] at hcut C2
  rw [hB] at hcut CA
  clear hv kx ky ht hA hB
  have K0 : Hid (Kept (fun _ => False) w (w.alloc (Obj.cells #[.int .i64 0, .int .i64 0] 37))) := (Kept.refl _ _).alloc _
  have T0 : Hid ((w.alloc (Obj.cells #[.int .i64 0, .int .i64 0] 37)).heap[w.heap.size]? = some (.cells #[.int .i64 0, .int .i64 0] 37 (0, 0))) := alloc_new _ _
  obtain ⟨x, hx⟩ := gm
  have C1 : Hid (Calls Tryz.prog 29 #[.string t, .string ⟨#[46]⟩] (w.alloc (Obj.cells #[.int .i64 0, .int .i64 0] 37)) fun o w' => o = .returned (.tuple #[.string A, .string B, .bool true]) ∧ ∃ n, w' = (w.alloc (Obj.cells #[.int .i64 0, .int .i64 0] 37)).drewN n) := hCut hcut (K0.out.cell hx (fun z => z))
  have HV : Hid (Tab w) := V
  clear hx V hcut
  go_enter Tryz.func56, Tryz.ntmps56
  go_wp2_with fail
  refine C1.out.mono ?_
  rintro o w1 ⟨rfl, n, hw1⟩
  have K1 : Hid (Kept (fun _ => False) w w1) := by rw [hw1]; exact K0.out.drewN n
  have T1 : Hid (w1.heap[w.heap.size]? = some (.cells #[.int .i64 0, .int .i64 0] 37 (0, 0))) := by rw [hw1]; exact T0.out
  clear hw1 C1 K0 T0
  go_wp2_with fail
  refine (C2.out w1).mono ?_
  rintro o w2 ⟨rfl, J2⟩
  have K2 : Hid (Kept (fun _ => False) w w2) := K1.out.trans J2 (fun _ _ z => z)
  have T2 : Hid (w2.heap[w.heap.size]? = some (.cells #[.int .i64 0, .int .i64 0] 37 (0, 0))) := J2.get T1.out (fun z => z)
  clear C2 J2 K1 T1
  go_wp2_with fail
  refine (CA.out w2).mono ?_
  rintro o w3 ⟨rfl, J3⟩
  have K3 : Hid (Kept (fun _ => False) w w3) := K2.out.trans J3 (fun _ _ z => z)
  have T3 : Hid (w3.heap[w.heap.size]? = some (.cells #[.int .i64 0, .int .i64 0] 37 (0, 0))) := J3.get T2.out (fun z => z)
  clear J3 K2 T2
  go_wp2_with fail
  have KA : Hid (Kept (fun _ => False) w3 (w3.alloc (Obj.cells #[.int .i64 X, .int .i64 Y] 37))) := (Kept.refl _ _).alloc _
  refine (CT.out _ (HV.out.kept (K3.out.trans KA.out (fun _ _ z => z)))).mono ?_
  rintro o w4 ⟨rfl, B4⟩
  have J4 : Kept (fun _ => False) (w3.alloc (Obj.cells #[.int .i64 X, .int .i64 Y] 37)) w4 := kept_below B4
  have K4 : Hid (Kept (fun _ => False) w w4) := (K3.out.trans KA.out (fun _ _ z => z)).trans J4 (fun _ _ z => z)
  have T4 : Hid (w4.heap[w.heap.size]? = some (.cells #[.int .i64 0, .int .i64 0] 37 (0, 0))) := J4.get (KA.out.get T3.out (fun z => z)) (fun z => z)
  have U4 : Hid (w4.heap[w3.heap.size]? = some (.cells #[.int .i64 X, .int .i64 Y] 37 (0, 0))) := J4.get (alloc_new _ _) (fun z => z)
  clear B4 J4 KA K3 T3
  have c0 := cell_blk U4.out 0 (v := .int .i64 X) rfl
  have c1 := cell_blk U4.out 1 (v := .int .i64 Y) rfl
  have d0 := cell_blk T4.out 0 (v := .int .i64 0) rfl
  have d1 := cell_blk T4.out 1 (v := .int .i64 0) rfl
  have s0 := soft_blk T4.out 0
  have s1 := soft_blk T4.out 1
  go_wp2_with fail
  have G : ((w4.setCell ⟨w.heap.size, 0, none⟩ (.int .i64 X)).setCell ⟨w.heap.size, 1, none⟩ (.int .i64 Y)).heap[w.heap.size]? = some (.cells #[.int .i64 X, .int .i64 Y] 37 (0, 0)) := by
    have a := set_heap T4.out 0 (.int .i64 X)
    have b := set_heap a 1 (.int .i64 Y)
    exact b
  refine bodyPost_ret (results_tag_tmp rfl _ _ w.heap.size X Y rfl G) rfl ⟨rfl, ?_⟩
  exact (K4.out.setCell (p := ⟨w.heap.size, 0, none⟩) (fun z => absurd z (Nat.lt_irrefl _)) _).setCell (p := ⟨w.heap.size, 1, none⟩) (fun z => absurd z (Nat.lt_irrefl _)) _
end Go.Proofs.YtbangbobfeflcaaGreatDoor
