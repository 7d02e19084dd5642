import Derived.Test.YtonfefhegghapaaDoorULi
import Derived.Test.YtonfefhegghapaaDoorTLx
namespace Go.Proofs.YtonfefhegghapaaDoor
open Go.RowKit 

set_option maxRecDepth 100000 in
set_option maxHeartbeats 4000000 in
/-- linesOf. -/
theorem hLinesOf {w : World} {t : ByteArray} (ht : t.size ≤ 33554430) : Calls Tryd.prog 28 #[.string t] w fun o w' => ∃ (p : Option Addr) (k c : Nat), o = .returned (.slice p k c) ∧ LX w w' p k c (linL t.data.toList) := by
  have S0 : Hid (LQ2 t.data.toList 0 0 [] ∧ LX w w none 0 0 []) := ⟨⟨Nat.le_refl _, Nat.zero_le _, Nat.le_refl _, by simp, rfl⟩, ⟨rfl, own_none _ _ _ _, Kept.refl _ _⟩⟩
  go_enter Tryd.func28, Tryd.ntmps28
  go_upto_region 4 with fail
  go_loopw [3, 4, 5] (fun u3 u4 u5 wr => ∃ (i fr : Nat) (p : Option Addr) (k c : Nat) (ts : List (List UInt8)), u3 = .slice p k c ∧ u4 = .int .i64 (fr : Int) ∧ u5 = .int .i64 (i : Int) ∧ fr ≤ i ∧ i ≤ t.size ∧ Hid (LQ2 t.data.toList i fr ts ∧ LX w wr p k c ts)) (fun _ _ u5 _ => t.size - (intOf u5).toNat)
  case atStart => exact ⟨0, 0, none, 0, 0, [], rfl, rfl, rfl, Nat.zero_le _, Nat.zero_le _, S0⟩
  case round =>
    clear S0
    obtain ⟨i, fr, p, k, c, ts, rfl, rfl, rfl, hf, hi, S⟩ := hrel
    obtain ⟨wo, hwo⟩ : ∃ wo, wo = wr := ⟨_, rfl⟩
    rw [← hwo] at S ⊢
    clear hwo
    have tl : t.data.toList.length = t.size := Array.length_toList
    have HK : Hid (k ≤ 33554430) := by
      have h1 := S.out.1.dn
      have h2 := S.out.2.len
      show k ≤ 33554430
      omega
    by_cases hlt : i < t.size
    · have i1 : (i : Int) < (t.size : Int) := by omega
      obtain ⟨x, hx⟩ : ∃ x, t.data.toList[i]? = some x := ⟨_, List.getElem?_eq_getElem (by rw [tl]; exact hlt)⟩
      have ri := run_at hx wo
      obtain ⟨y, hy⟩ : ∃ y, x.toNat = y := ⟨_, rfl⟩
      have yl : y < 256 := by rw [← hy]; exact x.toNat_lt
      rw [hy] at ri
      have HX : Hid (t.data.toList[i]? = some x ∧ x.toNat = y) := ⟨hx, hy⟩
      clear hx hy tl
      by_cases h10 : y = 10
      · have e10 : x = 10 := UInt8.toNat_inj.1 (HX.out.2.trans h10)
        subst h10
        have fi : (fr : Int) ≤ (i : Int) := by omega
        have A1 : Hid (LX w (wo.alloc (.cells #[.string (t.extract fr i)] 9)) p k c ts) := S.out.2.k0 ((Kept.refl _ _).alloc _)
        have SR : Hid (Src Tryd.prog 1 43 (.slice (some ⟨wo.heap.size, 0, none⟩) 1 1) 1 [.string (t.extract fr i)] (wo.alloc (.cells #[.string (t.extract fr i)] 9))) := src_text wo _
        have LN : Hid (k + 1 ≤ maxLen ∧ ((k + 1) + (k + 1) / 4 + 192) * 16 ≤ 281474976710656) := by have := HK.out; unfold maxLen; exact ⟨by omega, by omega⟩
        go_wp2_with
          (first
            | (at_builtin; refine wpList_append_all _ rfl (.tmp 16) (.tmp 21) 43 9 43 _ 1 16 rfl Tryd.underlying43d Tryd.info9 rfl w.heap.size (.slice p k c) k (strC ts) rfl A1.out.row _ 1 [.string (t.extract fr i)] rfl SR.out LN.out.1 LN.out.2 A1.out.kept.size ?_; intro p9 c9 w9 ho hg hn9)
            | fail)
        have N : Hid (LQ2 t.data.toList (i + 1) (i + 1) (ts ++ [(t.data.toList.take i).drop fr]) ∧ LX w w9 p9 (k + 1) c9 (ts ++ [(t.data.toList.take i).drop fr])) := ⟨S.out.1.hit (by rw [HX.out.1, e10]), A1.out.more (by rw [← mid_list]; exact ho.out) hg.out⟩
        clear ho hg hn9 A1 SR LN S HX
        go_roundw
        case rel => exact ⟨i + 1, i + 1, p9, k + 1, c9, _, rfl, by go_num, by go_num, Nat.le_refl _, by omega, N⟩
        case measure => simp [intOf] <;> omega
      · have y1 : ¬ (y : Int) = 10 := by omega
        have N : Hid (LQ2 t.data.toList (i + 1) fr ts ∧ LX w wo p k c ts) := ⟨S.out.1.skip HX.out.1 (fun z => h10 (by rw [← HX.out.2, z]; rfl)), S.out.2⟩
        clear S
        go_wp2_with fail
        go_roundw
        case rel => exact ⟨i + 1, fr, p, k, c, ts, rfl, rfl, by go_num, by omega, by omega, N⟩
        case measure => simp [intOf] <;> omega
    · have i1 : ¬ (i : Int) < (t.size : Int) := by omega
      have FN := S.out.1.fin (by omega)
      rw [tl] at FN
      clear tl
      by_cases hfl : fr < t.size
      · have f1 : (fr : Int) < (t.size : Int) := by omega
        have F1 : Hid (linL t.data.toList = ts ++ [t.data.toList.drop fr]) := FN.1 hfl
        have A1 : Hid (LX w (wo.alloc (.cells #[.string (t.extract fr t.size)] 9)) p k c ts) := S.out.2.k0 ((Kept.refl _ _).alloc _)
        have SR : Hid (Src Tryd.prog 1 43 (.slice (some ⟨wo.heap.size, 0, none⟩) 1 1) 1 [.string (t.extract fr t.size)] (wo.alloc (.cells #[.string (t.extract fr t.size)] 9))) := src_text wo _
        have LN : Hid (k + 1 ≤ maxLen ∧ ((k + 1) + (k + 1) / 4 + 192) * 16 ≤ 281474976710656) := by have := HK.out; unfold maxLen; exact ⟨by omega, by omega⟩
        clear FN S
        go_wp2_with
          (first
            | (at_builtin; refine wpList_append_all _ rfl (.tmp 29) (.tmp 33) 43 9 43 _ 1 16 rfl Tryd.underlying43d Tryd.info9 rfl w.heap.size (.slice p k c) k (strC ts) rfl A1.out.row _ 1 [.string (t.extract fr t.size)] rfl SR.out LN.out.1 LN.out.2 A1.out.kept.size ?_; intro p9 c9 w9 ho hg hn9)
            | fail)
        go_ret
        refine ⟨p9, k + 1, c9, by first | rfl | simp, ?_⟩
        rw [F1.out]
        refine A1.out.more ?_ hg.out
        have e : ofL (t.data.toList.drop fr) = t.extract fr t.size := by
          rw [mid_list, List.take_of_length_le (by rw [Array.length_toList]; exact Nat.le_refl _)]
        rw [e]
        exact ho.out
      · have f1 : ¬ (fr : Int) < (t.size : Int) := by omega
        have F2 : Hid (linL t.data.toList = ts ∧ LX w wo p k c ts) := ⟨FN.2 hfl, S.out.2⟩
        clear FN S
        go_wp2_with fail
        go_ret
        exact ⟨p, k, c, by first | rfl | simp, by rw [F2.out.1]; exact F2.out.2⟩
end Go.Proofs.YtonfefhegghapaaDoor
