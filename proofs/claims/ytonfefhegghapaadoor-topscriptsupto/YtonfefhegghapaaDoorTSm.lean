import Derived.Test.YtonfefhegghapaaDoorTTx
import Derived.BigQuiet
namespace Go.Proofs.YtonfefhegghapaaDoor
open Go.RowKit 

/-- Bytes that can be read, as a string. -/
theorem BRd.string {w : World} {p : Option Addr} {n c : Nat} {l : List UInt8} (h : BRd w p n c l) : (convert 35 9 (.slice p n c)).run Tryd.prog w = .ok (.string (ofL l)) w := by
  have r : Reads w p n c (l.map (·.toNat)) := by
    refine ⟨by rw [List.length_map]; exact h.len, h.room, h.small, fun x hx => by obtain ⟨y, _, rfl⟩ := List.mem_map.1 hx; exact y.toNat_lt, fun h0 => ?_⟩
    obtain ⟨b, off, e, hc⟩ := h.cells h0
    refine ⟨b, off, e, fun i hi => ?_⟩
    have hi2 : i < l.length := by rw [h.len]; exact hi
    have := hc i l[i] (List.getElem?_eq_getElem hi2)
    rw [this]
    simp [List.getD_eq_getElem?_getD, hi2]
  have q := r.string
  have e2 : str (l.map (·.toNat)) = ofL l := by
    unfold str ofL
    rw [bytes_back]
  rw [e2] at q
  exact q
set_option maxRecDepth 100000 in
set_option maxHeartbeats 4000000 in
theorem hSameC {w : World} {kind a b : Int} {key : ByteArray} {va va' la la' : Option Addr} {vn vc vn' vc' ln lc lc' : Nat} {val : List UInt8} {zs : List Int} (V1 : BRd w va vn vc val) (V2 : BRd w va' vn' vc' val) (L1 : IRd w la ln lc zs) (L2 : IRd w la' ln lc' zs) : Calls Tryd.prog 37 #[.agg #[.int .i64 kind, .int .i64 a, .int .i64 b, .string key, .slice va vn vc, .slice la ln lc], .agg #[.int .i64 kind, .int .i64 a, .int .i64 b, .string key, .slice va' vn' vc', .slice la' ln lc']] w fun o w' => o = .returned (.bool true) ∧ Kept (fun _ => False) w w' := by
  have hn : ln ≤ 9223372036854775807 := by have h1 := L1.room; have h2 := L1.small; unfold maxLen at h2; omega
  obtain ⟨W, hW⟩ : ∃ W, (w.alloc (.cells #[.int .i64 kind, .int .i64 a, .int .i64 b, .string key, .slice va vn vc, .slice la ln lc] 38)).alloc (.cells #[.int .i64 kind, .int .i64 a, .int .i64 b, .string key, .slice va' vn' vc', .slice la' ln lc'] 38) = W := ⟨_, rfl⟩
  have K : Kept (fun _ => False) w W := by rw [← hW]; exact ((Kept.refl _ _).alloc _).alloc _
  have S : Hid (W.heap[w.heap.size]? = some (.cells #[.int .i64 kind, .int .i64 a, .int .i64 b, .string key, .slice va vn vc, .slice la ln lc] 38 (0, 0)) ∧ W.heap[w.heap.size + 1]? = some (.cells #[.int .i64 kind, .int .i64 a, .int .i64 b, .string key, .slice va' vn' vc', .slice la' ln lc'] 38 (0, 0)) ∧ Kept (fun _ => False) w W ∧ IRd W la ln lc zs ∧ IRd W la' ln lc' zs) := by
    refine ⟨?_, ?_, K, L1.kept K, L2.kept K⟩
    · rw [← hW]
      exact alloc_old _ (alloc_new _ _)
    · rw [← hW]
      exact alloc_new2 _ _ _ _
  have cv1 := (V1.keep K (fun _ _ z => z)).string
  have cv2 := (V2.keep K (fun _ _ z => z)).string
  have HW : Hid ((w.alloc (.cells #[.int .i64 kind, .int .i64 a, .int .i64 b, .string key, .slice va vn vc, .slice la ln lc] 38)).alloc (.cells #[.int .i64 kind, .int .i64 a, .int .i64 b, .string key, .slice va' vn' vc', .slice la' ln lc'] 38) = W) := hW
  clear hW K V1 V2 L1 L2
  go_enter Tryd.func37, Tryd.ntmps37
  go_upto_region 1 with fail
  rw [HW.out]
  clear HW
  have a0 := cell_blk S.out.1 0 (v := .int .i64 kind) rfl
  have a1 := cell_blk S.out.1 1 (v := .int .i64 a) rfl
  have a2 := cell_blk S.out.1 2 (v := .int .i64 b) rfl
  have a3 := cell_blk S.out.1 3 (v := .string key) rfl
  have a4 := cell_blk S.out.1 4 (v := .slice va vn vc) rfl
  have a5 := cell_blk S.out.1 5 (v := .slice la ln lc) rfl
  have b0 := cell_blk S.out.2.1 0 (v := .int .i64 kind) rfl
  have b1 := cell_blk S.out.2.1 1 (v := .int .i64 a) rfl
  have b2 := cell_blk S.out.2.1 2 (v := .int .i64 b) rfl
  have b3 := cell_blk S.out.2.1 3 (v := .string key) rfl
  have b4 := cell_blk S.out.2.1 4 (v := .slice va' vn' vc') rfl
  have b5 := cell_blk S.out.2.1 5 (v := .slice la' ln lc') rfl
  go_upto_region 4 with fail
  clear cv1 cv2 a0 a1 a2 a3 a4 b0 b1 b2 b3 b4
  go_loopw [5] (fun u5 wr => ∃ i : Nat, u5 = .int .i64 (i : Int) ∧ i ≤ ln ∧ Hid (Kept (fun _ => False) W wr)) (fun u5 _ => ln - (intOf u5).toNat)
  case atStart => exact ⟨0, rfl, Nat.zero_le _, Kept.refl _ _⟩
  case round =>
    clear a5 b5
    obtain ⟨i, rfl, hi, S2⟩ := hrel
    obtain ⟨wo, hwo⟩ : ∃ wo, wo = wr := ⟨_, rfl⟩
    rw [← hwo] at S2 ⊢
    clear hwo
    have a5 := S2.out.cell (cell_blk S.out.1 5 (v := .slice la ln lc) rfl) (fun z => z)
    have b5 := S2.out.cell (cell_blk S.out.2.1 5 (v := .slice la' ln lc') rfl) (fun z => z)
    by_cases hlt : i < ln
    · have i1 : (i : Int) < (ln : Int) := by omega
      obtain ⟨z, hz⟩ : ∃ z, zs[i]? = some z := ⟨_, List.getElem?_eq_getElem (by rw [S.out.2.2.2.1.len]; exact hlt)⟩
      obtain ⟨p1, o1, rfl, h1⟩ := S.out.2.2.2.1.cells (by omega)
      obtain ⟨p2, o2, rfl, h2⟩ := S.out.2.2.2.2.cells (by omega)
      have z1 := S2.out.cell (h1 i z hz) (fun z => z)
      have z2 := S2.out.cell (h2 i z hz) (fun z => z)
      clear h1 h2 hz
      go_upto_region 6 with fail
      go_quiet (fail)
      go_wp2_with fail
      go_roundw
      case rel => exact ⟨i + 1, by go_num, by omega, S2.out.drewN _⟩
      case measure => simp [intOf] <;> omega
    · have i1 : ¬ (i : Int) < (ln : Int) := by omega
      go_wp2_with fail
      go_ret
      exact ⟨by first | rfl | simp, S.out.2.2.1.trans S2.out (fun _ _ z => z)⟩
/-- same, where they are. -/
theorem hSame {w : World} {x y : Sm} {s : St} (X : SRd w x s) (Y : SRd w y s) : Calls Tryd.prog 37 #[.agg x.cs, .agg y.cs] w fun o w' => o = .returned (.bool true) ∧ Kept (fun _ => False) w w' := by
  obtain ⟨kind, a, b, key, va, vn, vc, la, ln, lc⟩ := x
  obtain ⟨kind', a', b', key', va', vn', vc', la', ln', lc'⟩ := y
  obtain rfl : kind = kind' := X.kind.trans Y.kind.symm
  obtain rfl : a = a' := X.a.trans Y.a.symm
  obtain rfl : b = b' := X.b.trans Y.b.symm
  obtain rfl : key = key' := X.key.trans Y.key.symm
  obtain rfl : ln = ln' := X.l.len.symm.trans Y.l.len
  exact hSameC X.v Y.v X.l Y.l
end Go.Proofs.YtonfefhegghapaaDoor
