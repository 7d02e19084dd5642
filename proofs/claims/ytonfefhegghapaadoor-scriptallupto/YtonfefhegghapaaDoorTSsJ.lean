import Derived.Test.YtonfefhegghapaaDoorTTx
import Derived.BigQuiet
import Derived.Deep.RegionHeldLaw
namespace Go.Proofs.YtonfefhegghapaaDoor
open Go.RowKit 

/-- Bytes that can be read, as a string. -/
theorem BRd.string {w : World} {p : Option Addr} {n c : Nat} {l : List UInt8} (h : BRd w p n c l) : (convert 35 9 (.slice p n c)).run Tryd.prog w = .ok (.string (ofL l)) w := by
  have r : Reads w p n c (l.map (·.toNat)) := by
    refine ⟨by rw [List.length_map]; exact h.len, h.room, h.small, fun x hx => by obtain ⟨y, _, rfl⟩ := List.mem_map.1 hx; exact y.toNat_lt, fun h0 => ?_⟩
    obtain ⟨b, off, e, hc⟩ := h.cells h0
    refine ⟨b, off, e, fun i hi => ?_⟩
    have hi2 : i < l.length := by rw [h.len]; exact hi
    have := hc i l[i] (List.getElem?_eq_getElem hi2)
    rw [this]
    simp [List.getD_eq_getElem?_getD, hi2]
  have q := r.string
  have e2 : str (l.map (·.toNat)) = ofL l := by
    unfold str ofL
    rw [bytes_back]
  rw [e2] at q
  exact q
set_option maxRecDepth 100000 in
set_option maxHeartbeats 4000000 in
theorem hSameC {w : World} {kind a b : Int} {key : ByteArray} {va va' la la' : Option Addr} {vn vc vn' vc' ln lc lc' : Nat} {val : List UInt8} {zs : List Int} (V1 : BRd w va vn vc val) (V2 : BRd w va' vn' vc' val) (L1 : IRd w la ln lc zs) (L2 : IRd w la' ln lc' zs) : Calls Tryd.prog 37 #[.agg #[.int .i64 kind, .int .i64 a, .int .i64 b, .string key, .slice va vn vc, .slice la ln lc], .agg #[.int .i64 kind, .int .i64 a, .int .i64 b, .string key, .slice va' vn' vc', .slice la' ln lc']] w fun o w' => o = .returned (.bool true) ∧ Kept (fun _ => False) w w' := by
  have hn : ln ≤ 9223372036854775807 := by have h1 := L1.room; have h2 := L1.small; unfold maxLen at h2; omega
  obtain ⟨W, hW⟩ : ∃ W, (w.alloc (.cells #[.int .i64 kind, .int .i64 a, .int .i64 b, .string key, .slice va vn vc, .slice la ln lc] 38)).alloc (.cells #[.int .i64 kind, .int .i64 a, .int .i64 b, .string key, .slice va' vn' vc', .slice la' ln lc'] 38) = W := ⟨_, rfl⟩
  have K : Kept (fun _ => False) w W := by rw [← hW]; exact ((Kept.refl _ _).alloc _).alloc _
  have S : Hid (W.heap[w.heap.size]? = some (.cells #[.int .i64 kind, .int .i64 a, .int .i64 b, .string key, .slice va vn vc, .slice la ln lc] 38 (0, 0)) ∧ W.heap[w.heap.size + 1]? = some (.cells #[.int .i64 kind, .int .i64 a, .int .i64 b, .string key, .slice va' vn' vc', .slice la' ln lc'] 38 (0, 0)) ∧ Kept (fun _ => False) w W ∧ IRd W la ln lc zs ∧ IRd W la' ln lc' zs) := by
    refine ⟨?_, ?_, K, L1.kept K, L2.kept K⟩
    · rw [← hW]
      exact alloc_old _ (alloc_new _ _)
    · rw [← hW]
      exact alloc_new2 _ _ _ _
  have cv1 := (V1.keep K (fun _ _ z => z)).string
  have cv2 := (V2.keep K (fun _ _ z => z)).string
  have HW : Hid ((w.alloc (.cells #[.int .i64 kind, .int .i64 a, .int .i64 b, .string key, .slice va vn vc, .slice la ln lc] 38)).alloc (.cells #[.int .i64 kind, .int .i64 a, .int .i64 b, .string key, .slice va' vn' vc', .slice la' ln lc'] 38) = W) := hW
  clear hW K V1 V2 L1 L2
  go_enter Tryd.func37, Tryd.ntmps37
  go_upto_region 1 with fail
  rw [HW.out]
  clear HW
  have a0 := cell_blk S.out.1 0 (v := .int .i64 kind) rfl
  have a1 := cell_blk S.out.1 1 (v := .int .i64 a) rfl
  have a2 := cell_blk S.out.1 2 (v := .int .i64 b) rfl
  have a3 := cell_blk S.out.1 3 (v := .string key) rfl
  have a4 := cell_blk S.out.1 4 (v := .slice va vn vc) rfl
  have a5 := cell_blk S.out.1 5 (v := .slice la ln lc) rfl
  have b0 := cell_blk S.out.2.1 0 (v := .int .i64 kind) rfl
  have b1 := cell_blk S.out.2.1 1 (v := .int .i64 a) rfl
  have b2 := cell_blk S.out.2.1 2 (v := .int .i64 b) rfl
  have b3 := cell_blk S.out.2.1 3 (v := .string key) rfl
  have b4 := cell_blk S.out.2.1 4 (v := .slice va' vn' vc') rfl
  have b5 := cell_blk S.out.2.1 5 (v := .slice la' ln lc') rfl
  go_upto_region 4 with fail
  clear cv1 cv2 a0 a1 a2 a3 a4 b0 b1 b2 b3 b4
  go_loopw [5] (fun u5 wr => ∃ i : Nat, u5 = .int .i64 (i : Int) ∧ i ≤ ln ∧ Hid (Kept (fun _ => False) W wr)) (fun u5 _ => ln - (intOf u5).toNat)
  case atStart => exact ⟨0, rfl, Nat.zero_le _, Kept.refl _ _⟩
  case round =>
    clear a5 b5
    obtain ⟨i, rfl, hi, S2⟩ := hrel
    obtain ⟨wo, hwo⟩ : ∃ wo, wo = wr := ⟨_, rfl⟩
    rw [← hwo] at S2 ⊢
    clear hwo
    have a5 := S2.out.cell (cell_blk S.out.1 5 (v := .slice la ln lc) rfl) (fun z => z)
    have b5 := S2.out.cell (cell_blk S.out.2.1 5 (v := .slice la' ln lc') rfl) (fun z => z)
    by_cases hlt : i < ln
    · have i1 : (i : Int) < (ln : Int) := by omega
      obtain ⟨z, hz⟩ : ∃ z, zs[i]? = some z := ⟨_, List.getElem?_eq_getElem (by rw [S.out.2.2.2.1.len]; exact hlt)⟩
      obtain ⟨p1, o1, rfl, h1⟩ := S.out.2.2.2.1.cells (by omega)
      obtain ⟨p2, o2, rfl, h2⟩ := S.out.2.2.2.2.cells (by omega)
      have z1 := S2.out.cell (h1 i z hz) (fun z => z)
      have z2 := S2.out.cell (h2 i z hz) (fun z => z)
      clear h1 h2 hz
      go_upto_region 6 with fail
      go_quiet (fail)
      go_wp2_with fail
      go_roundw
      case rel => exact ⟨i + 1, by go_num, by omega, S2.out.drewN _⟩
      case measure => simp [intOf] <;> omega
    · have i1 : ¬ (i : Int) < (ln : Int) := by omega
      go_wp2_with fail
      go_ret
      exact ⟨by first | rfl | simp, S.out.2.2.1.trans S2.out (fun _ _ z => z)⟩
/-- same, where they are. -/
theorem hSame {w : World} {x y : Sm} {s : St} (X : SRd w x s) (Y : SRd w y s) : Calls Tryd.prog 37 #[.agg x.cs, .agg y.cs] w fun o w' => o = .returned (.bool true) ∧ Kept (fun _ => False) w w' := by
  obtain ⟨kind, a, b, key, va, vn, vc, la, ln, lc⟩ := x
  obtain ⟨kind', a', b', key', va', vn', vc', la', ln', lc'⟩ := y
  obtain rfl : kind = kind' := X.kind.trans Y.kind.symm
  obtain rfl : a = a' := X.a.trans Y.a.symm
  obtain rfl : b = b' := X.b.trans Y.b.symm
  obtain rfl : key = key' := X.key.trans Y.key.symm
  obtain rfl : ln = ln' := X.l.len.symm.trans Y.l.len
  exact hSameC X.v Y.v X.l Y.l
end Go.Proofs.YtonfefhegghapaaDoor

namespace Go.Proofs.YtonfefhegghapaaDoor
open Go.RowKit 

theorem SLs.at {w : World} {p : Option Addr} {k c : Nat} {L : List Sm} {ss : List St} (h : SLs w p k c L ss) {i : Nat} (hi : i < k) : ∃ b off x s, p = some ⟨b, off, none⟩ ∧ ss[i]? = some s ∧ SRd w x s ∧ KI s.kind ∧ ∀ (j : Nat) (v : Value), x.cs[j]? = some v → w.cell? ⟨b, off + i * 6 + j, none⟩ = some v := by
  obtain ⟨b, off, e, hc⟩ := h.cells (by omega)
  have hi2 : i < L.length := by rw [h.len]; exact hi
  have hi3 : i < ss.length := by rw [h.slen]; exact hi
  have r := h.rd i L[i] ss[i] (List.getElem?_eq_getElem hi2) (List.getElem?_eq_getElem hi3)
  exact ⟨b, off, L[i], ss[i], e, List.getElem?_eq_getElem hi3, r.1, r.2, hc i hi2⟩
set_option maxRecDepth 100000 in
set_option maxHeartbeats 4000000 in
/-- sames, where they are. -/
theorem hSames {w : World} {p p' : Option Addr} {k c c' : Nat} {L L' : List Sm} {ss : List St} (X : SLs w p k c L ss) (Y : SLs w p' k c' L' ss) : Calls Tryd.prog 15 #[.slice p k c, .slice p' k c'] w fun o w' => o = .returned (.bool true) ∧ Kept (fun _ => False) w w' := by
  have hk : k ≤ 9223372036854775807 := by have h1 := X.room; have h2 := X.small; unfold maxLen at h2; omega
  have H : Hid (SLs w p k c L ss ∧ SLs w p' k c' L' ss) := ⟨X, Y⟩
  clear X Y
  go_enter Tryd.func15, Tryd.ntmps15
  go_upto_region 4 with fail
  go_loopw [5] (fun u5 wr => ∃ i : Nat, u5 = .int .i64 (i : Int) ∧ i ≤ k ∧ Hid (Kept (fun _ => False) w wr)) (fun u5 _ => k - (intOf u5).toNat)
  case atStart => exact ⟨0, rfl, Nat.zero_le _, Kept.refl _ _⟩
  case round =>
    obtain ⟨i, rfl, hi, S2⟩ := hrel
    obtain ⟨wo, hwo⟩ : ∃ wo, wo = wr := ⟨_, rfl⟩
    rw [← hwo] at S2 ⊢
    clear hwo
    by_cases hlt : i < k
    · have i1 : (i : Int) < (k : Int) := by omega
      obtain ⟨pb, po, x, s, rfl, hs, X1, ks, hx⟩ := (H.out.1.kept S2.out).at hlt
      obtain ⟨qb, qo, y, t, rfl, ht, Y1, kt, hy⟩ := (H.out.2.kept S2.out).at hlt
      have e : s = t := by rw [hs] at ht; simpa using ht
      subst e
      have HX : Hid (SRd wo x s ∧ SRd wo y s) := ⟨X1, Y1⟩
      clear X1 Y1 ks kt hs ht
      go_upto_region 6 with fail
      have C0 : Hid (∀ V, Kept (fun _ => False) wo V → Calls Tryd.prog 37 #[.agg x.cs, .agg y.cs] V fun o w' => o = .returned (.bool true) ∧ Kept (fun _ => False) V w') := fun V K => hSame (HX.out.1.kept K) (HX.out.2.kept K)
      obtain ⟨kind, a, b, key, va, vn, vc, la, ln, lc⟩ := x
      obtain ⟨kind', a', b', key', va', vn', vc', la', ln', lc'⟩ := y
      have C : Hid (∀ V, Kept (fun _ => False) wo V → Calls Tryd.prog 37 #[.agg #[.int .i64 kind, .int .i64 a, .int .i64 b, .string key, .slice va vn vc, .slice la ln lc], .agg #[.int .i64 kind', .int .i64 a', .int .i64 b', .string key', .slice va' vn' vc', .slice la' ln' lc']] V fun o w' => o = .returned (.bool true) ∧ Kept (fun _ => False) V w') := C0
      clear C0
      have MK : Hid (∀ V, Kept (fun _ => False) wo V → (V.cell? ⟨pb, po + i * 6, none⟩ = some (.int .i64 kind) ∧ V.cell? ⟨pb, po + i * 6 + 1, none⟩ = some (.int .i64 a) ∧ V.cell? ⟨pb, po + i * 6 + 2, none⟩ = some (.int .i64 b) ∧ V.cell? ⟨pb, po + i * 6 + 3, none⟩ = some (.string key) ∧ V.cell? ⟨pb, po + i * 6 + 4, none⟩ = some (.slice va vn vc) ∧ V.cell? ⟨pb, po + i * 6 + 5, none⟩ = some (.slice la ln lc) ∧ V.cell? ⟨qb, qo + i * 6, none⟩ = some (.int .i64 kind') ∧ V.cell? ⟨qb, qo + i * 6 + 1, none⟩ = some (.int .i64 a') ∧ V.cell? ⟨qb, qo + i * 6 + 2, none⟩ = some (.int .i64 b') ∧ V.cell? ⟨qb, qo + i * 6 + 3, none⟩ = some (.string key') ∧ V.cell? ⟨qb, qo + i * 6 + 4, none⟩ = some (.slice va' vn' vc') ∧ V.cell? ⟨qb, qo + i * 6 + 5, none⟩ = some (.slice la' ln' lc'))) := fun V K => ⟨K.cell (hx 0 _ rfl) (fun z => z), K.cell (hx 1 _ rfl) (fun z => z), K.cell (hx 2 _ rfl) (fun z => z), K.cell (hx 3 _ rfl) (fun z => z), K.cell (hx 4 _ rfl) (fun z => z), K.cell (hx 5 _ rfl) (fun z => z), K.cell (hy 0 _ rfl) (fun z => z), K.cell (hy 1 _ rfl) (fun z => z), K.cell (hy 2 _ rfl) (fun z => z), K.cell (hy 3 _ rfl) (fun z => z), K.cell (hy 4 _ rfl) (fun z => z), K.cell (hy 5 _ rfl) (fun z => z)⟩
      clear hx hy
      have KD : Hid (Kept (fun _ => False) wo wo.drew) := (Kept.refl _ _).drew
      refine wp_region_held_drew (S := (fun V => V.cell? ⟨pb, po + i * 6, none⟩ = some (.int .i64 kind) ∧ V.cell? ⟨pb, po + i * 6 + 1, none⟩ = some (.int .i64 a) ∧ V.cell? ⟨pb, po + i * 6 + 2, none⟩ = some (.int .i64 b) ∧ V.cell? ⟨pb, po + i * 6 + 3, none⟩ = some (.string key) ∧ V.cell? ⟨pb, po + i * 6 + 4, none⟩ = some (.slice va vn vc) ∧ V.cell? ⟨pb, po + i * 6 + 5, none⟩ = some (.slice la ln lc) ∧ V.cell? ⟨qb, qo + i * 6, none⟩ = some (.int .i64 kind') ∧ V.cell? ⟨qb, qo + i * 6 + 1, none⟩ = some (.int .i64 a') ∧ V.cell? ⟨qb, qo + i * 6 + 2, none⟩ = some (.int .i64 b') ∧ V.cell? ⟨qb, qo + i * 6 + 3, none⟩ = some (.string key') ∧ V.cell? ⟨qb, qo + i * 6 + 4, none⟩ = some (.slice va' vn' vc') ∧ V.cell? ⟨qb, qo + i * 6 + 5, none⟩ = some (.slice la' ln' lc'))) (by kernel_rfl) ?_ (fun hHeld => ?_)
      · exact MK.out _ KD.out
      refine wpAnyH_take (i := 0) (oi := { dst := some 17, op := Op.move (Operand.tmp 0), type := 30, pos := "law.go:62", after := #[], guard := none }) (v := .slice (some ⟨pb, po, none⟩) k c) rfl (by kernel_rfl) (by kernel_rfl) (by kernel_rfl) (fun _ _ _ h => h) (Or.inl ⟨by rfl, ?_⟩) (by assumption) ?_
      · intro w9 hSw
        (try dsimp only at hSw)
        go_simp
      (try simp only [Act.put, List.setIfInBounds_toArray, List.set_cons_zero, List.set_cons_succ])
      refine wpAnyH_take (i := 1) (oi := { dst := some 18, op := Op.move (Operand.tmp 5), type := 3, pos := "law.go:62", after := #[], guard := none }) (v := .int .i64 (i : Int)) rfl (by kernel_rfl) (by kernel_rfl) (by kernel_rfl) (fun _ _ _ h => h) (Or.inl ⟨by rfl, ?_⟩) (by assumption) ?_
      · intro w9 hSw
        (try dsimp only at hSw)
        go_simp
      (try simp only [Act.put, List.setIfInBounds_toArray, List.set_cons_zero, List.set_cons_succ])
      refine wpAnyH_take (i := 2) (oi := { dst := some 19, op := Op.indexAddr 30 (Operand.tmp 17) (Operand.tmp 18), type := 0, pos := "law.go:62", after := #[{ on := 0, ground := Ground.data }, { on := 1, ground := Ground.data }], guard := none }) (v := .pointer (some ⟨pb, po + i * 6, none⟩)) rfl (by kernel_rfl) (by kernel_rfl) (by kernel_rfl) (fun _ _ _ h => h) (Or.inl ⟨by rfl, ?_⟩) (by assumption) ?_
      · intro w9 hSw
        (try dsimp only at hSw)
        go_simp
      (try simp only [Act.put, List.setIfInBounds_toArray, List.set_cons_zero, List.set_cons_succ])
      refine wpAnyH_take (i := 3) (oi := { dst := some 20, op := Op.load 38 (Operand.tmp 19), type := 38, pos := "law.go:62", after := #[{ on := 2, ground := Ground.data }], guard := none }) (v := .agg #[.int .i64 kind, .int .i64 a, .int .i64 b, .string key, .slice va vn vc, .slice la ln lc]) rfl (by kernel_rfl) (by kernel_rfl) (by kernel_rfl) (fun _ _ _ h => h) (Or.inl ⟨by rfl, ?_⟩) (by assumption) ?_
      · intro w9 hSw
        (try dsimp only at hSw)
        go_simp
      (try simp only [Act.put, List.setIfInBounds_toArray, List.set_cons_zero, List.set_cons_succ])
      refine wpAnyH_take (i := 4) (oi := { dst := some 21, op := Op.move (Operand.tmp 1), type := 30, pos := "law.go:62", after := #[], guard := none }) (v := .slice (some ⟨qb, qo, none⟩) k c') rfl (by kernel_rfl) (by kernel_rfl) (by kernel_rfl) (fun _ _ _ h => h) (Or.inl ⟨by rfl, ?_⟩) (by assumption) ?_
      · intro w9 hSw
        (try dsimp only at hSw)
        go_simp
      (try simp only [Act.put, List.setIfInBounds_toArray, List.set_cons_zero, List.set_cons_succ])
      refine wpAnyH_take (i := 5) (oi := { dst := some 22, op := Op.move (Operand.tmp 5), type := 3, pos := "law.go:62", after := #[], guard := none }) (v := .int .i64 (i : Int)) rfl (by kernel_rfl) (by kernel_rfl) (by kernel_rfl) (fun _ _ _ h => h) (Or.inl ⟨by rfl, ?_⟩) (by assumption) ?_
      · intro w9 hSw
        (try dsimp only at hSw)
        go_simp
      (try simp only [Act.put, List.setIfInBounds_toArray, List.set_cons_zero, List.set_cons_succ])
      refine wpAnyH_take (i := 6) (oi := { dst := some 23, op := Op.indexAddr 30 (Operand.tmp 21) (Operand.tmp 22), type := 0, pos := "law.go:62", after := #[{ on := 4, ground := Ground.data }, { on := 5, ground := Ground.data }], guard := none }) (v := .pointer (some ⟨qb, qo + i * 6, none⟩)) rfl (by kernel_rfl) (by kernel_rfl) (by kernel_rfl) (fun _ _ _ h => h) (Or.inl ⟨by rfl, ?_⟩) (by assumption) ?_
      · intro w9 hSw
        (try dsimp only at hSw)
        go_simp
      (try simp only [Act.put, List.setIfInBounds_toArray, List.set_cons_zero, List.set_cons_succ])
      refine wpAnyH_take (i := 7) (oi := { dst := some 24, op := Op.load 38 (Operand.tmp 23), type := 38, pos := "law.go:62", after := #[{ on := 6, ground := Ground.data }], guard := none }) (v := .agg #[.int .i64 kind', .int .i64 a', .int .i64 b', .string key', .slice va' vn' vc', .slice la' ln' lc']) rfl (by kernel_rfl) (by kernel_rfl) (by kernel_rfl) (fun _ _ _ h => h) (Or.inl ⟨by rfl, ?_⟩) (by assumption) ?_
      · intro w9 hSw
        (try dsimp only at hSw)
        go_simp
      (try simp only [Act.put, List.setIfInBounds_toArray, List.set_cons_zero, List.set_cons_succ])
      refine wpAnyH_ready (rs := [8]) (by kernel_rfl) (by simp) ?_
      refine (AllReadyH.cons (o := { dst := some 25, op := Op.call { callee := Callee.value (Operand.func 37), args := #[Operand.tmp 20, Operand.tmp 24], argTypes := #[38, 38] }, type := 4, pos := "law.go:62", after := #[{ on := 3, ground := Ground.data }, { on := 7, ground := Ground.data }], guard := none }) rfl (fun K hK => ?_) AllReadyH.nil)
      go_simp
      refine (C.out _ KD.out).mono ?_
      rintro o w6 ⟨rfl, K6⟩
      have K7 : Hid (Kept (fun _ => False) wo w6) := KD.out.trans K6 (fun _ _ z => z)
      refine hK.out _ _ ?_ (fun hHeld => ?_)
      · exact MK.out _ K7.out
      clear hK K K6
      (try simp only [Act.put, List.setIfInBounds_toArray, List.set_cons_zero, List.set_cons_succ])
      refine wpAnyH_take (i := 9) (oi := { dst := some 26, op := Op.unOp UnOp.not 4 (Operand.tmp 25), type := 4, pos := "law.go:62", after := #[{ on := 8, ground := Ground.data }], guard := none }) (v := .bool false) rfl (by kernel_rfl) (by kernel_rfl) (by kernel_rfl) (fun _ _ _ h => h) (Or.inl ⟨by rfl, ?_⟩) (by assumption) ?_
      · intro w9 hSw
        (try dsimp only at hSw)
        go_simp
      (try simp only [Act.put, List.setIfInBounds_toArray, List.set_cons_zero, List.set_cons_succ])
      refine wpAnyH_done (by kernel_rfl) ?_ _
      clear hHeld
      go_wp2_with fail
      go_roundw
      case rel => exact ⟨i + 1, by go_num, by omega, S2.out.trans K7.out (fun _ _ z => z)⟩
      case measure => simp [intOf] <;> omega
    · have i1 : ¬ (i : Int) < (k : Int) := by omega
      go_wp2_with fail
      go_ret
      exact ⟨by first | rfl | simp, S2.out⟩
end Go.Proofs.YtonfefhegghapaaDoor
