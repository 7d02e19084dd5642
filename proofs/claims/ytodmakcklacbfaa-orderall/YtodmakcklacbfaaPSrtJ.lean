import Derived.Test.YtodmakcklacbfaaPByJ
import Derived.Shelf.SlGeneric
import Derived.Shelf.SlLaysF
import Derived.Test.YtodmakcklacbfaaProg
import Derived.Shelf.SlSortCmp.Kit1
namespace Go.Proofs.Ytodmakcklacbfaa
open Go.RowKit Go.Sort

theorem Grown.refl (w : World) : Grown w w := ⟨0, #[], by unfold grow; simp [World.drewN]⟩
theorem Grown.trans {a b c : World} (h : Grown a b) (k : Grown b c) : Grown a c := by
  obtain ⟨q, os, rfl⟩ := h
  obtain ⟨q2, os2, rfl⟩ := k
  exact ⟨q + q2, os ++ os2, by
    unfold grow World.drewN
    simp [Array.append_assoc, Nat.add_assoc]⟩
theorem Grown.drew {a b : World} (h : Grown a b) : Grown a b.drew := h.trans ⟨1, #[], by unfold grow; simp [World.drewN]; rfl⟩
theorem Grown.drewN {a b : World} (h : Grown a b) (n : Nat) : Grown a (b.drewN n) := h.trans ⟨n, #[], by unfold grow; simp [World.drewN]⟩
theorem Grown.alloc {a b : World} (h : Grown a b) (o : Obj) : Grown a (b.alloc o) := h.trans ⟨0, #[o], by rw [alloc_eq_grow]; rfl⟩
/-- By their tags. -/
def byTagI (i j : Nat) (a b : Cm) : Int := kOrI (kTcmp a.tx a.ty b.tx b.ty) (byFromI i j a.frm b.frm)
set_option maxRecDepth 100000 in
set_option maxHeartbeats 4000000 in
theorem oByTag {w : World} {p : Option Addr} {n c : Nat} {ms : List Cm} (h : CRd w p n c ms) {CB FB : Nat} (c1 : w.cell? ⟨CB, 0, none⟩ = some (.slice p n c)) (c2 : w.cell? ⟨FB, 0, none⟩ = some (.func (.func 29) #[] #[.pointer (some ⟨CB, 0, none⟩)])) {i j : Nat} {mi mj : Cm} (hi : ms[i]? = some mi) (hj : ms[j]? = some mj) :
    Calls Try.prog 32 #[.int .i64 (i : Int), .int .i64 (j : Int), .pointer (some ⟨CB, 0, none⟩), .pointer (some ⟨FB, 0, none⟩)] w fun x w' => x = .returned (.int .i64 (byTagI i j mi mj)) ∧ Grown w w' := by
  obtain ⟨f, hf⟩ : ∃ f, f = byFromI i j mi.frm mj.frm := ⟨_, rfl⟩
  unfold byTagI
  rw [← hf]
  have CF : Hid (∀ V, Grown w V → Calls Try.prog 29 #[.int .i64 (i : Int), .int .i64 (j : Int), .pointer (some ⟨CB, 0, none⟩)] V fun x w' => x = .returned (.int .i64 f) ∧ Grown V w') := fun V G => by
    rw [hf]
    exact oByFrom (h.k0 G.kept) (G.kept.cell c1 (fun z => z)) hi hj
  have hin : i < n := by rw [← h.len]; exact (List.getElem?_eq_some_iff.1 hi).1
  have hjn : j < n := by rw [← h.len]; exact (List.getElem?_eq_some_iff.1 hj).1
  have rm := h.room
  have sm := h.small
  unfold maxLen at sm
  obtain ⟨b, off, m2, rfl, hm2, _, _, _, _, _, _, _, _, _, d1, d2, _⟩ := h.at hin
  obtain ⟨b', off', m3, e3, hm3, _, _, _, _, _, _, _, _, _, d3, d4, _⟩ := h.at hjn
  cases e3
  rw [hi] at hm2
  have hm2 := Option.some.inj hm2
  subst hm2
  rw [hj] at hm3
  have hm3 := Option.some.inj hm3
  subst hm3
  have i1 : (i : Int) < (n : Int) := by omega
  have i0 : (0 : Int) ≤ (i : Int) := by omega
  have j1 : (j : Int) < (n : Int) := by omega
  have j0 : (0 : Int) ≤ (j : Int) := by omega
  obtain ⟨x1, hx1⟩ : ∃ x, x = mi.tx := ⟨_, rfl⟩
  obtain ⟨x2, hx2⟩ : ∃ x, x = mi.ty := ⟨_, rfl⟩
  obtain ⟨y1, hy1⟩ : ∃ x, x = mj.tx := ⟨_, rfl⟩
  obtain ⟨y2, hy2⟩ : ∃ x, x = mj.ty := ⟨_, rfl⟩
  rw [← hx1] at d1 ⊢
  rw [← hx2] at d2 ⊢
  rw [← hy1] at d3 ⊢
  rw [← hy2] at d4 ⊢
  have KC : Hid (∀ V, Grown w V → V.cell? ⟨CB, 0, none⟩ = some (.slice (some ⟨b, off, none⟩) n c) ∧ V.cell? ⟨FB, 0, none⟩ = some (.func (.func 29) #[] #[.pointer (some ⟨CB, 0, none⟩)]) ∧ V.cell? ⟨b, off + i * 11 + 9, none⟩ = some (.int .i64 x1) ∧ V.cell? ⟨b, off + i * 11 + 10, none⟩ = some (.int .i64 x2) ∧ V.cell? ⟨b, off + j * 11 + 9, none⟩ = some (.int .i64 y1) ∧ V.cell? ⟨b, off + j * 11 + 10, none⟩ = some (.int .i64 y2)) := fun V G => ⟨G.kept.cell c1 (fun z => z), G.kept.cell c2 (fun z => z), G.kept.cell d1 (fun z => z), G.kept.cell d2 (fun z => z), G.kept.cell d3 (fun z => z), G.kept.cell d4 (fun z => z)⟩
  have GR : Hid (Grown w w.drew) := (Grown.refl w).drew
  clear h hi hj hx1 hx2 hy1 hy2 hf
  go_enter Try.func32, Try.ntmps32
  go_wp2_with fail
  go_region_held3 (fun w' => w'.cell? ⟨CB, 0, none⟩ = some (.slice (some ⟨b, off, none⟩) n c) ∧ w'.cell? ⟨FB, 0, none⟩ = some (.func (.func 29) #[] #[.pointer (some ⟨CB, 0, none⟩)]) ∧ w'.cell? ⟨b, off + i * 11 + 9, none⟩ = some (.int .i64 x1) ∧ w'.cell? ⟨b, off + i * 11 + 10, none⟩ = some (.int .i64 x2) ∧ w'.cell? ⟨b, off + j * 11 + 9, none⟩ = some (.int .i64 y1) ∧ w'.cell? ⟨b, off + j * 11 + 10, none⟩ = some (.int .i64 y2))
    (first | go_keep | exact KC.out _ G1.out | exact KC.out _ G2.out) (first | (go_at_call 13; refine (kCompareGrow _ _ _ _ _).mono ?_; rintro x w2 ⟨rfl, G⟩; have G1 : Hid (Grown w w2) := GR.out.trans G; clear G) | (go_at_call 29; refine (CF.out _ G1.out).mono ?_; rintro x w3 ⟨rfl, G⟩; have G2 : Hid (Grown w w3) := G1.out.trans G; clear G) | (go_at_call 30; refine (kOr2 (kTcmp x1 x2 y1 y2) f _ _ _ (by simp) (by simp)).mono ?_; rintro x w4 ⟨rfl, rfl⟩) | fail)
  go_wp2_with fail
  go_ret
  exact ⟨rfl, G2.out.alloc _⟩
end Go.Proofs.Ytodmakcklacbfaa

namespace Go.Proofs
open Go.Shelf
def Try.sortI_ren : Go.Shelf.Ren := ⟨fun | 6 => 62 | 15 => 86 | 14 => 85 | 28 => 100 | 29 => 101 | 20 => 92 | 21 => 93 | 22 => 94 | 23 => 95 | 24 => 96 | 25 => 97 | 26 => 98 | 27 => 99 | 46 => 106 | 47 => 107 | 48 => 108 | 49 => 109 | 50 => 110 | 57 => 114 | n => n, fun | 22 => 22 | 24 => 3 | 25 => 41 | 3 => 3 | 39 => 97 | 0 => 0 | 53 => 84 | 55 => 109 | 4 => 4 | 46 => 102 | 45 => 101 | 50 => 79 | 5 => 5 | 9 => 9 | 66 => 115 | 70 => 119 | 76 => 122 | 77 => 123 | n => n, fun | n => n⟩
set_option maxRecDepth 100000 in
theorem Try.sortI : Go.Proofs.SlLaysF.n6 Try.prog Try.sortI_ren := {
  mixed := by kernel_rfl
  f6 := ⟨Try.f62.name, by decide, Try.func62.trans (congrArg some (by kernel_rfl))⟩
  f14 := ⟨Try.f85.name, by decide, Try.func85.trans (congrArg some (by kernel_rfl))⟩
  f15 := Try.func86.trans (congrArg some (by kernel_rfl))
  f20 := ⟨Try.f92.name, by decide, Try.func92.trans (congrArg some (by kernel_rfl))⟩
  f21 := ⟨Try.f93.name, by decide, Try.func93.trans (congrArg some (by kernel_rfl))⟩
  f22 := ⟨Try.f94.name, by decide, Try.func94.trans (congrArg some (by kernel_rfl))⟩
  f23 := ⟨Try.f95.name, by decide, Try.func95.trans (congrArg some (by kernel_rfl))⟩
  f24 := ⟨Try.f96.name, by decide, Try.func96.trans (congrArg some (by kernel_rfl))⟩
  f25 := ⟨Try.f97.name, by decide, Try.func97.trans (congrArg some (by kernel_rfl))⟩
  f26 := ⟨Try.f98.name, by decide, Try.func98.trans (congrArg some (by kernel_rfl))⟩
  f27 := ⟨Try.f99.name, by decide, Try.func99.trans (congrArg some (by kernel_rfl))⟩
  f28 := Try.func100.trans (congrArg some (by kernel_rfl))
  f29 := Try.func101.trans (congrArg some (by kernel_rfl))
  f46 := ⟨Try.f106.name, by decide, Try.func106.trans (congrArg some (by kernel_rfl))⟩
  f47 := Try.func107.trans (congrArg some (by kernel_rfl))
  f48 := Try.func108.trans (congrArg some (by kernel_rfl))
  f49 := ⟨Try.f109.name, by decide, Try.func109.trans (congrArg some (by kernel_rfl))⟩
  f50 := ⟨Try.f110.name, by decide, Try.func110.trans (congrArg some (by kernel_rfl))⟩
  f57 := ⟨Try.f114.name, by decide, Try.func114.trans (congrArg some (by kernel_rfl))⟩
  t0 := Try.underlying0
  a0 := Try.isAgg0
  z0 := Try.sizeOf0
  v0 := Try.zeroValue0
  t3 := Try.underlying3
  a3 := Try.isAgg3
  z3 := Try.sizeOf3
  v3 := Try.zeroValue3
  t4 := Try.underlying4
  a4 := Try.isAgg4
  z4 := Try.sizeOf4
  v4 := Try.zeroValue4
  t5 := Try.underlying5
  a5 := Try.isAgg5
  z5 := Try.sizeOf5
  v5 := Try.zeroValue5
  t9 := Try.underlying9
  a9 := Try.isAgg9
  z9 := Try.sizeOf9
  v9 := Try.zeroValue9
  t22 := Try.underlying22
  a22 := Try.isAgg22
  z22 := Try.sizeOf22
  v22 := Try.zeroValue22
  a24 := Try.isAgg3
  z24 := Try.sizeOf3
  t25 := Try.underlying41
  a25 := Try.isAgg41
  z25 := Try.sizeOf41
  v25 := Try.zeroValue41
  t39 := Try.underlying97
  a39 := Try.isAgg97
  z39 := Try.sizeOf97
  v39 := Try.zeroValue97
  t45 := Try.underlying101
  a45 := Try.isAgg101
  z45 := Try.sizeOf101
  v45 := Try.zeroValue101
  t46 := Try.underlying102
  a46 := Try.isAgg102
  z46 := Try.sizeOf102
  v46 := Try.zeroValue102
  t50 := Try.underlying79
  a50 := Try.isAgg79
  z50 := Try.sizeOf79
  v50 := Try.zeroValue79
  t53 := Try.underlying84
  a53 := Try.isAgg84
  z53 := Try.sizeOf84
  v53 := Try.zeroValue84
  t55 := Try.underlying109
  a55 := Try.isAgg109
  z55 := Try.sizeOf109
  v55 := Try.zeroValue109
  t66 := Try.underlying115
  a66 := Try.isAgg115
  z66 := Try.sizeOf115
  v66 := Try.zeroValue115
  t70 := Try.underlying119
  a70 := Try.isAgg119
  z70 := Try.sizeOf119
  v70 := Try.zeroValue119
  t76 := Try.underlying122
  a76 := Try.isAgg122
  z76 := Try.sizeOf122
  v76 := Try.zeroValue122
  t77 := Try.underlying123
  a77 := Try.isAgg123
  z77 := Try.sizeOf123
  v77 := Try.zeroValue123 }
end Go.Proofs

namespace Go.Proofs.Ytodmakcklacbfaa
open Go.RowKit Go.Shelf Go.Lib Go.Sort

/-- A number of a call. -/
def encF {n : Nat} (i : Fin n) : Value := .int .i64 ((i.val : Nat) : Int)
theorem sort_kept {α : Type} [Inhabited α] (enc : α → Value) (w : World) (blk off m : Nat) (dk : Array α) (os : Array Obj) : Kept (fun k => k = blk) w (sortWorld enc w blk off m dk os) := by
  refine ⟨rfl, rfl, rfl, ?_, fun k hk hne => ?_⟩
  · unfold sortWorld putRow mapBlock grow
    simp
  · unfold sortWorld putRow mapBlock grow
    simp only [heap_ahead]
    rw [Array.getElem?_append_left (by rw [Array.size_modify]; exact hk), Array.getElem?_modify, if_neg (fun e => hne e.symm)]
theorem sort_heap {α : Type} [Inhabited α] (enc : α → Value) (w : World) (blk off m : Nat) (dk : Array α) (os : Array Obj) {cur : Array Value} {t : TypeId} (hg : w.heap[blk]? = some (.cells cur t (0, 0))) : (sortWorld enc w blk off m dk os).heap[blk]? = some (.cells (putCells enc off dk cur) t (0, 0)) := by
  have hlt := block_lt hg
  unfold sortWorld putRow mapBlock grow
  simp only [heap_ahead]
  rw [Array.getElem?_append_left (by rw [Array.size_modify]; exact hlt), Array.getElem?_modify, if_pos rfl, hg]
  rfl
theorem kor_lt {a b r : Int} : kOrI (kIcmp a b) r < 0 ↔ a < b ∨ (a = b ∧ r < 0) := by
  unfold kOrI kIcmp
  by_cases h : a < b
  · simp [h]
  · by_cases h2 : b < a
    · simp [h, h2]; omega
    · have : a = b := by omega
      subst this
      simp
theorem kicmp_lt {a b : Int} : kIcmp a b < 0 ↔ a < b := by
  unfold kIcmp
  by_cases h : a < b
  · simp [h]
  · by_cases h2 : b < a
    · simp [h, h2]
    · simp [h, h2]
theorem kor2_lt {a b c d r : Int} : kOrI (kTcmp a b c d) r < 0 ↔ a < c ∨ (a = c ∧ (b < d ∨ (b = d ∧ r < 0))) := by
  have e : kOrI (kTcmp a b c d) r = kOrI (kIcmp a c) (kOrI (kIcmp b d) r) := by
    unfold kTcmp kOrI
    by_cases h : kIcmp a c = 0
    · simp [h]
    · simp [h]
  rw [e, kor_lt, kor_lt]
/-- By their beginnings, as the calls stand. -/
def FromLt (ms : List Cm) (i j : Nat) : Prop := ∀ a b, ms[i]? = some a → ms[j]? = some b → a.frm < b.frm ∨ (a.frm = b.frm ∧ i < j)
def TagLt (ms : List Cm) (i j : Nat) : Prop := ∀ a b, ms[i]? = some a → ms[j]? = some b → a.tx < b.tx ∨ (a.tx = b.tx ∧ (a.ty < b.ty ∨ (a.ty = b.ty ∧ (a.frm < b.frm ∨ (a.frm = b.frm ∧ i < j)))))
def cfF (ms : List Cm) (x y : Fin ms.length) : Int := byFromI x y (ms[x]).frm (ms[y]).frm
def cfT (ms : List Cm) (x y : Fin ms.length) : Int := byTagI x y (ms[x]) (ms[y])
theorem cfF_lt {ms : List Cm} (x y : Fin ms.length) : ltOf (cfF ms) x y = true ↔ FromLt ms x y := by
  unfold ltOf cfF byFromI FromLt
  rw [decide_eq_true_iff, kor_lt, kicmp_lt]
  constructor
  · intro h a b ha hb
    have ea : ms[x] = a := by simpa using ha
    have eb : ms[y] = b := by simpa using hb
    rw [ea, eb] at h
    omega
  · intro h
    have := h _ _ (List.getElem?_eq_getElem x.2) (List.getElem?_eq_getElem y.2)
    simp only [Fin.getElem_fin] at this ⊢
    omega
theorem cfT_lt {ms : List Cm} (x y : Fin ms.length) : ltOf (cfT ms) x y = true ↔ TagLt ms x y := by
  unfold ltOf cfT byTagI byFromI TagLt
  rw [decide_eq_true_iff, kor2_lt, kor_lt, kicmp_lt]
  constructor
  · intro h a b ha hb
    have ea : ms[x] = a := by simpa using ha
    have eb : ms[y] = b := by simpa using hb
    rw [ea, eb] at h
    omega
  · intro h
    have := h _ _ (List.getElem?_eq_getElem x.2) (List.getElem?_eq_getElem y.2)
    simp only [Fin.getElem_fin] at this ⊢
    omega
theorem swoF (ms : List Cm) : SWO (ltOf (cfF ms)) := by
  have at' : ∀ x y : Fin ms.length, ltOf (cfF ms) x y = true ↔ (ms[x]).frm < (ms[y]).frm ∨ ((ms[x]).frm = (ms[y]).frm ∧ x.val < y.val) := fun x y => by
    rw [cfF_lt]
    exact ⟨fun h => h _ _ (List.getElem?_eq_getElem x.2) (List.getElem?_eq_getElem y.2), fun h a b ha hb => by
      have ea : ms[x] = a := by simpa using ha
      have eb : ms[y] = b := by simpa using hb
      rw [ea, eb] at h
      exact h⟩
  refine ⟨fun x => ?_, fun x y z h1 h2 => ?_, fun x y z h1 h2 => ?_⟩
  · rw [Bool.eq_false_iff]
    intro h
    rw [at'] at h
    omega
  · rw [at'] at *
    omega
  · rw [Bool.eq_false_iff, ne_eq, at'] at *
    omega
theorem swoT (ms : List Cm) : SWO (ltOf (cfT ms)) := by
  have at' : ∀ x y : Fin ms.length, ltOf (cfT ms) x y = true ↔ (ms[x]).tx < (ms[y]).tx ∨ ((ms[x]).tx = (ms[y]).tx ∧ ((ms[x]).ty < (ms[y]).ty ∨ ((ms[x]).ty = (ms[y]).ty ∧ ((ms[x]).frm < (ms[y]).frm ∨ ((ms[x]).frm = (ms[y]).frm ∧ x.val < y.val))))) := fun x y => by
    rw [cfT_lt]
    exact ⟨fun h => h _ _ (List.getElem?_eq_getElem x.2) (List.getElem?_eq_getElem y.2), fun h a b ha hb => by
      have ea : ms[x] = a := by simpa using ha
      have eb : ms[y] = b := by simpa using hb
      rw [ea, eb] at h
      exact h⟩
  refine ⟨fun x => ?_, fun x y z h1 h2 => ?_, fun x y z h1 h2 => ?_⟩
  · rw [Bool.eq_false_iff]
    intro h
    rw [at'] at h
    omega
  · rw [at'] at *
    omega
  · rw [Bool.eq_false_iff, ne_eq, at'] at *
    omega
theorem laysF {w0 w : World} {p : Option Addr} {n c : Nat} {ms : List Cm} [Inhabited (Fin ms.length)] (h : CRd w0 p n c ms) {CB : Nat} (c1 : w0.cell? ⟨CB, 0, none⟩ = some (.slice p n c)) (K : Kept (fun _ => False) w0 w) {blk : Nat} (hb : w0.heap.size ≤ blk) (off size : Nat) : CmpLays1 Try.prog 29 #[.pointer (some ⟨CB, 0, none⟩)] encF (cfF ms) blk off size w := fun m os dk _ x y => by
  have K2 : Kept (fun _ => False) w0 (sortWorld encF w blk off m dk os) := K.trans (sort_kept encF w blk off m dk os) (fun j hj z => by have z : j = blk := z; omega)
  exact oByFrom (h.k0 K2) (K2.cell c1 (fun z => z)) (List.getElem?_eq_getElem x.2) (List.getElem?_eq_getElem y.2)
theorem laysT {w0 w : World} {p : Option Addr} {n c : Nat} {ms : List Cm} [Inhabited (Fin ms.length)] (h : CRd w0 p n c ms) {CB FB : Nat} (c1 : w0.cell? ⟨CB, 0, none⟩ = some (.slice p n c)) (c2 : w0.cell? ⟨FB, 0, none⟩ = some (.func (.func 29) #[] #[.pointer (some ⟨CB, 0, none⟩)])) (K : Kept (fun _ => False) w0 w) {blk : Nat} (hb : w0.heap.size ≤ blk) (off size : Nat) : CmpLays1 Try.prog 32 #[.pointer (some ⟨CB, 0, none⟩), .pointer (some ⟨FB, 0, none⟩)] encF (cfT ms) blk off size w := fun m os dk _ x y => by
  have K2 : Kept (fun _ => False) w0 (sortWorld encF w blk off m dk os) := K.trans (sort_kept encF w blk off m dk os) (fun j hj z => by have z : j = blk := z; omega)
  exact oByTag (h.k0 K2) (K2.cell c1 (fun z => z)) (K2.cell c2 (fun z => z)) (List.getElem?_eq_getElem x.2) (List.getElem?_eq_getElem y.2)
end Go.Proofs.Ytodmakcklacbfaa
