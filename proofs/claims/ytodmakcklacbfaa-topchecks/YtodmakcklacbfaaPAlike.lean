import Derived.Test.YtodmakcklacbfaaPIdxJ
namespace Go.Proofs.Ytodmakcklacbfaa
open Go.RowKit Go.Shelf Go.Lib Go.Sort

/-- How many from the first on have its tag. -/
def Alike (ms : List Cm) (R : List Nat) (s : Nat) : Prop := 0 < s ∧ s ≤ R.length ∧ ∃ r0 m0, R[0]? = some r0 ∧ ms[r0]? = some m0 ∧ (∀ r ∈ R.take s, ∀ m, ms[r]? = some m → m.tx = m0.tx ∧ m.ty = m0.ty) ∧ ∀ r m, R[s]? = some r → ms[r]? = some m → ¬ (m.tx = m0.tx ∧ m.ty = m0.ty)
def RetN (Q : Nat → World → Prop) (o : Ending) (w : World) : Prop := ∃ r : Nat, o = .returned (.int .i64 (r : Int)) ∧ Q r w
theorem RetN.mk {Q : Nat → World → Prop} {o : Ending} {w : World} (r : Nat) (h : o = .returned (.int .i64 (r : Int))) (q : Q r w) : RetN Q o w := ⟨r, h, q⟩
set_option maxRecDepth 100000 in
set_option maxHeartbeats 4000000 in
theorem oAlike {w : World} {p : Option Addr} {n c : Nat} {ms : List Cm} (h : CRd w p n c ms) {q : Option Addr} {k kc : Nat} {R : List Nat} (ir : IRd w q k kc (R.map fun x : Nat => (x : Int))) (hk : 0 < k) (lt : ∀ r ∈ R, r < n) :
    Calls Try.prog 37 #[.slice p n c, .slice q k kc] w (RetN fun s w' => Alike ms R s ∧ Kept (fun _ => False) w w') := by
  have rm := h.room
  have sm := h.small
  have rk := ir.room
  have sk := ir.small
  unfold maxLen at sm sk
  have hl : R.length = k := by have := ir.len; rw [List.length_map] at this; exact this
  obtain ⟨b, off, x, rfl, hx, cx⟩ := ir.at hk
  rw [List.getElem?_map] at hx
  obtain ⟨i, hi⟩ : ∃ i, R[0]? = some i := ⟨R[0]'(by omega), List.getElem?_eq_getElem (by omega)⟩
  rw [hi] at hx
  have hx : (i : Int) = x := by simpa using hx
  subst hx
  have hin := lt i (List.mem_of_getElem? hi)
  obtain ⟨b2, off2, m, rfl, hm, _, _, _, _, _, _, _, _, _, d1, d2, _⟩ := h.at hin
  have i1 : (i : Int) < (n : Int) := by omega
  have i0 : (0 : Int) ≤ (i : Int) := by omega
  have k1 : (0 : Int) < (k : Int) := by omega
  have H : Hid (CRd w (some ⟨b2, off2, none⟩) n c ms ∧ IRd w (some ⟨b, off, none⟩) k kc (R.map fun x : Nat => (x : Int)) ∧ R.length = k ∧ (∀ r ∈ R, r < n) ∧ R[0]? = some i ∧ ms[i]? = some m) := ⟨h, ir, hl, lt, hi, hm⟩
  clear h ir hl lt hi hm
  rw [Nat.add_zero] at cx
  obtain ⟨CB, hCB⟩ : ∃ CB, CB = w.heap.size := ⟨_, rfl⟩
  obtain ⟨W, hW⟩ : ∃ W, W = w.alloc (Obj.cells #[.slice (some ⟨b2, off2, none⟩) n c] 27) := ⟨_, rfl⟩
  have J : Hid (Kept (fun _ => False) w W ∧ W.heap.size = CB + 1) := by
    refine ⟨by rw [hW]; exact (Kept.refl _ _).alloc _, by rw [hW, hCB]; simp⟩
  have c1 : W.cell? ⟨CB, 0, none⟩ = some (.slice (some ⟨b2, off2, none⟩) n c) := by rw [hW, hCB]; simp
  replace cx := J.out.1.cell cx (fun z => z)
  replace d1 := J.out.1.cell d1 (fun z => z)
  replace d2 := J.out.1.cell d2 (fun z => z)
  have EW : Hid (W = w.alloc (Obj.cells #[.slice (some ⟨b2, off2, none⟩) n c] 27) ∧ CB = w.heap.size) := ⟨hW, hCB⟩
  clear hW hCB
  obtain ⟨x1, hx1⟩ : ∃ x, x = m.tx := ⟨_, rfl⟩
  obtain ⟨x2, hx2⟩ : ∃ x, x = m.ty := ⟨_, rfl⟩
  rw [← hx1] at d1
  rw [← hx2] at d2
  have HX : Hid (x1 = m.tx ∧ x2 = m.ty) := ⟨hx1, hx2⟩
  clear hx1 hx2
  go_enter Try.func37, Try.ntmps37
  go_wp2_with fail
  rw [← EW.out.1, ← EW.out.2]
  go_region_held3 (fun w' => w'.cell? ⟨CB, 0, none⟩ = some (.slice (some ⟨b2, off2, none⟩) n c) ∧ w'.cell? ⟨b, off, none⟩ = some (.int .i64 (i : Int)) ∧ w'.cell? ⟨b2, off2 + i * 11 + 9, none⟩ = some (.int .i64 x1) ∧ w'.cell? ⟨b2, off2 + i * 11 + 10, none⟩ = some (.int .i64 x2))
    (go_keep) (first | fail)
  have KU : Hid (Kept (fun _ => False) w (W.alloc (Obj.cells #[Value.int IntKind.i64 x1, Value.int IntKind.i64 x2] 35)).drew ∧ (W.alloc (Obj.cells #[Value.int IntKind.i64 x1, Value.int IntKind.i64 x2] 35)).drew.cell? ⟨CB, 0, none⟩ = some (.slice (some ⟨b2, off2, none⟩) n c) ∧ (W.alloc (Obj.cells #[Value.int IntKind.i64 x1, Value.int IntKind.i64 x2] 35)).drew.heap[W.heap.size]? = some (Obj.cells #[Value.int IntKind.i64 x1, Value.int IntKind.i64 x2] 35 (0, 0))) := by
    have K : Kept (fun _ => False) W (W.alloc (Obj.cells #[Value.int IntKind.i64 x1, Value.int IntKind.i64 x2] 35)).drew := ((Kept.refl _ _).alloc _).drew
    exact ⟨J.out.1.trans K (fun _ _ z => z), K.cell c1 (fun z => z), heap_alloc_new W _⟩
  generalize (W.alloc (Obj.cells #[Value.int IntKind.i64 x1, Value.int IntKind.i64 x2] 35)).drew = U at KU ⊢
  obtain ⟨TB, hTB⟩ : ∃ TB, TB = W.heap.size := ⟨_, rfl⟩
  rw [← hTB] at KU ⊢
  obtain ⟨P, hP⟩ : ∃ P : Int → Bool, P = fun x => match ms[x.toNat]? with | some m => !decide (m.tx = x1 ∧ m.ty = x2) | none => false := ⟨_, rfl⟩
  have CI : Hid (∀ V, Kept (fun _ => False) U V → Calls Try.prog 64 #[.slice (some ⟨b, off, none⟩) k kc, .func (.func 65) #[] #[.pointer (some ⟨CB, 0, none⟩), .pointer (some ⟨TB, 0, none⟩)]] V fun o w' => ∃ a : Int, o = .returned (.int .i64 a) ∧ Hid (FirstAt P (R.map fun x : Nat => (x : Int)) a ∧ Kept (fun _ => False) V w')) := by
    intro V K
    have K0 := KU.out.1.trans K (fun _ _ z => z)
    refine index65 (H.out.2.1.k0 K0) P (fun x hx V2 K2 => ?_)
    obtain ⟨r, hr, rfl⟩ := List.mem_map.1 hx
    have hrn := H.out.2.2.2.1 r hr
    have hm2 : ms[r]? = some (ms[r]'(by rw [H.out.1.len]; exact hrn)) := List.getElem?_eq_getElem _
    have K3 := K.trans K2 (fun _ _ z => z)
    have := closure65 ((H.out.1.k0 K0).k0 K2) (K3.cell KU.out.2.1 (fun z => z)) (K3.cell (cell_blk KU.out.2.2 0 (v := .int .i64 x1) rfl) (fun z => z)) (K3.cell (cell_blk KU.out.2.2 1 (v := .int .i64 x2) rfl) (fun z => z)) hm2
    rw [hP]
    simp only [Int.toNat_natCast]
    rw [hm2]
    exact this
  have HP : Hid (P = fun x => match ms[x.toNat]? with | some m => !decide (m.tx = x1 ∧ m.ty = x2) | none => false) := hP
  have c2 := KU.out.2.1
  clear hP hTB cx d1 d2 c1
  go_wp2_with fail
  refine (CI.out _ (Kept.refl _ _)).mono ?_
  rintro o w3 ⟨a, rfl, FA⟩
  have PZ : Hid (∀ r mm, ms[r]? = some mm → (P ((r : Nat) : Int) = false ↔ mm.tx = m.tx ∧ mm.ty = m.ty)) := fun r mm hmm => by
    rw [HP.out]
    simp only [Int.toNat_natCast]
    rw [hmm, ← HX.out.1, ← HX.out.2]
    simp
  have AL : Hid ((a < 0 → Alike ms R k) ∧ (¬ a < 0 → ∃ s : Nat, a = (s : Int) ∧ Alike ms R s)) := by
    refine ⟨fun ha => ?_, fun ha => ?_⟩
    · rcases FA.out.1 with ⟨_, z⟩ | ⟨j, x, rfl, _⟩
      · refine ⟨hk, by rw [H.out.2.2.1]; exact Nat.le_refl _, i, m, H.out.2.2.2.2.1, H.out.2.2.2.2.2, fun r hr mm hmm => ?_, fun r mm hr _ => ?_⟩
        · exact (PZ.out r mm hmm).1 (z _ (List.mem_map.2 ⟨r, List.mem_of_mem_take hr, rfl⟩))
        · have := (List.getElem?_eq_some_iff.1 hr).1
          rw [H.out.2.2.1] at this
          omega
      · omega
    · rcases FA.out.1 with ⟨z, _⟩ | ⟨j, x, rfl, hx, hp, hb⟩
      · omega
      · refine ⟨j, rfl, ?_⟩
        rw [List.getElem?_map] at hx
        obtain ⟨r, hr, rfl⟩ := Option.map_eq_some_iff.1 hx
        have hj := (List.getElem?_eq_some_iff.1 hr).1
        have hrn := H.out.2.2.2.1 r (List.mem_of_getElem? hr)
        have hm2 : ms[r]? = some (ms[r]'(by rw [H.out.1.len]; exact hrn)) := List.getElem?_eq_getElem _
        have j0 : 0 < j := by
          rcases Nat.eq_zero_or_pos j with z | z
          · subst z
            rw [H.out.2.2.2.2.1] at hr
            have e := Option.some.inj hr
            subst e
            have := (PZ.out i m H.out.2.2.2.2.2).2 ⟨rfl, rfl⟩
            rw [this] at hp
            cases hp
          · exact z
        refine ⟨j0, by omega, i, m, H.out.2.2.2.2.1, H.out.2.2.2.2.2, fun s hs mm hmm => ?_, fun s mm hs hmm z => ?_⟩
        · refine (PZ.out s mm hmm).1 (hb _ ?_)
          rw [← List.map_take]
          exact List.mem_map.2 ⟨s, hs, rfl⟩
        · rw [hr] at hs
          have e := Option.some.inj hs
          subst e
          have := (PZ.out r mm hmm).2 z
          rw [this] at hp
          cases hp
  have K3 : Hid (Kept (fun _ => False) w w3) := KU.out.1.trans FA.out.2 (fun _ _ z => z)
  clear FA CI PZ HP c2
  by_cases ha : a < 0
  · have A1 := AL.out.1 ha
    have A2 : Hid (Alike ms R k) := A1
    clear A1
    go_wp2_with fail
    go_ret
    exact RetN.mk k rfl ⟨A2.out, K3.out⟩
  · obtain ⟨s, rfl, A1⟩ := AL.out.2 ha
    have A2 : Hid (Alike ms R s) := A1
    clear A1
    go_wp2_with fail
    go_ret
    exact RetN.mk s rfl ⟨A2.out, K3.out⟩
end Go.Proofs.Ytodmakcklacbfaa
