import Derived.Test.YtodmakcklacbfaaPIdxJ
namespace Go.Proofs.Ytodmakcklacbfaa
open Go.RowKit Go.Shelf Go.Lib Go.Sort

/-- How many from the first on have its tag. -/
def Alike (ms : List Cm) (R : List Nat) (s : Nat) : Prop := 0 < s ∧ s ≤ R.length ∧ ∃ r0 m0, R[0]? = some r0 ∧ ms[r0]? = some m0 ∧ (∀ r ∈ R.take s, ∀ m, ms[r]? = some m → m.tx = m0.tx ∧ m.ty = m0.ty) ∧ ∀ r m, R[s]? = some r → ms[r]? = some m → ¬ (m.tx = m0.tx ∧ m.ty = m0.ty)
def RetN (Q : Nat → World → Prop) (o : Ending) (w : World) : Prop := ∃ r : Nat, o = .returned (.int .i64 (r : Int)) ∧ Q r w
theorem RetN.mk {Q : Nat → World → Prop} {o : Ending} {w : World} (r : Nat) (h : o = .returned (.int .i64 (r : Int))) (q : Q r w) : RetN Q o w := ⟨r, h, q⟩
set_option maxRecDepth 100000 in
set_option maxHeartbeats 4000000 in
theorem oAlike {w : World} {p : Option Addr} {n c : Nat} {ms : List Cm} (h : CRd w p n c ms) {q : Option Addr} {k kc : Nat} {R : List Nat} (ir : IRd w q k kc (R.map fun x : Nat => (x : Int))) (hk : 0 < k) (lt : ∀ r ∈ R, r < n) :
    Calls Try.prog 37 #[.slice p n c, .slice q k kc] w (RetN fun s w' => Alike ms R s ∧ Kept (fun _ => False) w w') := by
  have rm := h.room
  have sm := h.small
  have rk := ir.room
  have sk := ir.small
  unfold maxLen at sm sk
  have hl : R.length = k := by have := ir.len; rw [List.length_map] at this; exact this
  obtain ⟨b, off, x, rfl, hx, cx⟩ := ir.at hk
  rw [List.getElem?_map] at hx
  obtain ⟨i, hi⟩ : ∃ i, R[0]? = some i := ⟨R[0]'(by omega), List.getElem?_eq_getElem (by omega)⟩
  rw [hi] at hx
  have hx : (i : Int) = x := by simpa using hx
  subst hx
  have hin := lt i (List.mem_of_getElem? hi)
  obtain ⟨b2, off2, m, rfl, hm, _, _, _, _, _, _, _, _, _, d1, d2, _⟩ := h.at hin
  have i1 : (i : Int) < (n : Int) := by omega
  have i0 : (0 : Int) ≤ (i : Int) := by omega
  have k1 : (0 : Int) < (k : Int) := by omega
  have H : Hid (CRd w (some ⟨b2, off2, none⟩) n c ms ∧ IRd w (some ⟨b, off, none⟩) k kc (R.map fun x : Nat => (x : Int)) ∧ R.length = k ∧ (∀ r ∈ R, r < n) ∧ R[0]? = some i ∧ ms[i]? = some m) := ⟨h, ir, hl, lt, hi, hm⟩
  clear h ir hl lt hi hm
  rw [Nat.add_zero] at cx
  obtain ⟨CB, hCB⟩ : ∃ CB, CB = w.heap.size := ⟨_, rfl⟩
  obtain ⟨W, hW⟩ : ∃ W, W = w.alloc (Obj.cells #[.slice (some ⟨b2, off2, none⟩) n c] 27) := ⟨_, rfl⟩
  have J : Hid (Kept (fun _ => False) w W ∧ W.heap.size = CB + 1) := by
    refine ⟨by rw [hW]; exact (Kept.refl _ _).alloc _, by rw [hW, hCB]; simp⟩
  have c1 : W.cell? ⟨CB, 0, none⟩ = some (.slice (some ⟨b2, off2, none⟩) n c) := by rw [hW, hCB]; simp
  replace cx := J.out.1.cell cx (fun z => z)
  replace d1 := J.out.1.cell d1 (fun z => z)
  replace d2 := J.out.1.cell d2 (fun z => z)
  have EW : Hid (W = w.alloc (Obj.cells #[.slice (some ⟨b2, off2, none⟩) n c] 27) ∧ CB = w.heap.size) := ⟨hW, hCB⟩
  clear hW hCB
  obtain ⟨x1, hx1⟩ : ∃ x, x = m.tx := ⟨_, rfl⟩
  obtain ⟨x2, hx2⟩ : ∃ x, x = m.ty := ⟨_, rfl⟩
  rw [← hx1] at d1
  rw [← hx2] at d2
  have HX : Hid (x1 = m.tx ∧ x2 = m.ty) := ⟨hx1, hx2⟩
  clear hx1 hx2
  go_enter Try.func37, Try.ntmps37
  go_wp2_with fail
  rw [← EW.out.1, ← EW.out.2]
  go_region_held3 (fun w' => w'.cell? ⟨CB, 0, none⟩ = some (.slice (some ⟨b2, off2, none⟩) n c) ∧ w'.cell? ⟨b, off, none⟩ = some (.int .i64 (i : Int)) ∧ w'.cell? ⟨b2, off2 + i * 11 + 9, none⟩ = some (.int .i64 x1) ∧ w'.cell? ⟨b2, off2 + i * 11 + 10, none⟩ = some (.int .i64 x2))
    (go_keep) (first | fail)
  have KU : Hid (Kept (fun _ => False) w (W.alloc (Obj.cells #[Value.int IntKind.i64 x1, Value.int IntKind.i64 x2] 35)).drew ∧ (W.alloc (Obj.cells #[Value.int IntKind.i64 x1, Value.int IntKind.i64 x2] 35)).drew.cell? ⟨CB, 0, none⟩ = some (.slice (some ⟨b2, off2, none⟩) n c) ∧ (W.alloc (Obj.cells #[Value.int IntKind.i64 x1, Value.int IntKind.i64 x2] 35)).drew.heap[W.heap.size]? = some (Obj.cells #[Value.int IntKind.i64 x1, Value.int IntKind.i64 x2] 35 (0, 0))) := by
    have K : Kept (fun _ => False) W (W.alloc (Obj.cells #[Value.int IntKind.i64 x1, Value.int IntKind.i64 x2] 35)).drew := ((Kept.refl _ _).alloc _).drew
    exact ⟨J.out.1.trans K (fun _ _ z => z), K.cell c1 (fun z => z), heap_alloc_new W _⟩
  generalize (W.alloc (Obj.cells #[Value.int IntKind.i64 x1, Value.int IntKind.i64 x2] 35)).drew = U at KU ⊢
  obtain ⟨TB, hTB⟩ : ∃ TB, TB = W.heap.size := ⟨_, rfl⟩
  rw [← hTB] at KU ⊢
  obtain ⟨P, hP⟩ : ∃ P : Int → Bool, P = fun x => match ms[x.toNat]? with | some m => !decide (m.tx = x1 ∧ m.ty = x2) | none => false := ⟨_, rfl⟩
  have CI : Hid (∀ V, Kept (fun _ => False) U V → Calls Try.prog 64 #[.slice (some ⟨b, off, none⟩) k kc, .func (.func 65) #[] #[.pointer (some ⟨CB, 0, none⟩), .pointer (some ⟨TB, 0, none⟩)]] V fun o w' => ∃ a : Int, o = .returned (.int .i64 a) ∧ Hid (FirstAt P (R.map fun x : Nat => (x : Int)) a ∧ Kept (fun _ => False) V w')) := by
    intro V K
    have K0 := KU.out.1.trans K (fun _ _ z => z)
    refine index65 (H.out.2.1.k0 K0) P (fun x hx V2 K2 => ?_)
    obtain ⟨r, hr, rfl⟩ := List.mem_map.1 hx
    have hrn := H.out.2.2.2.1 r hr
    have hm2 : ms[r]? = some (ms[r]'(by rw [H.out.1.len]; exact hrn)) := List.getElem?_eq_getElem _
    have K3 := K.trans K2 (fun _ _ z => z)
    have := closure65 ((H.out.1.k0 K0).k0 K2) (K3.cell KU.out.2.1 (fun z => z)) (K3.cell (cell_blk KU.out.2.2 0 (v := .int .i64 x1) rfl) (fun z => z)) (K3.cell (cell_blk KU.out.2.2 1 (v := .int .i64 x2) rfl) (fun z => z)) hm2
    rw [hP]
    simp only [Int.toNat_natCast]
    rw [hm2]
    exact this
  have HP : Hid (P = fun x => match ms[x.toNat]? with | some m => !decide (m.tx = x1 ∧ m.ty = x2) | none => false) := hP
  have c2 := KU.out.2.1
  clear hP hTB cx d1 d2 c1
  go_wp2_with fail
  refine (CI.out _ (Kept.refl _ _)).mono ?_
  rintro o w3 ⟨a, rfl, FA⟩
  have PZ : Hid (∀ r mm, ms[r]? = some mm → (P ((r : Nat) : Int) = false ↔ mm.tx = m.tx ∧ mm.ty = m.ty)) := fun r mm hmm => by
    rw [HP.out]
    simp only [Int.toNat_natCast]
    rw [hmm, ← HX.out.1, ← HX.out.2]
    simp
  have AL : Hid ((a < 0 → Alike ms R k) ∧ (¬ a < 0 → ∃ s : Nat, a = (s : Int) ∧ Alike ms R s)) := by
    refine ⟨fun ha => ?_, fun ha => ?_⟩
    · rcases FA.out.1 with ⟨_, z⟩ | ⟨j, x, rfl, _⟩
      · refine ⟨hk, by rw [H.out.2.2.1]; exact Nat.le_refl _, i, m, H.out.2.2.2.2.1, H.out.2.2.2.2.2, fun r hr mm hmm => ?_, fun r mm hr _ => ?_⟩
        · exact (PZ.out r mm hmm).1 (z _ (List.mem_map.2 ⟨r, List.mem_of_mem_take hr, rfl⟩))
        · have := (List.getElem?_eq_some_iff.1 hr).1
          rw [H.out.2.2.1] at this
          omega
      · omega
    · rcases FA.out.1 with ⟨z, _⟩ | ⟨j, x, rfl, hx, hp, hb⟩
      · omega
      · refine ⟨j, rfl, ?_⟩
        rw [List.getElem?_map] at hx
        obtain ⟨r, hr, rfl⟩ := Option.map_eq_some_iff.1 hx
        have hj := (List.getElem?_eq_some_iff.1 hr).1
        have hrn := H.out.2.2.2.1 r (List.mem_of_getElem? hr)
        have hm2 : ms[r]? = some (ms[r]'(by rw [H.out.1.len]; exact hrn)) := List.getElem?_eq_getElem _
        have j0 : 0 < j := by
          rcases Nat.eq_zero_or_pos j with z | z
          · subst z
            rw [H.out.2.2.2.2.1] at hr
            have e := Option.some.inj hr
            subst e
            have := (PZ.out i m H.out.2.2.2.2.2).2 ⟨rfl, rfl⟩
            rw [this] at hp
            cases hp
          · exact z
        refine ⟨j0, by omega, i, m, H.out.2.2.2.2.1, H.out.2.2.2.2.2, fun s hs mm hmm => ?_, fun s mm hs hmm z => ?_⟩
        · refine (PZ.out s mm hmm).1 (hb _ ?_)
          rw [← List.map_take]
          exact List.mem_map.2 ⟨s, hs, rfl⟩
        · rw [hr] at hs
          have e := Option.some.inj hs
          subst e
          have := (PZ.out r mm hmm).2 z
          rw [this] at hp
          cases hp
  have K3 : Hid (Kept (fun _ => False) w w3) := KU.out.1.trans FA.out.2 (fun _ _ z => z)
  clear FA CI PZ HP c2
  by_cases ha : a < 0
  · have A1 := AL.out.1 ha
    have A2 : Hid (Alike ms R k) := A1
    clear A1
    go_wp2_with fail
    go_ret
    exact RetN.mk k rfl ⟨A2.out, K3.out⟩
  · obtain ⟨s, rfl, A1⟩ := AL.out.2 ha
    have A2 : Hid (Alike ms R s) := A1
    clear A1
    go_wp2_with fail
    go_ret
    exact RetN.mk s rfl ⟨A2.out, K3.out⟩
end Go.Proofs.Ytodmakcklacbfaa

namespace Go.Proofs.Ytodmakcklacbfaa
open Go.RowKit Go.Shelf Go.Lib Go.Sort

/-- Words of 64 bits as keys. -/
def KI (k : Int) : Prop := -9223372036854775808 ≤ k ∧ k < 9223372036854775808
theorem wf_i64 (a : Int) : (Lit.int .i64 a).wf = true ↔ KI a := by
  have e1 : IntKind.i64.min = -9223372036854775808 := by decide
  have e2 : IntKind.i64.max = 9223372036854775807 := by decide
  show (decide (IntKind.i64.min ≤ a) && decide (a ≤ IntKind.i64.max)) = true ↔ _
  rw [e1, e2]
  unfold KI
  simp
  omega
def RI (v : Value) : Option (DataW Value × List MemPlace) :=
  match v with
  | .int .i64 _ => some (.held v, [])
  | _ => none
theorem intK : MK (ε := Int) 58 3 3 (Value.int .i64) (Lit.int .i64) KI (Value.int .i64) 0 RI where
  law := Maps.int_keyed Try.underlying3
  und := Try.underlying58
  key k h := Maps.keyOf_int_mk Try.underlying3 ((wf_i64 k).2 h)
  inv v l h := by
    obtain ⟨x, rfl, rfl, h3⟩ := Maps.keyOf_int_inv Try.underlying3 h
    exact ⟨x, rfl, (wf_i64 x).1 h3, rfl⟩
  inj k k' _ _ h := by simpa using h
  kvi k k' h := by simpa using h
  rd _ := rfl
  rdi v y h := by
    unfold RI at h
    split at h
    · exact ⟨⟨_, rfl⟩, (Option.some.inj h).symm⟩
    · cases h
  evi e e' h := by simpa using h
  zero w := Try.zeroValue3 w
/-- Of each client the last of its open Puts without a tag, of the first i calls. -/
def silM (ms : List Cm) : Nat → Int → Option Int
  | 0 => fun _ => none
  | i + 1 => match ms[i]? with
    | some m => if (m.opn && kIsZero m.tx m.ty) = true then upd (silM ms i) m.client (i : Int) else silM ms i
    | none => silM ms i
theorem silM_add {ms : List Cm} {i : Nat} {m : Cm} (h : ms[i]? = some m) : silM ms (i + 1) = if (m.opn && kIsZero m.tx m.ty) = true then upd (silM ms i) m.client (i : Int) else silM ms i := by
  show (match ms[i]? with | some m => if (m.opn && kIsZero m.tx m.ty) = true then upd (silM ms i) m.client (i : Int) else silM ms i | none => silM ms i) = _
  rw [h]
/-- A map from numbers to numbers in memory. -/
structure IsI (w : World) (mb : Nat) (M : Int → Option Int) (bd : Nat) : Prop where
  tm : ∃ n, TM 3 (Lit.int .i64) KI (Value.int .i64) RI w mb n M ∧ n ≤ bd
theorem IsI.kept {S : Nat → Prop} {w w' : World} {mb bd : Nat} {M : Int → Option Int} (h : IsI w mb M bd) (K : Kept S w w') (hn : ¬ S mb) : IsI w' mb M bd := by
  obtain ⟨n, h1, h2⟩ := h.tm
  exact ⟨n, h1.kept K hn, h2⟩
theorem IsI.made (w : World) : IsI (w.alloc (.map #[] 0)) w.heap.size (fun _ => none) 0 := ⟨0, TM.made w, Nat.le_refl _⟩
set_option maxRecDepth 100000 in
set_option maxHeartbeats 4000000 in
theorem oSilent {w : World} {p0 : Option Addr} {n c0 : Nat} {ms : List Cm} (cr : CRd w p0 n c0 ms) (hb : n ≤ 1300000000000) (ck : ∀ m ∈ ms, KI m.client) :
    Calls Try.prog 35 #[.slice p0 n c0] w fun o w' => ∃ mb, o = .returned (.map (some mb)) ∧ Hid (IsI w' mb (silM ms ms.length) n ∧ w.heap.size ≤ mb ∧ Kept (fun _ => False) w w') := by
  have rm := cr.room
  have sm := cr.small
  unfold maxLen at sm
  have H : Hid (CRd w p0 n c0 ms ∧ n ≤ 1300000000000 ∧ ∀ m ∈ ms, KI m.client) := ⟨cr, hb, ck⟩
  obtain ⟨mb, hmb⟩ : ∃ mb, mb = w.heap.size := ⟨_, rfl⟩
  obtain ⟨W0, hW0⟩ : ∃ W0, W0 = w.alloc (.map #[] 0) := ⟨_, rfl⟩
  have S0 : Hid (IsI W0 mb (silM ms 0) 0 ∧ Kept (fun _ => False) w W0) := by
    rw [hW0, hmb]
    exact ⟨IsI.made w, (Kept.refl _ _).alloc _⟩
  have E0 : Hid (mb = w.heap.size ∧ W0 = w.alloc (.map #[] 0)) := ⟨hmb, hW0⟩
  clear cr hb ck hmb hW0
  have mk := run_makeMap (P := Try.prog) 58 w
  go_enter Try.func35, Try.ntmps35
  go_wp2_with fail
  rw [← E0.out.2, ← E0.out.1]
  go_loopw [4, 5, 9] (fun _ _ u9 wr => ∃ (i : Nat), u9 = .int .i64 (i : Int) ∧ i ≤ n ∧ Hid (IsI wr mb (silM ms i) i ∧ Kept (fun _ => False) w wr)) (fun _ _ u9 _ => n - (intOf u9).toNat)
  case atStart => exact ⟨0, rfl, Nat.zero_le _, S0⟩
  case round =>
    obtain ⟨i, rfl, hi, S⟩ := hrel
    clear S0
    obtain ⟨wo, hwo⟩ : ∃ wo, wo = wr := ⟨_, rfl⟩
    rw [← hwo] at S ⊢
    clear hwo
    by_cases hlt : i < n
    · have i1 : (i : Int) < (n : Int) := by omega
      have cr := H.out.1.k0 S.out.2
      obtain ⟨b, off, m, rfl, hm, c0', c1, c2, c3, c4, c5, c6, c7, c8, c9, c10, _⟩ := cr.at hlt
      obtain ⟨W, hW⟩ : ∃ W, W = wo.alloc (.cells #[.int .i64 m.client, .int .i64 m.op, .bool m.put, .string m.key, .slice m.va m.vn m.vc, .int .i64 m.st, .int .i64 m.frm, .int .i64 m.to, .bool m.opn, .int .i64 m.tx, .int .i64 m.ty] 38) := ⟨_, rfl⟩
      obtain ⟨B, hB⟩ : ∃ B, B = wo.heap.size := ⟨_, rfl⟩
      have J : Hid (W.heap[B]? = some (.cells m.cs 38 (0, 0)) ∧ (IsI W mb (silM ms i) i ∧ Kept (fun _ => False) w W) ∧ ms[i]? = some m) := by
        have K : Kept (fun _ => False) wo W := by rw [hW]; exact (Kept.refl _ _).alloc _
        refine ⟨?_, ⟨S.out.1.kept K (fun z => z), S.out.2.trans K (fun _ _ z => z)⟩, hm⟩
        rw [hW, hB]
        exact alloc_new _ _
      have EW : Hid (W = wo.alloc (.cells #[.int .i64 m.client, .int .i64 m.op, .bool m.put, .string m.key, .slice m.va m.vn m.vc, .int .i64 m.st, .int .i64 m.frm, .int .i64 m.to, .bool m.opn, .int .i64 m.tx, .int .i64 m.ty] 38) ∧ B = wo.heap.size) := ⟨hW, hB⟩
      clear hW hB cr hm S
      go_upto_region 5 with fail
      rw [← EW.out.1, ← EW.out.2]
      clear c0' c1 c2 c3 c4 c5 c6 c7 c8 c9 c10 EW
      have c0' := cell_blk J.out.1 0 (v := .int .i64 m.client) rfl
      have c9 := cell_blk J.out.1 9 (v := .int .i64 m.tx) rfl
      have c10 := cell_blk J.out.1 10 (v := .int .i64 m.ty) rfl
      obtain ⟨op, hop⟩ : ∃ op, m.opn = op := ⟨_, rfl⟩
      have c8 : W.cell? ⟨B, 8, none⟩ = some (.bool op) := by rw [← hop]; exact cell_blk J.out.1 8 (v := .bool m.opn) rfl
      obtain ⟨zz, hzz⟩ : ∃ zz, kIsZero m.tx m.ty = zz := ⟨_, rfl⟩
      have CZ : Hid (Calls Try.prog 12 #[.agg #[.int .i64 m.tx, .int .i64 m.ty]] W fun o w' => o = .returned (.bool zz) ∧ Kept (fun _ => False) W w') := by
        rw [← hzz]
        exact (kZero _ _ W).mono (fun o w' ⟨e, h⟩ => ⟨e, keptB h⟩)
      have HP : Hid (m.opn = op ∧ kIsZero m.tx m.ty = zz) := ⟨hop, hzz⟩
      clear hop hzz
      cases op
      · have T2 : Hid (IsI W mb (silM ms (i + 1)) (i + 1) ∧ Kept (fun _ => False) w W) := by
          rw [silM_add J.out.2.2, HP.out.1]
          obtain ⟨k, h1, h2⟩ := J.out.2.1.1.tm
          exact ⟨⟨k, h1, by omega⟩, J.out.2.1.2⟩
        go_wp2_with fail
        go_roundw
        case rel => exact ⟨i + 1, by go_num, by omega, T2⟩
        case measure => simp [intOf] <;> omega
      · go_wp2_with fail
        refine CZ.out.mono ?_
        rintro o w2 ⟨rfl, K2⟩
        have T : Hid (IsI w2 mb (silM ms i) i ∧ Kept (fun _ => False) w w2) := ⟨J.out.2.1.1.kept K2 (fun z => z), J.out.2.1.2.trans K2 (fun _ _ z => z)⟩
        replace c0' := K2.cell c0' (fun z => z)
        clear K2 CZ c8 c9 c10
        cases zz
        · have T2 : Hid (IsI w2 mb (silM ms (i + 1)) (i + 1) ∧ Kept (fun _ => False) w w2) := by
            rw [silM_add J.out.2.2, HP.out.1, HP.out.2]
            obtain ⟨k, h1, h2⟩ := T.out.1.tm
            exact ⟨⟨k, h1, by omega⟩, T.out.2⟩
          go_wp2_with fail
          go_roundw
          case rel => exact ⟨i + 1, by go_num, by omega, T2⟩
          case measure => simp [intOf] <;> omega
        · obtain ⟨k, tm, hk⟩ := T.out.1.tm
          have TT : Hid (TM 3 (Lit.int .i64) KI (Value.int .i64) RI w2 mb k (silM ms i) ∧ k < maxLen ∧ KI m.client) := ⟨tm, by unfold maxLen; omega, H.out.2.2 m (List.mem_of_getElem? J.out.2.2)⟩
          clear tm
          go_upto_region 7 with
            (first
              | (at_mapUpdate; refine wpList_put intK _ rfl _ _ _ rfl mb k (silM ms i) rfl TT.out.1 TT.out.2.1 m.client TT.out.2.2 (i : Int) rfl rfl ?_; intro w8 ht8 hk8)
              | fail)
          have T8 : Hid (IsI w8 mb (silM ms (i + 1)) (i + 1) ∧ Kept (fun _ => False) w w8) := by
            rw [silM_add J.out.2.2, HP.out.1, HP.out.2]
            refine ⟨⟨_, ht8.out, ?_⟩, T.out.2.trans hk8.out (fun j hj z => ?_)⟩
            · unfold nput
              split <;> omega
            · have z : j = mb := z
              have := E0.out.1
              omega
          clear ht8 hk8
          go_wp2_with fail
          go_roundw
          case rel => exact ⟨i + 1, by go_num, by omega, T8⟩
          case measure => simp [intOf] <;> omega
    · have i1 : ¬ (i : Int) < (n : Int) := by omega
      have ei : i = n := by omega
      subst ei
      have F : Hid (IsI wo mb (silM ms ms.length) i ∧ w.heap.size ≤ mb ∧ Kept (fun _ => False) w wo) := by
        rw [H.out.1.len]
        exact ⟨S.out.1, Nat.le_of_eq E0.out.1.symm, S.out.2⟩
      go_wp2_with fail
      go_ret
      exact ⟨mb, rfl, F⟩
end Go.Proofs.Ytodmakcklacbfaa
