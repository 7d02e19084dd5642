import Derived.Test.YtodmakcklacbfaaPAlike
namespace Go.Proofs.Ytodmakcklacbfaa
open Go.RowKit Go.Shelf Go.Lib Go.Sort

/-- Words of 64 bits as keys. -/
def KI (k : Int) : Prop := -9223372036854775808 ≤ k ∧ k < 9223372036854775808
theorem wf_i64 (a : Int) : (Lit.int .i64 a).wf = true ↔ KI a := by
  have e1 : IntKind.i64.min = -9223372036854775808 := by decide
  have e2 : IntKind.i64.max = 9223372036854775807 := by decide
  show (decide (IntKind.i64.min ≤ a) && decide (a ≤ IntKind.i64.max)) = true ↔ _
  rw [e1, e2]
  unfold KI
  simp
  omega
def RI (v : Value) : Option (DataW Value × List MemPlace) :=
  match v with
  | .int .i64 _ => some (.held v, [])
  | _ => none
theorem intK : MK (ε := Int) 58 3 3 (Value.int .i64) (Lit.int .i64) KI (Value.int .i64) 0 RI where
  law := Maps.int_keyed Try.underlying3
  und := Try.underlying58
  key k h := Maps.keyOf_int_mk Try.underlying3 ((wf_i64 k).2 h)
  inv v l h := by
    obtain ⟨x, rfl, rfl, h3⟩ := Maps.keyOf_int_inv Try.underlying3 h
    exact ⟨x, rfl, (wf_i64 x).1 h3, rfl⟩
  inj k k' _ _ h := by simpa using h
  kvi k k' h := by simpa using h
  rd _ := rfl
  rdi v y h := by
    unfold RI at h
    split at h
    · exact ⟨⟨_, rfl⟩, (Option.some.inj h).symm⟩
    · cases h
  evi e e' h := by simpa using h
  zero w := Try.zeroValue3 w
/-- Of each client the last of its open Puts without a tag, of the first i calls. -/
def silM (ms : List Cm) : Nat → Int → Option Int
  | 0 => fun _ => none
  | i + 1 => match ms[i]? with
    | some m => if (m.opn && kIsZero m.tx m.ty) = true then upd (silM ms i) m.client (i : Int) else silM ms i
    | none => silM ms i
theorem silM_add {ms : List Cm} {i : Nat} {m : Cm} (h : ms[i]? = some m) : silM ms (i + 1) = if (m.opn && kIsZero m.tx m.ty) = true then upd (silM ms i) m.client (i : Int) else silM ms i := by
  show (match ms[i]? with | some m => if (m.opn && kIsZero m.tx m.ty) = true then upd (silM ms i) m.client (i : Int) else silM ms i | none => silM ms i) = _
  rw [h]
/-- A map from numbers to numbers in memory. -/
structure IsI (w : World) (mb : Nat) (M : Int → Option Int) (bd : Nat) : Prop where
  tm : ∃ n, TM 3 (Lit.int .i64) KI (Value.int .i64) RI w mb n M ∧ n ≤ bd
theorem IsI.kept {S : Nat → Prop} {w w' : World} {mb bd : Nat} {M : Int → Option Int} (h : IsI w mb M bd) (K : Kept S w w') (hn : ¬ S mb) : IsI w' mb M bd := by
  obtain ⟨n, h1, h2⟩ := h.tm
  exact ⟨n, h1.kept K hn, h2⟩
theorem IsI.made (w : World) : IsI (w.alloc (.map #[] 0)) w.heap.size (fun _ => none) 0 := ⟨0, TM.made w, Nat.le_refl _⟩
set_option maxRecDepth 100000 in
set_option maxHeartbeats 4000000 in
theorem oSilent {w : World} {p0 : Option Addr} {n c0 : Nat} {ms : List Cm} (cr : CRd w p0 n c0 ms) (hb : n ≤ 1300000000000) (ck : ∀ m ∈ ms, KI m.client) :
    Calls Try.prog 35 #[.slice p0 n c0] w fun o w' => ∃ mb, o = .returned (.map (some mb)) ∧ Hid (IsI w' mb (silM ms ms.length) n ∧ w.heap.size ≤ mb ∧ Kept (fun _ => False) w w') := by
  have rm := cr.room
  have sm := cr.small
  unfold maxLen at sm
  have H : Hid (CRd w p0 n c0 ms ∧ n ≤ 1300000000000 ∧ ∀ m ∈ ms, KI m.client) := ⟨cr, hb, ck⟩
  obtain ⟨mb, hmb⟩ : ∃ mb, mb = w.heap.size := ⟨_, rfl⟩
  obtain ⟨W0, hW0⟩ : ∃ W0, W0 = w.alloc (.map #[] 0) := ⟨_, rfl⟩
  have S0 : Hid (IsI W0 mb (silM ms 0) 0 ∧ Kept (fun _ => False) w W0) := by
    rw [hW0, hmb]
    exact ⟨IsI.made w, (Kept.refl _ _).alloc _⟩
  have E0 : Hid (mb = w.heap.size ∧ W0 = w.alloc (.map #[] 0)) := ⟨hmb, hW0⟩
  clear cr hb ck hmb hW0
  have mk := run_makeMap (P := Try.prog) 58 w
  go_enter Try.func35, Try.ntmps35
  go_wp2_with fail
  rw [← E0.out.2, ← E0.out.1]
  go_loopw [4, 5, 9] (fun _ _ u9 wr => ∃ (i : Nat), u9 = .int .i64 (i : Int) ∧ i ≤ n ∧ Hid (IsI wr mb (silM ms i) i ∧ Kept (fun _ => False) w wr)) (fun _ _ u9 _ => n - (intOf u9).toNat)
  case atStart => exact ⟨0, rfl, Nat.zero_le _, S0⟩
  case round =>
    obtain ⟨i, rfl, hi, S⟩ := hrel
    clear S0
    obtain ⟨wo, hwo⟩ : ∃ wo, wo = wr := ⟨_, rfl⟩
    rw [← hwo] at S ⊢
    clear hwo
    by_cases hlt : i < n
    · have i1 : (i : Int) < (n : Int) := by omega
      have cr := H.out.1.k0 S.out.2
      obtain ⟨b, off, m, rfl, hm, c0', c1, c2, c3, c4, c5, c6, c7, c8, c9, c10, _⟩ := cr.at hlt
      obtain ⟨W, hW⟩ : ∃ W, W = wo.alloc (.cells #[.int .i64 m.client, .int .i64 m.op, .bool m.put, .string m.key, .slice m.va m.vn m.vc, .int .i64 m.st, .int .i64 m.frm, .int .i64 m.to, .bool m.opn, .int .i64 m.tx, .int .i64 m.ty] 38) := ⟨_, rfl⟩
      obtain ⟨B, hB⟩ : ∃ B, B = wo.heap.size := ⟨_, rfl⟩
      have J : Hid (W.heap[B]? = some (.cells m.cs 38 (0, 0)) ∧ (IsI W mb (silM ms i) i ∧ Kept (fun _ => False) w W) ∧ ms[i]? = some m) := by
        have K : Kept (fun _ => False) wo W := by rw [hW]; exact (Kept.refl _ _).alloc _
        refine ⟨?_, ⟨S.out.1.kept K (fun z => z), S.out.2.trans K (fun _ _ z => z)⟩, hm⟩
        rw [hW, hB]
        exact alloc_new _ _
      have EW : Hid (W = wo.alloc (.cells #[.int .i64 m.client, .int .i64 m.op, .bool m.put, .string m.key, .slice m.va m.vn m.vc, .int .i64 m.st, .int .i64 m.frm, .int .i64 m.to, .bool m.opn, .int .i64 m.tx, .int .i64 m.ty] 38) ∧ B = wo.heap.size) := ⟨hW, hB⟩
      clear hW hB cr hm S
      go_upto_region 5 with fail
      rw [← EW.out.1, ← EW.out.2]
      clear c0' c1 c2 c3 c4 c5 c6 c7 c8 c9 c10 EW
      have c0' := cell_blk J.out.1 0 (v := .int .i64 m.client) rfl
      have c9 := cell_blk J.out.1 9 (v := .int .i64 m.tx) rfl
      have c10 := cell_blk J.out.1 10 (v := .int .i64 m.ty) rfl
      obtain ⟨op, hop⟩ : ∃ op, m.opn = op := ⟨_, rfl⟩
      have c8 : W.cell? ⟨B, 8, none⟩ = some (.bool op) := by rw [← hop]; exact cell_blk J.out.1 8 (v := .bool m.opn) rfl
      obtain ⟨zz, hzz⟩ : ∃ zz, kIsZero m.tx m.ty = zz := ⟨_, rfl⟩
      have CZ : Hid (Calls Try.prog 12 #[.agg #[.int .i64 m.tx, .int .i64 m.ty]] W fun o w' => o = .returned (.bool zz) ∧ Kept (fun _ => False) W w') := by
        rw [← hzz]
        exact (kZero _ _ W).mono (fun o w' ⟨e, h⟩ => ⟨e, keptB h⟩)
      have HP : Hid (m.opn = op ∧ kIsZero m.tx m.ty = zz) := ⟨hop, hzz⟩
      clear hop hzz
      cases op
      · have T2 : Hid (IsI W mb (silM ms (i + 1)) (i + 1) ∧ Kept (fun _ => False) w W) := by
          rw [silM_add J.out.2.2, HP.out.1]
          obtain ⟨k, h1, h2⟩ := J.out.2.1.1.tm
          exact ⟨⟨k, h1, by omega⟩, J.out.2.1.2⟩
        go_wp2_with fail
        go_roundw
        case rel => exact ⟨i + 1, by go_num, by omega, T2⟩
        case measure => simp [intOf] <;> omega
      · go_wp2_with fail
        refine CZ.out.mono ?_
        rintro o w2 ⟨rfl, K2⟩
        have T : Hid (IsI w2 mb (silM ms i) i ∧ Kept (fun _ => False) w w2) := ⟨J.out.2.1.1.kept K2 (fun z => z), J.out.2.1.2.trans K2 (fun _ _ z => z)⟩
        replace c0' := K2.cell c0' (fun z => z)
        clear K2 CZ c8 c9 c10
        cases zz
        · have T2 : Hid (IsI w2 mb (silM ms (i + 1)) (i + 1) ∧ Kept (fun _ => False) w w2) := by
            rw [silM_add J.out.2.2, HP.out.1, HP.out.2]
            obtain ⟨k, h1, h2⟩ := T.out.1.tm
            exact ⟨⟨k, h1, by omega⟩, T.out.2⟩
          go_wp2_with fail
          go_roundw
          case rel => exact ⟨i + 1, by go_num, by omega, T2⟩
          case measure => simp [intOf] <;> omega
        · obtain ⟨k, tm, hk⟩ := T.out.1.tm
          have TT : Hid (TM 3 (Lit.int .i64) KI (Value.int .i64) RI w2 mb k (silM ms i) ∧ k < maxLen ∧ KI m.client) := ⟨tm, by unfold maxLen; omega, H.out.2.2 m (List.mem_of_getElem? J.out.2.2)⟩
          clear tm
          go_upto_region 7 with
            (first
              | (at_mapUpdate; refine wpList_put intK _ rfl _ _ _ rfl mb k (silM ms i) rfl TT.out.1 TT.out.2.1 m.client TT.out.2.2 (i : Int) rfl rfl ?_; intro w8 ht8 hk8)
              | fail)
          have T8 : Hid (IsI w8 mb (silM ms (i + 1)) (i + 1) ∧ Kept (fun _ => False) w w8) := by
            rw [silM_add J.out.2.2, HP.out.1, HP.out.2]
            refine ⟨⟨_, ht8.out, ?_⟩, T.out.2.trans hk8.out (fun j hj z => ?_)⟩
            · unfold nput
              split <;> omega
            · have z : j = mb := z
              have := E0.out.1
              omega
          clear ht8 hk8
          go_wp2_with fail
          go_roundw
          case rel => exact ⟨i + 1, by go_num, by omega, T8⟩
          case measure => simp [intOf] <;> omega
    · have i1 : ¬ (i : Int) < (n : Int) := by omega
      have ei : i = n := by omega
      subst ei
      have F : Hid (IsI wo mb (silM ms ms.length) i ∧ w.heap.size ≤ mb ∧ Kept (fun _ => False) w wo) := by
        rw [H.out.1.len]
        exact ⟨S.out.1, Nat.le_of_eq E0.out.1.symm, S.out.2⟩
      go_wp2_with fail
      go_ret
      exact ⟨mb, rfl, F⟩
end Go.Proofs.Ytodmakcklacbfaa
