import Derived.Test.YtgfglbbfoadiaaaBackRead
namespace Go.Proofs.Ytgfglbbfoadiaaa
open Go.RowKit

/-- A thing of a script lies there. -/
structure HasOp (w : World) (b off : Nat) (o : Opv) : Prop where
  c0 : w.cell? ⟨b, off, none⟩ = some (.int .i64 o.kind)
  c1 : w.cell? ⟨b, off + 1, none⟩ = some (.int .i64 o.n)
  c2 : w.cell? ⟨b, off + 2, none⟩ = some (.int .u8 (o.b : Int))
  c3 : w.cell? ⟨b, off + 3, none⟩ = some (.slice o.a o.len o.cap)
  c4 : w.cell? ⟨b, off + 4, none⟩ = some (.string o.s)
  ok : o.Ok w
theorem HasOp.below {w w' : World} {b off : Nat} {o : Opv} (h : HasOp w b off o) (q : Below w.heap.size w w') : HasOp w' b off o := by
  have lt : b < w.heap.size := World.block_lt_of_cell? w _ h.c0
  exact ⟨(q.cell lt).trans h.c0, (q.cell lt).trans h.c1, (q.cell lt).trans h.c2, (q.cell lt).trans h.c3, (q.cell lt).trans h.c4, h.ok.kept (Kept.of_below q) (fun j hj f => by omega)⟩
def Script (w : World) (a : Option Addr) (ops : List Opv) : Prop := 0 < ops.length → ∃ b off, a = some ⟨b, off, none⟩ ∧ ∀ i (h : i < ops.length), HasOp w b (off + i * 5) ops[i]
/-- Whatever a thing names lies in old memory. -/
theorem Opv.Ok.old {o : Opv} {w : World} (h : o.Ok w) (h0 : 0 < o.len) : ∀ p, o.a = some p → p.block < w.heap.size := by
  obtain ⟨b, off, e, hc⟩ := h.rd.cells h0
  intro p hp
  rw [e] at hp
  cases hp
  exact World.block_lt_of_cell? w _ (hc 0 h0)
def forms (ops : List Opv) : List Nat := ops.flatMap Opv.form
theorem forms_take (ops : List Opv) (i : Nat) (h : i < ops.length) : forms (ops.take (i + 1)) = forms (ops.take i) ++ ops[i].form := by
  unfold forms
  rw [List.take_succ_eq_append_getElem h, List.flatMap_append]
  simp
theorem forms_drop (ops : List Opv) (i : Nat) (h : i < ops.length) : forms (ops.drop i) = ops[i].form ++ forms (ops.drop (i + 1)) := by
  unfold forms
  rw [List.drop_eq_getElem_cons h, List.flatMap_cons]
theorem forms_split (ops : List Opv) (i : Nat) : forms ops = forms (ops.take i) ++ forms (ops.drop i) := by
  unfold forms
  rw [← List.flatMap_append, List.take_append_drop]
theorem forms_bytes (ops : List Opv) {w : World} (h : ∀ i (hi : i < ops.length), (ops[i]).Ok w) : ∀ c ∈ forms ops, c < 256 := by
  intro c hc
  obtain ⟨o, ho, hc⟩ := List.mem_flatMap.1 hc
  obtain ⟨i, hi, rfl⟩ := List.getElem_of_mem ho
  have ok := h i hi
  unfold Opv.form at hc
  split at hc
  · exact Pk.form_bytes _ c hc
  · split at hc
    · simp at hc; have := ok.b1; omega
    · split at hc
      · simp at hc; unfold yn at hc; split at hc <;> omega
      · split at hc
        · rcases List.mem_append.1 hc with q | q
          · exact Pk.form_bytes _ c q
          · exact ok.rd.bytes c q
        · split at hc
          · rcases List.mem_append.1 hc with q | q
            · exact Pk.form_bytes _ c q
            · exact sb_bytes _ c q
          · simp at hc

theorem back300 : Pk.form 300 = [172, 2] := by
  rw [Pk.form_big 300 (by omega), Pk.form_small (300 / 128) (by omega)]
/-- The writer of a script. -/
structure Wr (w wr : World) (B : Nat) (v : Value) (m : List Nat) : Prop where
  isW : IsW wr B 0 v m
  far : ∀ j, v.ownBlock = some j → w.heap.size ≤ j
  b : w.heap.size ≤ B
  below : Below w.heap.size w wr
theorem Wr.put {w wr w2 : World} {B : Nat} {v v2 : Value} {m m2 : List Nat} (h : Wr w wr B v m) (p : Put wr B v w2 0 v2 m2) : Wr w w2 B v2 m2 := by
  have hs := h.below.size
  refine ⟨p.isW, fun j hj => ?_, h.b, h.below.trans (p.kept.below hs (fun j q => ?_))⟩
  · rcases p.near j hj with q | q
    · exact h.far j q
    · omega
  · rcases q with q | q
    · have := h.b; omega
    · exact h.far j q
theorem Wr.apart {w wr : World} {B : Nat} {v : Value} {m : List Nat} {o : Opv} (h : Wr w wr B v m) (ok : o.Ok w) : o.far B v := fun h0 p hp q => by
  have lt := ok.old h0 p hp
  rcases q with q | q
  · have := h.b; omega
  · have := h.far _ q; omega
theorem uint_less (S : Nat) (E : Option Nat) (T : List Nat) (w : World) (hr : Cut w S E (Pk.form 300 ++ T)) :
    Calls Try.prog 19 #[.pointer (some ⟨S, 0, none⟩), .int .i64 300] w fun x w' => (∃ z, x = .returned (.int .i64 z)) ∧ Cut w' S E T ∧ Kept (fun j => j = S) w w' := by
  rcases hr with ⟨hne, k, hr⟩ | ⟨hnil, k, hr⟩
  · by_cases hT : T = []
    · subst hT
      rw [List.append_nil] at hr
      refine (rUint_bad S E 0 300 30 k 0 0 _ w hr (Pk.parse_cut 300 300 (by omega)) (by omega)).mono ?_
      rintro x w' ⟨z, t⟩
      exact ⟨⟨_, z⟩, .inr ⟨rfl, k, t.isR⟩, t.kept⟩
    · rw [dropLast_app _ _ hT] at hr
      refine (rUint_ok S E 0 300 k 300 _ _ w hr (Pk.parse_form 300 300 _ (by omega) (by omega))).mono ?_
      rintro x w' ⟨z, t⟩
      rw [drop_form] at t
      exact ⟨⟨_, z⟩, .inl ⟨hT, _, t.isR⟩, t.kept⟩
  · exact absurd (List.append_eq_nil_iff.1 hnil).1 (form_ne 300)

/-- The readers of what was written. -/
structure Rd (w wr : World) (R : Nat) (D : Option Nat) (S : Nat) (E : Option Nat) (k M : Nat) (T : List Nat) : Prop where
  isR : IsR wr R D 0 k T
  cut : Cut wr S E T
  sum : k + T.length = M
  rs : R ≠ S
  ds : D ≠ some S
  er : E ≠ some R
  old : w.heap.size ≤ R ∧ w.heap.size ≤ S
  below : Below w.heap.size w wr
theorem Rd.left {w wr w2 : World} {R : Nat} {D : Option Nat} {S : Nat} {E : Option Nat} {k M : Nat} {T : List Nat} (h : Rd w wr R D S E k M T) {k2 : Nat} {T2 : List Nat} (t : Took wr R D w2 0 k2 T2) :
    Cut w2 S E T ∧ Below w.heap.size w w2 := by
  have ho := h.old
  exact ⟨h.cut.kept t.kept (fun q => h.rs q.symm) (fun j hj q => h.er (by rw [hj, q])), h.below.trans (t.kept.below h.below.size (fun j q => by omega))⟩
theorem ok_off {w : World} {o : Opv} {R : Nat} (ok : o.Ok w) (h : w.heap.size ≤ R) : o.off R := fun h0 p hp q => by
  have := ok.old h0 p hp
  omega

set_option maxRecDepth 100000 in
set_option maxHeartbeats 4000000 in
theorem back_walk (a : Option Addr) (len cap : Nat) (ops : List Opv) (w : World) (hl : ops.length = len) (sc : Script w a ops) (hk : len ≤ 9223372036854775807) (hs : 2 + (forms ops).length ≤ 140737488355328)
    (hb : ∀ i (h : i < ops.length), ops[i].len ≤ 140737488355328 ∧ ops[i].s.size ≤ 140737488355328) :
    Calls Try.prog 5 #[.slice a len cap] w fun x w' => x = .returned (.bool true) ∧ Below w.heap.size w w' := by
  have SC : Hid (Script w a ops) := sc
  have HL : Hid (ops.length = len) := hl
  have HB : Hid (∀ i (h : i < ops.length), ops[i].len ≤ 140737488355328 ∧ ops[i].s.size ≤ 140737488355328) := hb
  have HS : Hid (2 + (forms ops).length ≤ 140737488355328) := hs
  have OKS : Hid (∀ i (hi : i < ops.length), (ops[i]).Ok w) := fun i hi => by
    obtain ⟨_, _, _, h⟩ := sc (by omega)
    exact (h i hi).ok
  clear sc hl hb hs
  have f300 : (Pk.form 300).length = 2 := by rw [back300]; rfl
  have F300 : Hid ((Pk.form 300).length = 2) := f300
  clear f300
  go_enter Try.func5, Try.ntmps5
  go_wp2_with fail
  refine (newWriter w).mono ?_
  rintro x w1 ⟨rfl, hw1⟩
  have W1 : Hid (Wr w w1 w.heap.size (.slice none 0 0) []) := ⟨by rw [hw1]; exact IsW.new w, fun j hj => by simp [Value.ownBlock] at hj, Nat.le_refl _, by rw [hw1]; exact (Below.refl _ _).alloc (Nat.le_refl _) _⟩
  clear hw1
  obtain ⟨B, hB⟩ : ∃ B, w.heap.size = B := ⟨_, rfl⟩
  rw [hB] at W1 ⊢
  have BH : Hid (w.heap.size = B) := hB
  clear hB
  go_wp2_with fail
  refine (wUint B _ [] 300 w1 W1.out.isW (by omega) (by rw [F300.out]; simp)).mono ?_
  rintro x w2 ⟨rfl, v, P⟩
  rw [List.nil_append] at P
  have W2 : Hid (Wr w w2 B v (Pk.form 300)) := W1.out.put P
  clear P
  go_wp2_with fail
  go_loopw [4] (fun x wr => ∃ (i : Nat) (v : Value), x = .int .i64 (i : Int) ∧ i ≤ len ∧ Hid (Wr w wr B v (Pk.form 300 ++ forms (ops.take i)))) (fun x _ => len - (intOf x).toNat)
  case atStart => exact ⟨0, v, rfl, Nat.zero_le _, by simpa [forms] using W2⟩
  case round =>
    obtain ⟨i, v, rfl, hi, W⟩ := hrel
    by_cases hlt : i < len
    · have hio : i < ops.length := by rw [HL.out]; exact hlt
      obtain ⟨b, off, rfl, hc⟩ := SC.out (by omega)
      have h := (hc i hio).below W.out.below
      have ok := (hc i hio).ok
      obtain ⟨o, ho⟩ : ∃ o, ops[i] = o := ⟨_, rfl⟩
      have ft := forms_take ops i hio
      have fs := forms_split ops (i + 1)
      rw [ho] at h ok ft
      have FT : Hid (forms (ops.take (i + 1)) = forms (ops.take i) ++ o.form) := ft
      have HO : Hid (HasOp wr b (off + i * 5) o) := h
      have OK : Hid (o.Ok w) := ok
      have LN : Hid ((Pk.form 300 ++ forms (ops.take i)).length + o.form.length ≤ 140737488355328) := by
        show _ ≤ _
        have l1 := congrArg List.length fs
        have l2 := congrArg List.length ft
        have l3 := HS.out
        have l4 := F300.out
        simp only [List.length_append] at l1 l2 ⊢
        omega
      have c0 := h.c0
      have c1 := h.c1
      have c2 := h.c2
      have c3 := h.c3
      have c4 := h.c4
      have i1 : (i : Int) < (len : Int) := by omega
      clear hc h ok ft fs ho hio
      go_wp2_with fail
      refine (write_any B v _ o wr W.out.isW HO.out.ok (W.out.apart OK.out) LN.out).mono ?_
      rintro x w3 ⟨rfl, v3, P⟩
      have W3 : Hid (Wr w w3 B v3 (Pk.form 300 ++ forms (ops.take (i + 1)))) := by
        have := W.out.put P
        rw [List.append_assoc, ← FT.out] at this
        exact this
      clear P
      go_wp2_with fail
      go_roundw
      case rel => exact ⟨i + 1, v3, by go_num, by omega, W3⟩
      case measure => simp [intOf]; omega
    · have hk' : len = i := by omega
      subst hk'
      clear hlt hi
      have ea : ops.take len = ops := by rw [← HL.out]; exact List.take_length
      rw [ea] at W
      clear ea
      obtain ⟨T, hT⟩ : ∃ T, Pk.form 300 ++ forms ops = T := ⟨_, rfl⟩
      rw [hT] at W
      have TH : Hid (Pk.form 300 ++ forms ops = T) := hT
      have hTl : T.length = 2 + (forms ops).length := by rw [← hT, List.length_append, F300.out]
      obtain ⟨M, hM⟩ : ∃ M, T.length = M + 1 := ⟨T.length - 1, by omega⟩
      have hM1 : 1 ≤ M := by omega
      have hM2 : M + 1 ≤ 140737488355328 := by have := HS.out; omega
      have MH : Hid (T.length = M + 1) := hM
      have T0 : Hid (T.getD 0 0 = 172 ∧ T.getD 1 0 = 2) := by rw [← hT, back300]; exact ⟨rfl, rfl⟩
      clear hT hTl hM
      go_wp2_with fail
      refine (wData B 0 v T wr W.out.isW (by rw [MH.out]; omega)).mono ?_
      rintro x w4 ⟨p, c, rfl, ho, k4⟩
      rw [MH.out] at ho
      rw [MH.out]
      have r4 := own_slice ho W.out.isW.bytes
      have b4 : Below w.heap.size w w4 := W.out.below.trans (k4.below W.out.below.size (fun _ f => f.elim))
      have iw4 : IsW w4 B 0 v T := W.out.isW.kept k4 (fun f => f) (fun _ _ f => f)
      obtain ⟨pb, po, rfl, hc⟩ := r4.cells (by omega)
      have c0 := hc 0 (by omega)
      have c1 := hc 1 (by omega)
      rw [T0.out.1, Nat.add_zero] at c0
      rw [T0.out.2] at c1
      have R4 : Hid (Reads w4 (some ⟨pb, po, none⟩) (M + 1) c T) := r4
      have B4 : Hid (Below w.heap.size w w4) := b4
      have IW4 : Hid (IsW w4 B 0 v T) := iw4
      have hcr := r4.room
      have hcs := r4.small
      unfold maxLen at hcs
      clear hc r4 b4 iw4 ho k4 W
      have m1 : ¬ (((M + 1 : Nat) : Int) < 2) := by omega
      go_wp2_with fail
      refine (wErr B 0 v T w4 IW4.out).mono ?_
      rintro x w5 ⟨rfl, rfl⟩
      go_wp2_with fail
      refine (newReader _ (M + 1) c T w5 R4.out hM2).mono ?_
      rintro x w6 ⟨R, D, rfl, hR, hD, ir, k6⟩
      have IR : Hid (IsR w6 R D 0 0 T) := ir
      have K6 : Hid (Kept (fun _ => False) w5 w6) := k6
      have HR : Hid (w5.heap.size ≤ R ∧ R < w6.heap.size ∧ ∀ j, D = some j → w5.heap.size ≤ j ∧ j < w6.heap.size) := ⟨hR, ir.lt, hD⟩
      have R6 : Hid (Reads w6 (some ⟨pb, po, none⟩) M c (T.take M)) := (R4.out.kept k6 (fun _ _ f => f)).take M (by omega)
      clear ir k6 hR hD
      go_wp2_with fail
      refine (newReader _ M c (T.take M) w6 R6.out (by omega)).mono ?_
      rintro x w7 ⟨S, E, rfl, hR, hD, ir, k7⟩
      have eT : T.take M = T.dropLast := by rw [List.dropLast_eq_take, MH.out]; rfl
      rw [eT] at ir
      have RD : Hid (IsR w7 R D 0 0 T ∧ Cut w7 S E T ∧ R ≠ S ∧ D ≠ some S ∧ E ≠ some R ∧ (w.heap.size ≤ R ∧ w.heap.size ≤ S) ∧ Below w.heap.size w w7) := by
        have h1 := HR.out
        have h2 := B4.out.size
        have h3 := K6.out.size
        refine ⟨IR.out.kept k7 (fun f => f) (fun _ _ f => f), .inl ⟨fun q => by have := MH.out; rw [q] at this; simp at this, 0, ir⟩, by omega, fun q => ?_, fun q => ?_, ⟨by omega, by omega⟩, ?_⟩
        · have := h1.2.2 S q; omega
        · have := hD R q; omega
        · exact (B4.out.trans (K6.out.below h2 (fun _ f => f.elim))).trans (k7.below (by omega) (fun _ f => f.elim))
      clear ir k7 hR hD eT
      obtain ⟨T1, hT1⟩ : ∃ t, forms ops = t := ⟨_, rfl⟩
      have TP : Hid (T = Pk.form 300 ++ T1) := by show T = _; rw [← hT1]; exact TH.out.symm
      have T1H : Hid (forms ops = T1) := hT1
      clear hT1
      go_wp2_with fail
      refine (rUint_ok R D 0 300 0 300 2 T w7 RD.out.1 (by
        have := Pk.parse_form 300 300 T1 (by omega) (by omega)
        rw [F300.out, ← TP.out] at this
        exact this)).mono ?_
      rintro x w8 ⟨rfl, t8⟩
      have hd2 : T.drop 2 = T1 := by rw [TP.out, ← F300.out, drop_form]
      rw [hd2, Nat.zero_add] at t8
      have RE : Hid (IsR w8 R D 0 2 T1 ∧ Cut w8 S E (Pk.form 300 ++ T1) ∧ R ≠ S ∧ D ≠ some S ∧ E ≠ some R ∧ (w.heap.size ≤ R ∧ w.heap.size ≤ S) ∧ Below w.heap.size w w8) := by
        obtain ⟨q1, q2, q3, q4, q5, q6, q7⟩ := RD.out
        refine ⟨t8.isR, ?_, q3, q4, q5, q6, q7.trans (t8.kept.below q7.size (fun j f => by omega))⟩
        rw [← TP.out]
        exact q2.kept t8.kept (fun f => q3 f.symm) (fun j hj f => q5 (by rw [hj, f]))
      clear t8 hd2
      go_wp2_with fail
      refine (uint_less S E T1 w8 RE.out.2.1).mono ?_
      rintro x w9 ⟨⟨z9, rfl⟩, ct, k9⟩
      have RN : Hid (Rd w w9 R D S E 2 (M + 1) T1) := by
        obtain ⟨q1, q2, q3, q4, q5, q6, q7⟩ := RE.out
        refine ⟨q1.kept k9 q3 (fun j hj f => q4 (by rw [hj, f])), ct, ?_, q3, q4, q5, q6, q7.trans (k9.below q7.size (fun j f => by omega))⟩
        have := congrArg List.length TP.out
        rw [List.length_append, F300.out, MH.out] at this
        omega
      clear ct k9
      go_wp2_with fail
      go_loopw [8] (fun x wr => ∃ (i k : Nat), x = .int .i64 (i : Int) ∧ i ≤ len ∧ Hid (Rd w wr R D S E k (M + 1) (forms (ops.drop i)))) (fun x _ => len - (intOf x).toNat)
      case atStart => exact ⟨0, 2, rfl, Nat.zero_le _, by rw [List.drop_zero, T1H.out]; exact RN⟩
      case round =>
        obtain ⟨i, k, rfl, hi, N⟩ := hrel
        by_cases hlt : i < len
        · have hio : i < ops.length := by rw [HL.out]; exact hlt
          obtain ⟨b, off, rfl, hc⟩ := SC.out (by omega)
          have h := (hc i hio).below N.out.below
          obtain ⟨o, ho⟩ : ∃ o, ops[i] = o := ⟨_, rfl⟩
          have fd := forms_drop ops i hio
          have hbi := HB.out i hio
          rw [ho] at h fd hbi
          have hh : HasOp w b (off + i * 5) o := by rw [← ho]; exact hc i hio
          have ok := hh.ok
          rw [fd] at N
          have HO : Hid (HasOp wr b (off + i * 5) o) := h
          have HW : Hid (HasOp w b (off + i * 5) o) := hh
          have OK : Hid (o.Ok w) := ok
          have BI : Hid (o.len ≤ 140737488355328 ∧ o.s.size ≤ 140737488355328) := hbi
          have c0 := h.c0
          have c1 := h.c1
          have c2 := h.c2
          have c3 := h.c3
          have c4 := h.c4
          have i1 : (i : Int) < (len : Int) := by omega
          obtain ⟨T2, hT2⟩ : ∃ t, forms (ops.drop (i + 1)) = t := ⟨_, rfl⟩
          rw [hT2] at N
          have T2H : Hid (forms (ops.drop (i + 1)) = T2) := hT2
          clear hc h ok fd ho hio hbi hT2 hh
          go_wp2_with fail
          refine (read_ok R D 0 k o T2 wr N.out.isR HO.out.ok (ok_off OK.out N.out.old.1) BI.out.1 BI.out.2).mono ?_
          rintro x wa ⟨rfl, ta⟩
          have TA : Hid (Took wr R D wa 0 (k + o.form.length) T2) := ta
          have NL := N.out.left ta
          have NC : Hid (Cut wa S E (o.form ++ T2)) := NL.1
          have NB : Hid (Below w.heap.size w wa) := NL.2
          have h := HW.out.below NB.out
          have HA : Hid (HasOp wa b (off + i * 5) o) := h
          have d0 := h.c0
          have d1 := h.c1
          have d2 := h.c2
          have d3 := h.c3
          have d4 := h.c4
          clear ta NL h
          go_wp2_with fail
          refine (rErr R D 0 _ _ wa TA.out.isR).mono ?_
          rintro x wb ⟨rfl, rfl⟩
          go_wp2_with fail
          refine (read_less S E o T2 wb NC.out HA.out.ok (ok_off OK.out N.out.old.2) BI.out.1 BI.out.2).mono ?_
          rintro x wc ⟨⟨z, rfl⟩, ct, kc⟩
          have NN : Hid (Rd w wc R D S E (k + o.form.length) (M + 1) (forms (ops.drop (i + 1)))) := by
            have n := N.out
            have o1 := n.old
            refine ⟨?_, ?_, ?_, n.rs, n.ds, n.er, n.old, NB.out.trans (kc.below NB.out.size (fun j f => by omega))⟩
            · rw [T2H.out]; exact TA.out.isR.kept kc n.rs (fun j hj f => n.ds (by rw [hj, f]))
            · rw [T2H.out]; exact ct
            · rw [T2H.out]; have := n.sum; rw [List.length_append] at this; omega
          clear ct kc
          go_wp2_with fail
          go_roundw
          case rel => exact ⟨i + 1, k + o.form.length, by go_num, by omega, NN⟩
          case measure => simp [intOf]; omega
        · have hk' : len = i := by omega
          have ed : ops.drop i = [] := List.drop_of_length_le (by rw [HL.out]; omega)
          subst hk'
          clear hlt hi
          rw [ed] at N
          have N2 : Hid (Rd w wr R D S E k (M + 1) []) := N
          clear ed N
          have hkM : k = M + 1 := by have := N2.out.sum; simpa using this
          have CE : Hid (∃ k, IsR wr S E 30 k []) := by
            rcases N2.out.cut with ⟨q, _⟩ | ⟨_, q⟩
            · exact absurd rfl q
            · exact q
          obtain ⟨k3, hk3⟩ := CE.out
          have C3 : Hid (IsR wr S E 30 k3 []) := hk3
          subst hkM
          clear hk3
          go_wp2_with fail
          refine (rEnd_ok R D 0 (M + 1) wr N2.out.isR).mono ?_
          rintro x wa ⟨rfl, rfl⟩
          go_wp2_with fail
          refine (rErr R D 0 (M + 1) [] wa N2.out.isR).mono ?_
          rintro x wb ⟨rfl, rfl⟩
          go_wp2_with fail
          refine (rAt R D 0 (M + 1) [] wb N2.out.isR).mono ?_
          rintro x wc ⟨rfl, rfl⟩
          go_wp2_with fail
          refine (rErr S E 30 k3 [] wc C3.out).mono ?_
          rintro x wd ⟨rfl, rfl⟩
          go_wp2_with fail
          go_ret
          exact ⟨by simp, N2.out.below⟩
end Go.Proofs.Ytgfglbbfoadiaaa
