import Derived.Test.YtodmakcklacbfaaPLoop
namespace Go.Proofs.Ytodmakcklacbfaa
open Go.RowKit Go.Shelf Go.Lib Go.Sort

theorem silM_nn (ms : List Cm) : ∀ (i : Nat) (x l : Int), silM ms i x = some l → 0 ≤ l
  | 0, x, l, h => by cases h
  | i + 1, x, l, h => by
    have ih := silM_nn ms i
    cases q : ms[i]? with
    | none =>
      have e : silM ms (i + 1) = silM ms i := by
        show (match ms[i]? with | some m => if (m.opn && kIsZero m.tx m.ty) = true then upd (silM ms i) m.client (i : Int) else silM ms i | none => silM ms i) = _
        rw [q]
      rw [e] at h
      exact ih x l h
    | some m =>
      rw [silM_add q] at h
      split at h
      · unfold upd at h
        split at h
        · have h := Option.some.inj h
          omega
        · exact ih x l h
      · exact ih x l h
theorem st41 (w1 : World) (CB : Nat) : (store ⟨w1.heap.size, 0, none⟩ (.func (.func 29) #[] #[.pointer (some ⟨CB, 0, none⟩)])).run Try.prog (w1.alloc (Obj.cells #[.nilFunc] 41)) = .ok () (w1.alloc (Obj.cells #[.func (.func 29) #[] #[.pointer (some ⟨CB, 0, none⟩)]] 41)) := by
  rw [run_store _ _ _ _ _ rfl]
  simp [go_sem]
/-- How long a slice is. -/
def lenOf (v : Value) : Nat := match v with | .slice _ k _ => k | _ => 0
theorem BS.addr {w : World} {p0 : Option Addr} {n c0 mb bd CB : Nat} {p1 : Option Addr} {k1 c1 : Nat} {acc : List Nat} {b off kl cl s : Nat} {L : List Nat} {M : Int → Option Int} {wr : World} (h : BS w p0 n c0 mb bd CB p1 k1 c1 acc (some ⟨b, off + s, none⟩) (kl - s) (cl - s) L M wr) (hk : kl ≤ cl) : BS w p0 n c0 mb bd CB p1 k1 c1 acc (if cl = s then some ⟨b, off, none⟩ else some ⟨b, off + s, none⟩) (kl - s) (cl - s) L M wr := by
  by_cases e : cl = s
  · rw [if_pos e]
    exact ⟨h.ord, ⟨h.left.len, h.left.room, h.left.small, fun z => absurd z (by omega)⟩, h.map, h.ap, h.al, h.kept, h.cb, h.ne⟩
  · rw [if_neg e]
    exact h
set_option maxRecDepth 100000 in
set_option maxHeartbeats 8000000 in
theorem oByTags {w : World} {p0 : Option Addr} {n c0 : Nat} {ms : List Cm} (cr : CRd w p0 n c0 ms) (hb : n ≤ 1300000000000) (ck : ∀ m ∈ ms, KI m.client) (ct : ∀ m ∈ ms, KI m.ty) : Calls Try.prog 10 #[.slice p0 n c0] w (RetY (ByQ w ms)) := by
  have rm := cr.room
  have sm := cr.small
  unfold maxLen at sm
  obtain ⟨CB, hCB⟩ : ∃ CB, CB = w.heap.size := ⟨_, rfl⟩
  obtain ⟨W, hW⟩ : ∃ W, W = w.alloc (Obj.cells #[.slice p0 n c0] 27) := ⟨_, rfl⟩
  have H : Hid (CRd w p0 n c0 ms ∧ n ≤ 1300000000000 ∧ (∀ m ∈ ms, KI m.client) ∧ (∀ m ∈ ms, KI m.ty) ∧ CB = w.heap.size) := ⟨cr, hb, ck, ct, hCB⟩
  have J : Hid (Kept (fun _ => False) w W ∧ W.heap.size = CB + 1 ∧ W.cell? ⟨CB, 0, none⟩ = some (.slice p0 n c0)) := by
    refine ⟨by rw [hW]; exact (Kept.refl _ _).alloc _, by rw [hW, hCB]; simp, by rw [hW, hCB]; simp⟩
  have EW : Hid (W = w.alloc (Obj.cells #[.slice p0 n c0] 27) ∧ CB = w.heap.size) := ⟨hW, hCB⟩
  clear cr hb ck ct hCB hW
  have C1 : Hid (Calls Try.prog 28 #[.slice p0 n c0] W (RetB fun v w' => (v = true ↔ FitL ms) ∧ Kept (fun _ => False) W w')) := oFits (H.out.1.k0 J.out.1)
  go_enter Try.func10, Try.ntmps10
  go_wp2_with fail
  rw [← EW.out.1, ← EW.out.2]
  refine C1.out.mono ?_
  rintro o w1 ⟨v1, rfl, hv1, K1⟩
  have S1 : Hid ((v1 = true ↔ FitL ms) ∧ Kept (fun _ => False) w w1 ∧ w1.cell? ⟨CB, 0, none⟩ = some (.slice p0 n c0) ∧ CB < w1.heap.size) := ⟨hv1, J.out.1.trans K1 (fun _ _ z => z), K1.cell J.out.2.2 (fun z => z), by have h1 := K1.size; have h2 := J.out.2.1; omega⟩
  clear C1 hv1 K1
  cases v1
  · have F : Hid (ByQ w ms none 0 0 1 w1) := ⟨⟨[], .inl ⟨rfl, fun z => (by cases S1.out.1.2 z), rfl⟩, NRow.nil _ _⟩, S1.out.2.1⟩
    go_wp2_with fail
    go_ret2
    exact RetY.mk none 0 0 1 rfl F.out
  · have FT : Hid (FitL ms) := S1.out.1.1 (by first | rfl | trivial)
    obtain ⟨FB, hFB⟩ : ∃ FB, FB = w1.heap.size := ⟨_, rfl⟩
    obtain ⟨W2, hW2⟩ : ∃ W2, W2 = w1.alloc (Obj.cells #[.func (.func 29) #[] #[.pointer (some ⟨CB, 0, none⟩)]] 41) := ⟨_, rfl⟩
    have st := st41 w1 CB
    have J2 : Hid (Kept (fun _ => False) w W2 ∧ W2.cell? ⟨CB, 0, none⟩ = some (.slice p0 n c0) ∧ W2.cell? ⟨FB, 0, none⟩ = some (.func (.func 29) #[] #[.pointer (some ⟨CB, 0, none⟩)]) ∧ CB < W2.heap.size ∧ FB < W2.heap.size) := by
      have K : Kept (fun _ => False) w1 W2 := by rw [hW2]; exact (Kept.refl _ _).alloc _
      have hb : W2.heap[FB]? = some (.cells #[.func (.func 29) #[] #[.pointer (some ⟨CB, 0, none⟩)]] 41 (0, 0)) := by
        rw [hW2, hFB]
        exact alloc_new w1 _
      exact ⟨S1.out.2.1.trans K (fun _ _ z => z), K.cell S1.out.2.2.1 (fun z => z), cell_blk hb 0 rfl, Nat.lt_of_lt_of_le S1.out.2.2.2 K.size, block_lt hb⟩
    have c1 := S1.out.2.2.1
    go_upto_region 5 with fail
    rw [← hW2, ← hFB]
    clear hW2 hFB S1 c1 J EW st
    have c1 := J2.out.2.1
    have c2 := J2.out.2.2.1
    have CA : Hid (Calls Try.prog 33 #[.slice p0 n c0, .func (.func 34) #[] #[], .func (.func 29) #[] #[.pointer (some ⟨CB, 0, none⟩)]] W2 (RetS (SortQ W2 ms (fun m : Cm => !m.put && decide (0 ≤ m.to) && decide (m.st = 76)) (FromLt ms)))) := sortedA (H.out.1.k0 J2.out.1) H.out.2.1 (sortsF (H.out.1.k0 J2.out.1) J2.out.2.1)
    go_wp2_with fail
    refine CA.out.mono ?_
    rintro o w3 ⟨pA, kA, cA, rfl, qA⟩
    obtain ⟨RA, qA1, qA2, rowA⟩ := qA.ans
    have T3 : Hid (SortOf ms absB (FromLt ms) RA ∧ NRow W2.heap.size w3 pA kA cA RA ∧ Kept (fun _ => False) W2 w3) := ⟨⟨qA1, qA2⟩, rowA, qA.kept⟩
    clear CA qA qA1 qA2 rowA
    replace c1 := T3.out.2.2.cell c1 (fun z => z)
    replace c2 := T3.out.2.2.cell c2 (fun z => z)
    have K3 : Hid (Kept (fun _ => False) w w3) := J2.out.1.trans T3.out.2.2 (fun _ _ z => z)
    have CS : Hid (Calls Try.prog 35 #[.slice p0 n c0] w3 fun o w' => ∃ mb, o = .returned (.map (some mb)) ∧ Hid (IsI w' mb (silM ms ms.length) n ∧ w3.heap.size ≤ mb ∧ Kept (fun _ => False) w3 w')) := oSilent (H.out.1.k0 K3.out) H.out.2.1 H.out.2.2.1
    go_wp2_with fail
    refine CS.out.mono ?_
    rintro o w4 ⟨mb, rfl, M4⟩
    clear CS
    replace c1 := M4.out.2.2.cell c1 (fun z => z)
    replace c2 := M4.out.2.2.cell c2 (fun z => z)
    have K4 : Hid (Kept (fun _ => False) w w4) := K3.out.trans M4.out.2.2 (fun _ _ z => z)
    have CT : Hid (Calls Try.prog 33 #[.slice p0 n c0, .func (.func 36) #[] #[], .func (.func 32) #[] #[.pointer (some ⟨CB, 0, none⟩), .pointer (some ⟨FB, 0, none⟩)]] w4 (RetS (SortQ w4 ms Cm.tells (TagLt ms)))) := sortedT (H.out.1.k0 K4.out) H.out.2.1 (sortsT (H.out.1.k0 K4.out) c1 c2)
    go_wp2_with fail
    refine CT.out.mono ?_
    rintro o w5 ⟨pT, kT, cT, rfl, qT⟩
    obtain ⟨RT, qT1, qT2, rowT⟩ := qT.ans
    have T5 : Hid (SortOf ms Cm.tells (TagLt ms) RT ∧ NRow w4.heap.size w5 pT kT cT RT ∧ Kept (fun _ => False) w4 w5) := ⟨⟨qT1, qT2⟩, rowT, qT.kept⟩
    clear CT qT qT1 qT2 rowT
    obtain ⟨Y, hY⟩ : ∃ Y, Y = runX ms RT.length RT (silM ms ms.length) RA := ⟨_, rfl⟩
    have B0 : Hid (BS w p0 n c0 mb n CB pA kA cA RA pT kT cT RT (silM ms ms.length) w5) := by
      have K5 := T5.out.2.2
      have mlt : mb < w4.heap.size := by obtain ⟨_, t, _⟩ := M4.out.1.tm; exact t.lt
      have s2 := J2.out.1.size
      have s3 := T3.out.2.2.size
      have s4 := M4.out.2.2.size
      have s5 := K5.size
      have lA : ∀ j, blockOf pA = some j → W2.heap.size ≤ j ∧ j < w3.heap.size := fun j z => own_lt T3.out.2.1.row j z
      have lT : ∀ j, blockOf pT = some j → w4.heap.size ≤ j ∧ j < w5.heap.size := fun j z => own_lt T5.out.2.1.row j z
      have j4 := J2.out.2.2.2.1
      have m3 := M4.out.2.1
      refine ⟨((T3.out.2.1.k0 M4.out.2.2).k0 K5).mono s2, T5.out.2.1.ird, M4.out.1.kept K5 (fun z => z), fun j z => ⟨?_, ?_, fun y => ?_⟩, fun j z => ⟨?_, (lT j z).2⟩, K4.out.trans K5 (fun _ _ z => z), K5.cell c1 (fun z => z), ?_, ?_, ?_, ?_⟩
      · have := lA j z
        omega
      · have := lA j z
        omega
      · have h1 := lA j z
        have h2 := lT j y
        omega
      · have := lT j z
        omega
      · omega
      · omega
      · omega
      · omega
    have LR : Hid ((∀ r ∈ RT, r < n) ∧ RT.length = kT ∧ kT ≤ n ∧ RA.length ≤ n) := by
      have h1 : ∀ r ∈ RT, r < n := fun r hr => by
        have := numsK_lt r ((T5.out.1.1.mem_iff).1 hr)
        rw [H.out.1.len] at this
        exact this
      have h2 := T5.out.2.1.len
      have h3 := T5.out.1.1.length_eq
      have h4 := @numsK_len Cm.tells ms ms.length
      have h5 := T3.out.1.1.length_eq
      have h6 := @numsK_len absB ms ms.length
      have h7 := H.out.1.len
      exact ⟨h1, h2, by omega, by omega⟩
    have I0 : Hid (∃ f, kT ≤ f ∧ Y = runX ms f RT (silM ms ms.length) RA ∧ RA.length + 2 * kT ≤ 3 * n ∧ (∀ x l, silM ms ms.length x = some l → 0 ≤ l) ∧ (∀ r ∈ RT, r < n) ∧ kT ≤ n) := ⟨RT.length, Nat.le_of_eq LR.out.2.1.symm, hY, by have h := LR.out; omega, silM_nn ms ms.length, LR.out.1, LR.out.2.2.1⟩
    have HY : Hid (Y = runX ms RT.length RT (silM ms ms.length) RA ∧ SortOf ms absB (FromLt ms) RA ∧ SortOf ms Cm.tells (TagLt ms) RT) := ⟨hY, T3.out.1, T5.out.1⟩
    clear hY LR T3 T5 M4 K3 K4 J2 c1 c2
    go_wp2_with fail
    go_loopw [6, 8, 9, 10, 11] (fun u6 u8 _ _ _ wr => ∃ (p1 : Option Addr) (k1 c1 : Nat) (acc : List Nat) (ql : Option Addr) (kl cl : Nat) (L : List Nat) (M : Int → Option Int), u6 = .slice p1 k1 c1 ∧ u8 = .slice ql kl cl ∧ Hid (BS w p0 n c0 mb n CB p1 k1 c1 acc ql kl cl L M wr) ∧ Hid (∃ f, kl ≤ f ∧ Y = runX ms f L M acc ∧ acc.length + 2 * kl ≤ 3 * n ∧ (∀ x l, M x = some l → 0 ≤ l) ∧ (∀ r ∈ L, r < n) ∧ kl ≤ n)) (fun _ u8 _ _ _ _ => lenOf u8)
    case atStart => exact ⟨pA, kA, cA, RA, pT, kT, cT, RT, _, rfl, rfl, B0, I0⟩
    case round =>
      obtain ⟨p1, k1, c1, acc, ql, kl, cl, L, M, rfl, rfl, S, I⟩ := hrel
      clear B0 I0
      obtain ⟨wo, hwo⟩ : ∃ wo, wo = wr := ⟨_, rfl⟩
      rw [← hwo] at S ⊢
      clear hwo
      have rl := S.out.left.room
      have sl := S.out.left.small
      unfold maxLen at sl
      by_cases hlt : 0 < kl
      · have i1 : (0 : Int) < (kl : Int) := by omega
        have hll : L.length = kl := by have := S.out.left.len; rw [List.length_map] at this; exact this
        obtain ⟨b, off, x, rfl, _, _⟩ := S.out.left.at hlt
        have cb := S.out.cb
        have CK : Hid (Calls Try.prog 37 #[.slice p0 n c0, .slice (some ⟨b, off, none⟩) kl cl] wo (RetN fun s w' => Alike ms L s ∧ Kept (fun _ => False) wo w')) := oAlike (H.out.1.k0 S.out.kept) S.out.left hlt (by obtain ⟨_, _, _, _, _, z, _⟩ := I.out; exact z)
        have HL : Hid (L.length = kl) := hll
        clear hll
        go_wp2_with fail
        refine CK.out.mono ?_
        rintro o w6 ⟨s, rfl, al, K6⟩
        have S6 : Hid (BS w p0 n c0 mb n CB p1 k1 c1 acc (some ⟨b, off, none⟩) kl cl L M w6) := S.out.k0 K6
        obtain ⟨s0, sle, r0, m0, hr0, hm0, al1, al2⟩ := al
        have A : Hid (Alike ms L s ∧ L[0]? = some r0 ∧ ms[r0]? = some m0) := ⟨⟨s0, sle, r0, m0, hr0, hm0, al1, al2⟩, hr0, hm0⟩
        rw [HL.out] at sle
        have ss1 : (s : Int) ≤ (kl : Int) := by omega
        have ss2 : (s : Int) ≤ (cl : Int) := by omega
        have kc1 : (kl : Int) ≤ (cl : Int) := by omega
        clear CK S K6 al1 al2 hr0 hm0 cb
        have cb := S6.out.cb
        have CO : Hid (∀ V, Kept (fun _ => False) w6 V → Calls Try.prog 38 #[.slice p0 n c0, .slice (some ⟨b, off, none⟩) s cl, .map (some mb)] V (RetX (OnX V ms (L.take s) M m0.tx m0.ty mb n))) := by
          intro V K
          obtain ⟨f, _, _, _, nn, ln, lk⟩ := I.out
          have B := S6.out.k0 K
          have ir := B.left.take sle
          rw [← List.map_take] at ir
          exact oOneTag (H.out.1.k0 B.kept) ir s0 (by have h := H.out.2.1; have h2 := H.out.1.len; omega) (fun r hr => ln r (List.mem_of_mem_take hr)) B.map nn (by rw [List.getElem?_take_of_lt s0]; exact A.out.2.1) A.out.2.2 (H.out.2.2.2.1 m0 (List.mem_of_getElem? A.out.2.2))
        have KD : Hid (Kept (fun _ => False) w6 w6.drew) := (Kept.refl _ _).drew
        go_wp2_with fail
        go_region_held3 (fun w' => w'.cell? ⟨CB, 0, none⟩ = some (.slice p0 n c0))
          (first | go_keep | exact HC7.out) (first | (go_at_call 38; refine (CO.out _ KD.out).mono ?_; rintro x w7 ⟨q7, k7, c7, b7, rfl, X7'⟩; have X7 : Hid (OnX w6.drew ms (L.take s) M m0.tx m0.ty mb n q7 k7 c7 b7 w7) := X7'; clear X7'; have HC7 : Hid (w7.cell? ⟨CB, 0, none⟩ = some (.slice p0 n c0)) := X7.out.kept.cell cb S6.out.ne.1) | fail)
        have KX : Hid (Kept (fun j => j = mb) w6 w7) := (KD.out.mono (fun _ _ z => z.elim)).trans X7.out.kept (fun _ _ z => z)
        have K7 : Hid (Kept (fun _ => False) w w7) := S6.out.kept.trans KX.out (fun j hj z => by have h := S6.out.ne.2.2.1; have z : j = mb := z; omega)
        have RS : Hid (∃ f, kl ≤ f + 1 ∧ Y = (match oneX ms (L.take s) M m0.tx m0.ty with | none => none | some P => runX ms f (L.drop s) (putsX ms (L.take s) M m0.ty).2 (acc ++ P)) ∧ acc.length + 2 * kl ≤ 3 * n ∧ (∀ x l, M x = some l → 0 ≤ l) ∧ (∀ r ∈ L, r < n) ∧ kl ≤ n) := by
          obtain ⟨f, hf, hYf, h3, h4, h5, h6⟩ := I.out
          obtain ⟨f', rfl⟩ : ∃ f', f = f' + 1 := ⟨f - 1, by omega⟩
          refine ⟨f', hf, ?_, h3, h4, h5, h6⟩
          rw [hYf]
          exact runX_step (fun r hr => by have := h5 r hr; rw [H.out.1.len]; exact this) A.out.1 A.out.2.1 A.out.2.2
        clear HC7 CO cb I
        cases b7
        · have F : Hid (ByQ w ms none 0 0 81 w7) := by
            have e : oneX ms (L.take s) M m0.tx m0.ty = none := by
              have := X7.out.ans
              cases q : oneX ms (L.take s) M m0.tx m0.ty with
              | none => rfl
              | some P => rw [q] at this; cases this
            obtain ⟨f, _, hYf, _⟩ := RS.out
            rw [e] at hYf
            exact ⟨⟨[], .inr ⟨FT.out, RA, RT, HY.out.2.1, HY.out.2.2, .inl ⟨rfl, by rw [← HY.out.1]; exact hYf, rfl⟩⟩, NRow.nil _ _⟩, K7.out⟩
          go_wp2_with fail
          go_ret2
          exact RetY.mk none 0 0 81 rfl F.out
        · obtain ⟨P, hP⟩ : ∃ P, oneX ms (L.take s) M m0.tx m0.ty = some P := by
            have := X7.out.ans
            cases q : oneX ms (L.take s) M m0.tx m0.ty with
            | none => rw [q] at this; cases this
            | some P => exact ⟨P, rfl⟩
          have X8 : Hid (NRow w6.drew.heap.size w7 q7 k7 c7 P ∧ NRow w.heap.size w7 p1 k1 c1 acc ∧ P.length ≤ 1 + s) := by
            refine ⟨?_, S6.out.ord.off KX.out (fun j z y => (S6.out.ap j z).1 y), ?_⟩
            · have := X7.out.row
              rw [hP] at this
              exact this
            · have := oneX_len hP
              rw [List.length_take] at this
              omega
          have BL : Hid (k1 + k7 ≤ maxLen ∧ ((k1 + k7) + (k1 + k7) / 4 + 192) * 8 ≤ 281474976710656) := by
            obtain ⟨_, _, _, h3, _, _, h6⟩ := RS.out
            have h1 := X8.out.2.1.len
            have h2 := X8.out.1.len
            have h4 := X8.out.2.2
            have h5 := H.out.2.1
            unfold maxLen
            exact ⟨by omega, by omega⟩
          have HP : Hid (oneX ms (L.take s) M m0.tx m0.ty = some P) := hP
          clear hP
          go_upto_region 14 with
            (first
              | (at_builtin; refine wpList_append_all _ rfl (.tmp 42) (.tmp 43) 22 3 22 _ 1 8 rfl Try.underlying22 Try.info3c rfl w.heap.size (.slice p1 k1 c1) k1 (intsN acc) rfl X8.out.2.1.row _ k7 (intsN P) rfl X8.out.1.src BL.out.1 BL.out.2 K7.out.size ?_; intro p9 c9 w9 ho hg hn)
              | fail)
          have B9 : Hid (BS w p0 n c0 mb n CB p9 (k1 + k7) c9 (acc ++ P) (some ⟨b, off + s, none⟩) (kl - s) (cl - s) (L.drop s) (putsX ms (L.take s) M m0.ty).2 w9) := S6.out.one KX.out X7.out.map sle X8.out.1.len ho.out hg.out hn.out
          have I9 : Hid (∃ f, kl - s ≤ f ∧ Y = runX ms f (L.drop s) (putsX ms (L.take s) M m0.ty).2 (acc ++ P) ∧ (acc ++ P).length + 2 * (kl - s) ≤ 3 * n ∧ (∀ x l, (putsX ms (L.take s) M m0.ty).2 x = some l → 0 ≤ l) ∧ (∀ r ∈ L.drop s, r < n) ∧ kl - s ≤ n) := by
            obtain ⟨f, h1, h2, h3, h4, h5, h6⟩ := RS.out
            rw [HP.out] at h2
            refine ⟨f, by omega, h2, ?_, putsX_nn h4, fun r hr => h5 r (List.mem_of_mem_drop hr), by omega⟩
            have := X8.out.2.2
            rw [List.length_append]
            omega
          clear ho hg hn RS X8 X7 S6
          go_wp2_with fail
          go_roundw
          case rel => exact ⟨p9, k1 + k7, c9, acc ++ P, if cl = s then some ⟨b, off, none⟩ else some ⟨b, off + s, none⟩, kl - s, cl - s, L.drop s, _, rfl, rfl, B9.out.addr rl, I9⟩
          case measure => simp [lenOf] <;> omega
      · have i1 : ¬ (0 : Int) < (kl : Int) := by omega
        have F : Hid (ByQ w ms p1 k1 c1 0 wo) := by
          obtain ⟨f, hf, hYf, _, _, _, _⟩ := I.out
          have e : L = [] := List.length_eq_zero_iff.1 (by have := S.out.left.len; rw [List.length_map] at this; omega)
          rw [e, runX_nil] at hYf
          exact ⟨⟨acc, .inr ⟨FT.out, RA, RT, HY.out.2.1, HY.out.2.2, .inr ⟨rfl, by rw [← HY.out.1]; exact hYf⟩⟩, S.out.ord⟩, S.out.kept⟩
        go_wp2_with fail
        go_ret2
        exact RetY.mk p1 k1 c1 0 rfl F.out
end Go.Proofs.Ytodmakcklacbfaa
