import Derived.Test.YtonfefhegghapaaDoorUTqJ
namespace Go.Proofs.YtonfefhegghapaaDoor
open Go.RowKit 

theorem LX.at {w wr : World} {p : Option Addr} {k c : Nat} {ts : List (List UInt8)} (h : LX w wr p k c ts) {i : Nat} {u : List UInt8} (hu : ts[i]? = some u) : ∃ g, p = some ⟨g, 0, none⟩ ∧ wr.cell? ⟨g, i, none⟩ = some (.string (ofL u)) := by
  have hl := (List.getElem?_eq_some_iff.1 hu).1
  have hlen := h.len
  rcases h.row.2 with ⟨_, hn⟩ | ⟨g, cap, cur, z, _⟩
  · omega
  · have z : Value.slice p k c = .slice (some ⟨g, 0, none⟩) k cap := z
    injection z with z1 _ z3
    subst z1
    have hc := h.row.cells (g := g) rfl i (.string (ofL u)) (by unfold strC; rw [List.getElem?_map, hu]; rfl)
    rw [Addr.add_none, Nat.zero_add] at hc
    exact ⟨g, rfl, hc⟩
def goodB (k : Nat) (ss : List St) : Bool := decide (k ≤ 4096) && ss.all fun s => decide (chkS s = 0)
theorem good_snoc (k : Nat) (ss : List St) (s : St) : goodB k (ss ++ [s]) = (goodB k ss && decide (chkS s = 0)) := by
  unfold goodB
  rw [List.all_append, ← Bool.and_assoc]
  simp
theorem good_txt (ss : List St) : goodB ss.length ss = decide ((txtL ss).2 = 0) := by
  unfold goodB
  by_cases h : (txtL ss).2 = 0
  · rw [decide_eq_true h]
    obtain ⟨h1, h2⟩ := txt_ok.1 h
    rw [decide_eq_true h1, Bool.true_and, List.all_eq_true]
    exact fun s hs => decide_eq_true (h2 s hs)
  · rw [decide_eq_false h]
    cases q : (decide (ss.length ≤ 4096) && ss.all fun s => decide (chkS s = 0)) with
    | false => rfl
    | true =>
      rw [Bool.and_eq_true, List.all_eq_true] at q
      exact absurd (txt_ok.2 ⟨of_decide_eq_true q.1, fun s hs => of_decide_eq_true (q.2 s hs)⟩) h
set_option maxRecDepth 100000 in
set_option maxHeartbeats 8000000 in
theorem hLaw7 {w : World} {p : Option Addr} {k c : Nat} {L : List Sm} {ss : List St} {t : ByteArray} (R : SLs w p k c L ss) (hz : (lnsL ss).length ≤ 33554430) (ht : t.size ≤ 33554430) (V : Vars w) (F : FM w) : Calls Tryd.prog 7 #[.slice p k c, .string t] w fun o w' => o = .returned (.bool true) ∧ Kept (fun _ => False) w w' := by
  have hk : k ≤ 33554430 := by have h1 := lns_len ss; have h2 := R.slen; omega
  have H : Hid (SLs w p k c L ss ∧ (lnsL ss).length ≤ 33554430 ∧ Vars w ∧ FM w ∧ t.size ≤ 33554430) := ⟨R, hz, V, F, ht⟩
  have C0 : Hid (Calls Tryd.prog 17 #[.agg #[.int .i64 1, .int .i64 1, .int .i64 0, .string ⟨#[107]⟩, .slice (some ⟨w.heap.size, 0, none⟩) 1 1, .slice none 0 0]] (w.alloc (.cells #[.int .u8 120] 5 (1, 2))) fun o w' => o = .returned (.tuple #[.string ⟨#[112, 117, 116, 32, 49, 32, 54, 98, 32, 55, 56]⟩, .int .i64 0]) ∧ Kept (fun _ => False) (w.alloc (.cells #[.int .u8 120] 5 (1, 2))) w') := hFirst V F
  clear R hz V F ht
  have cv := Go.Joins.run_convert_bytes_const_at (P := Tryd.prog) w 35 5 #[.int .u8 120] 1 1 w.heap.size rfl Tryd.underlying35 Tryd.underlying5
  go_enter Tryd.func7, Tryd.ntmps7
  go_wp2_with fail
  refine C0.out.mono ?_
  rintro o w1 ⟨rfl, K1⟩
  have K2 : Hid (Kept (fun _ => False) w w1) := ((Kept.refl _ _).alloc _).trans K1 (fun _ _ z => z)
  clear K1 C0
  obtain ⟨g0, hg0⟩ : ∃ g, decide ((k : Int) ≤ 4096) = g := ⟨_, rfl⟩
  have HG0 : Hid (g0 = decide (k ≤ 4096)) := by rw [← hg0]; apply decide_eq_decide.2; omega
  go_upto_region 7 with fail
  clear hg0 cv
  have S0 : Hid (PX w w1 none 0 0 [] (ss.take 0) ∧ g0 = goodB k (ss.take 0)) := by
    refine ⟨(PX.nil w).k0 K2.out, ?_⟩
    rw [HG0.out]
    unfold goodB
    simp
  go_loopw [7, 8, 10, 48] (fun u7 u8 _ u48 wr => ∃ (i : Nat) (q : Option Addr) (d : Nat) (L' : List Sm) (g : Bool), u7 = .slice q i d ∧ u8 = .bool g ∧ u48 = .int .i64 (i : Int) ∧ i ≤ k ∧ Hid (PX w wr q i d L' (ss.take i) ∧ g = goodB k (ss.take i))) (fun _ _ _ u48 _ => k - (intOf u48).toNat)
  case atStart => exact ⟨0, none, 0, [], g0, rfl, rfl, rfl, Nat.zero_le _, S0⟩
  case round =>
    clear S0 HG0 K2
    obtain ⟨i, q, d, L', g, rfl, rfl, rfl, hi, S⟩ := hrel
    obtain ⟨wo, hwo⟩ : ∃ wo, wo = wr := ⟨_, rfl⟩
    rw [← hwo] at S ⊢
    clear hwo
    by_cases hlt : i < k
    · have i1 : (i : Int) < (k : Int) := by omega
      obtain ⟨pb, off, x, s, rfl, hs, rd, ki, hc⟩ := H.out.1.at hlt
      have HS : Hid (ss[i]? = some s ∧ SRd w x s ∧ KI s.kind) := ⟨hs, rd, ki⟩
      have hcx : ∀ (j : Nat) (v : Value), x.cs[j]? = some v → wo.cell? ⟨pb, off + i * 6 + j, none⟩ = some v := fun j v hv => S.out.1.kept.cell (hc j v hv) (fun z => z)
      obtain ⟨ok, hok⟩ : ∃ b, decide (chkS s = 0) = b := ⟨_, rfl⟩
      have C25 : Hid (∀ V, Kept (fun _ => False) w V → Calls Tryd.prog 25 #[.agg x.cs] V (RetM fun y w' => SO V.heap.size w' y s ∧ Kept (fun _ => False) V w')) := fun V K => hOwnStep (rd.kept K)
      have C26 : Hid (∀ V, Kept (fun _ => False) w V → Calls Tryd.prog 26 #[.agg x.cs] V fun o w' => o = .returned (.bool ok) ∧ Kept (fun _ => False) V w') := fun V K => by rw [← hok]; exact hFits (rd.kept K) ki
      obtain ⟨kind, a, b, key, va, vn, vc, la, ln, lc⟩ := x
      have C25 : Hid (∀ V, Kept (fun _ => False) w V → Calls Tryd.prog 25 #[.agg #[.int .i64 kind, .int .i64 a, .int .i64 b, .string key, .slice va vn vc, .slice la ln lc]] V (RetM fun y w' => SO V.heap.size w' y s ∧ Kept (fun _ => False) V w')) := C25
      have C26 : Hid (∀ V, Kept (fun _ => False) w V → Calls Tryd.prog 26 #[.agg #[.int .i64 kind, .int .i64 a, .int .i64 b, .string key, .slice va vn vc, .slice la ln lc]] V fun o w' => o = .returned (.bool ok) ∧ Kept (fun _ => False) V w') := C26
      have HOK : Hid (decide (chkS s = 0) = ok) := hok
      have x0 := hcx 0 (.int .i64 kind) rfl
      have x1 := hcx 1 (.int .i64 a) rfl
      have x2 := hcx 2 (.int .i64 b) rfl
      have x3 := hcx 3 (.string key) rfl
      have x4 := hcx 4 (.slice va vn vc) rfl
      have x5 := hcx 5 (.slice la ln lc) rfl
      rw [Nat.add_zero] at x0
      clear hcx hc hs rd ki hok
      obtain ⟨W, hW⟩ : ∃ W, wo.alloc (.cells #[.int .i64 kind, .int .i64 a, .int .i64 b, .string key, .slice va vn vc, .slice la ln lc] 38) = W := ⟨_, rfl⟩
      obtain ⟨B, hB⟩ : ∃ B, wo.heap.size = B := ⟨_, rfl⟩
      have S1 : Hid (PX w W q i d L' (ss.take i) ∧ W.heap[B]? = some (.cells #[.int .i64 kind, .int .i64 a, .int .i64 b, .string key, .slice va vn vc, .slice la ln lc] 38 (0, 0)) ∧ g = goodB k (ss.take i)) := by
        rw [← hW, ← hB]
        exact ⟨S.out.1.k0 ((Kept.refl _ _).alloc _), alloc_new _ _, S.out.2⟩
      have NB : Hid (blockOf q ≠ some B) := fun z => by
        have := (own_lt S.out.1.row B z).2
        omega
      have HW : Hid (wo.alloc (.cells #[.int .i64 kind, .int .i64 a, .int .i64 b, .string key, .slice va vn vc, .slice la ln lc] 38) = W ∧ wo.heap.size = B) := ⟨hW, hB⟩
      clear hW hB S
      go_upto_region 9 with fail
      rw [HW.out.1, HW.out.2]
      clear HW x0 x1 x2 x3 x4 x5
      have b0 := cell_blk S1.out.2.1 0 (v := .int .i64 kind) rfl
      have b1 := cell_blk S1.out.2.1 1 (v := .int .i64 a) rfl
      have b2 := cell_blk S1.out.2.1 2 (v := .int .i64 b) rfl
      have b3 := cell_blk S1.out.2.1 3 (v := .string key) rfl
      have b4 := cell_blk S1.out.2.1 4 (v := .slice va vn vc) rfl
      have b5 := cell_blk S1.out.2.1 5 (v := .slice la ln lc) rfl
      go_wp2_with fail
      refine (C25.out _ S1.out.1.kept).mono ?_
      rintro o w2 ⟨y, rfl, so, K2⟩
      have S2 : Hid (PX w w2 q i d L' (ss.take i) ∧ SO w.heap.size w2 y s ∧ w2.heap[B]? = some (.cells #[.int .i64 kind, .int .i64 a, .int .i64 b, .string key, .slice va vn vc, .slice la ln lc] 38 (0, 0)) ∧ g = goodB k (ss.take i)) := ⟨S1.out.1.k0 K2, so.mono S1.out.1.kept.size, K2.get S1.out.2.1 (fun z => z), S1.out.2.2⟩
      clear K2 so S1 b0 b1 b2 b3 b4 b5
      obtain ⟨kind', a', b', key', va', vn', vc', la', ln', lc'⟩ := y
      have e0 : (Sm.cs ⟨kind', a', b', key', va', vn', vc', la', ln', lc'⟩) = #[.int .i64 kind', .int .i64 a', .int .i64 b', .string key', .slice va' vn' vc', .slice la' ln' lc'] := rfl
      rw [e0]
      clear e0
      have A6 : Hid (PX w (w2.alloc (.cells #[.int .i64 kind', .int .i64 a', .int .i64 b', .string key', .slice va' vn' vc', .slice la' ln' lc'] 38)) q i d L' (ss.take i) ∧ SO w.heap.size (w2.alloc (.cells #[.int .i64 kind', .int .i64 a', .int .i64 b', .string key', .slice va' vn' vc', .slice la' ln' lc'] 38)) ⟨kind', a', b', key', va', vn', vc', la', ln', lc'⟩ s) := ⟨S2.out.1.k0 ((Kept.refl _ _).alloc _), S2.out.2.1.k0 ((Kept.refl _ _).alloc _)⟩
      have SR : Hid (Src Tryd.prog 6 30 (.slice (some ⟨w2.heap.size, 0, none⟩) 1 1) 1 (scs [⟨kind', a', b', key', va', vn', vc', la', ln', lc'⟩]) (w2.alloc (.cells #[.int .i64 kind', .int .i64 a', .int .i64 b', .string key', .slice va' vn' vc', .slice la' ln' lc'] 38))) := src_st (alloc_new w2 _)
      have LN : Hid (i + 1 ≤ maxLen ∧ ((i + 1) + (i + 1) / 4 + 192) * 88 ≤ 281474976710656) := by unfold maxLen; exact ⟨by omega, by omega⟩
      go_upto_region 10 with
        (first
          | (at_builtin; refine wpList_append_all _ rfl (.tmp 52) (.tmp 55) 30 38 30 _ 6 88 rfl Tryd.underlying30c Tryd.info38c rfl w.heap.size (.slice q i d) i (scs L') rfl A6.out.1.row _ 1 (scs [⟨kind', a', b', key', va', vn', vc', la', ln', lc'⟩]) rfl SR.out LN.out.1 LN.out.2 A6.out.1.kept.size ?_; intro p9 c9 w9 ho hg hn9)
          | fail)
      have S3 : Hid (PX w w9 p9 (i + 1) c9 (L' ++ [⟨kind', a', b', key', va', vn', vc', la', ln', lc'⟩]) (ss.take (i + 1)) ∧ w9.heap[B]? = some (.cells #[.int .i64 kind, .int .i64 a, .int .i64 b, .string key, .slice va vn vc, .slice la ln lc] 38 (0, 0)) ∧ g = goodB k (ss.take i)) := by
        have e1 : ss.take (i + 1) = ss.take i ++ [s] := by
          rw [List.take_add_one, HS.out.1]
          rfl
        rw [e1]
        refine ⟨A6.out.1.more A6.out.2 ho.out hg.out, ?_, S2.out.2.2.2⟩
        exact (TX.kg hg.out).get (alloc_old _ S2.out.2.2.1) NB.out
      clear ho hg hn9 A6 SR LN S2 NB
      have b0 := cell_blk S3.out.2.1 0 (v := .int .i64 kind) rfl
      have b1 := cell_blk S3.out.2.1 1 (v := .int .i64 a) rfl
      have b2 := cell_blk S3.out.2.1 2 (v := .int .i64 b) rfl
      have b3 := cell_blk S3.out.2.1 3 (v := .string key) rfl
      have b4 := cell_blk S3.out.2.1 4 (v := .slice va vn vc) rfl
      have b5 := cell_blk S3.out.2.1 5 (v := .slice la ln lc) rfl
      obtain ⟨LL, hLL⟩ : ∃ LL, L' ++ [⟨kind', a', b', key', va', vn', vc', la', ln', lc'⟩] = LL := ⟨_, rfl⟩
      rw [hLL] at S3
      clear hLL
      obtain ⟨g2, hg2⟩ : ∃ g2, (g && ok) = g2 := ⟨_, rfl⟩
      have G2 : Hid (g2 = goodB k (ss.take (i + 1))) := by
        show g2 = goodB k (ss.take (i + 1))
        rw [← hg2, S3.out.2.2, ← HOK.out]
        have e1 : ss.take (i + 1) = ss.take i ++ [s] := by
          rw [List.take_add_one, HS.out.1]
          rfl
        rw [e1, good_snoc]
      have HG2 : Hid ((g && ok) = g2) := hg2
      clear hg2
      go_cut [8] from 57 to 69 (fun u8 wc => u8 = .bool g2 ∧ Hid (PX w wc p9 (i + 1) c9 LL (ss.take (i + 1)) ∧ wc.heap[B]? = some (.cells #[.int .i64 kind, .int .i64 a, .int .i64 b, .string key, .slice va vn vc, .slice la ln lc] 38 (0, 0))))
      case first =>
        cases g with
        | false =>
          have e : g2 = false := HG2.out.symm
          subst e
          go_wp2_with fail
          go_meet
          exact ⟨rfl, S3.out.1, S3.out.2.1⟩
        | true =>
          have e : g2 = ok := by
            have := HG2.out
            rw [Bool.true_and] at this
            exact this.symm
          subst e
          go_wp2_with fail
          refine (C26.out _ S3.out.1.kept).mono ?_
          rintro o w4 ⟨rfl, K4⟩
          have S4 : Hid (PX w w4 p9 (i + 1) c9 LL (ss.take (i + 1)) ∧ w4.heap[B]? = some (.cells #[.int .i64 kind, .int .i64 a, .int .i64 b, .string key, .slice va vn vc, .slice la ln lc] 38 (0, 0))) := ⟨S3.out.1.k0 K4, K4.get S3.out.2.1 (fun z => z)⟩
          go_wp2_with fail
          go_meet
          exact ⟨rfl, S4⟩
      case rest =>
      obtain ⟨rfl, S4⟩ := hcut
      clear b0 b1 b2 b3 b4 b5 S3 HG2
      rename_i K6 hK6
      refine hK6 _ _ ?_
      refine wp_seq_k fun K7 hK7 => ?_
      have b0 := cell_blk S4.out.2 0 (v := .int .i64 kind) rfl
      have b1 := cell_blk S4.out.2 1 (v := .int .i64 a) rfl
      have b2 := cell_blk S4.out.2 2 (v := .int .i64 b) rfl
      have b3 := cell_blk S4.out.2 3 (v := .string key) rfl
      have b4 := cell_blk S4.out.2 4 (v := .slice va vn vc) rfl
      have b5 := cell_blk S4.out.2 5 (v := .slice la ln lc) rfl
      clear b0 b1 b2 b3 b4 b5
      have KD : Hid (Kept (fun _ => False) wc wc.drew) := (Kept.refl _ _).drew
      have MK : Hid (∀ V, Kept (fun _ => False) wc V → (V.cell? ⟨B, 0, none⟩ = some (.int .i64 kind) ∧ V.cell? ⟨B, 1, none⟩ = some (.int .i64 a) ∧ V.cell? ⟨B, 2, none⟩ = some (.int .i64 b) ∧ V.cell? ⟨B, 3, none⟩ = some (.string key) ∧ V.cell? ⟨B, 4, none⟩ = some (.slice va vn vc) ∧ V.cell? ⟨B, 5, none⟩ = some (.slice la ln lc))) := fun V K => ⟨K.cell (cell_blk S4.out.2 0 (v := .int .i64 kind) rfl) (fun z => z), K.cell (cell_blk S4.out.2 1 (v := .int .i64 a) rfl) (fun z => z), K.cell (cell_blk S4.out.2 2 (v := .int .i64 b) rfl) (fun z => z), K.cell (cell_blk S4.out.2 3 (v := .string key) rfl) (fun z => z), K.cell (cell_blk S4.out.2 4 (v := .slice va vn vc) rfl) (fun z => z), K.cell (cell_blk S4.out.2 5 (v := .slice la ln lc) rfl) (fun z => z)⟩
      obtain ⟨ck, hck⟩ : ∃ ck, chkS s = ck := ⟨_, rfl⟩
      have HCK : Hid (chkS s = ck) := hck
      have HOC : Hid (decide (ck = 0) = ok) := by show decide (ck = 0) = ok; rw [← hck]; exact HOK.out
      clear hck
      go_cut [68] from 62 to 69 (fun u68 w8 => u68 = .bool false ∧ Hid (PX w w8 p9 (i + 1) c9 LL (ss.take (i + 1))))
      case first =>
        by_cases h0 : ck = 0
        · have e : ok = true := by rw [← HOC.out]; exact decide_eq_true h0
          subst e
          subst h0
          refine wp_region_held_drew (S := (fun V => V.cell? ⟨B, 0, none⟩ = some (.int .i64 kind) ∧ V.cell? ⟨B, 1, none⟩ = some (.int .i64 a) ∧ V.cell? ⟨B, 2, none⟩ = some (.int .i64 b) ∧ V.cell? ⟨B, 3, none⟩ = some (.string key) ∧ V.cell? ⟨B, 4, none⟩ = some (.slice va vn vc) ∧ V.cell? ⟨B, 5, none⟩ = some (.slice la ln lc))) (by kernel_rfl) ?_ (fun hHeld => ?_)
          · exact MK.out _ KD.out
          refine wpAnyH_take (i := 0) (oi := { dst := some 62, op := Go.Op.load 38 (Go.Operand.tmp 10), type := 38, pos := "top24.go:45", after := #[], guard := none }) (v := .agg #[.int .i64 kind, .int .i64 a, .int .i64 b, .string key, .slice va vn vc, .slice la ln lc]) rfl (by kernel_rfl) (by kernel_rfl) (by kernel_rfl) (fun _ _ _ h => h) (Or.inl ⟨by rfl, ?_⟩) (by assumption) ?_
          · intro w9 hSw
            (try dsimp only at hSw)
            go_simp
          (try simp only [Act.put, List.setIfInBounds_toArray, List.set_cons_zero, List.set_cons_succ])
          refine wpAnyH_take (i := 2) (oi := { dst := some 64, op := Go.Op.load 38 (Go.Operand.tmp 10), type := 38, pos := "top24.go:45", after := #[], guard := none }) (v := .agg #[.int .i64 kind, .int .i64 a, .int .i64 b, .string key, .slice va vn vc, .slice la ln lc]) rfl (by kernel_rfl) (by kernel_rfl) (by kernel_rfl) (fun _ _ _ h => h) (Or.inl ⟨by rfl, ?_⟩) (by assumption) ?_
          · intro w9 hSw
            (try dsimp only at hSw)
            go_simp
          (try simp only [Act.put, List.setIfInBounds_toArray, List.set_cons_zero, List.set_cons_succ])
          refine wpAnyH_ready (rs := [1]) (by kernel_rfl) (by simp) ?_
          refine (AllReadyH.cons (o := { dst := some 63, op := Go.Op.call { callee := Go.Callee.value (Go.Operand.func 26), args := #[Go.Operand.tmp 62], argTypes := #[38] }, type := 4, pos := "top24.go:45", after := #[{ on := 0, ground := Go.Ground.data }], guard := none }) rfl (fun K hK => ?_) AllReadyH.nil)
          go_simp
          refine (C26.out _ (S4.out.1.kept.trans KD.out (fun _ _ z => z))).mono ?_
          rintro o w5 ⟨rfl, K5⟩
          have K5 : Hid (Kept (fun _ => False) wc w5) := KD.out.trans K5 (fun _ _ z => z)
          refine hK.out _ _ ?_ (fun hHeld => ?_)
          · exact MK.out _ K5.out
          clear hK K
          (try simp only [Act.put, List.setIfInBounds_toArray, List.set_cons_zero, List.set_cons_succ])
          refine wpAnyH_ready (rs := [3]) (by kernel_rfl) (by simp) ?_
          refine (AllReadyH.cons (o := { dst := some 65, op := Go.Op.call { callee := Go.Callee.value (Go.Operand.func 25), args := #[Go.Operand.tmp 64], argTypes := #[38] }, type := 38, pos := "top24.go:45", after := #[{ on := 2, ground := Go.Ground.data }, { on := 1, ground := Go.Ground.chain }], guard := none }) rfl (fun K hK => ?_) AllReadyH.nil)
          go_simp
          refine (C25.out _ (S4.out.1.kept.trans K5.out (fun _ _ z => z))).mono ?_
          rintro o w6 ⟨y, rfl, so, K6⟩
          have K6 : Hid (Kept (fun _ => False) wc w6) := K5.out.trans K6 (fun _ _ z => z)
          have C13 : Hid (Calls Tryd.prog 13 #[.agg y.cs] w6 fun o w' => o = .returned (.int .i64 0) ∧ Kept (fun _ => False) w6 w') := by
            have r := HS.out.2.1
            have ks := HS.out.2.2
            have rd : SRd w6 y s := ⟨so.kind, so.a, so.b, so.key, r.ka, r.kb, (owns_bytes so.vr so.vl).1, (owns_ints so.lr so.ll r.l.ki).1, r.sm⟩
            have q := hChk rd ks (H.out.2.2.2.1.kept (S4.out.1.kept.trans K6.out (fun _ _ z => z)))
            rw [HCK.out] at q
            exact q
          clear so
          refine hK.out _ _ ?_ (fun hHeld => ?_)
          · exact MK.out _ K6.out
          clear hK K
          (try simp only [Act.put, List.setIfInBounds_toArray, List.set_cons_zero, List.set_cons_succ])
          refine wpAnyH_ready (rs := [4]) (by kernel_rfl) (by simp) ?_
          refine (AllReadyH.cons (o := { dst := some 66, op := Go.Op.call { callee := Go.Callee.value (Go.Operand.func 13), args := #[Go.Operand.tmp 65], argTypes := #[38] }, type := 25, pos := "top24.go:45", after := #[{ on := 3, ground := Go.Ground.data }, { on := 3, ground := Go.Ground.chain }], guard := none }) rfl (fun K hK => ?_) AllReadyH.nil)
          go_simp
          refine C13.out.mono ?_
          rintro o w7 ⟨rfl, K7⟩
          have K7 : Hid (Kept (fun _ => False) wc w7) := K6.out.trans K7 (fun _ _ z => z)
          refine hK.out _ _ ?_ (fun hHeld => ?_)
          · exact MK.out _ K7.out
          clear hK K
          (try simp only [Act.put, List.setIfInBounds_toArray, List.set_cons_zero, List.set_cons_succ])
          refine wpAnyH_take (i := 5) (oi := { dst := some 67, op := Go.Op.binOp Go.BinOp.eql 25 (Go.Operand.tmp 66) (Go.Operand.const (Go.Value.int Go.IntKind.i64 0)) 25, type := 4, pos := "top24.go:45", after := #[{ on := 4, ground := Go.Ground.data }], guard := none }) (v := .bool true) rfl (by kernel_rfl) (by kernel_rfl) (by kernel_rfl) (fun _ _ _ h => h) (Or.inl ⟨by rfl, ?_⟩) (by assumption) ?_
          · intro w9 hSw
            (try dsimp only at hSw)
            go_simp
          (try simp only [Act.put, List.setIfInBounds_toArray, List.set_cons_zero, List.set_cons_succ])
          refine wpAnyH_take (i := 6) (oi := { dst := some 68, op := Go.Op.binOp Go.BinOp.neq 4 (Go.Operand.tmp 63) (Go.Operand.tmp 67) 4, type := 4, pos := "top24.go:45", after := #[{ on := 1, ground := Go.Ground.data }, { on := 5, ground := Go.Ground.data }], guard := none }) (v := .bool false) rfl (by kernel_rfl) (by kernel_rfl) (by kernel_rfl) (fun _ _ _ h => h) (Or.inl ⟨by rfl, ?_⟩) (by assumption) ?_
          · intro w9 hSw
            (try dsimp only at hSw)
            go_simp
          (try simp only [Act.put, List.setIfInBounds_toArray, List.set_cons_zero, List.set_cons_succ])
          refine wpAnyH_done (by kernel_rfl) ?_ _
          clear hHeld
          go_wp2_with fail
          go_meet
          exact ⟨rfl, S4.out.1.k0 K7.out⟩
        · have e : ok = false := by rw [← HOC.out]; exact decide_eq_false h0
          subst e
          refine wp_region_held_drew (S := (fun V => V.cell? ⟨B, 0, none⟩ = some (.int .i64 kind) ∧ V.cell? ⟨B, 1, none⟩ = some (.int .i64 a) ∧ V.cell? ⟨B, 2, none⟩ = some (.int .i64 b) ∧ V.cell? ⟨B, 3, none⟩ = some (.string key) ∧ V.cell? ⟨B, 4, none⟩ = some (.slice va vn vc) ∧ V.cell? ⟨B, 5, none⟩ = some (.slice la ln lc))) (by kernel_rfl) ?_ (fun hHeld => ?_)
          · exact MK.out _ KD.out
          refine wpAnyH_take (i := 0) (oi := { dst := some 62, op := Go.Op.load 38 (Go.Operand.tmp 10), type := 38, pos := "top24.go:45", after := #[], guard := none }) (v := .agg #[.int .i64 kind, .int .i64 a, .int .i64 b, .string key, .slice va vn vc, .slice la ln lc]) rfl (by kernel_rfl) (by kernel_rfl) (by kernel_rfl) (fun _ _ _ h => h) (Or.inl ⟨by rfl, ?_⟩) (by assumption) ?_
          · intro w9 hSw
            (try dsimp only at hSw)
            go_simp
          (try simp only [Act.put, List.setIfInBounds_toArray, List.set_cons_zero, List.set_cons_succ])
          refine wpAnyH_take (i := 2) (oi := { dst := some 64, op := Go.Op.load 38 (Go.Operand.tmp 10), type := 38, pos := "top24.go:45", after := #[], guard := none }) (v := .agg #[.int .i64 kind, .int .i64 a, .int .i64 b, .string key, .slice va vn vc, .slice la ln lc]) rfl (by kernel_rfl) (by kernel_rfl) (by kernel_rfl) (fun _ _ _ h => h) (Or.inl ⟨by rfl, ?_⟩) (by assumption) ?_
          · intro w9 hSw
            (try dsimp only at hSw)
            go_simp
          (try simp only [Act.put, List.setIfInBounds_toArray, List.set_cons_zero, List.set_cons_succ])
          refine wpAnyH_ready (rs := [1]) (by kernel_rfl) (by simp) ?_
          refine (AllReadyH.cons (o := { dst := some 63, op := Go.Op.call { callee := Go.Callee.value (Go.Operand.func 26), args := #[Go.Operand.tmp 62], argTypes := #[38] }, type := 4, pos := "top24.go:45", after := #[{ on := 0, ground := Go.Ground.data }], guard := none }) rfl (fun K hK => ?_) AllReadyH.nil)
          go_simp
          refine (C26.out _ (S4.out.1.kept.trans KD.out (fun _ _ z => z))).mono ?_
          rintro o w5 ⟨rfl, K5⟩
          have K5 : Hid (Kept (fun _ => False) wc w5) := KD.out.trans K5 (fun _ _ z => z)
          refine hK.out _ _ ?_ (fun hHeld => ?_)
          · exact MK.out _ K5.out
          clear hK K
          (try simp only [Act.put, List.setIfInBounds_toArray, List.set_cons_zero, List.set_cons_succ])
          refine wpAnyH_ready (rs := [3]) (by kernel_rfl) (by simp) ?_
          refine (AllReadyH.cons (o := { dst := some 65, op := Go.Op.call { callee := Go.Callee.value (Go.Operand.func 25), args := #[Go.Operand.tmp 64], argTypes := #[38] }, type := 38, pos := "top24.go:45", after := #[{ on := 2, ground := Go.Ground.data }, { on := 1, ground := Go.Ground.chain }], guard := none }) rfl (fun K hK => ?_) AllReadyH.nil)
          go_simp
          refine (C25.out _ (S4.out.1.kept.trans K5.out (fun _ _ z => z))).mono ?_
          rintro o w6 ⟨y, rfl, so, K6⟩
          have K6 : Hid (Kept (fun _ => False) wc w6) := K5.out.trans K6 (fun _ _ z => z)
          have C13 : Hid (Calls Tryd.prog 13 #[.agg y.cs] w6 fun o w' => o = .returned (.int .i64 ck) ∧ Kept (fun _ => False) w6 w') := by
            have r := HS.out.2.1
            have ks := HS.out.2.2
            have rd : SRd w6 y s := ⟨so.kind, so.a, so.b, so.key, r.ka, r.kb, (owns_bytes so.vr so.vl).1, (owns_ints so.lr so.ll r.l.ki).1, r.sm⟩
            have q := hChk rd ks (H.out.2.2.2.1.kept (S4.out.1.kept.trans K6.out (fun _ _ z => z)))
            rw [HCK.out] at q
            exact q
          clear so
          refine hK.out _ _ ?_ (fun hHeld => ?_)
          · exact MK.out _ K6.out
          clear hK K
          (try simp only [Act.put, List.setIfInBounds_toArray, List.set_cons_zero, List.set_cons_succ])
          refine wpAnyH_ready (rs := [4]) (by kernel_rfl) (by simp) ?_
          refine (AllReadyH.cons (o := { dst := some 66, op := Go.Op.call { callee := Go.Callee.value (Go.Operand.func 13), args := #[Go.Operand.tmp 65], argTypes := #[38] }, type := 25, pos := "top24.go:45", after := #[{ on := 3, ground := Go.Ground.data }, { on := 3, ground := Go.Ground.chain }], guard := none }) rfl (fun K hK => ?_) AllReadyH.nil)
          go_simp
          refine C13.out.mono ?_
          rintro o w7 ⟨rfl, K7⟩
          have K7 : Hid (Kept (fun _ => False) wc w7) := K6.out.trans K7 (fun _ _ z => z)
          refine hK.out _ _ ?_ (fun hHeld => ?_)
          · exact MK.out _ K7.out
          clear hK K
          (try simp only [Act.put, List.setIfInBounds_toArray, List.set_cons_zero, List.set_cons_succ])
          refine wpAnyH_take (i := 5) (oi := { dst := some 67, op := Go.Op.binOp Go.BinOp.eql 25 (Go.Operand.tmp 66) (Go.Operand.const (Go.Value.int Go.IntKind.i64 0)) 25, type := 4, pos := "top24.go:45", after := #[{ on := 4, ground := Go.Ground.data }], guard := none }) (v := .bool false) rfl (by kernel_rfl) (by kernel_rfl) (by kernel_rfl) (fun _ _ _ h => h) (Or.inl ⟨by rfl, ?_⟩) (by assumption) ?_
          · intro w9 hSw
            (try dsimp only at hSw)
            go_simp
          (try simp only [Act.put, List.setIfInBounds_toArray, List.set_cons_zero, List.set_cons_succ])
          refine wpAnyH_take (i := 6) (oi := { dst := some 68, op := Go.Op.binOp Go.BinOp.neq 4 (Go.Operand.tmp 63) (Go.Operand.tmp 67) 4, type := 4, pos := "top24.go:45", after := #[{ on := 1, ground := Go.Ground.data }, { on := 5, ground := Go.Ground.data }], guard := none }) (v := .bool false) rfl (by kernel_rfl) (by kernel_rfl) (by kernel_rfl) (fun _ _ _ h => h) (Or.inl ⟨by rfl, ?_⟩) (by assumption) ?_
          · intro w9 hSw
            (try dsimp only at hSw)
            go_simp
          (try simp only [Act.put, List.setIfInBounds_toArray, List.set_cons_zero, List.set_cons_succ])
          refine wpAnyH_done (by kernel_rfl) ?_ _
          clear hHeld
          go_wp2_with fail
          go_meet
          exact ⟨rfl, S4.out.1.k0 K7.out⟩
      case rest =>
      obtain ⟨rfl, S5⟩ := hcut
      refine hK7 _ _ ?_
      clear S4 MK KD C25 C26
      go_wp2_with fail
      go_roundw
      case rel => exact ⟨i + 1, p9, c9, LL, g2, rfl, rfl, by go_num, by omega, S5.out, G2.out⟩
      case measure => simp [intOf] <;> omega
    · have i1 : ¬ (i : Int) < (k : Int) := by omega
      have ek : i = k := by omega
      subst ek
      have et : ss.take i = ss := List.take_of_length_le (by rw [H.out.1.slen]; exact Nat.le_refl _)
      obtain ⟨T, hT⟩ : ∃ T, (txtL ss).1 = T := ⟨_, rfl⟩
      obtain ⟨e, he⟩ : ∃ e, (txtL ss).2 = e := ⟨_, rfl⟩
      have S1 : Hid (PX w wo q i d L' ss ∧ g = decide (e = 0)) := by
        have h1 := S.out.1
        have h2 := S.out.2
        rw [et] at h1 h2
        refine ⟨h1, ?_⟩
        have h3 := good_txt ss
        rw [H.out.1.slen] at h3
        rw [h2, h3, he]
      have C12 : Hid (Calls Tryd.prog 12 #[.slice q i d] wo fun o w' => o = .returned (.tuple #[.string T, .int .i64 e]) ∧ Kept (fun _ => False) wo w') := by
        rw [← hT, ← he]
        exact hText (S1.out.1.any H.out.1.all) (H.out.2.2.1.kept S1.out.1.kept) (H.out.2.2.2.1.kept S1.out.1.kept) (by have := H.out.2.1; omega)
      have HT : Hid (txtL ss = (T, e)) := Prod.ext hT he
      clear S et hT he
      go_wp2_with fail
      refine C12.out.mono ?_
      rintro o w2 ⟨rfl, K2⟩
      have KX : Hid (Kept (fun _ => False) w w2) := S1.out.1.kept.trans K2 (fun _ _ z => z)
      have HGE : Hid (g = decide (e = 0)) := S1.out.2
      clear K2 C12 S1
      by_cases h0 : e = 0
      · have eg : g = true := by rw [HGE.out]; exact decide_eq_true h0
        subst eg
        subst h0
        have HO := txt_ok.1 (by rw [HT.out])
        have hTl : T.data.toList = lnsL ss := by
          have q := congrArg Prod.fst HT.out
          unfold txtL at q
          rw [if_neg (by omega), if_pos (fst_none ss (fun j t ht => HO.2 t (List.mem_of_getElem? ht)))] at q
          rw [← (show ofL (lnsL ss) = T from q)]
          rfl
        have tz1 : T.data.toList.length = T.size := Array.length_toList
        have all : ∀ s ∈ ss, chkS s = 0 ∧ KS s := fun s hs => ⟨HO.2 s hs, H.out.1.ks s hs⟩
        have C2 : Hid (Calls Tryd.prog 14 #[.string T] w2 fun o w' => ∃ (p5 : Option Addr) (c5 : Nat), o = .returned (.tuple #[.slice p5 i c5, .int .i64 0, .int .i64 0]) ∧ Kept (fun _ => False) w2 w' ∧ Hid (Calls Tryd.prog 27 #[.slice p5 i c5, .slice p i c] w' fun o w'' => o = .returned (.bool true) ∧ Kept (fun _ => False) w' w'')) := hBackT (T := T) H.out.1 KX.out H.out.2.2.1 H.out.2.2.2.1 (by rw [hTl]; exact par_back all HO.1) (by have := H.out.2.1; rw [← hTl] at this; omega)
        clear hTl tz1 all HO HT HGE
        go_wp2_with fail
        refine C2.out.mono ?_
        rintro o w3 ⟨p3, c3, rfl, K3, C3⟩
        have K3 : Hid (Kept (fun _ => False) w w3) := KX.out.trans K3 (fun _ _ z => z)
        clear C2 KX
        go_wp2_with fail
        refine C3.out.mono ?_
        rintro o w4 ⟨rfl, K4⟩
        have KX : Hid (Kept (fun _ => False) w w4) := K3.out.trans K4 (fun _ _ z => z)
        clear C3 K3 K4
        have C9 := hTold (t := t) KX.out H.out.2.2.1 H.out.2.2.2.1 H.out.2.2.2.2
        have tz : t.size ≤ 33554430 := H.out.2.2.2.2
        have C28 : Hid (∀ V, Calls Tryd.prog 28 #[.string t] V fun o w' => ∃ (p : Option Addr) (k c : Nat), o = .returned (.slice p k c) ∧ LX V w' p k c (linL t.data.toList)) := fun V => hLinesOf H.out.2.2.2.2
        go_wp2_with fail
        refine C9.mono ?_
        rintro o w5 ⟨p5, k5, c5, n, e5, rfl, K5, P⟩
        have K5 : Hid (Kept (fun _ => False) w w5) := KX.out.trans K5 (fun _ _ z => z)
        clear KX C9
        rcases P with ⟨rfl, rfl, X, hX, C5⟩ | ⟨rfl, rfl, rfl, HL⟩ | ⟨rfl, rfl, u, HL⟩
        · clear C28
          go_wp2_with fail
          refine C5.out.mono ?_
          rintro o w6 ⟨rfl, K6⟩
          have K6 : Hid (Kept (fun _ => False) w w6) := K5.out.trans K6 (fun _ _ z => z)
          clear C5
          rcases hX with rfl | ⟨hX, rfl⟩
          · go_wp2_with fail
            go_ret
            exact ⟨by first | rfl | simp, K6.out⟩
          · obtain ⟨X, hX2⟩ : ∃ X, t ++ { data := #[10] } = X := ⟨_, rfl⟩
            rw [hX2] at hX ⊢
            have e1 : (X.toList == t.toList) = false := by rw [eq_bytesE]; exact decide_eq_false hX
            have e2 : decide (X = t) = false := decide_eq_false hX
            go_wp2_with fail
            go_ret
            exact ⟨by first | rfl | simp, K6.out⟩
        · go_wp2_with fail
          refine (C28.out _).mono ?_
          rintro o w6 ⟨p6, k6, c6, rfl, X6⟩
          have k6g : (4096 : Int) < (k6 : Int) := by have h1 := HL.out; have h2 := X6.len; omega
          have K6 : Hid (Kept (fun _ => False) w w6) := K5.out.trans X6.kept (fun _ _ z => z)
          clear X6 C28
          go_wp2_with fail
          go_ret
          exact ⟨by first | rfl | simp, K6.out⟩
        · go_wp2_with fail
          refine (C28.out _).mono ?_
          rintro o w6 ⟨p6, k6, c6, rfl, X6⟩
          have k6g : ¬ (4096 : Int) < (k6 : Int) := by have h1 := HL.out.1; have h2 := X6.len; omega
          have nk : n < k6 := by rw [← X6.len]; exact (List.getElem?_eq_some_iff.1 HL.out.2.1).1
          have nki : ¬ (k6 : Int) ≤ (n : Int) := by omega
          have nkj : (n : Int) < (k6 : Int) := by omega
          have nki3 : (n : Int) ≤ (k6 : Int) := by omega
          have k6c : k6 ≤ c6 := (own_room X6.row).1
          have ncj : (n : Int) ≤ (c6 : Int) := by omega
          obtain ⟨G, rfl, gc⟩ := X6.at HL.out.2.1
          have HX : Hid (LX w5 w6 (some ⟨G, 0, none⟩) k6 c6 (linL t.data.toList)) := X6
          have K6 : Hid (Kept (fun _ => False) w w6) := K5.out.trans X6.kept (fun _ _ z => z)
          obtain ⟨U, hU⟩ : ∃ U, ofL u = U := ⟨_, rfl⟩
          rw [hU] at gc
          have uz : U.size ≤ 33554430 := by
            have h1 := lin_get HL.out.2.1
            have h2 : t.data.toList.length = t.size := Array.length_toList
            rw [← hU, ofL_sizeE]
            omega
          have C14 : Hid (Calls Tryd.prog 14 #[.string (U ++ { data := #[10] })] w6 fun o w' => ∃ (p5 : Option Addr) (k5 c5 n : Nat), o = .returned (.tuple #[.slice p5 k5 c5, .int .i64 (n : Int), .int .i64 82]) ∧ Kept (fun _ => False) w6 w') := by
            have e : (U ++ { data := #[10] } : ByteArray).data.toList = u ++ [10] := by rw [app_list, ← hU]; rfl
            have z1 : (U ++ { data := #[10] } : ByteArray).data.toList.length = (U ++ { data := #[10] } : ByteArray).size := Array.length_toList
            have z2 : U.size = u.length := by rw [← hU, ofL_sizeE]
            refine hParE K6.out H.out.2.2.1 H.out.2.2.2.1 (by rw [e]; exact HL.out.2.2.1) ?_
            rw [← z1, e, List.length_append, List.length_singleton]
            omega
          clear X6 C28 hU
          go_wp2_with fail
          refine C14.out.mono ?_
          rintro o w7 ⟨p7, k7, c7, n7, rfl, K7⟩
          have S7 : Hid (Kept (fun _ => False) w w7 ∧ Kept (fun _ => False) w6 w7) := ⟨K6.out.trans K7 (fun _ _ z => z), K7⟩
          clear K7 C14 gc K6
          go_upto_region 35 with fail
          go_loopw [24, 26, 168] (fun u24 _ u168 wr => ∃ (j : Nat) (F : ByteArray), u24 = .string F ∧ u168 = .int .i64 (j : Int) ∧ j ≤ n ∧ Hid (F.data.toList = tex ((linL t.data.toList).take j) ∧ Kept (fun _ => False) w wr ∧ Kept (fun _ => False) w6 wr)) (fun _ _ u168 _ => n - (intOf u168).toNat)
          case atStart => exact ⟨0, ⟨#[]⟩, rfl, rfl, Nat.zero_le _, rfl, S7.out.1, S7.out.2⟩
          case round =>
            clear S7
            obtain ⟨j, F, rfl, rfl, hj, S⟩ := hrel
            obtain ⟨wo, hwo⟩ : ∃ wo, wo = wr := ⟨_, rfl⟩
            rw [← hwo] at S ⊢
            clear hwo
            have Fz : F.size ≤ 33554431 := by
              have h1 := tex_take (linL t.data.toList) j
              have h2 := tex_lin t.data.toList.length t.data.toList (Nat.le_refl _)
              have h3 : t.data.toList.length = t.size := Array.length_toList
              have h4 : F.data.toList.length = F.size := Array.length_toList
              rw [← S.out.1] at h1
              omega
            by_cases hjn : j < n
            · have j1 : (j : Int) < (n : Int) := by omega
              obtain ⟨v, hv⟩ : ∃ v, (linL t.data.toList)[j]? = some v := ⟨_, List.getElem?_eq_getElem (by rw [HX.out.len]; omega)⟩
              obtain ⟨G', e', gc0⟩ := HX.out.at hv
              obtain rfl : G = G' := by simpa using e'
              obtain ⟨Vv, hVv⟩ : ∃ U, ofL v = U := ⟨_, rfl⟩
              have gc := S.out.2.2.cell gc0 (fun z => z)
              rw [hVv] at gc
              have vz : Vv.size ≤ 33554430 := by
                have h1 := lin_get hv
                have h2 : t.data.toList.length = t.size := Array.length_toList
                rw [← hVv, ofL_sizeE]
                omega
              have N : Hid ((F ++ (Vv ++ { data := #[10] }) : ByteArray).data.toList = tex ((linL t.data.toList).take (j + 1)) ∧ Kept (fun _ => False) w wo ∧ Kept (fun _ => False) w6 wo) := by
                refine ⟨?_, S.out.2⟩
                have e1 : (linL t.data.toList).take (j + 1) = (linL t.data.toList).take j ++ [v] := by
                  rw [List.take_add_one, hv]
                  rfl
                rw [e1, tex_snoc, app_list, app_list, S.out.1, ← hVv, List.append_assoc]
                rfl
              clear S hv e' gc0 hVv
              go_wp2_with fail
              go_roundw
              case rel => exact ⟨j + 1, F ++ (Vv ++ { data := #[10] }), rfl, by go_num, by omega, N⟩
              case measure => simp [intOf] <;> omega
            · have j1 : ¬ (j : Int) < (n : Int) := by omega
              have ej : j = n := by omega
              have CF : Hid (Calls Tryd.prog 14 #[.string F] wo fun o w' => ∃ (p5 : Option Addr) (k5 c5 n : Nat), o = .returned (.tuple #[.slice p5 k5 c5, .int .i64 (n : Int), .int .i64 0]) ∧ Kept (fun _ => False) wo w') := hParE S.out.2.1 H.out.2.2.1 H.out.2.2.2.1 (by rw [S.out.1, ej]; exact HL.out.2.2.2) (by omega)
              have KO : Hid (Kept (fun _ => False) w wo) := S.out.2.1
              clear S ej
              go_wp2_with fail
              refine CF.out.mono ?_
              rintro o w8 ⟨p8, k8, c8, n8, rfl, K8⟩
              have K8 : Hid (Kept (fun _ => False) w w8) := KO.out.trans K8 (fun _ _ z => z)
              clear CF
              go_wp2_with fail
              go_ret
              exact ⟨by first | rfl | simp, K8.out⟩
      · have eg : g = false := by rw [HGE.out]; exact decide_eq_false h0
        subst eg
        clear HT HGE
        have C9 := hTold (t := t) KX.out H.out.2.2.1 H.out.2.2.2.1 H.out.2.2.2.2
        have tz : t.size ≤ 33554430 := H.out.2.2.2.2
        have C28 : Hid (∀ V, Calls Tryd.prog 28 #[.string t] V fun o w' => ∃ (p : Option Addr) (k c : Nat), o = .returned (.slice p k c) ∧ LX V w' p k c (linL t.data.toList)) := fun V => hLinesOf H.out.2.2.2.2
        go_wp2_with fail
        refine C9.mono ?_
        rintro o w5 ⟨p5, k5, c5, n, e5, rfl, K5, P⟩
        have K5 : Hid (Kept (fun _ => False) w w5) := KX.out.trans K5 (fun _ _ z => z)
        clear KX C9
        rcases P with ⟨rfl, rfl, X, hX, C5⟩ | ⟨rfl, rfl, rfl, HL⟩ | ⟨rfl, rfl, u, HL⟩
        · clear C28
          go_wp2_with fail
          refine C5.out.mono ?_
          rintro o w6 ⟨rfl, K6⟩
          have K6 : Hid (Kept (fun _ => False) w w6) := K5.out.trans K6 (fun _ _ z => z)
          clear C5
          rcases hX with rfl | ⟨hX, rfl⟩
          · go_wp2_with fail
            go_ret
            exact ⟨by first | rfl | simp, K6.out⟩
          · obtain ⟨X, hX2⟩ : ∃ X, t ++ { data := #[10] } = X := ⟨_, rfl⟩
            rw [hX2] at hX ⊢
            have e1 : (X.toList == t.toList) = false := by rw [eq_bytesE]; exact decide_eq_false hX
            have e2 : decide (X = t) = false := decide_eq_false hX
            go_wp2_with fail
            go_ret
            exact ⟨by first | rfl | simp, K6.out⟩
        · go_wp2_with fail
          refine (C28.out _).mono ?_
          rintro o w6 ⟨p6, k6, c6, rfl, X6⟩
          have k6g : (4096 : Int) < (k6 : Int) := by have h1 := HL.out; have h2 := X6.len; omega
          have K6 : Hid (Kept (fun _ => False) w w6) := K5.out.trans X6.kept (fun _ _ z => z)
          clear X6 C28
          go_wp2_with fail
          go_ret
          exact ⟨by first | rfl | simp, K6.out⟩
        · go_wp2_with fail
          refine (C28.out _).mono ?_
          rintro o w6 ⟨p6, k6, c6, rfl, X6⟩
          have k6g : ¬ (4096 : Int) < (k6 : Int) := by have h1 := HL.out.1; have h2 := X6.len; omega
          have nk : n < k6 := by rw [← X6.len]; exact (List.getElem?_eq_some_iff.1 HL.out.2.1).1
          have nki : ¬ (k6 : Int) ≤ (n : Int) := by omega
          have nkj : (n : Int) < (k6 : Int) := by omega
          have nki3 : (n : Int) ≤ (k6 : Int) := by omega
          have k6c : k6 ≤ c6 := (own_room X6.row).1
          have ncj : (n : Int) ≤ (c6 : Int) := by omega
          obtain ⟨G, rfl, gc⟩ := X6.at HL.out.2.1
          have HX : Hid (LX w5 w6 (some ⟨G, 0, none⟩) k6 c6 (linL t.data.toList)) := X6
          have K6 : Hid (Kept (fun _ => False) w w6) := K5.out.trans X6.kept (fun _ _ z => z)
          obtain ⟨U, hU⟩ : ∃ U, ofL u = U := ⟨_, rfl⟩
          rw [hU] at gc
          have uz : U.size ≤ 33554430 := by
            have h1 := lin_get HL.out.2.1
            have h2 : t.data.toList.length = t.size := Array.length_toList
            rw [← hU, ofL_sizeE]
            omega
          have C14 : Hid (Calls Tryd.prog 14 #[.string (U ++ { data := #[10] })] w6 fun o w' => ∃ (p5 : Option Addr) (k5 c5 n : Nat), o = .returned (.tuple #[.slice p5 k5 c5, .int .i64 (n : Int), .int .i64 82]) ∧ Kept (fun _ => False) w6 w') := by
            have e : (U ++ { data := #[10] } : ByteArray).data.toList = u ++ [10] := by rw [app_list, ← hU]; rfl
            have z1 : (U ++ { data := #[10] } : ByteArray).data.toList.length = (U ++ { data := #[10] } : ByteArray).size := Array.length_toList
            have z2 : U.size = u.length := by rw [← hU, ofL_sizeE]
            refine hParE K6.out H.out.2.2.1 H.out.2.2.2.1 (by rw [e]; exact HL.out.2.2.1) ?_
            rw [← z1, e, List.length_append, List.length_singleton]
            omega
          clear X6 C28 hU
          go_wp2_with fail
          refine C14.out.mono ?_
          rintro o w7 ⟨p7, k7, c7, n7, rfl, K7⟩
          have S7 : Hid (Kept (fun _ => False) w w7 ∧ Kept (fun _ => False) w6 w7) := ⟨K6.out.trans K7 (fun _ _ z => z), K7⟩
          clear K7 C14 gc K6
          go_upto_region 35 with fail
          go_loopw [24, 26, 168] (fun u24 _ u168 wr => ∃ (j : Nat) (F : ByteArray), u24 = .string F ∧ u168 = .int .i64 (j : Int) ∧ j ≤ n ∧ Hid (F.data.toList = tex ((linL t.data.toList).take j) ∧ Kept (fun _ => False) w wr ∧ Kept (fun _ => False) w6 wr)) (fun _ _ u168 _ => n - (intOf u168).toNat)
          case atStart => exact ⟨0, ⟨#[]⟩, rfl, rfl, Nat.zero_le _, rfl, S7.out.1, S7.out.2⟩
          case round =>
            clear S7
            obtain ⟨j, F, rfl, rfl, hj, S⟩ := hrel
            obtain ⟨wo, hwo⟩ : ∃ wo, wo = wr := ⟨_, rfl⟩
            rw [← hwo] at S ⊢
            clear hwo
            have Fz : F.size ≤ 33554431 := by
              have h1 := tex_take (linL t.data.toList) j
              have h2 := tex_lin t.data.toList.length t.data.toList (Nat.le_refl _)
              have h3 : t.data.toList.length = t.size := Array.length_toList
              have h4 : F.data.toList.length = F.size := Array.length_toList
              rw [← S.out.1] at h1
              omega
            by_cases hjn : j < n
            · have j1 : (j : Int) < (n : Int) := by omega
              obtain ⟨v, hv⟩ : ∃ v, (linL t.data.toList)[j]? = some v := ⟨_, List.getElem?_eq_getElem (by rw [HX.out.len]; omega)⟩
              obtain ⟨G', e', gc0⟩ := HX.out.at hv
              obtain rfl : G = G' := by simpa using e'
              obtain ⟨Vv, hVv⟩ : ∃ U, ofL v = U := ⟨_, rfl⟩
              have gc := S.out.2.2.cell gc0 (fun z => z)
              rw [hVv] at gc
              have vz : Vv.size ≤ 33554430 := by
                have h1 := lin_get hv
                have h2 : t.data.toList.length = t.size := Array.length_toList
                rw [← hVv, ofL_sizeE]
                omega
              have N : Hid ((F ++ (Vv ++ { data := #[10] }) : ByteArray).data.toList = tex ((linL t.data.toList).take (j + 1)) ∧ Kept (fun _ => False) w wo ∧ Kept (fun _ => False) w6 wo) := by
                refine ⟨?_, S.out.2⟩
                have e1 : (linL t.data.toList).take (j + 1) = (linL t.data.toList).take j ++ [v] := by
                  rw [List.take_add_one, hv]
                  rfl
                rw [e1, tex_snoc, app_list, app_list, S.out.1, ← hVv, List.append_assoc]
                rfl
              clear S hv e' gc0 hVv
              go_wp2_with fail
              go_roundw
              case rel => exact ⟨j + 1, F ++ (Vv ++ { data := #[10] }), rfl, by go_num, by omega, N⟩
              case measure => simp [intOf] <;> omega
            · have j1 : ¬ (j : Int) < (n : Int) := by omega
              have ej : j = n := by omega
              have CF : Hid (Calls Tryd.prog 14 #[.string F] wo fun o w' => ∃ (p5 : Option Addr) (k5 c5 n : Nat), o = .returned (.tuple #[.slice p5 k5 c5, .int .i64 (n : Int), .int .i64 0]) ∧ Kept (fun _ => False) wo w') := hParE S.out.2.1 H.out.2.2.1 H.out.2.2.2.1 (by rw [S.out.1, ej]; exact HL.out.2.2.2) (by omega)
              have KO : Hid (Kept (fun _ => False) w wo) := S.out.2.1
              clear S ej
              go_wp2_with fail
              refine CF.out.mono ?_
              rintro o w8 ⟨p8, k8, c8, n8, rfl, K8⟩
              have K8 : Hid (Kept (fun _ => False) w w8) := KO.out.trans K8 (fun _ _ z => z)
              clear CF
              go_wp2_with fail
              go_ret
              exact ⟨by first | rfl | simp, K8.out⟩
end Go.Proofs.YtonfefhegghapaaDoor
