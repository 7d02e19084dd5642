import Derived.Test.YtonfefhegghapaaDoorTBk
import Derived.Test.YtonfefhegghapaaDoorTLxJ
import Derived.Test.YtonfefhegghapaaDoorUOw
import Derived.Test.YtonfefhegghapaaDoorAHasJ
import Derived.Test.YtonfefhegghapaaDoorUSmJ
import Derived.Test.YtonfefhegghapaaDoorAPtJ
namespace Go.Proofs.YtonfefhegghapaaDoor
open Go.RowKit 

theorem fst_app : ∀ (a b : List St), fstE a = 0 → fstE (a ++ b) = fstE b
  | [], b, _ => rfl
  | s :: r, b, h => by
    unfold fstE at h
    by_cases hc : chkS s = 0
    · rw [if_pos hc] at h
      show (if chkS s = 0 then fstE (r ++ b) else chkS s) = _
      rw [if_pos hc]
      exact fst_app r b h
    · rw [if_neg hc] at h
      exact absurd h hc
theorem fst_front : ∀ (a b : List St), fstE a ≠ 0 → fstE (a ++ b) = fstE a
  | [], b, h => absurd rfl h
  | s :: r, b, h => by
    unfold fstE at h ⊢
    show (if chkS s = 0 then fstE (r ++ b) else chkS s) = _
    by_cases hc : chkS s = 0
    · rw [if_pos hc] at h ⊢
      rw [if_pos hc]
      exact fst_front r b h
    · rw [if_neg hc, if_neg hc]
theorem fst_step {ss : List St} {i : Nat} {s : St} (h : ss[i]? = some s) (h0 : fstE (ss.take i) = 0) : fstE (ss.take (i + 1)) = chkS s := by
  have e1 : ss.take (i + 1) = ss.take i ++ [s] := by
    rw [List.take_add_one, h]
    rfl
  rw [e1, fst_app _ _ h0]
  unfold fstE
  split
  · rename_i q
    rw [q]
    rfl
  · rfl
theorem fst_take {ss : List St} {i : Nat} (h : fstE (ss.take i) ≠ 0) : fstE ss = fstE (ss.take i) := by
  conv => lhs; rw [← List.take_append_drop i ss]
  exact fst_front _ _ h
theorem fst_all : ∀ {ss : List St}, fstE ss = 0 → ∀ s ∈ ss, chkS s = 0
  | [], _, s, hs => by cases hs
  | a :: r, h, s, hs => by
    unfold fstE at h
    by_cases hc : chkS a = 0
    · rw [if_pos hc] at h
      rcases List.mem_cons.1 hs with rfl | hs
      · exact hc
      · exact fst_all h s hs
    · rw [if_neg hc] at h
      exact absurd h hc
theorem SLs.ks {w : World} {p : Option Addr} {k c : Nat} {L : List Sm} {ss : List St} (R : SLs w p k c L ss) : ∀ s ∈ ss, KS s := fun s hs => by
  obtain ⟨i, hi⟩ := List.mem_iff_getElem?.1 hs
  have hl := (List.getElem?_eq_some_iff.1 hi).1
  obtain ⟨x, hx⟩ : ∃ x, L[i]? = some x := ⟨_, List.getElem?_eq_getElem (by rw [R.len, ← R.slen]; exact hl)⟩
  have q := (R.rd i x s hx hi).1
  exact ⟨q.ka, q.kb, q.l.ki⟩
theorem cut_last (T : ByteArray) : T.extract 0 (T.size - 1) = ofL T.data.toList.dropLast := by
  apply ByteArray.ext
  apply Array.toList_inj.1
  simp [ofL, List.dropLast_eq_take]
/-- Parse, where its text is that of steps that can be read. -/
theorem hBackP {w V : World} {p : Option Addr} {k c : Nat} {L : List Sm} {ss : List St} {T : ByteArray} (R : SLs w p k c L ss) (K : Kept (fun _ => False) w V) (Va : Vars w) (F : FM w) (hT : parL T.data.toList = (ss, 0, 0)) (hz : T.size ≤ 33554432) : Calls Tryd.prog 14 #[.string T] V fun o w' => ∃ (p5 : Option Addr) (c5 : Nat), o = .returned (.tuple #[.slice p5 k c5, .int .i64 0, .int .i64 0]) ∧ Kept (fun _ => False) V w' ∧ Hid (Calls Tryd.prog 15 #[.slice p5 k c5, .slice p k c] w' fun o w'' => o = .returned (.bool true) ∧ Kept (fun _ => False) w' w'') := by
  refine (hParse T V hz (Va.kept K) (F.kept K)).mono ?_
  rintro o w5 ⟨p5, k5, c5, L5, r, rfl, hr, P5⟩
  rw [hT] at hr
  subst hr
  have P5 : PX V w5 p5 k5 c5 L5 ss := P5
  have e5 : k5 = k := P5.slen.symm.trans R.slen
  subst e5
  have g : ∀ s ∈ ss, GSm 33554432 s := fun s hs => by
    have q := par_gsm T.data.toList s (by rw [hT]; exact hs)
    have z : T.data.toList.length = T.size := Array.length_toList
    exact q.mono (by omega)
  exact ⟨p5, c5, rfl, P5.kept, hSames (P5.sls g (Nat.le_refl _)) (R.kept (K.trans P5.kept (fun _ _ z => z)))⟩
/-- Parse of any text, and the text of what it answers. -/
theorem hTextP {w V : World} {t : ByteArray} (K : Kept (fun _ => False) w V) (Va : Vars w) (F : FM w) (hz : t.size ≤ 33554430) : Calls Tryd.prog 14 #[.string t] V fun o w' => ∃ (p5 : Option Addr) (k5 c5 n : Nat) (e : Int), o = .returned (.tuple #[.slice p5 k5 c5, .int .i64 (n : Int), .int .i64 e]) ∧ Kept (fun _ => False) V w' ∧ ((e = 0 ∧ n = 0 ∧ ∃ X : ByteArray, (X = t ∨ (X ≠ t ∧ X = t ++ { data := #[10] })) ∧ Hid (Calls Tryd.prog 12 #[.slice p5 k5 c5] w' fun o w'' => o = .returned (.tuple #[.string X, .int .i64 0]) ∧ Kept (fun _ => False) w' w'')) ∨ (k5 = 0 ∧ (e = 2 ∨ e = 82))) := by
  have tz : t.data.toList.length = t.size := Array.length_toList
  refine (hParse t V (by omega) (Va.kept K) (F.kept K)).mono ?_
  rintro o w5 ⟨p5, k5, c5, L5, r, rfl, hr, P5⟩
  refine ⟨p5, k5, c5, r.2.1, r.2.2, rfl, P5.kept, ?_⟩
  have g := par_gsm t.data.toList
  rcases par_inv t.data.toList with ⟨ss, x, h1, h2, h3, h4⟩ | h1 | ⟨n, h1⟩
  · rw [h1] at hr g
    subst hr
    have P5 : PX V w5 p5 k5 c5 L5 ss := P5
    refine .inl ⟨rfl, rfl, ofL x, ?_, ?_⟩
    · rcases h4 with rfl | rfl
      · exact .inl (ofL_self t)
      · refine .inr ⟨fun z => ?_, ?_⟩
        · have q := congrArg (fun b : ByteArray => b.data.toList.length) z
          rw [ofL_listE, List.length_append, List.length_singleton] at q
          omega
        · rw [← ofL_self (t ++ { data := #[10] }), app_list]
    · have q := hText (P5.sls g (by omega)) ((Va.kept K).kept P5.kept) ((F.kept K).kept P5.kept) (by
        rw [h3]
        rcases h4 with rfl | rfl
        · omega
        · rw [List.length_append, List.length_singleton]
          omega)
      rw [h2] at q
      exact q
  · rw [h1] at hr
    subst hr
    exact .inr ⟨P5.slen.symm, .inl rfl⟩
  · rw [h1] at hr
    subst hr
    exact .inr ⟨P5.slen.symm, .inr rfl⟩
set_option maxRecDepth 100000 in
set_option maxHeartbeats 8000000 in
theorem hLaw4 {w : World} {p : Option Addr} {k c : Nat} {L : List Sm} {ss : List St} {t : ByteArray} (R : SLs w p k c L ss) (hz : (lnsL ss).length ≤ 33554430) (ht : t.size ≤ 33554430) (V : Vars w) (F : FM w) : Calls Tryd.prog 4 #[.slice p k c, .string t] w fun o w' => o = .returned (.bool true) ∧ Kept (fun _ => False) w w' := by
  have hk : k ≤ 9223372036854775807 := by have h1 := R.room; have h2 := R.small; unfold maxLen at h2; omega
  have H : Hid (SLs w p k c L ss ∧ (lnsL ss).length ≤ 33554430 ∧ Vars w ∧ FM w ∧ t.size ≤ 33554430) := ⟨R, hz, V, F, ht⟩
  have C0 : Hid (Calls Tryd.prog 11 #[] w fun o w' => o = .returned (.bool true) ∧ Kept (fun _ => False) w w') := hAwake w V F
  obtain ⟨T, hT⟩ : ∃ T, (txtL ss).1 = T := ⟨_, rfl⟩
  obtain ⟨e, he⟩ : ∃ e, (txtL ss).2 = e := ⟨_, rfl⟩
  have C1 : Hid (∀ V, Kept (fun _ => False) w V → Calls Tryd.prog 12 #[.slice p k c] V fun o w' => o = .returned (.tuple #[.string T, .int .i64 e]) ∧ Kept (fun _ => False) V w') := fun V K => by
    rw [← hT, ← he]
    exact hText (H.out.1.kept K) (H.out.2.2.1.kept K) (H.out.2.2.2.1.kept K) (by have := H.out.2.1; omega)
  have HT : Hid (txtL ss = (T, e)) := Prod.ext hT he
  clear R hz V F ht hT he
  go_enter Tryd.func4, Tryd.ntmps4
  go_wp2_with fail
  refine C0.out.mono ?_
  rintro o w1 ⟨rfl, K1⟩
  go_wp2_with fail
  refine (C1.out _ K1).mono ?_
  rintro o w2 ⟨rfl, K2⟩
  have S0 : Hid (Kept (fun _ => False) w w2) := K1.trans K2 (fun _ _ z => z)
  clear K1 K2 C0 C1
  go_upto_region 4 with fail
  go_cut [7] from 27 (fun u7 wc => u7 = .int .i64 0 ∧ wc = w2)
  case first =>
    go_wp2_with fail
    go_meet
    exact ⟨rfl, rfl⟩
  case rest =>
  obtain ⟨rfl, rfl⟩ := hcut
  rename_i K2 hK2
  refine hK2 _ _ ?_
  refine wp_seq_k fun K3 hK3 => ?_
  go_cut [7, 8] from 27 (fun u7 _ wc => ∃ b : Int, u7 = .int .i64 b ∧ Hid (b = fstE ss ∧ Kept (fun _ => False) w wc))
  case first =>
    go_upto_region 6 with fail
    go_loopw [7, 8] (fun u7 u8 wr => ∃ (i : Nat) (b : Int), u7 = .int .i64 b ∧ u8 = .int .i64 (i : Int) ∧ i ≤ k ∧ Hid (b = fstE (ss.take i) ∧ Kept (fun _ => False) w wr)) (fun _ u8 _ => k - (intOf u8).toNat)
    case atStart => exact ⟨0, 0, rfl, rfl, Nat.zero_le _, by simp [fstE], S0.out⟩
    case round =>
      obtain ⟨i, b, rfl, rfl, hi, S⟩ := hrel
      obtain ⟨wo, hwo⟩ : ∃ wo, wo = wr := ⟨_, rfl⟩
      rw [← hwo] at S ⊢
      clear hwo S0
      by_cases hlt : i < k
      · have i1 : (i : Int) < (k : Int) := by omega
        by_cases hb : b = 0
        · subst hb
          have hB : Hid (fstE (ss.take i) = 0) := S.out.1.symm
          obtain ⟨pb, off, x, s, rfl, hs, rd, ki, hc⟩ := H.out.1.at hlt
          have C1 : Hid (∀ V, Kept (fun _ => False) w V → Calls Tryd.prog 13 #[.agg x.cs] V fun o w' => o = .returned (.int .i64 (chkS s)) ∧ Kept (fun _ => False) V w') := fun V K => hChk (rd.kept K) ki (H.out.2.2.2.1.kept K)
          have HS : Hid (ss[i]? = some s) := hs
          have hcx : ∀ (j : Nat) (v : Value), x.cs[j]? = some v → wo.cell? ⟨pb, off + i * 6 + j, none⟩ = some v := fun j v hv => S.out.2.cell (hc j v hv) (fun z => z)
          obtain ⟨kind, a, b, key, va, vn, vc, la, ln, lc⟩ := x
          have C1 : Hid (∀ V, Kept (fun _ => False) w V → Calls Tryd.prog 13 #[.agg #[.int .i64 kind, .int .i64 a, .int .i64 b, .string key, .slice va vn vc, .slice la ln lc]] V fun o w' => o = .returned (.int .i64 (chkS s)) ∧ Kept (fun _ => False) V w') := C1
          have x0 := hcx 0 (.int .i64 kind) rfl
          have x1 := hcx 1 (.int .i64 a) rfl
          have x2 := hcx 2 (.int .i64 b) rfl
          have x3 := hcx 3 (.string key) rfl
          have x4 := hcx 4 (.slice va vn vc) rfl
          have x5 := hcx 5 (.slice la ln lc) rfl
          rw [Nat.add_zero] at x0
          obtain ⟨ck, hck⟩ : ∃ ck, chkS s = ck := ⟨_, rfl⟩
          rw [hck] at C1
          have HC : Hid (chkS s = ck) := hck
          clear hcx hc hs rd ki hck
          go_wp2_with fail
          refine (C1.out _ S.out.2).mono ?_
          rintro o w5 ⟨rfl, K5⟩
          have N : Hid (ck = fstE (ss.take (i + 1)) ∧ Kept (fun _ => False) w w5) := ⟨by rw [fst_step HS.out hB.out, HC.out], S.out.2.trans K5 (fun _ _ z => z)⟩
          clear K5 C1 S x0 x1 x2 x3 x4 x5
          go_wp2_with fail
          go_roundw
          case rel => exact ⟨i + 1, ck, rfl, by go_num, by omega, N⟩
          case measure => simp [intOf] <;> omega
        · have S9 : Hid (b = fstE ss ∧ Kept (fun _ => False) w wo) := ⟨by rw [fst_take (i := i) (by rw [← S.out.1]; exact hb)]; exact S.out.1, S.out.2⟩
          clear S
          go_wp2_with fail
          go_meet
          exact ⟨b, rfl, S9⟩
      · have i1 : ¬ (i : Int) < (k : Int) := by omega
        have S9 : Hid (b = fstE ss ∧ Kept (fun _ => False) w wo) := ⟨by
          have q := S.out.1
          rw [List.take_of_length_le (by rw [H.out.1.slen]; omega)] at q
          exact q, S.out.2⟩
        clear S
        go_wp2_with fail
        go_meet
        exact ⟨b, rfl, S9⟩
  case rest =>
  obtain ⟨b, rfl, S1⟩ := hcut
  clear S0
  have HE : (4096 < k ∧ T = ⟨#[]⟩ ∧ e = 2) ∨ (¬ 4096 < k ∧ e = b ∧ (b ≠ 0 → T = ⟨#[]⟩) ∧ (b = 0 → T = ofL (lnsL ss) ∧ ∀ s ∈ ss, chkS s = 0)) := by
    have q := HT.out
    unfold txtL at q
    rw [H.out.1.slen] at q
    by_cases h4 : 4096 < k
    · rw [if_pos h4] at q
      exact .inl ⟨h4, (congrArg Prod.fst q).symm, (congrArg Prod.snd q).symm⟩
    · rw [if_neg h4, ← S1.out.1] at q
      refine .inr ⟨h4, ?_⟩
      by_cases hb : b = 0
      · rw [if_pos hb] at q
        refine ⟨by rw [hb]; exact (congrArg Prod.snd q).symm, fun z => absurd hb z, fun _ => ⟨(congrArg Prod.fst q).symm, fst_all (by rw [← S1.out.1]; exact hb)⟩⟩
      · rw [if_neg hb] at q
        exact ⟨(congrArg Prod.snd q).symm, fun _ => (congrArg Prod.fst q).symm, fun z => absurd z hb⟩
  have HF : Hid ((e ≠ 0 → T = ⟨#[]⟩) ∧ (e = 0 → k ≤ 4096 ∧ T = ofL (lnsL ss) ∧ ∀ s ∈ ss, chkS s = 0)) := by
    rcases HE with ⟨h1, h2, h3⟩ | ⟨h1, h2, h3, h4⟩
    · exact ⟨fun _ => h2, fun z => absurd z (by rw [h3]; decide)⟩
    · rw [h2]
      exact ⟨h3, fun z => ⟨by omega, h4 z⟩⟩
  have KW : Hid (Kept (fun _ => False) w wc) := S1.out.2
  have HG : (4096 < k ∧ e = 2) ∨ (¬ 4096 < k ∧ e = b) := by
    rcases HE with ⟨h1, h2, h3⟩ | ⟨h1, h2, h3, h4⟩
    · exact .inl ⟨h1, h3⟩
    · exact .inr ⟨h1, h2⟩
  clear HE S1 HT
  obtain ⟨w3, hw3⟩ : ∃ w3, w3 = wc := ⟨_, rfl⟩
  rw [← hw3] at KW ⊢
  clear hw3 wc
  refine hK3 _ _ ?_
  refine wp_seq_k fun K4 hK4 => ?_
  go_cut [7] from 42 (fun u7 wc => u7 = .int .i64 e ∧ wc = w3)
  case first =>
    rcases HG with ⟨h1, rfl⟩ | ⟨h1, rfl⟩
    · have h1i : (4096 : Int) < (k : Int) := by omega
      go_wp2_with fail
      go_meet
      exact ⟨rfl, rfl⟩
    · have h1i : ¬ (4096 : Int) < (k : Int) := by omega
      go_wp2_with fail
      go_meet
      exact ⟨rfl, rfl⟩
  case rest =>
  obtain ⟨rfl, rfl⟩ := hcut
  clear HG
  refine hK4 _ _ ?_
  refine wp_seq_k fun K5 hK5 => ?_
  go_cut [7] from 45 (fun u7 w3 => u7 = .int .i64 e ∧ w3 = wc)
  case first =>
    by_cases h0 : e = 0
    · subst h0
      go_wp2_with fail
      go_meet
      exact ⟨rfl, rfl⟩
    · have hT := HF.out.1 h0
      subst hT
      go_wp2_with fail
      go_meet
      exact ⟨rfl, rfl⟩
  case rest =>
  obtain ⟨rfl, rfl⟩ := hcut
  refine hK5 _ _ ?_
  refine wp_seq_k fun K6 hK6 => ?_
  go_cut [9, 10, 11, 12, 13, 14] from 56 (fun _ _ _ _ _ _ w3 => Hid (Kept (fun _ => False) w w3))
  case first =>
    by_cases h0 : e = 0
    · have HO := HF.out.2 h0
      subst h0
      obtain ⟨h4, hT, ok⟩ := HO
      have hTl : T.data.toList = lnsL ss := by rw [hT]; rfl
      have tz : T.data.toList.length = T.size := Array.length_toList
      have all : ∀ s ∈ ss, chkS s = 0 ∧ KS s := fun s hs => ⟨ok s hs, H.out.1.ks s hs⟩
      have ls : ss.length ≤ 4096 := by rw [H.out.1.slen]; exact h4
      have TZ : Hid (T.size ≤ 33554430) := by have := H.out.2.1; rw [← hTl] at this; show T.size ≤ 33554430; omega
      have C2 := hBackP (T := T) H.out.1 KW.out H.out.2.2.1 H.out.2.2.2.1 (by rw [hTl]; exact par_back all ls) (by have := TZ.out; omega)
      have C3 : Hid (∀ V, Kept (fun _ => False) w V → Calls Tryd.prog 14 #[.string (ofL T.data.toList.dropLast)] V fun o w' => ∃ (p5 : Option Addr) (c5 : Nat), o = .returned (.tuple #[.slice p5 k c5, .int .i64 0, .int .i64 0]) ∧ Kept (fun _ => False) V w' ∧ Hid (Calls Tryd.prog 15 #[.slice p5 k c5, .slice p k c] w' fun o w'' => o = .returned (.bool true) ∧ Kept (fun _ => False) w' w'')) := fun V K => hBackP H.out.1 K H.out.2.2.1 H.out.2.2.2.1 (by rw [ofL_listE, hTl]; exact par_short all ls) (by rw [ofL_sizeE, List.length_dropLast]; have := TZ.out; omega)
      have C2 : Hid (Calls Tryd.prog 14 #[.string T] wc fun o w' => ∃ (p5 : Option Addr) (c5 : Nat), o = .returned (.tuple #[.slice p5 k c5, .int .i64 0, .int .i64 0]) ∧ Kept (fun _ => False) wc w' ∧ Hid (Calls Tryd.prog 15 #[.slice p5 k c5, .slice p k c] w' fun o w'' => o = .returned (.bool true) ∧ Kept (fun _ => False) w' w'')) := C2
      have tz2 : T.size ≤ 33554430 := TZ.out
      clear hT hTl tz all ls ok h4 HF
      go_wp2_with fail
      refine C2.out.mono ?_
      rintro o w5 ⟨p5, c5, rfl, K5, C5⟩
      have K5 : Hid (Kept (fun _ => False) w w5) := KW.out.trans K5 (fun _ _ z => z)
      clear C2
      go_wp2_with fail
      refine C5.out.mono ?_
      rintro o w6 ⟨rfl, K6⟩
      have K6 : Hid (Kept (fun _ => False) w w6) := K5.out.trans K6 (fun _ _ z => z)
      clear C5 K5
      by_cases hs : T.size = 0
      · have hs2 : ¬ (0 : Int) < (T.size : Int) := by omega
        go_wp2_with fail
        go_meet
        exact K6
      · have hs2 : (0 : Int) < (T.size : Int) := by omega
        go_wp2_with fail
        rw [cut_last]
        refine (C3.out _ K6.out).mono ?_
        rintro o w7 ⟨p7, c7, rfl, K7, C7⟩
        have K7 : Hid (Kept (fun _ => False) w w7) := K6.out.trans K7 (fun _ _ z => z)
        clear C3
        go_wp2_with fail
        refine C7.out.mono ?_
        rintro o w8 ⟨rfl, K8⟩
        have K8 : Hid (Kept (fun _ => False) w w8) := K7.out.trans K8 (fun _ _ z => z)
        go_wp2_with fail
        go_meet
        exact K8
    · go_wp2_with fail
      go_meet
      exact KW
  case rest =>
  have KX : Hid (Kept (fun _ => False) w wc) := hcut
  clear hcut KW HF
  have C9 := hTextP (t := t) KX.out H.out.2.2.1 H.out.2.2.2.1 H.out.2.2.2.2
  refine hK6 _ _ ?_
  have tz : t.size ≤ 33554430 := H.out.2.2.2.2
  go_wp2_with fail
  refine C9.mono ?_
  rintro o w5 ⟨p5, k5, c5, n, e5, rfl, K5, P⟩
  have K5 : Hid (Kept (fun _ => False) w w5) := KX.out.trans K5 (fun _ _ z => z)
  rcases P with ⟨rfl, rfl, X, hX, C5⟩ | ⟨rfl, rfl | rfl⟩
  · clear C9
    go_wp2_with fail
    refine C5.out.mono ?_
    rintro o w6 ⟨rfl, K6⟩
    have K6 : Hid (Kept (fun _ => False) w w6) := K5.out.trans K6 (fun _ _ z => z)
    clear C5
    rcases hX with rfl | ⟨hX, rfl⟩
    · go_wp2_with fail
      go_ret
      exact ⟨by first | rfl | simp, K6.out⟩
    · obtain ⟨X, hX2⟩ : ∃ X, t ++ { data := #[10] } = X := ⟨_, rfl⟩
      rw [hX2] at hX ⊢
      have e1 : (X.toList == t.toList) = false := by rw [eq_bytesE]; exact decide_eq_false hX
      have e2 : decide (X = t) = false := decide_eq_false hX
      go_wp2_with fail
      go_ret
      exact ⟨by first | rfl | simp, K6.out⟩
  · clear C9
    go_wp2_with fail
    go_ret
    exact ⟨by first | rfl | simp, K5.out⟩
  · clear C9
    go_wp2_with fail
    go_ret
    exact ⟨by first | rfl | simp, K5.out⟩
end Go.Proofs.YtonfefhegghapaaDoor

namespace Go.Proofs.YtonfefhegghapaaDoor
open Go.RowKit 

theorem tex_lin : ∀ (f : Nat) (l : List UInt8), l.length ≤ f → (tex (linL l)).length ≤ l.length + 1
  | 0, l, h => by
    have : l = [] := List.eq_nil_of_length_eq_zero (by omega)
    subst this
    simp [linL_nil, tex]
  | f + 1, l, h => by
    by_cases h0 : l = []
    · subst h0
      simp [linL_nil, tex]
    · have hl := (cutE_len 10 l).2.2 h0
      obtain ⟨_, sp⟩ := cut_spec 10 l
      have ih := tex_lin f (cutE 10 l).2 (by omega)
      rw [linL_step h0, tex_cons, List.length_append, List.length_cons]
      rcases sp with sp | ⟨sp, sr⟩
      · have e := congrArg List.length sp
        rw [List.length_append, List.length_cons] at e
        omega
      · have e := congrArg List.length sp
        rw [sr]
        rw [linL_nil]
        simp [tex]
        omega
theorem tex_take (ts : List (List UInt8)) (i : Nat) : (tex (ts.take i)).length ≤ (tex ts).length := by
  conv => rhs; rw [← List.take_append_drop i ts]
  unfold tex
  rw [List.flatMap_append, List.length_append]
  omega
theorem lin_get {l : List UInt8} {i : Nat} {t : List UInt8} (h : (linL l)[i]? = some t) : t.length ≤ l.length := by
  have h1 := one_len h
  have h2 := tex_lin l.length l (Nat.le_refl _)
  omega
theorem lns_len (ss : List St) : ss.length ≤ (lnsL ss).length := by
  induction ss with
  | nil => simp
  | cons s r ih =>
    rw [lnsL_cons, List.length_append, List.length_cons, List.length_cons]
    omega
/-- Steps of one's own, of any kind, can be read. -/
theorem PX.any {w wr : World} {p : Option Addr} {k c : Nat} {L : List Sm} {ss : List St} (h : PX w wr p k c L ss) (g : ∀ s ∈ ss, KS s ∧ KI s.kind ∧ s.key.length + s.val.length + s.l.length ≤ 134217728) : SLs wr p k c L ss := by
  obtain ⟨r1, r2⟩ := own_room h.row
  refine ⟨h.len, h.slen, r1, r2, fun h0 => ?_, fun i x s hx hs => ?_⟩
  · rcases h.row.2 with ⟨_, hn⟩ | ⟨g, cap, cur, z, _⟩
    · omega
    · have z : Value.slice p k c = .slice (some ⟨g, 0, none⟩) k cap := z
      injection z with z1 _ z3
      subst z1
      subst z3
      have hc := h.row.cells (g := g) rfl
      refine ⟨g, 0, rfl, fun i hi j v hv => ?_⟩
      have hj : j < 6 := by
        obtain ⟨h1, _⟩ := Array.getElem?_eq_some_iff.1 hv
        have : L[i].cs.size = 6 := rfl
        omega
      have := hc (i * 6 + j) v (by rw [scs_get L i hi j hj]; exact hv)
      rw [Addr.add_none, Nat.zero_add] at this
      rw [Nat.zero_add]
      exact this
  · obtain ⟨ks, ki, sm⟩ := g s (List.mem_of_getElem? hs)
    have so := h.so i x s hx hs
    exact ⟨⟨so.kind, so.a, so.b, so.key, ks.a, ks.b, (owns_bytes so.vr so.vl).1, (owns_ints so.lr so.ll ks.l).1, sm⟩, ki⟩
theorem SLs.all {w : World} {p : Option Addr} {k c : Nat} {L : List Sm} {ss : List St} (R : SLs w p k c L ss) : ∀ s ∈ ss, KS s ∧ KI s.kind ∧ s.key.length + s.val.length + s.l.length ≤ 134217728 := fun s hs => by
  obtain ⟨i, hi⟩ := List.mem_iff_getElem?.1 hs
  have hl := (List.getElem?_eq_some_iff.1 hi).1
  obtain ⟨x, hx⟩ : ∃ x, L[i]? = some x := ⟨_, List.getElem?_eq_getElem (by rw [R.len, ← R.slen]; exact hl)⟩
  have q := R.rd i x s hx hi
  exact ⟨⟨q.1.ka, q.1.kb, q.1.l.ki⟩, q.2, q.1.sm⟩
theorem txt_ok {ss : List St} : (txtL ss).2 = 0 ↔ ss.length ≤ 4096 ∧ ∀ s ∈ ss, chkS s = 0 := by
  unfold txtL
  by_cases h4 : 4096 < ss.length
  · rw [if_pos h4]
    exact ⟨fun z => absurd z (show ¬ (2 : Int) = 0 by decide), fun z => absurd z.1 (by omega)⟩
  · rw [if_neg h4]
    by_cases hf : fstE ss = 0
    · rw [if_pos hf]
      exact ⟨fun _ => ⟨by omega, fst_all hf⟩, fun _ => rfl⟩
    · rw [if_neg hf]
      exact ⟨fun z => absurd z hf, fun z => absurd (fst_none ss (fun j t ht => z.2 t (List.mem_of_getElem? ht))) hf⟩
/-- Parse, where its text is that of steps that can be read. -/
theorem hBackT {w V : World} {p : Option Addr} {k c : Nat} {L : List Sm} {ss : List St} {T : ByteArray} (R : SLs w p k c L ss) (K : Kept (fun _ => False) w V) (Va : Vars w) (F : FM w) (hT : parL T.data.toList = (ss, 0, 0)) (hz : T.size ≤ 33554432) : Calls Tryd.prog 14 #[.string T] V fun o w' => ∃ (p5 : Option Addr) (c5 : Nat), o = .returned (.tuple #[.slice p5 k c5, .int .i64 0, .int .i64 0]) ∧ Kept (fun _ => False) V w' ∧ Hid (Calls Tryd.prog 27 #[.slice p5 k c5, .slice p k c] w' fun o w'' => o = .returned (.bool true) ∧ Kept (fun _ => False) w' w'') := by
  refine (hParse T V hz (Va.kept K) (F.kept K)).mono ?_
  rintro o w5 ⟨p5, k5, c5, L5, r, rfl, hr, P5⟩
  rw [hT] at hr
  subst hr
  have P5 : PX V w5 p5 k5 c5 L5 ss := P5
  have e5 : k5 = k := P5.slen.symm.trans R.slen
  subst e5
  exact ⟨p5, c5, rfl, P5.kept, hSS (P5.any R.all) (R.kept (K.trans P5.kept (fun _ _ z => z)))⟩
/-- Parse, whose error alone is asked. -/
theorem hParE {w V : World} {T : ByteArray} {e : Int} (K : Kept (fun _ => False) w V) (Va : Vars w) (F : FM w) (hT : (parL T.data.toList).2.2 = e) (hz : T.size ≤ 33554432) : Calls Tryd.prog 14 #[.string T] V fun o w' => ∃ (p5 : Option Addr) (k5 c5 n : Nat), o = .returned (.tuple #[.slice p5 k5 c5, .int .i64 (n : Int), .int .i64 e]) ∧ Kept (fun _ => False) V w' := by
  refine (hParse T V hz (Va.kept K) (F.kept K)).mono ?_
  rintro o w5 ⟨p5, k5, c5, L5, r, rfl, hr, P5⟩
  subst hr
  exact ⟨p5, k5, c5, _, by rw [hT], P5.kept⟩
/-- Parse of any text, what it tells, and the text of what it answers. -/
theorem hTold {w V : World} {t : ByteArray} (K : Kept (fun _ => False) w V) (Va : Vars w) (F : FM w) (hz : t.size ≤ 33554430) : Calls Tryd.prog 14 #[.string t] V fun o w' => ∃ (p5 : Option Addr) (k5 c5 n : Nat) (e : Int), o = .returned (.tuple #[.slice p5 k5 c5, .int .i64 (n : Int), .int .i64 e]) ∧ Kept (fun _ => False) V w' ∧ ((e = 0 ∧ n = 0 ∧ ∃ X : ByteArray, (X = t ∨ (X ≠ t ∧ X = t ++ { data := #[10] })) ∧ Hid (Calls Tryd.prog 12 #[.slice p5 k5 c5] w' fun o w'' => o = .returned (.tuple #[.string X, .int .i64 0]) ∧ Kept (fun _ => False) w' w'')) ∨ (k5 = 0 ∧ e = 2 ∧ n = 0 ∧ Hid (4096 < (linL t.data.toList).length)) ∨ (k5 = 0 ∧ e = 82 ∧ ∃ u, Hid ((linL t.data.toList).length ≤ 4096 ∧ (linL t.data.toList)[n]? = some u ∧ (parL (u ++ [10])).2.2 = 82 ∧ (parL (tex ((linL t.data.toList).take n))).2.2 = 0))) := by
  have tz : t.data.toList.length = t.size := Array.length_toList
  refine (hParse t V (by omega) (Va.kept K) (F.kept K)).mono ?_
  rintro o w5 ⟨p5, k5, c5, L5, r, rfl, hr, P5⟩
  refine ⟨p5, k5, c5, r.2.1, r.2.2, rfl, P5.kept, ?_⟩
  have g := par_gsm t.data.toList
  rcases par_told t.data.toList with ⟨ss, x, h1, h2, h3, h4⟩ | ⟨h1, h2⟩ | ⟨n, u, h1, h2⟩
  · rw [h1] at hr g
    subst hr
    have P5 : PX V w5 p5 k5 c5 L5 ss := P5
    refine .inl ⟨rfl, rfl, ofL x, ?_, ?_⟩
    · rcases h4 with rfl | rfl
      · exact .inl (ofL_self t)
      · refine .inr ⟨fun z => ?_, ?_⟩
        · have q := congrArg (fun b : ByteArray => b.data.toList.length) z
          rw [ofL_listE, List.length_append, List.length_singleton] at q
          omega
        · rw [← ofL_self (t ++ { data := #[10] }), app_list]
    · have q := hText (P5.sls g (by omega)) ((Va.kept K).kept P5.kept) ((F.kept K).kept P5.kept) (by
        rw [h3]
        rcases h4 with rfl | rfl
        · omega
        · rw [List.length_append, List.length_singleton]
          omega)
      rw [h2] at q
      exact q
  · rw [h1] at hr
    subst hr
    exact .inr (.inl ⟨P5.slen.symm, rfl, rfl, h2⟩)
  · rw [h1] at hr
    subst hr
    exact .inr (.inr ⟨P5.slen.symm, rfl, u, h2⟩)
/-- The step of the law's first line. -/
theorem hFirst {w : World} (V : Vars w) (F : FM w) : Calls Tryd.prog 17 #[.agg #[.int .i64 1, .int .i64 1, .int .i64 0, .string ⟨#[107]⟩, .slice (some ⟨w.heap.size, 0, none⟩) 1 1, .slice none 0 0]] (w.alloc (.cells #[.int .u8 120] 5 (1, 2))) fun o w' => o = .returned (.tuple #[.string ⟨#[112, 117, 116, 32, 49, 32, 54, 98, 32, 55, 56]⟩, .int .i64 0]) ∧ Kept (fun _ => False) (w.alloc (.cells #[.int .u8 120] 5 (1, 2))) w' := by
  have K := (Kept.refl (fun _ => False) w).alloc (.cells #[.int .u8 120] 5 (1, 2))
  have q := hLine (x := ⟨1, 1, 0, ⟨#[107]⟩, some ⟨w.heap.size, 0, none⟩, 1, 1, none, 0, 0⟩) (s := ⟨1, 1, 0, [107], [120], []⟩) (w := w.alloc (.cells #[.int .u8 120] 5 (1, 2))) ⟨rfl, rfl, rfl, rfl, ⟨by decide, by decide⟩, ⟨by decide, by decide⟩, ⟨rfl, Nat.le_refl _, (show 1 ≤ maxLen by unfold maxLen; decide), fun _ => ⟨w.heap.size, 0, rfl, fun i x hx => by
    have : i = 0 := by
      have := (List.getElem?_eq_some_iff.1 hx).1
      simpa using this
    subst this
    have e : x = 120 := by simpa using hx.symm
    rw [e]
    rw [cell_of_row _ w.heap.size (0 + 0) _ 5 _ (heap_alloc_new w _)]
    rfl⟩⟩, ⟨rfl, Nat.le_refl _, Nat.zero_le _, fun z hz => (by cases hz), fun h => absurd h (show ¬ 0 < 0 by decide)⟩, by decide⟩ ⟨by decide, by decide⟩ (V.kept K) (F.kept K)
  have e1 : lineS ⟨1, 1, 0, [107], [120], []⟩ = ⟨#[112, 117, 116, 32, 49, 32, 54, 98, 32, 55, 56]⟩ := by kernel_rfl
  have e2 : chkS ⟨1, 1, 0, [107], [120], []⟩ = 0 := by kernel_rfl
  rw [e1, e2] at q
  exact q
end Go.Proofs.YtonfefhegghapaaDoor
