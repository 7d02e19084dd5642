import Derived.Test.YtonfefhegghapaaDoorACk
import Derived.Test.YtonfefhegghapaaDoorADe
import Derived.Test.YtonfefhegghapaaDoorAHx
namespace Go.Proofs.YtonfefhegghapaaDoor
open Go.RowKit 

/-- The document's words, at block 1. -/
def WM (w : World) : Prop := ∀ k : Nat, k < 17 → w.cell? ⟨1, k, none⟩ = some (.string (ofL (kw k)))
theorem WM.kept {w w' : World} (h : WM w) (K : Kept (fun _ => False) w w') : WM w' := fun k hk => K.cell (h k hk) (fun z => z)
/-- Where the document's Line is. -/
structure LB (w W : World) (cs : Array Value) : Prop where
  bx : W.heap[w.heap.size]? = some (.cells cs 38 (0, 0))
  kept : Kept (fun _ => False) w W
theorem LB.k0 {w W W' : World} {cs : Array Value} (h : LB w W cs) (K : Kept (fun _ => False) W W') : LB w W' cs := ⟨K.get h.bx (fun z => z), h.kept.trans K (fun _ _ z => z)⟩
theorem size_list (t : ByteArray) : t.size = t.data.toList.length := Array.length_toList.symm
/-- A line's parts, one by one. -/
def pcA (s : St) : List UInt8 := kw s.kind.toNat ++ (if useN s.kind.toNat % 2 = 1 then numL [s.a] else [])
def pcB (s : St) : List UInt8 := pcA s ++ (if useN s.kind.toNat / 2 % 2 = 1 then numL [s.b] else [])
def pcK (s : St) : List UInt8 := pcB s ++ (if useN s.kind.toNat / 4 % 2 = 1 then bytL s.key else [])
def pcV (s : St) : List UInt8 := pcK s ++ (if useN s.kind.toNat / 8 % 2 = 1 then bytL s.val else [])
theorem pc_line {s : St} (h : Fit s) : pcV s ++ numL s.l = lineL s := by
  unfold pcV pcK pcB pcA lineL tailU
  have e : (if useN s.kind.toNat / 16 % 2 = 1 then numL s.l else []) = numL s.l := by
    split
    · rfl
    · rename_i z
      rw [h.l z]
      rfl
  rw [e]
  simp only [List.append_assoc]
theorem has_use {k : Nat} (h1 : 1 ≤ k) (h2 : k ≤ 16) : (useN k % 2 = 1 ↔ ¬ (k : Int) = 16) ∧ (useN k / 2 % 2 = 1 ↔ ((k : Int) = 9 ∨ (k : Int) = 10 ∨ (k : Int) = 14 ∨ (k : Int) = 16)) ∧ (useN k / 4 % 2 = 1 ↔ ((k : Int) = 1 ∨ (k : Int) = 2)) ∧ (useN k / 8 % 2 = 1 ↔ (k : Int) = 1) := by
  obtain rfl | rfl | rfl | rfl | rfl | rfl | rfl | rfl | rfl | rfl | rfl | rfl | rfl | rfl | rfl | rfl : k = 1 ∨ k = 2 ∨ k = 3 ∨ k = 4 ∨ k = 5 ∨ k = 6 ∨ k = 7 ∨ k = 8 ∨ k = 9 ∨ k = 10 ∨ k = 11 ∨ k = 12 ∨ k = 13 ∨ k = 14 ∨ k = 15 ∨ k = 16 := by omega
  all_goals decide
theorem add_list (T D : ByteArray) : (T ++ { data := #[32] } ++ D).data.toList = T.data.toList ++ 32 :: D.data.toList := by simp
theorem itoa_20 (z : Int) (h : KI z) : (Lib.itoa z).length ≤ 21 := by
  have := numL_one z h
  have e : (numL [z]).length = (Lib.itoa z).length + 1 := by unfold numL; simp
  omega
theorem bytW_len (l : List UInt8) : (bytW l).length ≤ 1 + 2 * l.length := by
  have h := bytL_len l
  rw [bytL_w, List.length_cons] at h
  omega
set_option maxRecDepth 100000 in
set_option maxHeartbeats 16000000 in
/-- The document's Line. -/
theorem hRefLine {w : World} {x : Sm} {s : St} (R : SRd w x s) (hk : KI s.kind) (M : WM w) : Calls Tryd.prog 18 #[.agg x.cs] w fun o w' => o = .returned (.tuple #[.string (lineS s), .int .i64 (chkS s)]) ∧ Kept (fun _ => False) w w' := by
  have HR0 : Hid (SRd w x s ∧ KI s.kind ∧ WM w) := ⟨R, hk, M⟩
  obtain ⟨ck, hck⟩ : ∃ ck, chkS s = ck := ⟨_, rfl⟩
  have C19 : Hid (∀ V, Kept (fun _ => False) w V → Calls Tryd.prog 19 #[.agg x.cs] V fun o w' => o = .returned (.int .i64 ck) ∧ Kept (fun _ => False) V w') := fun V K => by rw [← hck]; exact hRefChk (HR0.out.1.kept K) HR0.out.2.1
  obtain ⟨G, hG⟩ : ∃ G, lineS s = G := ⟨_, rfl⟩
  rw [hck, hG]
  have HG : Hid (lineS s = G ∧ chkS s = ck) := ⟨hG, hck⟩
  clear hG hck R hk M
  obtain ⟨kind, a, b, key, va, vn, vc, la, ln, lc⟩ := x
  have C19 : Hid (∀ V, Kept (fun _ => False) w V → Calls Tryd.prog 19 #[.agg #[.int .i64 kind, .int .i64 a, .int .i64 b, .string key, .slice va vn vc, .slice la ln lc]] V fun o w' => o = .returned (.int .i64 ck) ∧ Kept (fun _ => False) V w') := C19
  show Calls Tryd.prog 18 #[.agg #[.int .i64 kind, .int .i64 a, .int .i64 b, .string key, .slice va vn vc, .slice la ln lc]] w _
  have S0 : Hid (LB w (w.alloc (.cells #[.int .i64 kind, .int .i64 a, .int .i64 b, .string key, .slice va vn vc, .slice la ln lc] 38)) #[.int .i64 kind, .int .i64 a, .int .i64 b, .string key, .slice va vn vc, .slice la ln lc]) := ⟨alloc_new _ _, (Kept.refl _ _).alloc _⟩
  go_enter Tryd.func18, Tryd.ntmps18
  go_wp2_with fail
  refine (C19.out _ S0.out.kept).mono ?_
  rintro o w1 ⟨rfl, K1⟩
  have S1 : Hid (LB w w1 #[.int .i64 kind, .int .i64 a, .int .i64 b, .string key, .slice va vn vc, .slice la ln lc]) := S0.out.k0 K1
  clear K1 S0 C19
  by_cases h0 : ck = 0
  rotate_left
  · have e : G = ⟨#[]⟩ := by
      rw [← HG.out.1]
      unfold lineS
      rw [if_neg (by rw [HG.out.2]; exact h0)]
    subst e
    go_wp2_with fail
    go_ret2
    exact ⟨by first | rfl | simp, S1.out.kept⟩
  subst h0
  have FT : Fit s := chk_fit.1 HG.out.2
  have kk : kind = s.kind := HR0.out.1.kind
  obtain ⟨kd, hkd⟩ : ∃ kd : Nat, kind = (kd : Int) := ⟨kind.toNat, by have := FT.lo; omega⟩
  subst hkd
  have k1 : 1 ≤ kd := by have := FT.lo; omega
  have k2 : kd ≤ 16 := by have := FT.hi; omega
  have k17i : (kd : Int) < 17 := by omega
  have KD : Hid (s.kind.toNat = kd) := by show s.kind.toNat = kd; rw [← kk]; rfl
  have HF : Hid (Fit s) := FT
  have US : Hid ((useN kd % 2 = 1 ↔ ¬ (kd : Int) = 16) ∧ (useN kd / 2 % 2 = 1 ↔ ((kd : Int) = 9 ∨ (kd : Int) = 10 ∨ (kd : Int) = 14 ∨ (kd : Int) = 16)) ∧ (useN kd / 4 % 2 = 1 ↔ ((kd : Int) = 1 ∨ (kd : Int) = 2)) ∧ (useN kd / 8 % 2 = 1 ↔ (kd : Int) = 1)) := has_use k1 k2
  have KIk : KI (kd : Int) := ⟨by omega, by omega⟩
  obtain ⟨hA, ha⟩ : ∃ h, decide ((kd : Int) ≠ 16) = h := ⟨_, rfl⟩
  obtain ⟨hB, hb⟩ : ∃ h, decide ((kd : Int) = 9 ∨ (kd : Int) = 10 ∨ (kd : Int) = 14 ∨ (kd : Int) = 16) = h := ⟨_, rfl⟩
  obtain ⟨hY, hy⟩ : ∃ h, decide ((kd : Int) = 1 ∨ (kd : Int) = 2) = h := ⟨_, rfl⟩
  have C39 : Hid (∀ V, Calls Tryd.prog 39 #[.int .i64 (kd : Int)] V fun o w' => o = .returned (.bool hA) ∧ w' = V) := fun V => by rw [← ha]; exact h39 _ KIk V
  have C41 : Hid (∀ V, Calls Tryd.prog 41 #[.int .i64 (kd : Int)] V fun o w' => o = .returned (.bool hB) ∧ w' = V) := fun V => by rw [← hb]; exact h41 _ KIk V
  have C42 : Hid (∀ V, Calls Tryd.prog 42 #[.int .i64 (kd : Int)] V fun o w' => o = .returned (.bool hY) ∧ w' = V) := fun V => by rw [← hy]; exact h42 _ KIk V
  have HA : Hid ((hA = true ↔ useN kd % 2 = 1) ∧ (hB = true ↔ useN kd / 2 % 2 = 1) ∧ (hY = true ↔ useN kd / 4 % 2 = 1)) := by
    rw [← ha, ← hb, ← hy]
    exact ⟨by rw [decide_eq_true_iff]; exact US.out.1.symm, by rw [decide_eq_true_iff]; exact US.out.2.1.symm, by rw [decide_eq_true_iff]; exact US.out.2.2.1.symm⟩
  have wm := HR0.out.2.2.kept S1.out.kept kd (by omega)
  obtain ⟨T0, hT0⟩ : ∃ T, ofL (kw kd) = T := ⟨_, rfl⟩
  rw [hT0] at wm
  have H0 : Hid (T0.data.toList = kw s.kind.toNat ∧ T0.size ≤ 10) := by
    rw [← hT0, KD.out]
    refine ⟨rfl, ?_⟩
    rw [ofL_sizeE]
    exact kw_len (by omega)
  have t0z : T0.size ≤ 10 := H0.out.2
  clear FT kk KIk ha hb hy hT0
  have b0 := cell_blk S1.out.bx 0 (v := .int .i64 (kd : Int)) rfl
  go_wp2_with fail
  refine (C39.out _).mono ?_
  rintro o w5 ⟨rfl, hw⟩
  subst hw
  go_upto_if 18 with fail
  clear b0 wm
  go_cut [5] from 12 (fun u5 wc => ∃ T, u5 = .string T ∧ T.size ≤ 50 ∧ Hid (T.data.toList = pcA s ∧ LB w wc #[.int .i64 (kd : Int), .int .i64 a, .int .i64 b, .string key, .slice va vn vc, .slice la ln lc]))
  case first =>
    cases hA with
    | true =>
      have b1 := cell_blk S1.out.bx 1 (v := .int .i64 a) rfl
      have C40 : Hid (∀ V, Calls Tryd.prog 40 #[.int .i64 a] V fun o w' => o = .returned (.string (ofL (Lib.itoa a))) ∧ Kept (fun _ => False) V w') := fun V => hRefDec a (by rw [show a = s.a from HR0.out.1.a]; exact HR0.out.1.ka) V
      obtain ⟨D, hD⟩ : ∃ D, ofL (Lib.itoa a) = D := ⟨_, rfl⟩
      rw [hD] at C40
      have dz : D.size ≤ 21 := by rw [← hD, ofL_sizeE]; exact itoa_20 a (by rw [show a = s.a from HR0.out.1.a]; exact HR0.out.1.ka)
      have PL : Hid ((T0 ++ { data := #[32] } ++ D).data.toList = pcA s ∧ (T0 ++ { data := #[32] } ++ D).size ≤ 50) := by
        have e : (T0 ++ { data := #[32] } ++ D).data.toList = pcA s := by
          unfold pcA
          rw [add_list, H0.out.1, KD.out, if_pos (HA.out.1.1 rfl), ← hD, numL_cons, ← show a = s.a from HR0.out.1.a]
          simp [numL, ofL]
        refine ⟨e, ?_⟩
        rw [size_list, add_list, List.length_append, List.length_cons, ← size_list, ← size_list]
        omega
      clear hD
      go_wp2_with fail
      refine (C40.out _).mono ?_
      rintro o w6 ⟨rfl, K6⟩
      have S2 : Hid (LB w w6 #[.int .i64 (kd : Int), .int .i64 a, .int .i64 b, .string key, .slice va vn vc, .slice la ln lc]) := S1.out.k0 K6
      clear K6 b1 C40
      go_wp2_with fail
      go_meet
      exact ⟨_, rfl, PL.out.2, PL.out.1, S2.out⟩
    | false =>
      have PL : Hid (T0.data.toList = pcA s) := by
        show T0.data.toList = pcA s
        unfold pcA
        rw [KD.out, if_neg (fun z => by have := HA.out.1.2 z; cases this), List.append_nil, H0.out.1, KD.out]
      go_wp2_with fail
      go_meet
      exact ⟨_, rfl, by omega, PL.out, S1.out⟩
  case rest =>
  obtain ⟨T1, rfl, t1z, S2⟩ := hcut
  clear S1 H0 t0z
  have b0 := cell_blk S2.out.2.bx 0 (v := .int .i64 (kd : Int)) rfl
  go_wp2_with fail
  refine (C41.out _).mono ?_
  rintro o w5 ⟨rfl, hw⟩
  subst hw
  go_upto_if 27 with fail
  clear b0
  go_cut [5] from 25 (fun u5 w5 => ∃ T, u5 = .string T ∧ T.size ≤ 100 ∧ Hid (T.data.toList = pcB s ∧ LB w w5 #[.int .i64 (kd : Int), .int .i64 a, .int .i64 b, .string key, .slice va vn vc, .slice la ln lc]))
  case first =>
    cases hB with
    | true =>
      have b1 := cell_blk S2.out.2.bx 2 (v := .int .i64 b) rfl
      have C40 : Hid (∀ V, Calls Tryd.prog 40 #[.int .i64 b] V fun o w' => o = .returned (.string (ofL (Lib.itoa b))) ∧ Kept (fun _ => False) V w') := fun V => hRefDec b (by rw [show b = s.b from HR0.out.1.b]; exact HR0.out.1.kb) V
      obtain ⟨D, hD⟩ : ∃ D, ofL (Lib.itoa b) = D := ⟨_, rfl⟩
      rw [hD] at C40
      have dz : D.size ≤ 21 := by rw [← hD, ofL_sizeE]; exact itoa_20 b (by rw [show b = s.b from HR0.out.1.b]; exact HR0.out.1.kb)
      have PL : Hid ((T1 ++ { data := #[32] } ++ D).data.toList = pcB s ∧ (T1 ++ { data := #[32] } ++ D).size ≤ 100) := by
        have e : (T1 ++ { data := #[32] } ++ D).data.toList = pcB s := by
          unfold pcB
          rw [add_list, S2.out.1, KD.out, if_pos (HA.out.2.1.1 rfl), ← hD, numL_cons, ← show b = s.b from HR0.out.1.b]
          simp [numL, ofL]
        refine ⟨e, ?_⟩
        rw [size_list, add_list, List.length_append, List.length_cons, ← size_list, ← size_list]
        omega
      clear hD
      go_wp2_with fail
      refine (C40.out _).mono ?_
      rintro o w6 ⟨rfl, K6⟩
      have S3 : Hid (LB w w6 #[.int .i64 (kd : Int), .int .i64 a, .int .i64 b, .string key, .slice va vn vc, .slice la ln lc]) := S2.out.2.k0 K6
      clear K6 b1 C40
      go_wp2_with fail
      go_meet
      exact ⟨_, rfl, PL.out.2, PL.out.1, S3.out⟩
    | false =>
      have PL : Hid (T1.data.toList = pcB s) := by
        show T1.data.toList = pcB s
        unfold pcB
        rw [KD.out, if_neg (fun z => by have := HA.out.2.1.2 z; cases this), List.append_nil, S2.out.1]
      go_wp2_with fail
      go_meet
      exact ⟨_, rfl, by omega, PL.out, S2.out.2⟩
  case rest =>
  obtain ⟨T2, rfl, t2z, S3⟩ := hcut
  clear S2 t1z
  have b0 := cell_blk S3.out.2.bx 0 (v := .int .i64 (kd : Int)) rfl
  go_wp2_with fail
  refine (C42.out _).mono ?_
  rintro o w5 ⟨rfl, hw⟩
  subst hw
  go_upto_if 36 with fail
  clear b0
  go_cut [5] from 34 (fun u5 w5 => ∃ T, u5 = .string T ∧ T.size ≤ 268435700 ∧ Hid (T.data.toList = pcK s ∧ LB w w5 #[.int .i64 (kd : Int), .int .i64 a, .int .i64 b, .string key, .slice va vn vc, .slice la ln lc]))
  case first =>
    cases hY with
    | true =>
      have b1 := cell_blk S3.out.2.bx 3 (v := .string key) rfl
      have ek : key = ofL s.key := HR0.out.1.key
      have kz : key.size ≤ 134217728 := by have := HR0.out.1.sm; rw [ek, ofL_sizeE]; omega
      obtain ⟨cc, W2, cv, rk, Kk, lt⟩ := convert_bytes key w5 (by omega)
      have C43 : Hid (Calls Tryd.prog 43 #[.slice (some ⟨w5.heap.size, 0, none⟩) key.size cc] W2 fun o w' => o = .returned (.string (ofL (bytW key.data.toList))) ∧ Kept (fun _ => False) W2 w') := hRefHex rk kz
      obtain ⟨D, hD⟩ : ∃ D, ofL (bytW key.data.toList) = D := ⟨_, rfl⟩
      rw [hD] at C43
      have ekl : key.data.toList = s.key := by rw [ek]; rfl
      have dz : D.size ≤ 268435500 := by
        have h1 := bytW_len key.data.toList
        have h2 : key.data.toList.length = key.size := Array.length_toList
        rw [← hD, ofL_sizeE]
        omega
      have PL : Hid ((T2 ++ { data := #[32] } ++ D).data.toList = pcK s ∧ (T2 ++ { data := #[32] } ++ D).size ≤ 268435700) := by
        have e : (T2 ++ { data := #[32] } ++ D).data.toList = pcK s := by
          unfold pcK
          rw [add_list, S3.out.1, KD.out, if_pos (HA.out.2.2.1 rfl), ← hD, bytL_w, ekl]
          rfl
        refine ⟨e, ?_⟩
        rw [size_list, add_list, List.length_append, List.length_cons, ← size_list, ← size_list]
        omega
      have KK : Hid (Kept (fun _ => False) w5 W2) := Kk
      clear hD ek ekl rk Kk lt
      go_wp2_with fail
      refine C43.out.mono ?_
      rintro o w6 ⟨rfl, K6⟩
      have S4 : Hid (LB w w6 #[.int .i64 (kd : Int), .int .i64 a, .int .i64 b, .string key, .slice va vn vc, .slice la ln lc]) := (S3.out.2.k0 KK.out).k0 K6
      clear K6 b1 C43 cv
      go_wp2_with fail
      go_meet
      exact ⟨_, rfl, PL.out.2, PL.out.1, S4.out⟩
    | false =>
      have PL : Hid (T2.data.toList = pcK s) := by
        show T2.data.toList = pcK s
        unfold pcK
        rw [KD.out, if_neg (fun z => by have := HA.out.2.2.2 z; cases this), List.append_nil, S3.out.1]
      go_wp2_with fail
      go_meet
      exact ⟨_, rfl, by omega, PL.out, S3.out.2⟩
  case rest =>
  obtain ⟨T3, rfl, t3z, S4⟩ := hcut
  clear S3 t2z
  have b0 := cell_blk S4.out.2.bx 0 (v := .int .i64 (kd : Int)) rfl
  go_upto_if 46 with fail
  clear b0
  go_cut [5] from 44 (fun u5 w5 => ∃ T, u5 = .string T ∧ T.size ≤ 600000000 ∧ Hid (T.data.toList = pcV s ∧ LB w w5 #[.int .i64 (kd : Int), .int .i64 a, .int .i64 b, .string key, .slice va vn vc, .slice la ln lc]))
  case first =>
    by_cases h1 : kd = 1
    · subst h1
      have b1 := cell_blk S4.out.2.bx 4 (v := .slice va vn vc) rfl
      have vz : vn ≤ 134217728 := by have h1 := HR0.out.1.sm; have h2 : s.val.length = vn := HR0.out.1.v.len; omega
      have C43 : Hid (∀ V, Kept (fun _ => False) w V → Calls Tryd.prog 43 #[.slice va vn vc] V fun o w' => o = .returned (.string (ofL (bytW s.val))) ∧ Kept (fun _ => False) V w') := fun V K => hRefHex (HR0.out.1.kept K).v vz
      obtain ⟨D, hD⟩ : ∃ D, ofL (bytW s.val) = D := ⟨_, rfl⟩
      rw [hD] at C43
      have dz : D.size ≤ 268435500 := by
        have h1 := bytW_len s.val
        have h2 : s.val.length = vn := HR0.out.1.v.len
        rw [← hD, ofL_sizeE]
        omega
      have PL : Hid ((T3 ++ { data := #[32] } ++ D).data.toList = pcV s ∧ (T3 ++ { data := #[32] } ++ D).size ≤ 600000000) := by
        have e : (T3 ++ { data := #[32] } ++ D).data.toList = pcV s := by
          unfold pcV
          rw [add_list, S4.out.1, KD.out, if_pos (US.out.2.2.2.2 rfl), ← hD, bytL_w]
          rfl
        refine ⟨e, ?_⟩
        rw [size_list, add_list, List.length_append, List.length_cons, ← size_list, ← size_list]
        omega
      clear hD
      go_wp2_with fail
      refine (C43.out _ S4.out.2.kept).mono ?_
      rintro o w6 ⟨rfl, K6⟩
      have S5 : Hid (LB w w6 #[.int .i64 ((1 : Nat) : Int), .int .i64 a, .int .i64 b, .string key, .slice va vn vc, .slice la ln lc]) := S4.out.2.k0 K6
      clear K6 b1 C43
      go_wp2_with fail
      go_meet
      exact ⟨_, rfl, PL.out.2, PL.out.1, S5.out⟩
    · have h1i : ¬ (kd : Int) = 1 := by omega
      have PL : Hid (T3.data.toList = pcV s) := by
        show T3.data.toList = pcV s
        unfold pcV
        rw [KD.out, if_neg (fun z => h1i (US.out.2.2.2.1 z)), List.append_nil, S4.out.1]
      go_wp2_with fail
      go_meet
      exact ⟨_, rfl, by omega, PL.out, S4.out.2⟩
  case rest =>
  obtain ⟨T4, rfl, t4z, S5⟩ := hcut
  clear S4 t3z
  have hl : s.l.length = ln := HR0.out.1.l.len
  have lz : ln ≤ 134217728 := by have := HR0.out.1.sm; omega
  have HL : Hid (s.l.length = ln) := hl
  clear hl
  go_upto_region 14 with fail
  go_loopw [5, 6] (fun u5 u6 wr => ∃ (i : Nat) (T : ByteArray), u5 = .string T ∧ u6 = .int .i64 (i : Int) ∧ i ≤ ln ∧ Hid (T.data.toList = pcV s ++ numL (s.l.take i) ∧ LB w wr #[.int .i64 (kd : Int), .int .i64 a, .int .i64 b, .string key, .slice va vn vc, .slice la ln lc])) (fun _ u6 _ => ln - (intOf u6).toNat)
  case atStart => exact ⟨0, T4, rfl, rfl, Nat.zero_le _, by rw [S5.out.1]; simp [numL], S5.out.2⟩
  case round =>
    obtain ⟨i, T, rfl, rfl, hi, S⟩ := hrel
    obtain ⟨wo, hwo⟩ : ∃ wo, wo = wr := ⟨_, rfl⟩
    rw [← hwo] at S ⊢
    clear hwo
    have Tz : T.size ≤ 4000000000 := by
      have h1 := numL_take_len s.l i HR0.out.1.l.ki
      have h2 := HL.out
      rw [size_list, S.out.1, List.length_append, ← S5.out.1, ← size_list]
      omega
    have b5 := cell_blk S.out.2.bx 5 (v := .slice la ln lc) rfl
    by_cases hlt : i < ln
    · have i1 : (i : Int) < (ln : Int) := by omega
      obtain ⟨z, hz⟩ : ∃ z, s.l[i]? = some z := ⟨_, List.getElem?_eq_getElem (by rw [HL.out]; exact hlt)⟩
      obtain ⟨lb, off, ela, hc⟩ := HR0.out.1.l.cells (by show 0 < ln; omega)
      have ela : la = some ⟨lb, off, none⟩ := ela
      subst ela
      have c0 := S.out.2.kept.cell (hc i z hz) (fun z => z)
      have zk : KI z := HR0.out.1.l.ki z (List.mem_of_getElem? hz)
      have C40 : Hid (∀ V, Calls Tryd.prog 40 #[.int .i64 z] V fun o w' => o = .returned (.string (ofL (Lib.itoa z))) ∧ Kept (fun _ => False) V w') := fun V => hRefDec z zk V
      obtain ⟨D, hD⟩ : ∃ D, ofL (Lib.itoa z) = D := ⟨_, rfl⟩
      rw [hD] at C40
      have dz : D.size ≤ 21 := by rw [← hD, ofL_sizeE]; exact itoa_20 z zk
      have PL : Hid ((T ++ { data := #[32] } ++ D).data.toList = pcV s ++ numL (s.l.take (i + 1))) := by
        have e1 : s.l.take (i + 1) = s.l.take i ++ [z] := by
          rw [List.take_add_one, hz]
          rfl
        show (T ++ { data := #[32] } ++ D).data.toList = pcV s ++ numL (s.l.take (i + 1))
        rw [e1, numL_snoc, add_list, S.out.1, ← hD, List.append_assoc]
        rfl
      clear hD hc hz zk
      go_wp2_with fail
      refine (C40.out _).mono ?_
      rintro o w6 ⟨rfl, K6⟩
      have S6 : Hid (LB w w6 #[.int .i64 (kd : Int), .int .i64 a, .int .i64 b, .string key, .slice va vn vc, .slice (some ⟨lb, off, none⟩) ln lc]) := S.out.2.k0 K6
      clear K6 C40 b5 c0
      go_wp2_with fail
      go_roundw
      case rel => exact ⟨i + 1, _, rfl, by go_num, by omega, PL.out, S6.out⟩
      case measure => simp [intOf] <;> omega
    · have i1 : ¬ (i : Int) < (ln : Int) := by omega
      have FN : Hid (T = G ∧ Kept (fun _ => False) w wo) := by
        refine ⟨?_, S.out.2.kept⟩
        have q := S.out.1
        rw [List.take_of_length_le (by rw [HL.out]; omega), pc_line HF.out] at q
        rw [← HG.out.1]
        unfold lineS
        rw [if_pos HG.out.2, ← q]
        exact (ofL_self T).symm
      clear S
      go_wp2_with fail
      go_ret2
      exact ⟨by rw [← FN.out.1]; first | rfl | simp, FN.out.2⟩
end Go.Proofs.YtonfefhegghapaaDoor
