import Derived.Test.YtbangbobfeflcaaGreatDoorRLbJ
namespace Go.Proofs.YtbangbobfeflcaaGreatDoor
open Go.RowKit 

theorem AL.k0 {w wr W : World} {R : List Rw} {i : Nat} {Q : Option Addr} {D : Nat} (h : AL w wr R i Q D) (K : Kept (fun _ => False) wr W) : AL w W R i Q D := ⟨K.owns h.row (fun _ _ z => z), h.kept.trans K (fun _ _ z => z)⟩
set_option maxRecDepth 100000 in
set_option maxHeartbeats 4000000 in
theorem hLaw4 {w : World} (s : ByteArray) (hs : s.size ≤ 900000000) (G : Glob w) (E : EVs w) : Calls Tryz.prog 4 #[.string s] w fun o w' => o = .returned (.bool true) ∧ Kept (fun _ => False) w w' := by
  obtain ⟨es2, r2, hg2, hs2, hr2⟩ := decomp s.size s.data.toList (Nat.le_refl _)
  have HS : Hid (s = ⟨(txtF es2 ++ r2).toArray⟩ ∧ (∀ e ∈ es2, GoodE e) ∧ (r2 = [] ∨ (r2 ≠ [] ∧ BadR r2)) ∧ (txtF es2 ++ r2).length ≤ 900000000) := by
    refine ⟨by rw [← hs2], hg2, hr2, ?_⟩
    rw [← hs2]
    show s.data.toList.length ≤ _
    have : s.data.toList.length = s.size := Array.length_toList
    omega
  have GE : Hid (Glob w ∧ EVs w) := ⟨G, E⟩
  have HX : Hid (∀ U, Glob U → EVs U → Calls Tryz.prog 13 #[.string ⟨#[105, 110, 118, 111, 107, 101, 32, 57, 32, 49, 32, 112, 117, 116, 32, 34, 111, 116, 104, 101, 114, 34, 32, 34, 111, 116, 104, 101, 114, 34, 10]⟩] U fun o w' => ∃ v, o = .returned v ∧ Kept (fun _ => False) U w') := fun U h1 h2 => by
    obtain ⟨es, r, hg, hs, hr⟩ := decomp 31 [105, 110, 118, 111, 107, 101, 32, 57, 32, 49, 32, 112, 117, 116, 32, 34, 111, 116, 104, 101, 114, 34, 32, 34, 111, 116, 104, 101, 114, 34, 10] (by decide)
    have q := hParseO es r U h1 h2 hg hr (by rw [← hs]; decide)
    rw [← hs] at q
    refine q.mono fun o w' h => ?_
    obtain ⟨p, c, L, h1, h2, _⟩ := h.u
    exact ⟨_, h1, h2.kept⟩
  have HK : Hid (∀ U, Glob U → EVs U → Calls Tryz.prog 13 #[.string ⟨#[105, 110, 118, 111, 107, 101, 32, 49, 32, 49, 32, 103, 101, 116, 32, 34, 107, 34, 10]⟩] U fun o w' => ∃ g c, o = .returned (.tuple #[.slice (some ⟨g, 0, none⟩) 1 c, .int .i64 0, .int .i64 0]) ∧ w'.cell? ⟨g, 4, none⟩ = some (.string ⟨#[107]⟩) ∧ U.heap.size ≤ g ∧ Kept (fun _ => False) U w') := fun U h1 h2 => by
    have q := hParseO [evGk] [] U h1 h2 (fun e he => by rw [List.mem_singleton.1 he]; exact evGK_good U) (.inl rfl) (by decide +kernel)
    rw [txtK_eq] at q
    refine q.mono fun o w' h => ?_
    obtain ⟨p, c, L, h1, h2, h3, _⟩ := h.u
    have h1 : o = .returned (.tuple #[.slice p 1 c, .int .i64 0, .int .i64 0]) := h1
    have h2 : PS U w' p 1 c L := h2
    have h3 : L.map Ev.core = [evGk].map Ev.core := h3
    obtain ⟨g, rfl, k⟩ := one_key h2 h3
    exact ⟨g, c, h1, k, (own_lt h2.row.row g rfl).1, h2.kept⟩
  obtain ⟨EV, hEV⟩ : ∃ EV, evR es2 r2 = EV := ⟨_, rfl⟩
  obtain ⟨n, hn⟩ : ∃ n, EV.length = n := ⟨_, rfl⟩
  obtain ⟨M, hM⟩ : ∃ M, noR es2 r2 = M := ⟨_, rfl⟩
  obtain ⟨F, hF⟩ : ∃ F, flR r2 = F := ⟨_, rfl⟩
  have HE : Hid (∀ e ∈ EV, GoodE e) := by
    show ∀ e ∈ EV, GoodE e
    rw [← hEV]
    exact evR_good hg2
  have nb : n ≤ 900000000 := by
    have q := evR_len es2 r2
    have q2 := es_len es2
    have q3 := HS.out.2.2.2
    rw [List.length_append] at q3
    rw [hEV, hn] at q
    omega
  have QP : Hid (∀ U, Glob U → EVs U → Calls Tryz.prog 13 #[.string s] U fun o w' => ∃ p c L, o = .returned (.tuple #[.slice p n c, .int .i64 M, .int .i64 F]) ∧ RdS EV U w' p n c L ∧ Dst w' L ∧ ∀ e ∈ L, ∀ x, blockOf e.va = some x → U.heap.size ≤ x) := fun U h1 h2 => by
    have q := hParseO es2 r2 U h1 h2 HS.out.2.1 HS.out.2.2.1 (by have := HS.out.2.2.2; omega)
    rw [← HS.out.1] at q
    refine q.mono fun o w' h => ?_
    obtain ⟨p, c, L, h1, h2, h3, h4, h5⟩ := h.u
    rw [hEV, hn, hM, hF] at h1
    rw [hEV, hn] at h2
    rw [hEV] at h3
    exact ⟨p, c, L, h1, ⟨h2, h3⟩, h4, h5⟩
  have QR : Hid (∀ U, Calls Tryz.prog 14 #[.string s] U fun o w' => ∃ p c L, o = .returned (.tuple #[.slice p n c, .int .i64 M, .int .i64 F]) ∧ RdS EV U w' p n c L) := fun U => by
    have q := hRefParse es2 r2 U HS.out.2.1 HS.out.2.2.1 (by have := HS.out.2.2.2; omega)
    rw [← HS.out.1] at q
    refine q.mono fun o w' h => ?_
    obtain ⟨p, c, L, h1, h2, h3⟩ := h.u
    rw [hEV, hn, hM, hF] at h1
    rw [hEV, hn] at h2
    rw [hEV] at h3
    exact ⟨p, c, L, h1, ⟨h2, h3⟩⟩
  clear hs G E hg2 hs2 hr2 hEV hn hM hF HS
  go_enter Tryz.func4, Tryz.ntmps4
  go_wp2_with fail
  refine (QP.out w GE.out.1 GE.out.2).mono ?_
  rintro o w1 ⟨p1, c1, L1, rfl, R1', D1', V1'⟩
  have R1 : Hid (RdS EV w w1 p1 n c1 L1) := R1'
  have D1 : Hid (Dst w1 L1 ∧ ∀ e ∈ L1, ∀ x, blockOf e.va = some x → w.heap.size ≤ x) := ⟨D1', V1'⟩
  clear R1' D1' V1'
  go_wp2_with fail
  refine (QR.out w1).mono ?_
  rintro o w2 ⟨p2, c2, L2, rfl, R2'⟩
  have R2 : Hid (RdS EV w1 w2 p2 n c2 L2) := R2'
  have K2 : Hid (Kept (fun _ => False) w w2) := R1.out.ps.kept.trans R2'.ps.kept (fun _ _ z => z)
  clear R2' QR
  go_wp2_with fail
  refine (HX.out w2 (GE.out.1.kept K2.out) (GE.out.2.by (below_of K2.out))).mono ?_
  rintro o w3 ⟨vX, rfl, K3'⟩
  have K23 : Hid (Kept (fun _ => False) w2 w3) := K3'
  have K3 : Hid (Kept (fun _ => False) w w3) := K2.out.trans K3' (fun _ _ z => z)
  clear K3' HX
  go_wp2_with fail
  refine (QP.out w3 (GE.out.1.kept K3.out) (GE.out.2.by (below_of K3.out))).mono ?_
  rintro o w4 ⟨p4, c4, L4, rfl, R4', D4', V4'⟩
  have PW : Hid ((inter L1 L4).Pairwise Prt) := vals_pw D1.out.1 D4' V4' (by
    have q1 := R2.out.ps.kept.size
    have q2 := K23.out.size
    omega)
  have EN : Hid (∀ b, blockOf p1 = some b → ¬ blockOf p4 = some b) := rows_ne R1.out.ps.row.row R4'.ps.row.row (by
    have q1 := R2.out.ps.kept.size
    have q2 := K23.out.size
    omega)
  have K34 : Hid (Kept (fun _ => False) w3 w4) := R4'.ps.kept
  have T4 : Hid (RdS EV w w4 p1 n c1 L1 ∧ RdS EV w1 w4 p2 n c2 L2 ∧ RdS EV w3 w4 p4 n c4 L4) := ⟨((R1.out.k0 R2.out.ps.kept).k0 K23.out).k0 K34.out, (R2.out.k0 K23.out).k0 K34.out, R4'⟩
  have W3 : Hid (w.heap.size ≤ w3.heap.size) := K3.out.size
  clear R4' D4' V4' R1 R2 QP K2 K23 K34 D1 K3
  have C1 : Hid (Calls Tryz.prog 9 #[.slice p1 n c1, .slice p2 n c2] w4 fun o w' => o = .returned (.bool true) ∧ Kept (fun _ => False) w4 w') := hEvents (T4.out.1.erd HE.out) (T4.out.2.1.erd HE.out) (T4.out.1.co.trans T4.out.2.1.co.symm)
  go_wp2_with fail
  refine C1.out.mono ?_
  rintro o w5 ⟨rfl, K5'⟩
  have T5 : Hid (RdS EV w w5 p1 n c1 L1 ∧ RdS EV w1 w5 p2 n c2 L2 ∧ RdS EV w3 w5 p4 n c4 L4) := ⟨T4.out.1.k0 K5', T4.out.2.1.k0 K5', T4.out.2.2.k0 K5'⟩
  clear K5' C1 T4
  have C2 : Hid (Calls Tryz.prog 9 #[.slice p4 n c4, .slice p2 n c2] w5 fun o w' => o = .returned (.bool true) ∧ Kept (fun _ => False) w5 w') := hEvents (T5.out.2.2.erd HE.out) (T5.out.2.1.erd HE.out) (T5.out.2.2.co.trans T5.out.2.1.co.symm)
  go_wp2_with fail
  refine C2.out.mono ?_
  rintro o w6 ⟨rfl, K6'⟩
  have T6 : Hid (RdS EV w w6 p1 n c1 L1 ∧ RdS EV w3 w6 p4 n c4 L4) := ⟨T5.out.1.k0 K6', T5.out.2.2.k0 K6'⟩
  clear K6' C2 T5
  have S0 : Hid (AL w6 w6 (inter L1 L4) 0 none 0) := AL.nil _ _
  go_wp2_with fail
  go_loopw [12, 13] (fun u12 u13 wr => ∃ (i : Nat) (Q : Option Addr) (D : Nat), u12 = .slice Q (2 * i) D ∧ u13 = .int .i64 (i : Int) ∧ i ≤ n ∧ Hid (AL w6 wr (inter L1 L4) i Q D)) (fun _ u13 _ => n - (intOf u13).toNat)
  case atStart => exact ⟨0, none, 0, rfl, rfl, Nat.zero_le _, S0⟩
  case round =>
    clear S0
    obtain ⟨i, Q, D, rfl, rfl, hi, S⟩ := hrel
    obtain ⟨wq, hwq⟩ : ∃ wq, wq = wr := ⟨_, rfl⟩
    rw [← hwq] at S ⊢
    clear hwq
    have R1 : Hid (RdS EV w wq p1 n c1 L1) := T6.out.1.k0 S.out.kept
    have R4 : Hid (RdS EV w3 wq p4 n c4 L4) := T6.out.2.k0 S.out.kept
    by_cases hlt : i < n
    · skip
      obtain ⟨b1, o1, e, ep1, he, -, -, -, -, -, ce, -⟩ := (R1.out.erd HE.out).at hlt
      obtain ⟨b4, o4, f, ep4, hf, -, -, -, -, -, cf, -⟩ := (R4.out.erd HE.out).at hlt
      have PE : Hid (p1 = some ⟨b1, o1, none⟩ ∧ p4 = some ⟨b4, o4, none⟩ ∧ L1[i]? = some e ∧ L4[i]? = some f) := ⟨ep1, ep4, he, hf⟩
      obtain ⟨va, vn, vc, hv⟩ : ∃ va vn vc, e.va = va ∧ e.vn = vn ∧ e.vc = vc := ⟨_, _, _, rfl, rfl, rfl⟩
      obtain ⟨ua, un, uc, hu⟩ : ∃ va vn vc, f.va = va ∧ f.vn = vn ∧ f.vc = vc := ⟨_, _, _, rfl, rfl, rfl⟩
      have HV : Hid ((e.va = va ∧ e.vn = vn ∧ e.vc = vc) ∧ f.va = ua ∧ f.vn = un ∧ f.vc = uc) := ⟨hv, hu⟩
      rw [hv.1, hv.2.1, hv.2.2] at ce
      rw [hu.1, hu.2.1, hu.2.2] at cf
      have A4 : Hid (AL w6 (wq.drew.alloc (.cells #[.slice va vn vc, .slice ua un uc] 34)) (inter L1 L4) i Q D) := S.out.k0 ((Kept.refl _ _).drew.alloc _)
      have SR : Hid (Src Tryz.prog 1 24 (.slice (some ⟨wq.heap.size, 0, none⟩) 2 2) 2 [.slice va vn vc, .slice ua un uc] (wq.drew.alloc (.cells #[.slice va vn vc, .slice ua un uc] 34))) := src_two (alloc_new wq.drew _) rfl rfl
      have LN : Hid (2 * i + 2 ≤ maxLen ∧ ((2 * i + 2) + (2 * i + 2) / 4 + 192) * 24 ≤ 281474976710656) := by unfold maxLen; exact ⟨by omega, by omega⟩
      have CC : Hid ((wq.drew.alloc (.cells #[.slice va vn vc, .slice ua un uc] 34)).cell? ⟨b1, o1 + i * 9 + 5, none⟩ = some (.slice va vn vc) ∧ (wq.drew.alloc (.cells #[.slice va vn vc, .slice ua un uc] 34)).cell? ⟨b4, o4 + i * 9 + 5, none⟩ = some (.slice ua un uc)) := ⟨((Kept.refl (fun _ => False) wq).drew.alloc _).cell ce (fun z => z), ((Kept.refl (fun _ => False) wq).drew.alloc _).cell cf (fun z => z)⟩
      have RA : Hid (RdS EV w wq p1 n c1 L1 ∧ RdS EV w3 wq p4 n c4 L4) := ⟨R1.out, R4.out⟩
      subst ep1
      subst ep4
      clear S he hf hv hu R1 R4
      have i1 : (i : Int) < (n : Int) := by omega
      have i0 : (0 : Int) ≤ (i : Int) := by omega
      go_upto_region 11 with fail
      refine wp_region_held_drew (S := (fun w' => w'.cell? ⟨b1, o1 + i * 9 + 5, none⟩ = some (.slice va vn vc) ∧ w'.cell? ⟨b4, o4 + i * 9 + 5, none⟩ = some (.slice ua un uc))) (by kernel_rfl) ⟨ce, cf⟩ (fun hHeld => ?_)
      refine wpAnyH_take (i := 0) (oi := { dst := some 71, op := Go.Op.move (Go.Operand.tmp 12), type := 24, pos := "law.go:226", after := #[], guard := none }) (v := .slice Q (2 * i) D) rfl (by kernel_rfl) (by kernel_rfl) (by kernel_rfl) (fun _ _ _ h => h) (Or.inl ⟨by rfl, ?_⟩) (by assumption) ?_
      · intro w9 hSw
        (try dsimp only at hSw)
        go_simp
      (try simp only [Act.put, List.setIfInBounds_toArray, List.set_cons_zero, List.set_cons_succ])
      refine wpAnyH_take (i := 1) (oi := { dst := some 72, op := Go.Op.move (Go.Operand.tmp 3), type := 22, pos := "law.go:226", after := #[], guard := none }) (v := .slice (some ⟨b1, o1, none⟩) n c1) rfl (by kernel_rfl) (by kernel_rfl) (by kernel_rfl) (fun _ _ _ h => h) (Or.inl ⟨by rfl, ?_⟩) (by assumption) ?_
      · intro w9 hSw
        (try dsimp only at hSw)
        go_simp
      (try simp only [Act.put, List.setIfInBounds_toArray, List.set_cons_zero, List.set_cons_succ])
      refine wpAnyH_take (i := 2) (oi := { dst := some 73, op := Go.Op.move (Go.Operand.tmp 13), type := 3, pos := "law.go:226", after := #[], guard := none }) (v := .int .i64 (i : Int)) rfl (by kernel_rfl) (by kernel_rfl) (by kernel_rfl) (fun _ _ _ h => h) (Or.inl ⟨by rfl, ?_⟩) (by assumption) ?_
      · intro w9 hSw
        (try dsimp only at hSw)
        go_simp
      (try simp only [Act.put, List.setIfInBounds_toArray, List.set_cons_zero, List.set_cons_succ])
      refine wpAnyH_take (i := 3) (oi := { dst := some 74, op := Go.Op.indexAddr 22 (Go.Operand.tmp 72) (Go.Operand.tmp 73), type := 0, pos := "law.go:226", after := #[{ on := 1, ground := Go.Ground.data }, { on := 2, ground := Go.Ground.data }], guard := none }) (v := .pointer (some ⟨b1, o1 + i * 9, none⟩)) rfl (by kernel_rfl) (by kernel_rfl) (by kernel_rfl) (fun _ _ _ h => h) (Or.inl ⟨by rfl, ?_⟩) (by assumption) ?_
      · intro w9 hSw
        (try dsimp only at hSw)
        go_simp
      (try simp only [Act.put, List.setIfInBounds_toArray, List.set_cons_zero, List.set_cons_succ])
      refine wpAnyH_take (i := 4) (oi := { dst := some 75, op := Go.Op.fieldAddr 39 (Go.Operand.tmp 74) 5, type := 0, pos := "law.go:226", after := #[{ on := 3, ground := Go.Ground.data }], guard := none }) (v := .pointer (some ⟨b1, o1 + i * 9 + 5, none⟩)) rfl (by kernel_rfl) (by kernel_rfl) (by kernel_rfl) (fun _ _ _ h => h) (Or.inl ⟨by rfl, ?_⟩) (by assumption) ?_
      · intro w9 hSw
        (try dsimp only at hSw)
        go_simp
      (try simp only [Act.put, List.setIfInBounds_toArray, List.set_cons_zero, List.set_cons_succ])
      refine wpAnyH_take (i := 5) (oi := { dst := some 76, op := Go.Op.load 34 (Go.Operand.tmp 75), type := 34, pos := "law.go:226", after := #[{ on := 4, ground := Go.Ground.data }], guard := none }) (v := .slice va vn vc) rfl (by kernel_rfl) (by kernel_rfl) (by kernel_rfl) (fun _ _ _ h => h) (Or.inl ⟨by rfl, ?_⟩) (by assumption) ?_
      · intro w9 hSw
        (try dsimp only at hSw)
        go_simp
      (try simp only [Act.put, List.setIfInBounds_toArray, List.set_cons_zero, List.set_cons_succ])
      refine wpAnyH_take (i := 6) (oi := { dst := some 77, op := Go.Op.move (Go.Operand.tmp 9), type := 22, pos := "law.go:226", after := #[], guard := none }) (v := .slice (some ⟨b4, o4, none⟩) n c4) rfl (by kernel_rfl) (by kernel_rfl) (by kernel_rfl) (fun _ _ _ h => h) (Or.inl ⟨by rfl, ?_⟩) (by assumption) ?_
      · intro w9 hSw
        (try dsimp only at hSw)
        go_simp
      (try simp only [Act.put, List.setIfInBounds_toArray, List.set_cons_zero, List.set_cons_succ])
      refine wpAnyH_take (i := 7) (oi := { dst := some 78, op := Go.Op.move (Go.Operand.tmp 13), type := 3, pos := "law.go:226", after := #[], guard := none }) (v := .int .i64 (i : Int)) rfl (by kernel_rfl) (by kernel_rfl) (by kernel_rfl) (fun _ _ _ h => h) (Or.inl ⟨by rfl, ?_⟩) (by assumption) ?_
      · intro w9 hSw
        (try dsimp only at hSw)
        go_simp
      (try simp only [Act.put, List.setIfInBounds_toArray, List.set_cons_zero, List.set_cons_succ])
      refine wpAnyH_take (i := 8) (oi := { dst := some 79, op := Go.Op.indexAddr 22 (Go.Operand.tmp 77) (Go.Operand.tmp 78), type := 0, pos := "law.go:226", after := #[{ on := 6, ground := Go.Ground.data }, { on := 7, ground := Go.Ground.data }], guard := none }) (v := .pointer (some ⟨b4, o4 + i * 9, none⟩)) rfl (by kernel_rfl) (by kernel_rfl) (by kernel_rfl) (fun _ _ _ h => h) (Or.inl ⟨by rfl, ?_⟩) (by assumption) ?_
      · intro w9 hSw
        (try dsimp only at hSw)
        go_simp
      (try simp only [Act.put, List.setIfInBounds_toArray, List.set_cons_zero, List.set_cons_succ])
      refine wpAnyH_take (i := 9) (oi := { dst := some 80, op := Go.Op.fieldAddr 39 (Go.Operand.tmp 79) 5, type := 0, pos := "law.go:226", after := #[{ on := 8, ground := Go.Ground.data }], guard := none }) (v := .pointer (some ⟨b4, o4 + i * 9 + 5, none⟩)) rfl (by kernel_rfl) (by kernel_rfl) (by kernel_rfl) (fun _ _ _ h => h) (Or.inl ⟨by rfl, ?_⟩) (by assumption) ?_
      · intro w9 hSw
        (try dsimp only at hSw)
        go_simp
      (try simp only [Act.put, List.setIfInBounds_toArray, List.set_cons_zero, List.set_cons_succ])
      refine wpAnyH_take (i := 10) (oi := { dst := some 81, op := Go.Op.load 34 (Go.Operand.tmp 80), type := 34, pos := "law.go:226", after := #[{ on := 9, ground := Go.Ground.data }], guard := none }) (v := .slice ua un uc) rfl (by kernel_rfl) (by kernel_rfl) (by kernel_rfl) (fun _ _ _ h => h) (Or.inl ⟨by rfl, ?_⟩) (by assumption) ?_
      · intro w9 hSw
        (try dsimp only at hSw)
        go_simp
      (try simp only [Act.put, List.setIfInBounds_toArray, List.set_cons_zero, List.set_cons_succ])
      refine wpAnyH_ready (rs := [11]) (by kernel_rfl) (by simp) ?_
      refine (AllReadyH.cons (o := { dst := some 82, op := Go.Op.buildSlice 24 2 #[(0, Go.Operand.tmp 76), (1, Go.Operand.tmp 81)], type := 24, pos := "law.go:226", after := #[{ on := 5, ground := Go.Ground.data }, { on := 10, ground := Go.Ground.data }], guard := none }) rfl (fun K hK => ?_) AllReadyH.nil)
      go_simp
      refine hK.out _ _ ?_ (fun hHeld => ?_)
      · exact CC.out
      clear hK K
      (try simp only [Act.put, List.setIfInBounds_toArray, List.set_cons_zero, List.set_cons_succ])
      refine wpAnyH_ready (rs := [12]) (by kernel_rfl) (by simp) ?_
      refine (AllReadyH.cons (o := { dst := some 83, op := Go.Op.call { callee := Go.Callee.builtin Go.Builtin.append, args := #[Go.Operand.tmp 71, Go.Operand.tmp 82], argTypes := #[24, 24] }, type := 24, pos := "law.go:226", after := #[{ on := 0, ground := Go.Ground.data }, { on := 11, ground := Go.Ground.data }], guard := none }) rfl (fun K hK => ?_) AllReadyH.nil)
      refine step_append_all _ rfl (.tmp 71) (.tmp 82) 24 34 24 _ 1 24 rfl Tryz.underlying24 Tryz.info34c rfl w6.heap.size (.slice Q (2 * i) D) (2 * i) (slv ((inter L1 L4).take (2 * i))) rfl A4.out.row _ 2 [.slice va vn vc, .slice ua un uc] rfl SR.out LN.out.1 LN.out.2 A4.out.kept.size ?_
      intro p9 c9 w9 ho hg hn9
      have N9 : Hid (AL w6 w9 (inter L1 L4) (i + 1) p9 c9) := by
        refine A4.out.more PE.out.2.2.1 PE.out.2.2.2 ?_ hg.out
        rw [HV.out.1.1, HV.out.1.2.1, HV.out.1.2.2, HV.out.2.1, HV.out.2.2.1, HV.out.2.2.2]
        exact ho.out
      have CD : Hid (w9.cell? ⟨b1, o1 + i * 9 + 5, none⟩ = some (.slice va vn vc) ∧ w9.cell? ⟨b4, o4 + i * 9 + 5, none⟩ = some (.slice ua un uc)) := by
        have KG := kgr hg.out
        refine ⟨KG.cell CC.out.1 (fun z => ?_), KG.cell CC.out.2 (fun z => ?_)⟩
        · obtain ⟨x1, y1⟩ := own_type A4.out.row b1 z
          obtain ⟨x2, y2⟩ := own_type (RA.out.1.ps.row.row) b1 rfl
          have y2 := ((Kept.refl (fun _ => False) wq).drew.alloc (.cells #[.slice va vn vc, .slice ua un uc] 34)).get y2 (fun z => z)
          rw [y1] at y2
          simp at y2
        · obtain ⟨x1, y1⟩ := own_type A4.out.row b4 z
          obtain ⟨x2, y2⟩ := own_type (RA.out.2.ps.row.row) b4 rfl
          have y2 := ((Kept.refl (fun _ => False) wq).drew.alloc (.cells #[.slice va vn vc, .slice ua un uc] 34)).get y2 (fun z => z)
          rw [y1] at y2
          simp at y2
      refine hK.out _ _ ?_ (fun hHeld => ?_)
      · exact CD.out
      clear hK K
      (try simp only [Act.put, List.setIfInBounds_toArray, List.set_cons_zero, List.set_cons_succ])
      clear ho hg hn9 A4 SR LN CC CD RA PE HV ce cf
      refine wpAnyH_take (i := 13) (oi := { dst := some 12, op := Go.Op.assign (Go.Operand.tmp 83), type := 24, pos := "law.go:226", after := #[{ on := 12, ground := Go.Ground.data }, { on := 12, ground := Go.Ground.chain }, { on := 0, ground := Go.Ground.phase }, { on := 1, ground := Go.Ground.phase }, { on := 2, ground := Go.Ground.phase }, { on := 3, ground := Go.Ground.phase }, { on := 4, ground := Go.Ground.phase }, { on := 5, ground := Go.Ground.phase }, { on := 6, ground := Go.Ground.phase }, { on := 7, ground := Go.Ground.phase }, { on := 8, ground := Go.Ground.phase }, { on := 9, ground := Go.Ground.phase }, { on := 10, ground := Go.Ground.phase }, { on := 11, ground := Go.Ground.phase }, { on := 12, ground := Go.Ground.phase }], guard := none }) (v := .slice p9 (2 * i + 2) c9) rfl (by kernel_rfl) (by kernel_rfl) (by kernel_rfl) (fun _ _ _ h => h) (Or.inl ⟨by rfl, ?_⟩) (by assumption) ?_
      · intro w9 hSw
        (try dsimp only at hSw)
        go_simp
      (try simp only [Act.put, List.setIfInBounds_toArray, List.set_cons_zero, List.set_cons_succ])
      refine wpAnyH_done (by kernel_rfl) ?_ _
      clear hHeld
      go_wp2_with fail
      go_roundw
      case rel => exact ⟨i + 1, p9, c9, by first | rfl | (rw [show 2 * (i + 1) = 2 * i + 2 by omega]), by go_num, by omega, N9⟩
      case measure => simp [intOf] <;> omega
    · have lti : ¬ (i : Int) < (n : Int) := by omega
      obtain rfl : i = n := by omega
      have XB : Hid (Kept (fun _ => False) wq (wq.alloc (.cells #[.slice p1 i c1, .slice p4 i c4] 22))) := (Kept.refl _ _).alloc _
      have OO : Hid (O2 w.heap.size (wq.alloc (.cells #[.slice p1 i c1, .slice p4 i c4] 22)) (wq.alloc (.cells #[.slice p1 i c1, .slice p4 i c4] 22)) wq.heap.size p1 p4 i c1 c4 (ecs L1) (ecs L4)) := ⟨XB.out.owns R1.out.ps.row.row (fun _ _ z => z), owns_base (XB.out.owns R4.out.ps.row.row (fun _ _ z => z)) W3.out, alloc_new _ _, EN.out, Kept.refl _ _⟩
      have KW : Hid (Kept (fun _ => False) w (wq.alloc (.cells #[.slice p1 i c1, .slice p4 i c4] 22))) := R1.out.ps.kept.trans XB.out (fun _ _ z => z)
      have VV : Hid (VO w.heap.size (wq.alloc (.cells #[.slice p1 i c1, .slice p4 i c4] 22)) L1 ∧ VO w.heap.size (wq.alloc (.cells #[.slice p1 i c1, .slice p4 i c4] 22)) L4) := ⟨VO.k0 R1.out.ps.val XB.out, (VO.k0 R4.out.ps.val XB.out).base W3.out⟩
      have AA : Hid ((wq.alloc (.cells #[.slice p1 i c1, .slice p4 i c4] 22)).ownsRow w.heap.size 34 1 (.slice Q (2 * i) D) (2 * i) (slv (inter L1 L4))) := by
        have q := XB.out.owns S.out.row (fun _ _ z => z)
        rw [List.take_of_length_le (by
          rw [inter_len L1 L4 (by rw [R1.out.ps.row.len, R4.out.ps.row.len]), R1.out.ps.row.len]
          exact Nat.le_refl _)] at q
        exact owns_base q T6.out.1.ps.kept.size
      have SM : Hid ((∀ e ∈ L1, e.vn ≤ 1000000000) ∧ ∀ e ∈ L4, e.vn ≤ 1000000000) := ⟨good_vn HE.out R1.out.co, good_vn HE.out R4.out.co⟩
      have CO : Hid (Calls Tryz.prog 11 #[.slice none 0 0, .slice (some ⟨wq.heap.size, 0, none⟩) 2 2] (wq.alloc (.cells #[.slice p1 i c1, .slice p4 i c4] 22)) fun o w' => o = .returned (.bool true) ∧ Kept (fun b => blockOf p1 = some b ∨ blockOf p4 = some b) (wq.alloc (.cells #[.slice p1 i c1, .slice p4 i c4] 22)) w') := hOuter OO.out (by omega) KW.out.size
      clear XB S R1 R4 T6 EN
      go_wp2_with fail
      refine CO.out.mono ?_
      rintro o w8 ⟨rfl, K8'⟩
      have K8 : Hid (Kept (fun _ => False) w w8) := KW.out.trans K8' (fun j hj z => by
        rcases z with z | z
        · have := (own_lt OO.out.r0 j z).1
          omega
        · have := (own_lt OO.out.r1 j z).1
          omega)
      have V8 : Hid (VO w.heap.size w8 L1 ∧ VO w.heap.size w8 L4) := ⟨VV.out.1.ev OO.out.r0 OO.out.r1 K8', VV.out.2.ev OO.out.r0 OO.out.r1 K8'⟩
      have A8 : Hid (w8.ownsRow w.heap.size 34 1 (.slice Q (2 * i) D) (2 * i) (slv (inter L1 L4))) := all_ev AA.out OO.out.r0 OO.out.r1 K8'
      clear K8' CO OO KW VV AA
      go_wp2_with fail
      refine (HK.out w8 (GE.out.1.kept K8.out) (GE.out.2.by (below_of K8.out))).mono ?_
      rintro o w9 ⟨g9, c9, rfl, cl', lg', K9'⟩
      have K9 : Hid (Kept (fun _ => False) w w9) := K8.out.trans K9' (fun _ _ z => z)
      have V9 : Hid (VO w.heap.size w9 L1 ∧ VO w.heap.size w9 L4) := ⟨V8.out.1.k0 K9', V8.out.2.k0 K9'⟩
      have A9 : Hid (w9.ownsRow w.heap.size 34 1 (.slice Q (2 * i) D) (2 * i) (slv (inter L1 L4))) := K9'.owns A8.out (fun _ _ z => z)
      have C9 : Hid (w9.cell? ⟨g9, 4, none⟩ = some (.string ⟨#[107]⟩) ∧ ∀ k, (∃ (a : Nat) (r : Rw), (inter L1 L4)[a]? = some r ∧ blockOf r.p = some k) → k < g9) := ⟨cl', fun k hk => by
        obtain ⟨a, r, hr, hk⟩ := hk
        have := (own_lt (inter_at V8.out.1 V8.out.2 a r hr) k hk).2
        omega⟩
      have CP : Hid (Calls Tryz.prog 10 #[.slice Q (2 * i) D] w9 fun o w' => o = .returned (.bool true) ∧ Kept (fun b => ∃ (a : Nat) (r : Rw), (inter L1 L4)[a]? = some r ∧ blockOf r.p = some b) w9 w') := hApart (A1.of A9.out V9.out.1 V9.out.2) (RS.of V9.out.1 V9.out.2 PW.out SM.out.1 SM.out.2) (own_form A9.out) (by omega) K9.out.size
      clear K9' cl' lg' V8 A8 K8 HK SM PW A9
      go_wp2_with fail
      refine CP.out.mono ?_
      rintro o w10 ⟨rfl, K10'⟩
      have K10 : Hid (Kept (fun _ => False) w w10) := K9.out.trans K10' (fun j hj z => by
        have := (bulk_no V9.out.1 V9.out.2 j z).1
        omega)
      have ck : w10.cell? ⟨g9, 4, none⟩ = some (.string ⟨#[107]⟩) := K10'.cell C9.out.1 (fun z => by have := C9.out.2 g9 z; omega)
      clear K10' CP V9 C9 K9
      go_wp2_with fail
      go_ret
      exact ⟨by first | rfl | simp, K10.out⟩
end Go.Proofs.YtbangbobfeflcaaGreatDoor
