import Derived.Test.YtonfefhegghapaaDoorAAl
import Derived.Test.YtonfefhegghapaaDoorACf
import Derived.Test.YtonfefhegghapaaDoorAWdJ
import Derived.Test.YtonfefhegghapaaDoorAPa
import Derived.Test.YtonfefhegghapaaDoorAKp
import Derived.Test.YtonfefhegghapaaDoorAPrJ
import Derived.Test.YtonfefhegghapaaDoorACk
import Derived.Test.YtonfefhegghapaaDoorUTqJ
namespace Go.Proofs.YtonfefhegghapaaDoor
open Go.RowKit 

theorem par_4096 (l : List UInt8) : (parL l).1.length ≤ 4096 := by
  rcases par_inv l with ⟨ss, x, h1, h2, _, _⟩ | h1 | ⟨n, h1⟩
  · rw [h1]
    exact (txt_ok.1 (by rw [h2])).1
  · rw [h1]
    exact Nat.zero_le _
  · rw [h1]
    exact Nat.zero_le _
theorem par_fi (l : List UInt8) (hl : l.length ≤ 33554430) : FI 0 (parL l).1 := fun m s hs => by
  have q := par_gsm l s (List.mem_of_getElem? hs)
  exact ⟨⟨by have := q.val; omega, by have := q.l; omega⟩, fun z => absurd z (Nat.not_lt_zero _)⟩
theorem SLs.g3 {w : World} {p : Option Addr} {k c : Nat} {L : List Sm} {ss : List St} (R : SLs w p k c L ss) : ∀ s ∈ ss, KS s ∧ KI s.kind ∧ s.key.length + s.val.length + s.l.length ≤ 134217728 := fun s hs => by
  obtain ⟨i, hi⟩ := List.mem_iff_getElem?.1 hs
  have hl := (List.getElem?_eq_some_iff.1 hi).1
  obtain ⟨x, hx⟩ : ∃ x, L[i]? = some x := ⟨_, List.getElem?_eq_getElem (by rw [R.len, ← R.slen]; exact hl)⟩
  have q := R.rd i x s hx hi
  exact ⟨⟨q.1.ka, q.1.kb, q.1.l.ki⟩, q.2, q.1.sm⟩
set_option maxRecDepth 100000 in
set_option maxHeartbeats 8000000 in
theorem hLaw6 {w : World} {p : Option Addr} {k c : Nat} {L : List Sm} {ss : List St} {t : ByteArray} (R : SLs w p k c L ss) (hk : k ≤ 33554430) (hz : (lnsL ss).length ≤ 33554430) (ht : t.size ≤ 33554430) (V : Vars w) (F : FM w) (M : WM w) : Calls Tryd.prog 6 #[.slice p k c, .string t] w fun o w' => o = .returned (.bool true) ∧ Kept (fun _ => False) w w' := by
  have H : Hid (SLs w p k c L ss ∧ (lnsL ss).length ≤ 33554430 ∧ Vars w ∧ FM w ∧ WM w ∧ t.size ≤ 33554430) := ⟨R, hz, V, F, M, ht⟩
  have KSS : Hid (∀ s ∈ ss, KS s ∧ KI s.kind ∧ s.key.length + s.val.length + s.l.length ≤ 134217728) := R.g3
  have C16 : Hid (Calls Tryd.prog 16 #[.slice p k c] w fun o w' => ∃ (q : Option Addr) (d : Nat) (L' : List Sm), o = .returned (.slice q k d) ∧ PC w w' q k d L' ss) := hSteps R hk
  clear R hz ht V F M
  go_enter Tryd.func6, Tryd.ntmps6
  go_upto_region 1 with fail
  go_cut [5] from 24 (fun u5 wc => ∃ (gb d : Nat) (L' : List Sm), u5 = .slice (some ⟨gb, 0, none⟩) k d ∧ k + 1 ≤ d ∧ Hid (PC w wc (some ⟨gb, 0, none⟩) k d L' ss))
  case first =>
    go_wp2_with fail
    refine C16.out.mono ?_
    rintro o w1 ⟨q, d, L', rfl, P1⟩
    obtain ⟨gb, eg, _⟩ := P1.cells
    subst eg
    have S0 : Hid (PC w w1 (some ⟨gb, 0, none⟩) k d L' ss) := P1
    have rm : k + 1 ≤ d := (own_room P1.row).1
    clear C16 P1
    go_wp2_with fail
    go_meet
    exact ⟨gb, d, L', rfl, rm, S0⟩
  case rest =>
  obtain ⟨gb, d, L', rfl, rm, S0⟩ := hcut
  clear C16
  rename_i K1 hK1
  refine hK1 _ _ ?_
  refine wp_seq_k fun K2 hK2 => ?_
  go_cut [6, 7, 8, 9, 10] from 26 (fun _ _ _ _ _ wc => Hid (PC w wc (some ⟨gb, 0, none⟩) k d L' ss))
  case first =>
    go_upto_region 3 with fail
    go_loopw [6, 7, 8, 9, 10] (fun u6 _ _ _ _ wr => ∃ i : Nat, u6 = .int .i64 (i : Int) ∧ i ≤ k ∧ Hid (PC w wr (some ⟨gb, 0, none⟩) k d L' ss)) (fun u6 _ _ _ _ _ => k - (intOf u6).toNat)
    case atStart => exact ⟨0, rfl, Nat.zero_le _, S0⟩
    case round =>
      clear S0
      obtain ⟨i, rfl, hi, S⟩ := hrel
      obtain ⟨wo, hwo⟩ : ∃ wo, wo = wr := ⟨_, rfl⟩
      rw [← hwo] at S ⊢
      clear hwo
      by_cases hlt : i < k
      · have i1 : (i : Int) < (k : Int) := by omega
        obtain ⟨y, hy⟩ : ∃ y, L'[i]? = some y := ⟨_, List.getElem?_eq_getElem (by rw [S.out.len]; exact hlt)⟩
        obtain ⟨pb, po, x, s, rfl, hs, X1, ki, hx⟩ := (H.out.1.kept S.out.kept).at hlt
        have Y1 := S.out.co i y s hy hs
        obtain ⟨g9, e9, hc⟩ := S.out.cells
        obtain rfl : gb = g9 := by simpa using e9
        have hyc := hc i y (by rw [List.getElem?_append_left (by rw [S.out.len]; exact hlt)]; exact hy)
        have gs := KSS.out s (List.mem_of_getElem? hs)
        have Q17 : ∀ V, Kept (fun _ => False) wo V → Calls Tryd.prog 17 #[.agg y.cs] V fun o w' => o = .returned (.tuple #[.string (lineS s), .int .i64 (chkS s)]) ∧ Kept (fun _ => False) V w' := fun V K => hLine (((Y1.k0 K).srd gs.1 gs.2.2)) gs.2.1 ((H.out.2.2.1.kept S.out.kept).kept K) ((H.out.2.2.2.1.kept S.out.kept).kept K)
        have Q18 : ∀ V, Kept (fun _ => False) wo V → Calls Tryd.prog 18 #[.agg x.cs] V fun o w' => o = .returned (.tuple #[.string (lineS s), .int .i64 (chkS s)]) ∧ Kept (fun _ => False) V w' := fun V K => hRefLine (X1.kept K) ki ((H.out.2.2.2.2.1.kept S.out.kept).kept K)
        have Q13 : ∀ V, Kept (fun _ => False) wo V → Calls Tryd.prog 13 #[.agg y.cs] V fun o w' => o = .returned (.int .i64 (chkS s)) ∧ Kept (fun _ => False) V w' := fun V K => hChk (((Y1.k0 K).srd gs.1 gs.2.2)) gs.2.1 ((H.out.2.2.2.1.kept S.out.kept).kept K)
        have Q19 : ∀ V, Kept (fun _ => False) wo V → Calls Tryd.prog 19 #[.agg x.cs] V fun o w' => o = .returned (.int .i64 (chkS s)) ∧ Kept (fun _ => False) V w' := fun V K => hRefChk (X1.kept K) ki
        obtain ⟨T, hT⟩ : ∃ T, lineS s = T := ⟨_, rfl⟩
        obtain ⟨ck, hck⟩ : ∃ ck, chkS s = ck := ⟨_, rfl⟩
        rw [hT, hck] at Q17 Q18
        rw [hck] at Q13 Q19
        obtain ⟨kind, a, b, key, va, vn, vc, la, ln, lc⟩ := y
        obtain ⟨kind', a', b', key', va', vn', vc', la', ln', lc'⟩ := x
        have C17 : Hid (∀ V, Kept (fun _ => False) wo V → Calls Tryd.prog 17 #[.agg #[.int .i64 kind, .int .i64 a, .int .i64 b, .string key, .slice va vn vc, .slice la ln lc]] V fun o w' => o = .returned (.tuple #[.string T, .int .i64 ck]) ∧ Kept (fun _ => False) V w') := Q17
        have C18 : Hid (∀ V, Kept (fun _ => False) wo V → Calls Tryd.prog 18 #[.agg #[.int .i64 kind', .int .i64 a', .int .i64 b', .string key', .slice va' vn' vc', .slice la' ln' lc']] V fun o w' => o = .returned (.tuple #[.string T, .int .i64 ck]) ∧ Kept (fun _ => False) V w') := Q18
        have C13 : Hid (∀ V, Kept (fun _ => False) wo V → Calls Tryd.prog 13 #[.agg #[.int .i64 kind, .int .i64 a, .int .i64 b, .string key, .slice va vn vc, .slice la ln lc]] V fun o w' => o = .returned (.int .i64 ck) ∧ Kept (fun _ => False) V w') := Q13
        have C19 : Hid (∀ V, Kept (fun _ => False) wo V → Calls Tryd.prog 19 #[.agg #[.int .i64 kind', .int .i64 a', .int .i64 b', .string key', .slice va' vn' vc', .slice la' ln' lc']] V fun o w' => o = .returned (.int .i64 ck) ∧ Kept (fun _ => False) V w') := Q19
        have MK : Hid (∀ V, Kept (fun _ => False) wo V → (V.cell? ⟨gb, i * 6, none⟩ = some (.int .i64 kind) ∧ V.cell? ⟨gb, i * 6 + 1, none⟩ = some (.int .i64 a) ∧ V.cell? ⟨gb, i * 6 + 2, none⟩ = some (.int .i64 b) ∧ V.cell? ⟨gb, i * 6 + 3, none⟩ = some (.string key) ∧ V.cell? ⟨gb, i * 6 + 4, none⟩ = some (.slice va vn vc) ∧ V.cell? ⟨gb, i * 6 + 5, none⟩ = some (.slice la ln lc) ∧ V.cell? ⟨pb, po + i * 6, none⟩ = some (.int .i64 kind') ∧ V.cell? ⟨pb, po + i * 6 + 1, none⟩ = some (.int .i64 a') ∧ V.cell? ⟨pb, po + i * 6 + 2, none⟩ = some (.int .i64 b') ∧ V.cell? ⟨pb, po + i * 6 + 3, none⟩ = some (.string key') ∧ V.cell? ⟨pb, po + i * 6 + 4, none⟩ = some (.slice va' vn' vc') ∧ V.cell? ⟨pb, po + i * 6 + 5, none⟩ = some (.slice la' ln' lc'))) := fun V K => ⟨K.cell (hyc 0 _ rfl) (fun z => z), K.cell (hyc 1 _ rfl) (fun z => z), K.cell (hyc 2 _ rfl) (fun z => z), K.cell (hyc 3 _ rfl) (fun z => z), K.cell (hyc 4 _ rfl) (fun z => z), K.cell (hyc 5 _ rfl) (fun z => z), K.cell (hx 0 _ rfl) (fun z => z), K.cell (hx 1 _ rfl) (fun z => z), K.cell (hx 2 _ rfl) (fun z => z), K.cell (hx 3 _ rfl) (fun z => z), K.cell (hx 4 _ rfl) (fun z => z), K.cell (hx 5 _ rfl) (fun z => z)⟩
        have id : (i : Int) < ((k + 1 : Nat) : Int) := by omega
        clear Q17 Q18 Q13 Q19 hyc hx hc Y1 X1 gs ki hs hy hT hck e9
        obtain ⟨y0, y1, y2, y3, y4, y5, _⟩ := MK.out _ (Kept.refl _ _)
        go_wp2_with fail
        refine (C17.out _ (Kept.refl _ _)).mono ?_
        rintro o w5 ⟨rfl, K5⟩
        have K50 : Hid (Kept (fun _ => False) wo w5) := K5
        clear y0 y1 y2 y3 y4 y5 K5 C17
        obtain ⟨_, _, _, _, _, _, x0, x1, x2, x3, x4, x5⟩ := MK.out _ K50.out
        go_wp2_with fail
        refine (C18.out _ K50.out).mono ?_
        rintro o w6 ⟨rfl, K6⟩
        have K60 : Hid (Kept (fun _ => False) wo w6) := K50.out.trans K6 (fun _ _ z => z)
        clear x0 x1 x2 x3 x4 x5 K6 K50 C18
        go_upto_region 7 with fail
        have KD : Hid (Kept (fun _ => False) wo w6.drew) := K60.out.drew
        refine wp_region_held_drew (S := (fun V => V.cell? ⟨gb, i * 6, none⟩ = some (.int .i64 kind) ∧ V.cell? ⟨gb, i * 6 + 1, none⟩ = some (.int .i64 a) ∧ V.cell? ⟨gb, i * 6 + 2, none⟩ = some (.int .i64 b) ∧ V.cell? ⟨gb, i * 6 + 3, none⟩ = some (.string key) ∧ V.cell? ⟨gb, i * 6 + 4, none⟩ = some (.slice va vn vc) ∧ V.cell? ⟨gb, i * 6 + 5, none⟩ = some (.slice la ln lc) ∧ V.cell? ⟨pb, po + i * 6, none⟩ = some (.int .i64 kind') ∧ V.cell? ⟨pb, po + i * 6 + 1, none⟩ = some (.int .i64 a') ∧ V.cell? ⟨pb, po + i * 6 + 2, none⟩ = some (.int .i64 b') ∧ V.cell? ⟨pb, po + i * 6 + 3, none⟩ = some (.string key') ∧ V.cell? ⟨pb, po + i * 6 + 4, none⟩ = some (.slice va' vn' vc') ∧ V.cell? ⟨pb, po + i * 6 + 5, none⟩ = some (.slice la' ln' lc'))) (by kernel_rfl) ?_ (fun hHeld => ?_)
        · exact MK.out _ KD.out
        refine wpAnyH_take (i := 0) (oi := { dst := some 48, op := Go.Op.move (Go.Operand.tmp 7), type := 9, pos := "law.go:112", after := #[], guard := none }) (v := .string T) rfl (by kernel_rfl) (by kernel_rfl) (by kernel_rfl) (fun _ _ _ h => h) (Or.inl ⟨by rfl, ?_⟩) (by assumption) ?_
        · intro w9 hSw
          (try dsimp only at hSw)
          go_simp
        (try simp only [Act.put, List.setIfInBounds_toArray, List.set_cons_zero, List.set_cons_succ])
        refine wpAnyH_take (i := 1) (oi := { dst := some 49, op := Go.Op.move (Go.Operand.tmp 9), type := 9, pos := "law.go:112", after := #[], guard := none }) (v := .string T) rfl (by kernel_rfl) (by kernel_rfl) (by kernel_rfl) (fun _ _ _ h => h) (Or.inl ⟨by rfl, ?_⟩) (by assumption) ?_
        · intro w9 hSw
          (try dsimp only at hSw)
          go_simp
        (try simp only [Act.put, List.setIfInBounds_toArray, List.set_cons_zero, List.set_cons_succ])
        refine wpAnyH_take (i := 2) (oi := { dst := some 50, op := Go.Op.binOp Go.BinOp.neq 9 (Go.Operand.tmp 48) (Go.Operand.tmp 49) 9, type := 4, pos := "law.go:112", after := #[{ on := 0, ground := Go.Ground.data }, { on := 1, ground := Go.Ground.data }], guard := none }) (v := .bool false) rfl (by kernel_rfl) (by kernel_rfl) (by kernel_rfl) (fun _ _ _ h => h) (Or.inl ⟨by rfl, ?_⟩) (by assumption) ?_
        · intro w9 hSw
          (try dsimp only at hSw)
          go_simp
        (try simp only [Act.put, List.setIfInBounds_toArray, List.set_cons_zero, List.set_cons_succ])
        refine wpAnyH_take (i := 3) (oi := { dst := some 51, op := Go.Op.move (Go.Operand.tmp 50), type := 4, pos := "law.go:112", after := #[{ on := 2, ground := Go.Ground.data }], guard := none }) (v := .bool false) rfl (by kernel_rfl) (by kernel_rfl) (by kernel_rfl) (fun _ _ _ h => h) (Or.inl ⟨by rfl, ?_⟩) (by assumption) ?_
        · intro w9 hSw
          (try dsimp only at hSw)
          go_simp
        (try simp only [Act.put, List.setIfInBounds_toArray, List.set_cons_zero, List.set_cons_succ])
        refine wpAnyH_take (i := 4) (oi := { dst := some 52, op := Go.Op.move (Go.Operand.tmp 8), type := 25, pos := "law.go:112", after := #[{ on := 3, ground := Go.Ground.guard }], guard := some (3, false) }) (v := .int .i64 ck) rfl (by kernel_rfl) (by kernel_rfl) (by kernel_rfl) (fun _ _ _ h => h) (Or.inl ⟨by rfl, ?_⟩) (by assumption) ?_
        · intro w9 hSw
          (try dsimp only at hSw)
          go_simp
        (try simp only [Act.put, List.setIfInBounds_toArray, List.set_cons_zero, List.set_cons_succ])
        refine wpAnyH_take (i := 5) (oi := { dst := some 53, op := Go.Op.move (Go.Operand.tmp 10), type := 25, pos := "law.go:112", after := #[{ on := 3, ground := Go.Ground.guard }], guard := some (3, false) }) (v := .int .i64 ck) rfl (by kernel_rfl) (by kernel_rfl) (by kernel_rfl) (fun _ _ _ h => h) (Or.inl ⟨by rfl, ?_⟩) (by assumption) ?_
        · intro w9 hSw
          (try dsimp only at hSw)
          go_simp
        (try simp only [Act.put, List.setIfInBounds_toArray, List.set_cons_zero, List.set_cons_succ])
        refine wpAnyH_take (i := 6) (oi := { dst := some 54, op := Go.Op.binOp Go.BinOp.neq 25 (Go.Operand.tmp 52) (Go.Operand.tmp 53) 25, type := 4, pos := "law.go:112", after := #[{ on := 4, ground := Go.Ground.data }, { on := 5, ground := Go.Ground.data }, { on := 3, ground := Go.Ground.guard }], guard := some (3, false) }) (v := .bool false) rfl (by kernel_rfl) (by kernel_rfl) (by kernel_rfl) (fun _ _ _ h => h) (Or.inl ⟨by rfl, ?_⟩) (by assumption) ?_
        · intro w9 hSw
          (try dsimp only at hSw)
          go_simp
        (try simp only [Act.put, List.setIfInBounds_toArray, List.set_cons_zero, List.set_cons_succ])
        refine wpAnyH_take (i := 7) (oi := { dst := some 55, op := Go.Op.pick (Go.Operand.tmp 51) (Go.Operand.const (Go.Value.bool true)) (Go.Operand.tmp 54), type := 4, pos := "law.go:112", after := #[{ on := 3, ground := Go.Ground.data }, { on := 6, ground := Go.Ground.data }], guard := none }) (v := .bool false) rfl (by kernel_rfl) (by kernel_rfl) (by kernel_rfl) (fun _ _ _ h => h) (Or.inl ⟨by rfl, ?_⟩) (by assumption) ?_
        · intro w9 hSw
          (try dsimp only at hSw)
          go_simp
        (try simp only [Act.put, List.setIfInBounds_toArray, List.set_cons_zero, List.set_cons_succ])
        refine wpAnyH_take (i := 8) (oi := { dst := some 56, op := Go.Op.move (Go.Operand.tmp 55), type := 4, pos := "law.go:112", after := #[{ on := 7, ground := Go.Ground.data }, { on := 3, ground := Go.Ground.chain }], guard := none }) (v := .bool false) rfl (by kernel_rfl) (by kernel_rfl) (by kernel_rfl) (fun _ _ _ h => h) (Or.inl ⟨by rfl, ?_⟩) (by assumption) ?_
        · intro w9 hSw
          (try dsimp only at hSw)
          go_simp
        (try simp only [Act.put, List.setIfInBounds_toArray, List.set_cons_zero, List.set_cons_succ])
        refine wpAnyH_take (i := 9) (oi := { dst := some 57, op := Go.Op.move (Go.Operand.tmp 5), type := 30, pos := "law.go:112", after := #[{ on := 8, ground := Go.Ground.guard }], guard := some (8, false) }) (v := .slice (some ⟨gb, 0, none⟩) k d) rfl (by kernel_rfl) (by kernel_rfl) (by kernel_rfl) (fun _ _ _ h => h) (Or.inl ⟨by rfl, ?_⟩) (by assumption) ?_
        · intro w9 hSw
          (try dsimp only at hSw)
          go_simp
        (try simp only [Act.put, List.setIfInBounds_toArray, List.set_cons_zero, List.set_cons_succ])
        refine wpAnyH_take (i := 10) (oi := { dst := some 58, op := Go.Op.move (Go.Operand.tmp 6), type := 3, pos := "law.go:112", after := #[{ on := 8, ground := Go.Ground.guard }], guard := some (8, false) }) (v := .int .i64 (i : Int)) rfl (by kernel_rfl) (by kernel_rfl) (by kernel_rfl) (fun _ _ _ h => h) (Or.inl ⟨by rfl, ?_⟩) (by assumption) ?_
        · intro w9 hSw
          (try dsimp only at hSw)
          go_simp
        (try simp only [Act.put, List.setIfInBounds_toArray, List.set_cons_zero, List.set_cons_succ])
        refine wpAnyH_take (i := 11) (oi := { dst := some 59, op := Go.Op.indexAddr 30 (Go.Operand.tmp 57) (Go.Operand.tmp 58), type := 0, pos := "law.go:112", after := #[{ on := 9, ground := Go.Ground.data }, { on := 10, ground := Go.Ground.data }, { on := 8, ground := Go.Ground.guard }], guard := some (8, false) }) (v := .pointer (some ⟨gb, i * 6, none⟩)) rfl (by kernel_rfl) (by kernel_rfl) (by kernel_rfl) (fun _ _ _ h => h) (Or.inl ⟨by rfl, ?_⟩) (by assumption) ?_
        · intro w9 hSw
          (try dsimp only at hSw)
          go_simp
        (try simp only [Act.put, List.setIfInBounds_toArray, List.set_cons_zero, List.set_cons_succ])
        refine wpAnyH_take (i := 12) (oi := { dst := some 60, op := Go.Op.load 38 (Go.Operand.tmp 59), type := 38, pos := "law.go:112", after := #[{ on := 11, ground := Go.Ground.data }, { on := 8, ground := Go.Ground.guard }], guard := some (8, false) }) (v := .agg #[.int .i64 kind, .int .i64 a, .int .i64 b, .string key, .slice va vn vc, .slice la ln lc]) rfl (by kernel_rfl) (by kernel_rfl) (by kernel_rfl) (fun _ _ _ h => h) (Or.inl ⟨by rfl, ?_⟩) (by assumption) ?_
        · intro w9 hSw
          (try dsimp only at hSw)
          go_simp
        (try simp only [Act.put, List.setIfInBounds_toArray, List.set_cons_zero, List.set_cons_succ])
        refine wpAnyH_take (i := 14) (oi := { dst := some 62, op := Go.Op.move (Go.Operand.tmp 0), type := 30, pos := "law.go:112", after := #[{ on := 8, ground := Go.Ground.guard }], guard := some (8, false) }) (v := .slice (some ⟨pb, po, none⟩) k c) rfl (by kernel_rfl) (by kernel_rfl) (by kernel_rfl) (fun _ _ _ h => h) (Or.inl ⟨by rfl, ?_⟩) (by assumption) ?_
        · intro w9 hSw
          (try dsimp only at hSw)
          go_simp
        (try simp only [Act.put, List.setIfInBounds_toArray, List.set_cons_zero, List.set_cons_succ])
        refine wpAnyH_take (i := 15) (oi := { dst := some 63, op := Go.Op.move (Go.Operand.tmp 6), type := 3, pos := "law.go:112", after := #[{ on := 8, ground := Go.Ground.guard }], guard := some (8, false) }) (v := .int .i64 (i : Int)) rfl (by kernel_rfl) (by kernel_rfl) (by kernel_rfl) (fun _ _ _ h => h) (Or.inl ⟨by rfl, ?_⟩) (by assumption) ?_
        · intro w9 hSw
          (try dsimp only at hSw)
          go_simp
        (try simp only [Act.put, List.setIfInBounds_toArray, List.set_cons_zero, List.set_cons_succ])
        refine wpAnyH_take (i := 16) (oi := { dst := some 64, op := Go.Op.indexAddr 30 (Go.Operand.tmp 62) (Go.Operand.tmp 63), type := 0, pos := "law.go:112", after := #[{ on := 14, ground := Go.Ground.data }, { on := 15, ground := Go.Ground.data }, { on := 8, ground := Go.Ground.guard }], guard := some (8, false) }) (v := .pointer (some ⟨pb, po + i * 6, none⟩)) rfl (by kernel_rfl) (by kernel_rfl) (by kernel_rfl) (fun _ _ _ h => h) (Or.inl ⟨by rfl, ?_⟩) (by assumption) ?_
        · intro w9 hSw
          (try dsimp only at hSw)
          go_simp
        (try simp only [Act.put, List.setIfInBounds_toArray, List.set_cons_zero, List.set_cons_succ])
        refine wpAnyH_take (i := 17) (oi := { dst := some 65, op := Go.Op.load 38 (Go.Operand.tmp 64), type := 38, pos := "law.go:112", after := #[{ on := 16, ground := Go.Ground.data }, { on := 8, ground := Go.Ground.guard }], guard := some (8, false) }) (v := .agg #[.int .i64 kind', .int .i64 a', .int .i64 b', .string key', .slice va' vn' vc', .slice la' ln' lc']) rfl (by kernel_rfl) (by kernel_rfl) (by kernel_rfl) (fun _ _ _ h => h) (Or.inl ⟨by rfl, ?_⟩) (by assumption) ?_
        · intro w9 hSw
          (try dsimp only at hSw)
          go_simp
        (try simp only [Act.put, List.setIfInBounds_toArray, List.set_cons_zero, List.set_cons_succ])
        refine wpAnyH_ready (rs := [13]) (by kernel_rfl) (by simp) ?_
        refine (AllReadyH.cons (o := { dst := some 61, op := Go.Op.call { callee := Go.Callee.value (Go.Operand.func 13), args := #[Go.Operand.tmp 60], argTypes := #[38] }, type := 25, pos := "law.go:112", after := #[{ on := 12, ground := Go.Ground.data }, { on := 8, ground := Go.Ground.chain }, { on := 8, ground := Go.Ground.guard }], guard := some (8, false) }) rfl (fun K hK => ?_) AllReadyH.nil)
        go_simp
        refine (C13.out _ KD.out).mono ?_
        rintro o w7 ⟨rfl, K7⟩
        have KA : Hid (Kept (fun _ => False) wo w7) := KD.out.trans K7 (fun _ _ z => z)
        refine hK.out _ _ ?_ (fun hHeld => ?_)
        · exact MK.out _ KA.out
        clear hK K K7
        (try simp only [Act.put, List.setIfInBounds_toArray, List.set_cons_zero, List.set_cons_succ])
        refine wpAnyH_ready (rs := [18]) (by kernel_rfl) (by simp) ?_
        refine (AllReadyH.cons (o := { dst := some 66, op := Go.Op.call { callee := Go.Callee.value (Go.Operand.func 19), args := #[Go.Operand.tmp 65], argTypes := #[38] }, type := 25, pos := "law.go:112", after := #[{ on := 17, ground := Go.Ground.data }, { on := 13, ground := Go.Ground.chain }, { on := 8, ground := Go.Ground.guard }], guard := some (8, false) }) rfl (fun K hK => ?_) AllReadyH.nil)
        go_simp
        refine (C19.out _ KA.out).mono ?_
        rintro o w7 ⟨rfl, K7⟩
        have KB : Hid (Kept (fun _ => False) wo w7) := KA.out.trans K7 (fun _ _ z => z)
        refine hK.out _ _ ?_ (fun hHeld => ?_)
        · exact MK.out _ KB.out
        clear hK K K7
        (try simp only [Act.put, List.setIfInBounds_toArray, List.set_cons_zero, List.set_cons_succ])
        refine wpAnyH_take (i := 19) (oi := { dst := some 67, op := Go.Op.binOp Go.BinOp.neq 25 (Go.Operand.tmp 61) (Go.Operand.tmp 66) 25, type := 4, pos := "law.go:112", after := #[{ on := 13, ground := Go.Ground.data }, { on := 18, ground := Go.Ground.data }, { on := 8, ground := Go.Ground.guard }], guard := some (8, false) }) (v := .bool false) rfl (by kernel_rfl) (by kernel_rfl) (by kernel_rfl) (fun _ _ _ h => h) (Or.inl ⟨by rfl, ?_⟩) (by assumption) ?_
        · intro w9 hSw
          (try dsimp only at hSw)
          go_simp
        (try simp only [Act.put, List.setIfInBounds_toArray, List.set_cons_zero, List.set_cons_succ])
        refine wpAnyH_take (i := 20) (oi := { dst := some 68, op := Go.Op.pick (Go.Operand.tmp 56) (Go.Operand.const (Go.Value.bool true)) (Go.Operand.tmp 67), type := 4, pos := "law.go:112", after := #[{ on := 8, ground := Go.Ground.data }, { on := 19, ground := Go.Ground.data }], guard := none }) (v := .bool false) rfl (by kernel_rfl) (by kernel_rfl) (by kernel_rfl) (fun _ _ _ h => h) (Or.inl ⟨by rfl, ?_⟩) (by assumption) ?_
        · intro w9 hSw
          (try dsimp only at hSw)
          go_simp
        (try simp only [Act.put, List.setIfInBounds_toArray, List.set_cons_zero, List.set_cons_succ])
        refine wpAnyH_done (by kernel_rfl) ?_ _
        clear hHeld MK
        have N : Hid (PC w w7 (some ⟨gb, 0, none⟩) k d L' ss) := S.out.k0 KB.out
        go_wp2_with fail
        go_roundw
        case rel => exact ⟨i + 1, by go_num, by omega, N⟩
        case measure => simp [intOf] <;> omega
      · have i1 : ¬ (i : Int) < (k : Int) := by omega
        go_wp2_with fail
        go_meet
        exact S
  case rest =>
  have S1 : Hid (PC w wc (some ⟨gb, 0, none⟩) k d L' ss) := hcut
  clear hcut S0
  refine hK2 _ _ ?_
  obtain ⟨T, hT⟩ : ∃ T, (txtL ss).1 = T := ⟨_, rfl⟩
  obtain ⟨e, he⟩ : ∃ e, (txtL ss).2 = e := ⟨_, rfl⟩
  have C12 : Hid (∀ V, Kept (fun _ => False) wc V → Calls Tryd.prog 12 #[.slice (some ⟨gb, 0, none⟩) k d] V fun o w' => o = .returned (.tuple #[.string T, .int .i64 e]) ∧ Kept (fun _ => False) V w') := fun V K => by
    rw [← hT, ← he]
    exact hText ((S1.out.k0 K).sls KSS.out) ((H.out.2.2.1.kept S1.out.kept).kept K) ((H.out.2.2.2.1.kept S1.out.kept).kept K) (by have := H.out.2.1; omega)
  have C20 : Hid (∀ V, Kept (fun _ => False) wc V → Calls Tryd.prog 20 #[.slice p k c] V fun o w' => o = .returned (.tuple #[.string T, .int .i64 e]) ∧ Kept (fun _ => False) V w') := fun V K => by
    rw [← hT, ← he]
    exact hRefText ((H.out.1.kept S1.out.kept).kept K) ((H.out.2.2.2.2.1.kept S1.out.kept).kept K) (by have := H.out.2.1; omega)
  clear hT he
  go_wp2_with fail
  refine (C12.out _ (Kept.refl _ _)).mono ?_
  rintro o w2 ⟨rfl, K2'⟩
  have KA : Hid (Kept (fun _ => False) wc w2) := K2'
  clear K2' C12
  go_wp2_with fail
  refine (C20.out _ KA.out).mono ?_
  rintro o w3 ⟨rfl, K3'⟩
  have S3 : Hid (PC w w3 (some ⟨gb, 0, none⟩) k d L' ss) := S1.out.k0 (KA.out.trans K3' (fun _ _ z => z))
  clear K3' C20 KA S1
  obtain ⟨g9, e9, hc⟩ := S3.out.cells
  obtain rfl : gb = g9 := by simpa using e9
  have m7 : w3.cell? ⟨gb, k * 6, none⟩ = some (.int .i64 (-77)) := hc k mkS (by rw [List.getElem?_append_right (by rw [S3.out.len]; exact Nat.le_refl _), S3.out.len, Nat.sub_self]; rfl) 0 _ rfl
  have n0 : (0 : Int) ≤ ((k + 1 : Nat) : Int) := by omega
  have nd : ((k : Int) + 1) ≤ (d : Int) := by omega
  clear hc e9
  go_upto_region 14 with fail
  clear m7
  go_loopw [15] (fun u15 wr => ∃ i : Nat, u15 = .int .i64 (i : Int) ∧ i ≤ k ∧ Hid (PC w wr (some ⟨gb, 0, none⟩) k d L' ss)) (fun u15 _ => k - (intOf u15).toNat)
  case atStart => exact ⟨0, rfl, Nat.zero_le _, S3⟩
  case round =>
    clear S3
    obtain ⟨i, rfl, hi, S⟩ := hrel
    obtain ⟨wo, hwo⟩ : ∃ wo, wo = wr := ⟨_, rfl⟩
    rw [← hwo] at S ⊢
    clear hwo
    by_cases hlt : i < k
    · have i1 : (i : Int) < (k : Int) := by omega
      obtain ⟨y, hy⟩ : ∃ y, L'[i]? = some y := ⟨_, List.getElem?_eq_getElem (by rw [S.out.len]; exact hlt)⟩
      obtain ⟨pb, po, x, s, rfl, hs, X1, ki, hx⟩ := (H.out.1.kept S.out.kept).at hlt
      have Y1 := S.out.co i y s hy hs
      obtain ⟨g9, e9, hc⟩ := S.out.cells
      obtain rfl : gb = g9 := by simpa using e9
      have hyc := hc i y (by rw [List.getElem?_append_left (by rw [S.out.len]; exact hlt)]; exact hy)
      have gs := KSS.out s (List.mem_of_getElem? hs)
      have Q21 : ∀ V, Kept (fun _ => False) wo V → Calls Tryd.prog 21 #[.agg y.cs, .agg x.cs] V fun o w' => o = .returned (.bool true) ∧ Kept (fun _ => False) V w' := fun V K => hKept (Y1.k0 K) (X1.kept K)
      obtain ⟨kind, a, b, key, va, vn, vc, la, ln, lc⟩ := y
      obtain ⟨kind', a', b', key', va', vn', vc', la', ln', lc'⟩ := x
      have C21 : Hid (∀ V, Kept (fun _ => False) wo V → Calls Tryd.prog 21 #[.agg #[.int .i64 kind, .int .i64 a, .int .i64 b, .string key, .slice va vn vc, .slice la ln lc], .agg #[.int .i64 kind', .int .i64 a', .int .i64 b', .string key', .slice va' vn' vc', .slice la' ln' lc']] V fun o w' => o = .returned (.bool true) ∧ Kept (fun _ => False) V w') := Q21
      have MK : Hid (∀ V, Kept (fun _ => False) wo V → (V.cell? ⟨gb, i * 6, none⟩ = some (.int .i64 kind) ∧ V.cell? ⟨gb, i * 6 + 1, none⟩ = some (.int .i64 a) ∧ V.cell? ⟨gb, i * 6 + 2, none⟩ = some (.int .i64 b) ∧ V.cell? ⟨gb, i * 6 + 3, none⟩ = some (.string key) ∧ V.cell? ⟨gb, i * 6 + 4, none⟩ = some (.slice va vn vc) ∧ V.cell? ⟨gb, i * 6 + 5, none⟩ = some (.slice la ln lc) ∧ V.cell? ⟨pb, po + i * 6, none⟩ = some (.int .i64 kind') ∧ V.cell? ⟨pb, po + i * 6 + 1, none⟩ = some (.int .i64 a') ∧ V.cell? ⟨pb, po + i * 6 + 2, none⟩ = some (.int .i64 b') ∧ V.cell? ⟨pb, po + i * 6 + 3, none⟩ = some (.string key') ∧ V.cell? ⟨pb, po + i * 6 + 4, none⟩ = some (.slice va' vn' vc') ∧ V.cell? ⟨pb, po + i * 6 + 5, none⟩ = some (.slice la' ln' lc'))) := fun V K => ⟨K.cell (hyc 0 _ rfl) (fun z => z), K.cell (hyc 1 _ rfl) (fun z => z), K.cell (hyc 2 _ rfl) (fun z => z), K.cell (hyc 3 _ rfl) (fun z => z), K.cell (hyc 4 _ rfl) (fun z => z), K.cell (hyc 5 _ rfl) (fun z => z), K.cell (hx 0 _ rfl) (fun z => z), K.cell (hx 1 _ rfl) (fun z => z), K.cell (hx 2 _ rfl) (fun z => z), K.cell (hx 3 _ rfl) (fun z => z), K.cell (hx 4 _ rfl) (fun z => z), K.cell (hx 5 _ rfl) (fun z => z)⟩
      clear Q21 hyc hx hc Y1 X1 gs ki hs hy e9
      go_upto_region 16 with fail
      have KD : Hid (Kept (fun _ => False) wo wo.drew) := (Kept.refl _ _).drew
      refine wp_region_held_drew (S := (fun V => V.cell? ⟨gb, i * 6, none⟩ = some (.int .i64 kind) ∧ V.cell? ⟨gb, i * 6 + 1, none⟩ = some (.int .i64 a) ∧ V.cell? ⟨gb, i * 6 + 2, none⟩ = some (.int .i64 b) ∧ V.cell? ⟨gb, i * 6 + 3, none⟩ = some (.string key) ∧ V.cell? ⟨gb, i * 6 + 4, none⟩ = some (.slice va vn vc) ∧ V.cell? ⟨gb, i * 6 + 5, none⟩ = some (.slice la ln lc) ∧ V.cell? ⟨pb, po + i * 6, none⟩ = some (.int .i64 kind') ∧ V.cell? ⟨pb, po + i * 6 + 1, none⟩ = some (.int .i64 a') ∧ V.cell? ⟨pb, po + i * 6 + 2, none⟩ = some (.int .i64 b') ∧ V.cell? ⟨pb, po + i * 6 + 3, none⟩ = some (.string key') ∧ V.cell? ⟨pb, po + i * 6 + 4, none⟩ = some (.slice va' vn' vc') ∧ V.cell? ⟨pb, po + i * 6 + 5, none⟩ = some (.slice la' ln' lc'))) (by kernel_rfl) ?_ (fun hHeld => ?_)
      · exact MK.out _ KD.out
      refine wpAnyH_take (i := 0) (oi := { dst := some 106, op := Go.Op.move (Go.Operand.tmp 5), type := 30, pos := "law.go:122", after := #[], guard := none }) (v := .slice (some ⟨gb, 0, none⟩) k d) rfl (by kernel_rfl) (by kernel_rfl) (by kernel_rfl) (fun _ _ _ h => h) (Or.inl ⟨by rfl, ?_⟩) (by assumption) ?_
      · intro w9 hSw
        (try dsimp only at hSw)
        go_simp
      (try simp only [Act.put, List.setIfInBounds_toArray, List.set_cons_zero, List.set_cons_succ])
      refine wpAnyH_take (i := 1) (oi := { dst := some 107, op := Go.Op.move (Go.Operand.tmp 15), type := 3, pos := "law.go:122", after := #[], guard := none }) (v := .int .i64 (i : Int)) rfl (by kernel_rfl) (by kernel_rfl) (by kernel_rfl) (fun _ _ _ h => h) (Or.inl ⟨by rfl, ?_⟩) (by assumption) ?_
      · intro w9 hSw
        (try dsimp only at hSw)
        go_simp
      (try simp only [Act.put, List.setIfInBounds_toArray, List.set_cons_zero, List.set_cons_succ])
      refine wpAnyH_take (i := 2) (oi := { dst := some 108, op := Go.Op.indexAddr 30 (Go.Operand.tmp 106) (Go.Operand.tmp 107), type := 0, pos := "law.go:122", after := #[{ on := 0, ground := Go.Ground.data }, { on := 1, ground := Go.Ground.data }], guard := none }) (v := .pointer (some ⟨gb, i * 6, none⟩)) rfl (by kernel_rfl) (by kernel_rfl) (by kernel_rfl) (fun _ _ _ h => h) (Or.inl ⟨by rfl, ?_⟩) (by assumption) ?_
      · intro w9 hSw
        (try dsimp only at hSw)
        go_simp
      (try simp only [Act.put, List.setIfInBounds_toArray, List.set_cons_zero, List.set_cons_succ])
      refine wpAnyH_take (i := 3) (oi := { dst := some 109, op := Go.Op.load 38 (Go.Operand.tmp 108), type := 38, pos := "law.go:122", after := #[{ on := 2, ground := Go.Ground.data }], guard := none }) (v := .agg #[.int .i64 kind, .int .i64 a, .int .i64 b, .string key, .slice va vn vc, .slice la ln lc]) rfl (by kernel_rfl) (by kernel_rfl) (by kernel_rfl) (fun _ _ _ h => h) (Or.inl ⟨by rfl, ?_⟩) (by assumption) ?_
      · intro w9 hSw
        (try dsimp only at hSw)
        go_simp
      (try simp only [Act.put, List.setIfInBounds_toArray, List.set_cons_zero, List.set_cons_succ])
      refine wpAnyH_take (i := 4) (oi := { dst := some 110, op := Go.Op.move (Go.Operand.tmp 0), type := 30, pos := "law.go:122", after := #[], guard := none }) (v := .slice (some ⟨pb, po, none⟩) k c) rfl (by kernel_rfl) (by kernel_rfl) (by kernel_rfl) (fun _ _ _ h => h) (Or.inl ⟨by rfl, ?_⟩) (by assumption) ?_
      · intro w9 hSw
        (try dsimp only at hSw)
        go_simp
      (try simp only [Act.put, List.setIfInBounds_toArray, List.set_cons_zero, List.set_cons_succ])
      refine wpAnyH_take (i := 5) (oi := { dst := some 111, op := Go.Op.move (Go.Operand.tmp 15), type := 3, pos := "law.go:122", after := #[], guard := none }) (v := .int .i64 (i : Int)) rfl (by kernel_rfl) (by kernel_rfl) (by kernel_rfl) (fun _ _ _ h => h) (Or.inl ⟨by rfl, ?_⟩) (by assumption) ?_
      · intro w9 hSw
        (try dsimp only at hSw)
        go_simp
      (try simp only [Act.put, List.setIfInBounds_toArray, List.set_cons_zero, List.set_cons_succ])
      refine wpAnyH_take (i := 6) (oi := { dst := some 112, op := Go.Op.indexAddr 30 (Go.Operand.tmp 110) (Go.Operand.tmp 111), type := 0, pos := "law.go:122", after := #[{ on := 4, ground := Go.Ground.data }, { on := 5, ground := Go.Ground.data }], guard := none }) (v := .pointer (some ⟨pb, po + i * 6, none⟩)) rfl (by kernel_rfl) (by kernel_rfl) (by kernel_rfl) (fun _ _ _ h => h) (Or.inl ⟨by rfl, ?_⟩) (by assumption) ?_
      · intro w9 hSw
        (try dsimp only at hSw)
        go_simp
      (try simp only [Act.put, List.setIfInBounds_toArray, List.set_cons_zero, List.set_cons_succ])
      refine wpAnyH_take (i := 7) (oi := { dst := some 113, op := Go.Op.load 38 (Go.Operand.tmp 112), type := 38, pos := "law.go:122", after := #[{ on := 6, ground := Go.Ground.data }], guard := none }) (v := .agg #[.int .i64 kind', .int .i64 a', .int .i64 b', .string key', .slice va' vn' vc', .slice la' ln' lc']) rfl (by kernel_rfl) (by kernel_rfl) (by kernel_rfl) (fun _ _ _ h => h) (Or.inl ⟨by rfl, ?_⟩) (by assumption) ?_
      · intro w9 hSw
        (try dsimp only at hSw)
        go_simp
      (try simp only [Act.put, List.setIfInBounds_toArray, List.set_cons_zero, List.set_cons_succ])
      refine wpAnyH_ready (rs := [8]) (by kernel_rfl) (by simp) ?_
      refine (AllReadyH.cons (o := { dst := some 114, op := Go.Op.call { callee := Go.Callee.value (Go.Operand.func 21), args := #[Go.Operand.tmp 109, Go.Operand.tmp 113], argTypes := #[38, 38] }, type := 4, pos := "law.go:122", after := #[{ on := 3, ground := Go.Ground.data }, { on := 7, ground := Go.Ground.data }], guard := none }) rfl (fun K hK => ?_) AllReadyH.nil)
      go_simp
      refine (C21.out _ KD.out).mono ?_
      rintro o w7 ⟨rfl, K7⟩
      have KB : Hid (Kept (fun _ => False) wo w7) := KD.out.trans K7 (fun _ _ z => z)
      refine hK.out _ _ ?_ (fun hHeld => ?_)
      · exact MK.out _ KB.out
      clear hK K K7
      (try simp only [Act.put, List.setIfInBounds_toArray, List.set_cons_zero, List.set_cons_succ])
      refine wpAnyH_take (i := 9) (oi := { dst := some 115, op := Go.Op.unOp Go.UnOp.not 4 (Go.Operand.tmp 114), type := 4, pos := "law.go:122", after := #[{ on := 8, ground := Go.Ground.data }], guard := none }) (v := .bool false) rfl (by kernel_rfl) (by kernel_rfl) (by kernel_rfl) (fun _ _ _ h => h) (Or.inl ⟨by rfl, ?_⟩) (by assumption) ?_
      · intro w9 hSw
        (try dsimp only at hSw)
        go_simp
      (try simp only [Act.put, List.setIfInBounds_toArray, List.set_cons_zero, List.set_cons_succ])
      refine wpAnyH_done (by kernel_rfl) ?_ _
      clear hHeld MK
      have N : Hid (PC w w7 (some ⟨gb, 0, none⟩) k d L' ss) := S.out.k0 KB.out
      go_wp2_with fail
      go_roundw
      case rel => exact ⟨i + 1, by go_num, by omega, N⟩
      case measure => simp [intOf] <;> omega
    · have i1 : ¬ (i : Int) < (k : Int) := by omega
      have KO : Hid (Kept (fun _ => False) w wo) := S.out.kept
      clear S hi rm n0 nd
      obtain ⟨r, hr⟩ : ∃ r, parL t.data.toList = r := ⟨_, rfl⟩
      have RZ : Hid (r.1.length ≤ 4096 ∧ FI 0 r.1 ∧ ∀ s ∈ r.1, GSm 33554432 s) := by
        have z : t.data.toList.length = t.size := Array.length_toList
        have z2 := H.out.2.2.2.2.2
        rw [← hr]
        exact ⟨par_4096 _, par_fi _ (by omega), fun s hs => (par_gsm _ s hs).mono (by omega)⟩
      have C22 : Hid (Calls Tryd.prog 22 #[.string t] wo fun o w' => ∃ (p5 : Option Addr) (k5 c5 : Nat), o = .returned (.tuple #[.slice p5 k5 c5, .int .i64 (r.2.1 : Int), .int .i64 r.2.2]) ∧ Hid (∃ L5, PX wo w' p5 k5 c5 L5 r.1)) := by
        refine (hRefParse H.out.2.2.2.2.2 (H.out.2.2.2.2.1.kept KO.out)).mono ?_
        rintro o w5 ⟨p5, k5, c5, L5, r5, rfl, e5, P5⟩
        rw [hr] at e5
        subst e5
        exact ⟨p5, k5, c5, rfl, L5, P5⟩
      have C14 : Hid (∀ V, Kept (fun _ => False) w V → Calls Tryd.prog 14 #[.string t] V fun o w' => ∃ (p5 : Option Addr) (k5 c5 : Nat), o = .returned (.tuple #[.slice p5 k5 c5, .int .i64 (r.2.1 : Int), .int .i64 r.2.2]) ∧ Hid (∃ L5, PX V w' p5 k5 c5 L5 r.1 ∧ Ord L5)) := fun V K => by
        refine (hParseO t V (by have := H.out.2.2.2.2.2; omega) (H.out.2.2.1.kept K) (H.out.2.2.2.1.kept K)).mono ?_
        rintro o w5 ⟨p5, k5, c5, L5, r5, rfl, e5, P5, O5⟩
        rw [hr] at e5
        subst e5
        exact ⟨p5, k5, c5, rfl, L5, P5, O5⟩
      obtain ⟨rn, hrn⟩ : ∃ rn, r.2.1 = rn := ⟨_, rfl⟩
      obtain ⟨re, hre⟩ : ∃ re, r.2.2 = re := ⟨_, rfl⟩
      rw [hrn, hre] at C22 C14
      clear hr hrn hre
      go_wp2_with fail
      refine C22.out.mono ?_
      rintro o w5 ⟨p5, k5, c5, rfl, X5⟩
      clear C22
      obtain ⟨L5, P5⟩ := X5.out
      have KV : Hid (Kept (fun _ => False) w w5) := KO.out.trans P5.kept (fun _ _ z => z)
      have E50 : Hid (k5 = r.1.length) := P5.slen.symm
      have Y5 : Hid (SLs w5 p5 k5 c5 L5 r.1) := P5.sls RZ.out.2.2 (Nat.le_refl _)
      clear X5 P5
      go_wp2_with fail
      refine (C14.out _ KV.out).mono ?_
      rintro o w6 ⟨p6, k6, c6, rfl, X6⟩
      obtain ⟨L6, P6, O6⟩ := X6.out
      have e6 : k6 = k5 := by rw [E50.out]; exact P6.slen.symm
      subst e6
      have E5 : Hid (k6 = r.1.length) := E50.out
      have C15 : Hid (Calls Tryd.prog 15 #[.slice p6 k6 c6, .slice p5 k6 c5] w6 fun o w' => o = .returned (.bool true) ∧ Kept (fun _ => False) w6 w') := hSames (P6.sls RZ.out.2.2 (Nat.le_refl _)) (Y5.out.kept P6.kept)
      have C23 : Hid (∀ V, Kept (fun _ => False) w6 V → Calls Tryd.prog 23 #[.slice p6 k6 c6] V fun o w' => o = .returned (.bool true) ∧ Kept (fun _ => False) w5 w') := fun V K => hAlone (P6.k0 K) O6 (by rw [E5.out]; exact RZ.out.1) RZ.out.2.1
      clear X6 P6 O6 E50
      go_wp2_with fail
      refine C15.out.mono ?_
      rintro o w7 ⟨rfl, K7⟩
      have K70 : Hid (Kept (fun _ => False) w6 w7) := K7
      clear K7 C15
      go_wp2_with fail
      refine (C23.out _ K70.out).mono ?_
      rintro o w8 ⟨rfl, K8⟩
      have Y8 : Hid (SLs w8 p5 k6 c5 L5 r.1) := Y5.out.kept K8
      have K80 : Hid (Kept (fun _ => False) w w8) := KV.out.trans K8 (fun _ _ z => z)
      clear K8 K70 C23 Y5 KV
      go_wp2_with fail
      refine (C14.out _ K80.out).mono ?_
      rintro o w9 ⟨p9, k9, c9, rfl, X9⟩
      obtain ⟨L9, P9, _⟩ := X9.out
      have e9 : k9 = k6 := by rw [E5.out]; exact P9.slen.symm
      subst e9
      have Y9 : Hid (SLs w9 p9 k9 c9 L9 r.1 ∧ SLs w9 p5 k9 c5 L5 r.1) := ⟨P9.sls RZ.out.2.2 (Nat.le_refl _), Y8.out.kept P9.kept⟩
      have K90 : Hid (Kept (fun _ => False) w w9) := K80.out.trans P9.kept (fun _ _ z => z)
      clear X9 P9 Y8 K80 C14
      have C9 : Hid (Calls Tryd.prog 9 #[.string t] w9 (RetF fun N K D C e w' => CfA t N K D C e ∧ Kept (fun _ => False) w9 w')) := hConfig t w9 (by have := H.out.2.2.2.2.2; omega) (H.out.2.2.1.kept K90.out)
      go_wp2_with fail
      refine C9.out.mono ?_
      rintro o w10 ⟨N, Kk, D, C, e1, rfl, A10, K10⟩
      have A0 : Hid (CfS t.data.toList N Kk D C e1) := A10.all
      have Q0 : Hid (Kept (fun _ => False) w9 w10) := K10
      clear A10 K10 C9
      go_upto_region 24 with fail
      obtain ⟨W11, hW11⟩ : ∃ W, W = w10.alloc (.cells #[.int .i64 N, .int .i64 Kk, .int .i64 D] 23) := ⟨_, rfl⟩
      obtain ⟨B, hB⟩ : ∃ B, B = w10.heap.size := ⟨_, rfl⟩
      have N11 : Hid (Kept (fun _ => False) w9 W11 ∧ W11.heap[B]? = some (.cells #[.int .i64 N, .int .i64 Kk, .int .i64 D] 23 (0, 0))) := by
        rw [hW11, hB]
        exact ⟨Q0.out.alloc _, alloc_new _ _⟩
      rw [← hW11, ← hB]
      clear hW11 hB Q0
      have C24 : Hid (Calls Tryd.prog 24 #[.string t] W11 fun o w' => o = .returned (.tuple #[.agg #[.int .i64 N, .int .i64 Kk, .int .i64 D], .int .i64 C, .int .i64 e1]) ∧ Kept (fun _ => False) W11 w') := by
        refine (hRefCfg (w := W11) H.out.2.2.2.2.2).mono ?_
        rintro o w12 ⟨N', K', D', C', e', rfl, A', K12⟩
        obtain ⟨rfl, rfl, rfl, rfl, rfl⟩ := A0.out.one A'
        exact ⟨rfl, K12⟩
      go_wp2_with fail
      refine C24.out.mono ?_
      rintro o w12 ⟨rfl, K12⟩
      have Q1 : Hid (Kept (fun _ => False) W11 w12) := K12
      clear K12 C24 A0
      go_upto_region 25 with fail
      obtain ⟨W13, hW13⟩ : ∃ W, W = w12.alloc (.cells #[.int .i64 N, .int .i64 Kk, .int .i64 D] 23) := ⟨_, rfl⟩
      obtain ⟨B2, hB2⟩ : ∃ B, B = w12.heap.size := ⟨_, rfl⟩
      have N13 : Hid (Kept (fun _ => False) W11 W13 ∧ W13.heap[B2]? = some (.cells #[.int .i64 N, .int .i64 Kk, .int .i64 D] 23 (0, 0))) := by
        rw [hW13, hB2]
        exact ⟨Q1.out.alloc _, alloc_new _ _⟩
      rw [← hW13, ← hB2]
      clear hW13 hB2 Q1
      have K13 : Hid (Kept (fun _ => False) w9 W13) := N11.out.1.trans N13.out.1 (fun _ _ z => z)
      have C15 : Hid (Calls Tryd.prog 15 #[.slice p9 k9 c9, .slice p5 k9 c5] W13 fun o w' => o = .returned (.bool true) ∧ Kept (fun _ => False) W13 w') := hSames (Y9.out.1.kept K13.out) (Y9.out.2.kept K13.out)
      go_wp2_with fail
      refine C15.out.mono ?_
      rintro o w14 ⟨rfl, K14⟩
      have F1 : Hid (w14.heap[B]? = some (.cells #[.int .i64 N, .int .i64 Kk, .int .i64 D] 23 (0, 0))) := K14.get (N13.out.1.get N11.out.2 (fun z => z)) (fun z => z)
      have F2 : Hid (w14.heap[B2]? = some (.cells #[.int .i64 N, .int .i64 Kk, .int .i64 D] 23 (0, 0))) := K14.get N13.out.2 (fun z => z)
      have KF : Hid (Kept (fun _ => False) w w14) := (K90.out.trans K13.out (fun _ _ z => z)).trans K14 (fun _ _ z => z)
      have b0 := cell_blk F1.out 0 (v := .int .i64 N) rfl
      have b1 := cell_blk F1.out 1 (v := .int .i64 Kk) rfl
      have b2 := cell_blk F1.out 2 (v := .int .i64 D) rfl
      have d0 := cell_blk F2.out 0 (v := .int .i64 N) rfl
      have d1 := cell_blk F2.out 1 (v := .int .i64 Kk) rfl
      have d2 := cell_blk F2.out 2 (v := .int .i64 D) rfl
      clear K14 C15 N11 N13 K13 F1 F2 Y9
      go_wp2_with fail
      go_ret
      exact ⟨rfl, KF.out⟩
end Go.Proofs.YtonfefhegghapaaDoor
