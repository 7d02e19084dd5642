import Derived.Test.YtbangbobfeflcaaGreatDoorKKy
import Derived.Deep.Cut
import Derived.BigQuiet
import Derived.Deep.RegionHeldLaw
namespace Go.Proofs.YtbangbobfeflcaaGreatDoor
open Go.RowKit 

theorem OF.erd {w wr : World} {es : List Ev} {k : ByteArray} {p p0 : Option Addr} {n c n0 c0 : Nat} {L : List Ev} (h : OF w wr es k p n c L) (er : ERd w p0 n0 c0 es) (hn : n = (placesS es k).length) : ERd wr p n c L := h.ps.row.erd (fun x hx => reads_own (h.ps.val x hx) (by
  obtain ⟨m, hm⟩ := List.mem_iff_getElem?.1 hx
  have hl := (List.getElem?_eq_some_iff.1 hm).1
  have ln := h.ps.row.len
  obtain ⟨q, hq⟩ : ∃ q, (placesS es k)[m]? = some q := ⟨_, List.getElem?_eq_getElem (by omega)⟩
  obtain ⟨e, he⟩ : ∃ e, es[q]? = some e := ⟨_, List.getElem?_eq_getElem (places_ltS q (List.mem_of_getElem? hq))⟩
  rw [(h.at_ m q x e hm hq he).2.2.2.2.2.2.2.2.2]
  exact (er.rd e (List.mem_of_getElem? he)).bytes))
theorem bytes_ne {a b : ByteArray} (h : a ≠ b) : (a.toList == b.toList) = false := by
  refine beq_false_of_ne (fun z => h ?_)
  rw [Go.ByteArray.toList_eq, Go.ByteArray.toList_eq] at z
  obtain ⟨⟨a⟩⟩ := a
  obtain ⟨⟨b⟩⟩ := b
  simpa using z
theorem w64x (z : Int) : IntKind.i64.wrap z = wrap64 z := by
  rw [IntKind.wrap_i64]
  unfold wrap64
  rfl
set_option maxRecDepth 100000 in
set_option maxHeartbeats 8000000 in
theorem hLaw5 {w : World} {p0 : Option Addr} {n0 c0 : Nat} {es : List Ev} (er : ERd w p0 n0 c0 es) (hb : n0 ≤ 1500000000000) (ck : ∀ e ∈ es, strF e.key) (vb : ∀ e ∈ es, e.vn + 1 ≤ 140737488355328) (Gb : Glob w) : Calls Tryz.prog 5 #[.slice p0 n0 c0] w fun o w' => o = .returned (.bool true) ∧ Kept (fun _ => False) w w' := by
  have rm := er.room
  have C15 : Hid (Calls Tryz.prog 15 #[.slice p0 n0 c0] w (RetKy fun p n _ ks w' => KY w w' es p n ks)) := hKeys er hb ck
  have H : Hid (ERd w p0 n0 c0 es ∧ (∀ e ∈ es, strF e.key) ∧ (∀ e ∈ es, e.vn + 1 ≤ 140737488355328) ∧ Glob w ∧ es.length = n0) := ⟨er, ck, vb, Gb, er.len⟩
  have C16 : Hid (∀ (V : World) (k : ByteArray), Kept (fun _ => False) w V → strF k → Calls Tryz.prog 16 #[.slice p0 n0 c0, .string k] V fun o w' => ∃ (p : Option Addr) (c : Nat) (L : List Ev), o = .returned (.slice p (placesS es k).length c) ∧ Hid (OF V w' es k p (placesS es k).length c L)) := fun V k K hk => hOf (H.out.1.k0 K) hb H.out.2.1 H.out.2.2.1 hk
  have C18 : Hid (∀ V, Kept (fun _ => False) w V → Calls Tryz.prog 18 #[] V fun o w' => o = .returned (.bool true) ∧ Kept (fun _ => False) V w') := fun V K => hTaken V (H.out.2.2.2.1.kept K)
  clear er ck vb Gb
  go_enter Tryz.func5, Tryz.ntmps5
  go_wp2_with fail
  refine C15.out.mono ?_
  rintro o w1 ⟨p1, kn, c1, ks, rfl, Y⟩
  have HY : Hid (KY w w1 es p1 kn ks) := Y
  have knb : kn ≤ 1500000000000 := by have h1 := Y.small; have h2 := H.out.2.2.2.2; omega
  obtain ⟨f, hf⟩ : ∃ f : ByteArray → Nat, f = fun k => (placesS es k).length := ⟨_, rfl⟩
  have HF : Hid (f = fun k => (placesS es k).length) := hf
  have SB : Hid (∀ i, ((ks.take i).map f).sum ≤ n0) := fun i => by
    have q := sum_part f ks i
    have q2 := Y.all
    rw [← hf] at q2
    have q3 := H.out.2.2.2.2
    omega
  have S0 : Hid (Kept (fun _ => False) w1 w1) := Kept.refl _ _
  clear Y hf C15
  go_upto_region 4 with fail
  go_loopw [4, 5, 6, 7, 8] (fun u4 u5 _ _ _ wr => ∃ (i sm : Nat), u4 = .int .i64 (sm : Int) ∧ u5 = .int .i64 (i : Int) ∧ i ≤ kn ∧ sm ≤ n0 ∧ Hid (sm = ((ks.take i).map f).sum ∧ Kept (fun _ => False) w1 wr)) (fun _ u5 _ _ _ _ => kn - (intOf u5).toNat)
  case atStart => exact ⟨0, 0, rfl, rfl, Nat.zero_le _, Nat.zero_le _, by simp, S0.out⟩
  case round =>
    clear S0
    obtain ⟨i, sm, rfl, rfl, hi, smb, S⟩ := hrel
    obtain ⟨wo, hwo⟩ : ∃ wo, wo = wr := ⟨_, rfl⟩
    rw [← hwo] at S ⊢
    clear hwo
    by_cases hlt : i < kn
    · have lti : (i : Int) < (kn : Int) := by omega
      obtain ⟨k, hk⟩ : ∃ k, ks[i]? = some k := ⟨_, List.getElem?_eq_getElem (by rw [HY.out.len]; exact hlt)⟩
      obtain ⟨g, eg, kc⟩ := HY.out.cells i k hk
      subst eg
      have KC : Hid (∀ V, Kept (fun _ => False) w1 V → V.cell? ⟨g, i, none⟩ = some (.string k)) := fun V K => K.cell kc (fun z => z)
      have HK : Hid (ks[i]? = some k ∧ strF k ∧ 0 < (placesS es k).length) := ⟨hk, HY.out.has k (List.mem_of_getElem? hk)⟩
      clear hk kc
      obtain ⟨m, hm⟩ : ∃ m, (placesS es k).length = m := ⟨_, rfl⟩
      have HM : Hid ((placesS es k).length = m) := hm
      have m0 : 0 < m := by rw [← hm]; exact HK.out.2.2
      have mb : m ≤ n0 := by rw [← hm, ← H.out.2.2.2.2]; exact placesS_len es k
      have mz : ((m : Int) == 0) = false := by
        have : ¬ (m : Int) = 0 := by omega
        simpa using this
      have mz2 : ¬ (m : Int) = 0 := by omega
      have D16 : Hid (∀ V, Kept (fun _ => False) w1 V → Calls Tryz.prog 16 #[.slice p0 n0 c0, .string k] V fun o w' => ∃ (p : Option Addr) (c : Nat), o = .returned (.slice p m c) ∧ Hid (∃ L, OF V w' es k p m c L)) := fun V KV => by
        rw [← hm]
        refine (C16.out V k (HY.out.kept.trans KV (fun _ _ z => z)) HK.out.2.1).mono ?_
        rintro o w' ⟨p, c, L, rfl, X⟩
        exact ⟨p, c, rfl, L, X.out⟩
      clear hm
      go_upto_region 6 with fail
      go_cut [30] from 17 to 29 (fun u30 wc => u30 = .bool false ∧ Hid (Kept (fun _ => False) w1 wc))
      case first =>
        have i0 := KC.out _ S.out.2
        cases i with
        | zero =>
          have z0 : ¬ (0 : Int) < 0 := by omega
          go_quiet (fail)
          all_goals (go_wp2_with fail; go_meet; exact ⟨rfl, S.out.2.drewN _⟩)
        | succ i' =>
          obtain ⟨a, ha⟩ : ∃ a, ks[i']? = some a := ⟨_, List.getElem?_eq_getElem (by rw [HY.out.len]; omega)⟩
          obtain ⟨g', eg', ac⟩ := HY.out.cells i' a ha
          obtain rfl : g = g' := by simpa using eg'
          have i2 : wo.cell? ⟨g, i', none⟩ = some (.string a) := S.out.2.cell ac (fun z => z)
          have ls : Op.bytesLess a.toList k.toList = true := by rw [Go.ByteArray.toList_eq, Go.ByteArray.toList_eq]; exact HY.out.rise i' a k ha HK.out.1
          obtain ⟨ii, hii⟩ : ∃ ii, i' + 1 = ii := ⟨_, rfl⟩
          rw [hii] at i0 lti ⊢
          have p1 : (0 : Int) < (ii : Int) := by omega
          have p1' : 0 < ii := by omega
          have q1 : wrap64 ((ii : Int) - 1) = (i' : Int) := by rw [← w64x, IntKind.wrap_i64]; omega
          have q1' : IntKind.i64.wrap ((ii : Int) - 1) = (i' : Int) := by rw [IntKind.wrap_i64]; omega
          have q2 : (0 : Int) ≤ (i' : Int) := by omega
          have q3 : (i' : Int) < (kn : Int) := by omega
          have q4 : (0 : Int) ≤ (ii : Int) := by omega
          have SS : Hid (Kept (fun _ => False) w1 wo) := S.out.2
          have HII : Hid (i' + 1 = ii) := hii
          clear ha ac eg' hii S
          go_quiet (fail)
          all_goals (go_wp2_with fail; have hii := HII.out; subst hii; go_meet; exact ⟨rfl, SS.out.drewN _⟩)
      case rest =>
      obtain ⟨rfl, S2⟩ := hcut
      have SM : Hid (sm = ((ks.take i).map f).sum) := S.out.1
      clear S
      rename_i K2 hK2
      refine hK2 _ _ ?_
      have kc := KC.out _ S2.out
      go_wp2_with fail
      refine (D16.out _ S2.out).mono ?_
      rintro o w6 ⟨p6, c6, rfl, X6⟩
      obtain ⟨L, X⟩ := X6.out
      have HL : Hid (OF wc w6 es k p6 m c6 L ∧ Kept (fun _ => False) w1 w6 ∧ ERd wc p0 n0 c0 es) := ⟨X, S2.out.trans X.ps.kept (fun _ _ z => z), H.out.1.k0 (HY.out.kept.trans S2.out (fun _ _ z => z))⟩
      have T0 : Hid (Kept (fun _ => False) w6 w6) := Kept.refl _ _
      clear X X6 D16 kc
      go_upto_region 13 with fail
      go_loopw [7, 8] (fun u7 u8 wr => ∃ (j at_ : Nat), u7 = .int .i64 (at_ : Int) ∧ u8 = .int .i64 (j : Int) ∧ j ≤ n0 ∧ at_ ≤ m ∧ Hid (at_ = (placesS (es.take j) k).length ∧ Kept (fun _ => False) w6 wr)) (fun _ u8 _ => n0 - (intOf u8).toNat)
      case atStart => exact ⟨0, 0, rfl, rfl, Nat.zero_le _, Nat.zero_le _, rfl, T0.out⟩
      case round =>
        clear T0
        obtain ⟨j, at_, rfl, rfl, hj, atm, T⟩ := hrel
        obtain ⟨wq, hwq⟩ : ∃ wq, wq = wr := ⟨_, rfl⟩
        rw [← hwq] at T ⊢
        clear hwq
        by_cases hjt : j < n0
        · have ltj : (j : Int) < (n0 : Int) := by omega
          have kc := KC.out _ (HL.out.2.1.trans T.out.2 (fun _ _ z => z))
          obtain ⟨b, off, e, eb, he, d0, d1, d2, d3, d4, d5, d6, d7, d8, rd⟩ := (HL.out.2.2.k0 (HL.out.1.ps.kept.trans T.out.2 (fun _ _ z => z))).at hjt
          subst eb
          have HE : Hid (es[j]? = some e ∧ Reads wq e.va e.vn e.vc e.val) := ⟨he, rd⟩
          clear he rd
          by_cases hek : e.key = k
          · subst hek
            have hat := places_atS HE.out.1 (k := e.key) rfl
            rw [← T.out.1] at hat
            have alt : at_ < m := by rw [← HM.out]; exact (List.getElem?_eq_some_iff.1 hat).1
            obtain ⟨lb, lo, x, el, hx, l0, l1, l2, l3, l4, l5, l6, l7, l8, rx⟩ := ((HL.out.1.erd HL.out.2.2 HM.out.symm).k0 T.out.2).at alt
            subst el
            have al := HL.out.1.at_ at_ j x e hx hat HE.out.1
            obtain ⟨a1, a2, a3, a4, a5, a6, a7, a8, a9, a10⟩ := al
            rw [a1] at l0
            rw [a2] at l1
            rw [a3] at l2
            rw [a4] at l3
            rw [a5] at l4
            rw [a6] at l5
            rw [a7] at l6
            rw [a8] at l7
            rw [a9] at l8
            rw [a6, a10] at rx
            have C17 : Hid (∀ V, Kept (fun _ => False) wq V → Calls Tryz.prog 17 #[.agg #[.int .i64 e.kind, .int .i64 e.client, .int .i64 e.op, .bool e.put, .string e.key, .slice x.va e.vn x.vc, .int .i64 e.st, .int .i64 e.tx, .int .i64 e.ty], .agg #[.int .i64 e.kind, .int .i64 e.client, .int .i64 e.op, .bool e.put, .string e.key, .slice e.va e.vn e.vc, .int .i64 e.st, .int .i64 e.tx, .int .i64 e.ty]] V fun o w' => o = .returned (.bool true) ∧ Kept (fun _ => False) V w') := fun V KV => hEqual (Reads.kept KV rx (fun _ _ z => z)) (Reads.kept KV HE.out.2 (fun _ _ z => z))
            have MK : Hid (∀ V, Kept (fun _ => False) wq V → (V.cell? ⟨lb, lo + at_ * 9, none⟩ = some (.int .i64 e.kind) ∧ V.cell? ⟨lb, lo + at_ * 9 + 1, none⟩ = some (.int .i64 e.client) ∧ V.cell? ⟨lb, lo + at_ * 9 + 2, none⟩ = some (.int .i64 e.op) ∧ V.cell? ⟨lb, lo + at_ * 9 + 3, none⟩ = some (.bool e.put) ∧ V.cell? ⟨lb, lo + at_ * 9 + 4, none⟩ = some (.string e.key) ∧ V.cell? ⟨lb, lo + at_ * 9 + 5, none⟩ = some (.slice x.va e.vn x.vc) ∧ V.cell? ⟨lb, lo + at_ * 9 + 6, none⟩ = some (.int .i64 e.st) ∧ V.cell? ⟨lb, lo + at_ * 9 + 7, none⟩ = some (.int .i64 e.tx) ∧ V.cell? ⟨lb, lo + at_ * 9 + 8, none⟩ = some (.int .i64 e.ty) ∧ V.cell? ⟨b, off + j * 9, none⟩ = some (.int .i64 e.kind) ∧ V.cell? ⟨b, off + j * 9 + 1, none⟩ = some (.int .i64 e.client) ∧ V.cell? ⟨b, off + j * 9 + 2, none⟩ = some (.int .i64 e.op) ∧ V.cell? ⟨b, off + j * 9 + 3, none⟩ = some (.bool e.put) ∧ V.cell? ⟨b, off + j * 9 + 4, none⟩ = some (.string e.key) ∧ V.cell? ⟨b, off + j * 9 + 5, none⟩ = some (.slice e.va e.vn e.vc) ∧ V.cell? ⟨b, off + j * 9 + 6, none⟩ = some (.int .i64 e.st) ∧ V.cell? ⟨b, off + j * 9 + 7, none⟩ = some (.int .i64 e.tx) ∧ V.cell? ⟨b, off + j * 9 + 8, none⟩ = some (.int .i64 e.ty))) := fun V KV => ⟨KV.cell l0 (fun z => z), KV.cell l1 (fun z => z), KV.cell l2 (fun z => z), KV.cell l3 (fun z => z), KV.cell l4 (fun z => z), KV.cell l5 (fun z => z), KV.cell l6 (fun z => z), KV.cell l7 (fun z => z), KV.cell l8 (fun z => z), KV.cell d0 (fun z => z), KV.cell d1 (fun z => z), KV.cell d2 (fun z => z), KV.cell d3 (fun z => z), KV.cell d4 (fun z => z), KV.cell d5 (fun z => z), KV.cell d6 (fun z => z), KV.cell d7 (fun z => z), KV.cell d8 (fun z => z)⟩
            have alI : (at_ : Int) < (m : Int) := by omega
            have al2 : ¬ (m : Int) ≤ (at_ : Int) := by omega
            have eq0 : (e.key.toList == e.key.toList) = true := by simp
            clear a1 a2 a3 a4 a5 a6 a7 a8 a9 a10 hx hat rx l0 l1 l2 l3 l4 l5 l6 l7 l8 d0 d1 d2 d3 d5 d6 d7 d8
            go_upto_region 15 with fail
            go_quiet (fail)
            clear d4 kc eq0
            go_upto_region 16 with fail
            have KD : Hid (Kept (fun _ => False) wq (wq.drewN nq).drew) := ((Kept.refl _ _).drewN nq).drew
            refine wp_region_held_drew (S := (fun V => V.cell? ⟨lb, lo + at_ * 9, none⟩ = some (.int .i64 e.kind) ∧ V.cell? ⟨lb, lo + at_ * 9 + 1, none⟩ = some (.int .i64 e.client) ∧ V.cell? ⟨lb, lo + at_ * 9 + 2, none⟩ = some (.int .i64 e.op) ∧ V.cell? ⟨lb, lo + at_ * 9 + 3, none⟩ = some (.bool e.put) ∧ V.cell? ⟨lb, lo + at_ * 9 + 4, none⟩ = some (.string e.key) ∧ V.cell? ⟨lb, lo + at_ * 9 + 5, none⟩ = some (.slice x.va e.vn x.vc) ∧ V.cell? ⟨lb, lo + at_ * 9 + 6, none⟩ = some (.int .i64 e.st) ∧ V.cell? ⟨lb, lo + at_ * 9 + 7, none⟩ = some (.int .i64 e.tx) ∧ V.cell? ⟨lb, lo + at_ * 9 + 8, none⟩ = some (.int .i64 e.ty) ∧ V.cell? ⟨b, off + j * 9, none⟩ = some (.int .i64 e.kind) ∧ V.cell? ⟨b, off + j * 9 + 1, none⟩ = some (.int .i64 e.client) ∧ V.cell? ⟨b, off + j * 9 + 2, none⟩ = some (.int .i64 e.op) ∧ V.cell? ⟨b, off + j * 9 + 3, none⟩ = some (.bool e.put) ∧ V.cell? ⟨b, off + j * 9 + 4, none⟩ = some (.string e.key) ∧ V.cell? ⟨b, off + j * 9 + 5, none⟩ = some (.slice e.va e.vn e.vc) ∧ V.cell? ⟨b, off + j * 9 + 6, none⟩ = some (.int .i64 e.st) ∧ V.cell? ⟨b, off + j * 9 + 7, none⟩ = some (.int .i64 e.tx) ∧ V.cell? ⟨b, off + j * 9 + 8, none⟩ = some (.int .i64 e.ty))) (by kernel_rfl) ?_ (fun hHeld => ?_)
            · exact MK.out _ KD.out
            refine wpAnyH_take (i := 0) (oi := { dst := some 56, op := Go.Op.move (Go.Operand.tmp 7), type := 3, pos := "outright.go:200", after := #[], guard := none }) (v := .int .i64 (at_ : Int)) rfl (by kernel_rfl) (by kernel_rfl) (by kernel_rfl) (fun _ _ _ h => h) (Or.inl ⟨by rfl, ?_⟩) (by assumption) ?_
            · intro w9 hSw
              (try dsimp only at hSw)
              go_simp
            (try simp only [Act.put, List.setIfInBounds_toArray, List.set_cons_zero, List.set_cons_succ])
            refine wpAnyH_take (i := 1) (oi := { dst := some 57, op := Go.Op.move (Go.Operand.tmp 6), type := 22, pos := "outright.go:200", after := #[], guard := none }) (v := .slice (some ⟨lb, lo, none⟩) m c6) rfl (by kernel_rfl) (by kernel_rfl) (by kernel_rfl) (fun _ _ _ h => h) (Or.inl ⟨by rfl, ?_⟩) (by assumption) ?_
            · intro w9 hSw
              (try dsimp only at hSw)
              go_simp
            (try simp only [Act.put, List.setIfInBounds_toArray, List.set_cons_zero, List.set_cons_succ])
            refine wpAnyH_take (i := 2) (oi := { dst := some 58, op := Go.Op.call { callee := Go.Callee.builtin Go.Builtin.len, args := #[Go.Operand.tmp 57], argTypes := #[22] }, type := 3, pos := "outright.go:200", after := #[{ on := 1, ground := Go.Ground.data }], guard := none }) (v := .int .i64 (m : Int)) rfl (by kernel_rfl) (by kernel_rfl) (by kernel_rfl) (fun _ _ _ h => h) (Or.inl ⟨by rfl, ?_⟩) (by assumption) ?_
            · intro w9 hSw
              (try dsimp only at hSw)
              go_simp
            (try simp only [Act.put, List.setIfInBounds_toArray, List.set_cons_zero, List.set_cons_succ])
            refine wpAnyH_take (i := 3) (oi := { dst := some 59, op := Go.Op.binOp Go.BinOp.geq 3 (Go.Operand.tmp 56) (Go.Operand.tmp 58) 3, type := 4, pos := "outright.go:200", after := #[{ on := 0, ground := Go.Ground.data }, { on := 2, ground := Go.Ground.data }], guard := none }) (v := .bool false) rfl (by kernel_rfl) (by kernel_rfl) (by kernel_rfl) (fun _ _ _ h => h) (Or.inl ⟨by rfl, ?_⟩) (by assumption) ?_
            · intro w9 hSw
              (try dsimp only at hSw)
              go_simp
            (try simp only [Act.put, List.setIfInBounds_toArray, List.set_cons_zero, List.set_cons_succ])
            refine wpAnyH_take (i := 4) (oi := { dst := some 60, op := Go.Op.move (Go.Operand.tmp 59), type := 4, pos := "outright.go:200", after := #[{ on := 3, ground := Go.Ground.data }], guard := none }) (v := .bool false) rfl (by kernel_rfl) (by kernel_rfl) (by kernel_rfl) (fun _ _ _ h => h) (Or.inl ⟨by rfl, ?_⟩) (by assumption) ?_
            · intro w9 hSw
              (try dsimp only at hSw)
              go_simp
            (try simp only [Act.put, List.setIfInBounds_toArray, List.set_cons_zero, List.set_cons_succ])
            refine wpAnyH_take (i := 5) (oi := { dst := some 61, op := Go.Op.move (Go.Operand.tmp 6), type := 22, pos := "outright.go:200", after := #[{ on := 4, ground := Go.Ground.guard }], guard := some (4, false) }) (v := .slice (some ⟨lb, lo, none⟩) m c6) rfl (by kernel_rfl) (by kernel_rfl) (by kernel_rfl) (fun _ _ _ h => h) (Or.inl ⟨by rfl, ?_⟩) (by assumption) ?_
            · intro w9 hSw
              (try dsimp only at hSw)
              go_simp
            (try simp only [Act.put, List.setIfInBounds_toArray, List.set_cons_zero, List.set_cons_succ])
            refine wpAnyH_take (i := 6) (oi := { dst := some 62, op := Go.Op.move (Go.Operand.tmp 7), type := 3, pos := "outright.go:200", after := #[{ on := 4, ground := Go.Ground.guard }], guard := some (4, false) }) (v := .int .i64 (at_ : Int)) rfl (by kernel_rfl) (by kernel_rfl) (by kernel_rfl) (fun _ _ _ h => h) (Or.inl ⟨by rfl, ?_⟩) (by assumption) ?_
            · intro w9 hSw
              (try dsimp only at hSw)
              go_simp
            (try simp only [Act.put, List.setIfInBounds_toArray, List.set_cons_zero, List.set_cons_succ])
            refine wpAnyH_take (i := 7) (oi := { dst := some 63, op := Go.Op.indexAddr 22 (Go.Operand.tmp 61) (Go.Operand.tmp 62), type := 0, pos := "outright.go:200", after := #[{ on := 5, ground := Go.Ground.data }, { on := 6, ground := Go.Ground.data }, { on := 4, ground := Go.Ground.guard }], guard := some (4, false) }) (v := .pointer (some ⟨lb, lo + at_ * 9, none⟩)) rfl (by kernel_rfl) (by kernel_rfl) (by kernel_rfl) (fun _ _ _ h => h) (Or.inl ⟨by rfl, ?_⟩) (by assumption) ?_
            · intro w9 hSw
              (try dsimp only at hSw)
              go_simp
            (try simp only [Act.put, List.setIfInBounds_toArray, List.set_cons_zero, List.set_cons_succ])
            refine wpAnyH_take (i := 8) (oi := { dst := some 64, op := Go.Op.load 39 (Go.Operand.tmp 63), type := 39, pos := "outright.go:200", after := #[{ on := 7, ground := Go.Ground.data }, { on := 4, ground := Go.Ground.guard }], guard := some (4, false) }) (v := .agg #[.int .i64 e.kind, .int .i64 e.client, .int .i64 e.op, .bool e.put, .string e.key, .slice x.va e.vn x.vc, .int .i64 e.st, .int .i64 e.tx, .int .i64 e.ty]) rfl (by kernel_rfl) (by kernel_rfl) (by kernel_rfl) (fun _ _ _ h => h) (Or.inl ⟨by rfl, ?_⟩) (by assumption) ?_
            · intro w9 hSw
              (try dsimp only at hSw)
              go_simp
            (try simp only [Act.put, List.setIfInBounds_toArray, List.set_cons_zero, List.set_cons_succ])
            refine wpAnyH_take (i := 9) (oi := { dst := some 65, op := Go.Op.move (Go.Operand.tmp 0), type := 22, pos := "outright.go:200", after := #[{ on := 4, ground := Go.Ground.guard }], guard := some (4, false) }) (v := .slice (some ⟨b, off, none⟩) n0 c0) rfl (by kernel_rfl) (by kernel_rfl) (by kernel_rfl) (fun _ _ _ h => h) (Or.inl ⟨by rfl, ?_⟩) (by assumption) ?_
            · intro w9 hSw
              (try dsimp only at hSw)
              go_simp
            (try simp only [Act.put, List.setIfInBounds_toArray, List.set_cons_zero, List.set_cons_succ])
            refine wpAnyH_take (i := 10) (oi := { dst := some 66, op := Go.Op.move (Go.Operand.tmp 8), type := 3, pos := "outright.go:200", after := #[{ on := 4, ground := Go.Ground.guard }], guard := some (4, false) }) (v := .int .i64 (j : Int)) rfl (by kernel_rfl) (by kernel_rfl) (by kernel_rfl) (fun _ _ _ h => h) (Or.inl ⟨by rfl, ?_⟩) (by assumption) ?_
            · intro w9 hSw
              (try dsimp only at hSw)
              go_simp
            (try simp only [Act.put, List.setIfInBounds_toArray, List.set_cons_zero, List.set_cons_succ])
            refine wpAnyH_take (i := 11) (oi := { dst := some 67, op := Go.Op.indexAddr 22 (Go.Operand.tmp 65) (Go.Operand.tmp 66), type := 0, pos := "outright.go:200", after := #[{ on := 9, ground := Go.Ground.data }, { on := 10, ground := Go.Ground.data }, { on := 4, ground := Go.Ground.guard }], guard := some (4, false) }) (v := .pointer (some ⟨b, off + j * 9, none⟩)) rfl (by kernel_rfl) (by kernel_rfl) (by kernel_rfl) (fun _ _ _ h => h) (Or.inl ⟨by rfl, ?_⟩) (by assumption) ?_
            · intro w9 hSw
              (try dsimp only at hSw)
              go_simp
            (try simp only [Act.put, List.setIfInBounds_toArray, List.set_cons_zero, List.set_cons_succ])
            refine wpAnyH_take (i := 12) (oi := { dst := some 68, op := Go.Op.load 39 (Go.Operand.tmp 67), type := 39, pos := "outright.go:200", after := #[{ on := 11, ground := Go.Ground.data }, { on := 4, ground := Go.Ground.guard }], guard := some (4, false) }) (v := .agg #[.int .i64 e.kind, .int .i64 e.client, .int .i64 e.op, .bool e.put, .string e.key, .slice e.va e.vn e.vc, .int .i64 e.st, .int .i64 e.tx, .int .i64 e.ty]) rfl (by kernel_rfl) (by kernel_rfl) (by kernel_rfl) (fun _ _ _ h => h) (Or.inl ⟨by rfl, ?_⟩) (by assumption) ?_
            · intro w9 hSw
              (try dsimp only at hSw)
              go_simp
            (try simp only [Act.put, List.setIfInBounds_toArray, List.set_cons_zero, List.set_cons_succ])
            refine wpAnyH_ready (rs := [13]) (by kernel_rfl) (by simp) ?_
            refine (AllReadyH.cons (o := { dst := some 69, op := Go.Op.call { callee := Go.Callee.value (Go.Operand.func 17), args := #[Go.Operand.tmp 64, Go.Operand.tmp 68], argTypes := #[39, 39] }, type := 4, pos := "outright.go:200", after := #[{ on := 8, ground := Go.Ground.data }, { on := 12, ground := Go.Ground.data }, { on := 4, ground := Go.Ground.chain }, { on := 4, ground := Go.Ground.guard }], guard := some (4, false) }) rfl (fun K hK => ?_) AllReadyH.nil)
            go_simp
            refine (C17.out _ KD.out).mono ?_
            rintro o w7 ⟨rfl, K7⟩
            have KA : Hid (Kept (fun _ => False) wq w7) := KD.out.trans K7 (fun _ _ z => z)
            refine hK.out _ _ ?_ (fun hHeld => ?_)
            · exact MK.out _ KA.out
            clear hK K K7
            (try simp only [Act.put, List.setIfInBounds_toArray, List.set_cons_zero, List.set_cons_succ])
            refine wpAnyH_take (i := 14) (oi := { dst := some 70, op := Go.Op.unOp Go.UnOp.not 4 (Go.Operand.tmp 69), type := 4, pos := "outright.go:200", after := #[{ on := 13, ground := Go.Ground.data }, { on := 4, ground := Go.Ground.guard }], guard := some (4, false) }) (v := .bool false) rfl (by kernel_rfl) (by kernel_rfl) (by kernel_rfl) (fun _ _ _ h => h) (Or.inl ⟨by rfl, ?_⟩) (by assumption) ?_
            · intro w9 hSw
              (try dsimp only at hSw)
              go_simp
            (try simp only [Act.put, List.setIfInBounds_toArray, List.set_cons_zero, List.set_cons_succ])
            refine wpAnyH_take (i := 15) (oi := { dst := some 71, op := Go.Op.pick (Go.Operand.tmp 60) (Go.Operand.const (Go.Value.bool true)) (Go.Operand.tmp 70), type := 4, pos := "outright.go:200", after := #[{ on := 4, ground := Go.Ground.data }, { on := 14, ground := Go.Ground.data }], guard := none }) (v := .bool false) rfl (by kernel_rfl) (by kernel_rfl) (by kernel_rfl) (fun _ _ _ h => h) (Or.inl ⟨by rfl, ?_⟩) (by assumption) ?_
            · intro w9 hSw
              (try dsimp only at hSw)
              go_simp
            (try simp only [Act.put, List.setIfInBounds_toArray, List.set_cons_zero, List.set_cons_succ])
            refine wpAnyH_done (by kernel_rfl) ?_ _
            clear hHeld MK
            have N : Hid (at_ + 1 = (placesS (es.take (j + 1)) e.key).length ∧ Kept (fun _ => False) w6 w7) := ⟨by rw [places_takeS _ HE.out.1, if_pos rfl, List.length_append, ← T.out.1]; rfl, T.out.2.trans KA.out (fun _ _ z => z)⟩
            clear T KA KD C17
            go_wp2_with fail
            go_roundw
            case rel => exact ⟨j + 1, at_ + 1, by go_num, by go_num, by omega, by omega, N⟩
            case measure => simp [intOf] <;> omega
          · have eb1 := bytes_ne hek
            have eb2 : (!(e.key.toList == k.toList)) = true := by rw [eb1]; rfl
            have N : Hid (at_ = (placesS (es.take (j + 1)) k).length ∧ Kept (fun _ => False) w6 wq) := ⟨by rw [places_takeS _ HE.out.1, if_neg hek]; exact T.out.1, T.out.2⟩
            clear T d0 d1 d2 d3 d5 d6 d7 d8
            go_upto_region 15 with fail
            go_quiet (fail)
            clear d4 kc
            go_wp2_with fail
            go_roundw
            case rel => exact ⟨j + 1, at_, rfl, by go_num, by omega, atm, N.out.1, N.out.2.drewN _⟩
            case measure => simp [intOf] <;> omega
        · have ltj : ¬ (j : Int) < (n0 : Int) := by omega
          have ea : at_ = m := by
            rw [T.out.1, List.take_of_length_le (by rw [H.out.2.2.2.2]; omega)]
            exact HM.out
          subst ea
          have smx : sm + at_ = ((ks.take (i + 1)).map f).sum := by
            rw [sum_next f HK.out.1, ← SM.out, HF.out]
            show sm + at_ = sm + (placesS es k).length
            rw [HM.out]
          have sbx : sm + at_ ≤ n0 := by rw [smx]; exact SB.out (i + 1)
          have N : Hid (sm + at_ = ((ks.take (i + 1)).map f).sum ∧ Kept (fun _ => False) w1 wq) := ⟨smx, HL.out.2.1.trans T.out.2 (fun _ _ z => z)⟩
          clear T smx
          go_wp2_with fail
          go_roundw
          case rel => exact ⟨i + 1, sm + at_, by go_num, by go_num, by omega, sbx, N⟩
          case measure => simp [intOf] <;> omega
    · have lti : ¬ (i : Int) < (kn : Int) := by omega
      obtain rfl : i = kn := by omega
      have smn : sm = n0 := by
        rw [S.out.1, List.take_of_length_le (by rw [HY.out.len]; exact Nat.le_refl _), HF.out, HY.out.all]
        exact H.out.2.2.2.2
      subst smn
      have KW : Hid (Kept (fun _ => False) w wo) := HY.out.kept.trans S.out.2 (fun _ _ z => z)
      clear S
      go_wp2_with fail
      refine (C18.out _ KW.out).mono ?_
      rintro o w9 ⟨rfl, K9⟩
      have KF : Hid (Kept (fun _ => False) w w9) := KW.out.trans K9 (fun _ _ z => z)
      clear K9 KW
      go_wp2_with fail
      go_ret
      exact ⟨rfl, KF.out⟩
end Go.Proofs.YtbangbobfeflcaaGreatDoor
