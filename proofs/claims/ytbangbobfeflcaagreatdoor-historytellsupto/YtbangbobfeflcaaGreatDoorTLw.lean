import Derived.Test.YtbangbobfeflcaaGreatDoorTLdJ
namespace Go.Proofs.YtbangbobfeflcaaGreatDoor
open Go.RowKit 

/-- append onto an owned row, at an operation that is guarded. -/
theorem wpList_append_g {ops : Array Oper} {rest : List Oper} {o : Oper} {a : Act} {Q : Exit → Act → World → Prop} (w : World) (hw : Region.wanted o (yielded ops a.tmps) = true) (s x : Operand) (t e tx : TypeId) (z : Value) (size bytes : Nat)
    (ho : o.op = .call { callee := .builtin .append, args := #[s, x], argTypes := #[t, tx] }) (ht : Tryz.prog.underlying t = some (.slice e)) (hinfo : (Tryz.prog.info? e).map (fun i => (i.zero, i.size, i.bytes)) = some (some z, size, bytes)) (hzs : z.cells.size = size)
    (base : Nat) (v : Value) (n : Nat) (xs : List Value) (hs : a.eval s = v) (hown : w.ownsRow base e size v n xs)
    (y : Value) (m : Nat) (news : List Value) (hx : a.eval x = y) (r : Src Tryz.prog size tx y m news w)
    (h63 : n + m ≤ maxLen) (hbytes : ((n + m) + (n + m) / 4 + 192) * bytes ≤ 281474976710656) (hbase : base ≤ w.heap.size)
    (h : ∀ p c w', Hid (w'.ownsRow base e size (.slice p (n + m) c) (n + m) (xs ++ news)) → Hid (w.grownBy w' v.ownBlock) → Hid ((Value.slice p (n + m) c).ownBlock = v.ownBlock ∨ ((Value.slice p (n + m) c).ownBlock = some w.heap.size ∧ w.grownBy w' none)) → wpList Tryz.prog ops Q rest (a.put o.dst (.slice p (n + m) c)) w') : wpList Tryz.prog ops Q (o :: rest) a w := by
  obtain ⟨i, hi, hz, hsize, hby⟩ := info_parts hinfo
  obtain ⟨v', w', hr, h2, h3, _, h5⟩ := append_all (P := Tryz.prog) w base t tx o.type e i z size bytes ht hi hz hsize hby hzs v n xs hown y m news r h63 hbytes hbase
  refine wpList_step fun K hK => ?_
  rw [if_pos hw]
  unfold Oper.wp execOp
  simp only [ho, resolve, invoke, builtin, Sem.run_bind, Sem.run_pure, Result.andThen_ok, List.map_toArray, List.map_cons, List.map_nil, hs, hx, hr]
  obtain ⟨p, c, rfl⟩ : ∃ p c, v' = .slice p (n + m) c := by
    rcases h2.2 with ⟨rfl, e⟩ | ⟨g, cap, cur, rfl, _⟩
    · exact ⟨none, 0, by rw [e]⟩
    · exact ⟨_, _, rfl⟩
  exact hK _ _ (h p c w' h2 h3 h5)
set_option maxRecDepth 100000 in
set_option maxHeartbeats 8000000 in
theorem hLaw3 {w : World} {p : Option Addr} {n c : Nat} {es : List Ev} {key : ByteArray} (er : ERd w p n c es) (nb : n ≤ 100000000) (ck : ∀ e ∈ es, KI e.client ∧ KI e.op) (sk : ∀ e ∈ es, e.key.size + 1 ≤ maxLen) (hk : strF key) (vb : ∀ e ∈ es, e.vn ≤ 1000000000) (tz : (txtF es).length ≤ 140737488355328) (tz2 : (txtF (es.map tur)).length ≤ 140737488355328) (V : Tab w) (kw : KWs w) : Calls Tryz.prog 3 #[.slice p n c, .string key] w fun o w' => o = .returned (.bool true) ∧ Kept (fun _ => False) w w' := by
  have C6 : Hid (Calls Tryz.prog 6 #[.slice p n c] w (TwQ w es n)) := hTwins er (by omega) (fun e he => by have := vb e he; omega)
  have rm := er.room
  have sm := er.small
  unfold maxLen at sm
  have H : Hid (ERd w p n c es ∧ (∀ e ∈ es, KI e.client ∧ KI e.op) ∧ (∀ e ∈ es, e.key.size + 1 ≤ maxLen) ∧ strF key ∧ (∀ e ∈ es, e.vn ≤ 1000000000 ∧ e.val.length = e.vn) ∧ (txtF es).length ≤ 140737488355328 ∧ (txtF (es.map tur)).length ≤ 140737488355328 ∧ Tab w ∧ KWs w ∧ (∀ e ∈ es, ∀ x ∈ e.val, x < 256) ∧ es.length = n) := ⟨er, ck, sk, hk, fun e he => ⟨vb e he, (er.rd e he).length⟩, tz, tz2, V, kw, fun e he => (er.rd e he).bytes, er.len⟩
  clear er ck sk hk vb tz tz2 V kw
  go_enter Tryz.func3, Tryz.ntmps3
  go_wp2_with fail
  refine C6.out.mono ?_
  rintro o w1 ⟨p1, c1, L, rfl, tw⟩
  have TW : Hid (Tw w w1 es p1 n c1 L ∧ ERd w1 p1 n c1 L ∧ Mks w1 p1 n c1 L) := by
    refine ⟨tw, tw.erd ?_, tw.mks⟩
    exact core_all (P := fun e => ∀ x ∈ e.val, x < 256) tw.co (fun _ => Iff.rfl) H.out.2.2.2.2.2.2.2.2.2.1
  clear C6 tw
  have CT : Hid (∀ U, Kept (fun _ => False) w1 U → Calls Tryz.prog 7 #[.slice p1 n c1, .slice p n c, .string key] U (TlQ U es key)) := fun U K => by
    have K2 := TW.out.1.kept.trans K (fun _ _ z => z)
    exact hTells (TW.out.2.1.k0 K) (H.out.1.k0 K2) TW.out.1.co (by omega) H.out.2.1 (fun e he => by have := H.out.2.2.1 e he; unfold strF; omega) H.out.2.2.2.1 (fun e he => by have := (H.out.2.2.2.2.1 e he).1; omega) H.out.2.2.2.2.2.1 (H.out.2.2.2.2.2.2.2.1.kept K2) (H.out.2.2.2.2.2.2.2.2.1.kept K2 (fun z => z))
  go_wp2_with fail
  refine (CT.out w1 (Kept.refl _ _)).mono ?_
  rintro o w2 ⟨Pa1, na1, Ka1, q1, k1, cc1, L1, Po1, no1, Co1, O1, rfl, R1'⟩
  have R1 : Hid (TlR w1 w2 es key Pa1 na1 Ka1 q1 k1 cc1 L1 Po1 no1 Co1 O1) := R1'
  clear R1'
  go_wp2_with fail
  refine (CT.out w2 R1.out.ta.kept).mono ?_
  rintro o w3 ⟨Pa2, na2, Ka2, q2, k2, cc2, L2, Po2, no2, Co2, O2, rfl, R2'⟩
  obtain ⟨ek, eo, ec, N'⟩ := two_tells R1.out R2'
  subst ek
  subst eo
  have R2 : Hid (TlR w2 w3 es key Pa2 na2 Ka2 q2 k2 cc2 L2 Po2 no2 Co2 O2 ∧ L1.map Ca.cc = L2.map Ca.cc ∧ TN q1 q2 L1 L2 O1 O2) := ⟨R2', ec, N'⟩
  have NU : Hid (na1 ≤ 3 * n ∧ na2 ≤ 3 * n ∧ k2 ≤ n ∧ no2 ≤ n + 1 ∧ (∀ x ∈ O1 ++ O2, x.n ≤ n) ∧ O1.length = no2) := by
    obtain ⟨a1, a2, a3, a4, a5⟩ := R1.out.nums
    obtain ⟨b1, b2, b3, b4, b5⟩ := R2'.nums
    rw [H.out.2.2.2.2.2.2.2.2.2.2] at a1 a2 a3 a4 b1 b2 b3 b4
    refine ⟨a1, b1, b2, b3, fun x hx => ?_, a5⟩
    rcases List.mem_append.1 hx with z | z
    · exact a4 x z
    · exact b4 x z
  have nu1 := NU.out.1
  have nu2 := NU.out.2.1
  have nu3 := NU.out.2.2.1
  have nu4 := NU.out.2.2.2.1
  have C8 : Hid (Calls Tryz.prog 8 #[.slice q1 k2 cc1, .slice q2 k2 cc2] w3 fun o w' => o = .returned (.bool true) ∧ Kept (fun _ => False) w3 w') := by
    obtain ⟨e1, t1⟩ := R1.out.tol
    obtain ⟨e2, t2⟩ := R2'.tol
    exact hSameCalls ((R1.out.ta.cal.k0 R2'.ta.kept).crd (t1.bytes H.out.1)) (R2'.ta.cal.crd (t2.bytes H.out.1)) ec
  clear R2' ec N'
  have q0 : ((no2 : Int) != (no2 : Int)) = false := by simp
  go_wp2_with fail
  refine C8.out.mono ?_
  rintro o w4 ⟨rfl, K4'⟩
  have K4 : Hid (Kept (fun _ => False) w3 w4) := K4'
  clear C8 K4'
  have S0 : Hid (Kept (fun _ => False) w3 w4) := K4.out
  go_upto_region 9 with fail
  go_loopw [13] (fun u13 wr => ∃ i : Nat, u13 = .int .i64 (i : Int) ∧ i ≤ no2 ∧ Hid (Kept (fun _ => False) w3 wr)) (fun u13 _ => no2 - (intOf u13).toNat)
  case atStart => exact ⟨0, rfl, Nat.zero_le _, S0⟩
  case round =>
    clear S0
    obtain ⟨i, rfl, hi, S⟩ := hrel
    obtain ⟨wo, hwo⟩ : ∃ wo, wo = wr := ⟨_, rfl⟩
    rw [← hwo] at S ⊢
    clear hwo
    have RM : Hid (wo.ownsRow w1.heap.size 22 1 (.slice Po1 no2 Co1) no2 (slv (O1.map rwO)) ∧ wo.ownsRow w2.heap.size 22 1 (.slice Po2 no2 Co2) no2 (slv (O2.map rwO))) := ⟨S.out.owns (R2.out.1.ta.kept.owns R1.out.ta.ofs (fun _ _ z => z)) (fun _ _ z => z), S.out.owns R2.out.1.ta.ofs (fun _ _ z => z)⟩
    obtain ⟨rr1, rr2⟩ := own_room2 RM.out.1
    obtain ⟨rr3, rr4⟩ := own_room2 RM.out.2
    by_cases hin : i < no2
    · have lti : (i : Int) < (no2 : Int) := by omega
      have i0 : (0 : Int) ≤ (i : Int) := by omega
      obtain ⟨g1, x, ep1, hx, cx⟩ := rows_ol RM.out.1 hin
      obtain ⟨g2, y, ep2, hy, cy⟩ := rows_ol RM.out.2 hin
      have cr := ofT_same R1.out.oft R2.out.1.oft hx hy
      have en : y.n = x.n := by
        have z1 := (R1.out.ta.ev x (List.mem_of_getElem? hx)).1.len
        have z2 := (R2.out.1.ta.ev y (List.mem_of_getElem? hy)).1.len
        have z3 := core_len cr
        omega
      have C9 : Hid (∀ U, Kept (fun _ => False) wo U → Calls Tryz.prog 9 #[.slice x.p x.n x.c, .slice y.p y.n y.c] U fun o w' => o = .returned (.bool true) ∧ Kept (fun _ => False) U w') := fun U K => by
        have e1 := ((R1.out.bytes H.out.2.2.2.2.2.2.2.2.2.1 x (List.mem_of_getElem? hx)).k0 R2.out.1.ta.kept).k0 (S.out.trans K (fun _ _ z => z))
        have e2 := (R2.out.1.bytes H.out.2.2.2.2.2.2.2.2.2.1 y (List.mem_of_getElem? hy)).k0 (S.out.trans K (fun _ _ z => z))
        rw [en] at e2 ⊢
        exact hEvents e1 e2 cr
      subst ep1
      subst ep2
      clear hx hy cr en RM
      go_upto_region 11 with fail
      refine wp_region_held_drew (S := (fun w' => w'.cell? ⟨g1, i, none⟩ = some (.slice x.p x.n x.c) ∧ w'.cell? ⟨g2, i, none⟩ = some (.slice y.p y.n y.c))) (by kernel_rfl) ⟨cx, cy⟩ (fun hHeld => ?_)
      refine wpAnyH_take (i := 0) (oi := { dst := some 59, op := Go.Op.move (Go.Operand.tmp 8), type := 26, pos := "law.go:198", after := #[], guard := none }) (v := .slice (some ⟨g1, 0, none⟩) no2 Co1) rfl (by kernel_rfl) (by kernel_rfl) (by kernel_rfl) (fun _ _ _ h => h) (Or.inl ⟨by rfl, ?_⟩) (by assumption) ?_
      · intro w9 hSw
        (try dsimp only at hSw)
        go_simp
      (try simp only [Act.put, List.setIfInBounds_toArray, List.set_cons_zero, List.set_cons_succ])
      refine wpAnyH_take (i := 1) (oi := { dst := some 60, op := Go.Op.move (Go.Operand.tmp 13), type := 3, pos := "law.go:198", after := #[], guard := none }) (v := .int .i64 (i : Int)) rfl (by kernel_rfl) (by kernel_rfl) (by kernel_rfl) (fun _ _ _ h => h) (Or.inl ⟨by rfl, ?_⟩) (by assumption) ?_
      · intro w9 hSw
        (try dsimp only at hSw)
        go_simp
      (try simp only [Act.put, List.setIfInBounds_toArray, List.set_cons_zero, List.set_cons_succ])
      refine wpAnyH_take (i := 2) (oi := { dst := some 61, op := Go.Op.indexAddr 26 (Go.Operand.tmp 59) (Go.Operand.tmp 60), type := 0, pos := "law.go:198", after := #[{ on := 0, ground := Go.Ground.data }, { on := 1, ground := Go.Ground.data }], guard := none }) (v := .pointer (some ⟨g1, i, none⟩)) rfl (by kernel_rfl) (by kernel_rfl) (by kernel_rfl) (fun _ _ _ h => h) (Or.inl ⟨by rfl, ?_⟩) (by assumption) ?_
      · intro w9 hSw
        (try dsimp only at hSw)
        go_simp
      (try simp only [Act.put, List.setIfInBounds_toArray, List.set_cons_zero, List.set_cons_succ])
      refine wpAnyH_take (i := 3) (oi := { dst := some 62, op := Go.Op.load 22 (Go.Operand.tmp 61), type := 22, pos := "law.go:198", after := #[{ on := 2, ground := Go.Ground.data }], guard := none }) (v := .slice x.p x.n x.c) rfl (by kernel_rfl) (by kernel_rfl) (by kernel_rfl) (fun _ _ _ h => h) (Or.inl ⟨by rfl, ?_⟩) (by assumption) ?_
      · intro w9 hSw
        (try dsimp only at hSw)
        go_simp
      (try simp only [Act.put, List.setIfInBounds_toArray, List.set_cons_zero, List.set_cons_succ])
      refine wpAnyH_take (i := 4) (oi := { dst := some 63, op := Go.Op.move (Go.Operand.tmp 12), type := 26, pos := "law.go:198", after := #[], guard := none }) (v := .slice (some ⟨g2, 0, none⟩) no2 Co2) rfl (by kernel_rfl) (by kernel_rfl) (by kernel_rfl) (fun _ _ _ h => h) (Or.inl ⟨by rfl, ?_⟩) (by assumption) ?_
      · intro w9 hSw
        (try dsimp only at hSw)
        go_simp
      (try simp only [Act.put, List.setIfInBounds_toArray, List.set_cons_zero, List.set_cons_succ])
      refine wpAnyH_take (i := 5) (oi := { dst := some 64, op := Go.Op.move (Go.Operand.tmp 13), type := 3, pos := "law.go:198", after := #[], guard := none }) (v := .int .i64 (i : Int)) rfl (by kernel_rfl) (by kernel_rfl) (by kernel_rfl) (fun _ _ _ h => h) (Or.inl ⟨by rfl, ?_⟩) (by assumption) ?_
      · intro w9 hSw
        (try dsimp only at hSw)
        go_simp
      (try simp only [Act.put, List.setIfInBounds_toArray, List.set_cons_zero, List.set_cons_succ])
      refine wpAnyH_take (i := 6) (oi := { dst := some 65, op := Go.Op.indexAddr 26 (Go.Operand.tmp 63) (Go.Operand.tmp 64), type := 0, pos := "law.go:198", after := #[{ on := 4, ground := Go.Ground.data }, { on := 5, ground := Go.Ground.data }], guard := none }) (v := .pointer (some ⟨g2, i, none⟩)) rfl (by kernel_rfl) (by kernel_rfl) (by kernel_rfl) (fun _ _ _ h => h) (Or.inl ⟨by rfl, ?_⟩) (by assumption) ?_
      · intro w9 hSw
        (try dsimp only at hSw)
        go_simp
      (try simp only [Act.put, List.setIfInBounds_toArray, List.set_cons_zero, List.set_cons_succ])
      refine wpAnyH_take (i := 7) (oi := { dst := some 66, op := Go.Op.load 22 (Go.Operand.tmp 65), type := 22, pos := "law.go:198", after := #[{ on := 6, ground := Go.Ground.data }], guard := none }) (v := .slice y.p y.n y.c) rfl (by kernel_rfl) (by kernel_rfl) (by kernel_rfl) (fun _ _ _ h => h) (Or.inl ⟨by rfl, ?_⟩) (by assumption) ?_
      · intro w9 hSw
        (try dsimp only at hSw)
        go_simp
      (try simp only [Act.put, List.setIfInBounds_toArray, List.set_cons_zero, List.set_cons_succ])
      refine wpAnyH_ready (rs := [8]) (by kernel_rfl) (by simp) ?_
      refine (AllReadyH.cons (o := { dst := some 67, op := Go.Op.call { callee := Go.Callee.value (Go.Operand.func 9), args := #[Go.Operand.tmp 62, Go.Operand.tmp 66], argTypes := #[22, 22] }, type := 4, pos := "law.go:198", after := #[{ on := 3, ground := Go.Ground.data }, { on := 7, ground := Go.Ground.data }], guard := none }) rfl (fun K hK => ?_) AllReadyH.nil)
      go_simp
      refine (C9.out _ ((Kept.refl _ _).drew)).mono ?_
      rintro o wz ⟨rfl, Kz⟩
      have KZ : Hid (Kept (fun _ => False) wo wz) := Kept.trans ((Kept.refl (fun _ => False) wo).drew) Kz (fun _ _ z => z)
      refine hK.out _ _ ?_ (fun hHeld => ?_)
      · exact ⟨KZ.out.cell cx (fun z => z), KZ.out.cell cy (fun z => z)⟩
      clear hK K Kz
      (try simp only [Act.put, List.setIfInBounds_toArray, List.set_cons_zero, List.set_cons_succ])
      refine wpAnyH_take (i := 9) (oi := { dst := some 68, op := Go.Op.unOp Go.UnOp.not 4 (Go.Operand.tmp 67), type := 4, pos := "law.go:198", after := #[{ on := 8, ground := Go.Ground.data }], guard := none }) (v := .bool false) rfl (by kernel_rfl) (by kernel_rfl) (by kernel_rfl) (fun _ _ _ h => h) (Or.inl ⟨by rfl, ?_⟩) (by assumption) ?_
      · intro w9 hSw
        (try dsimp only at hSw)
        go_simp
      (try simp only [Act.put, List.setIfInBounds_toArray, List.set_cons_zero, List.set_cons_succ])
      refine wpAnyH_done (by kernel_rfl) ?_ _
      clear hHeld cx cy
      have NX : Hid (Kept (fun _ => False) w3 wz) := S.out.trans KZ.out (fun _ _ z => z)
      clear KZ C9 S
      go_wp2_with fail
      go_roundw
      case rel => exact ⟨i + 1, by go_num, by omega, NX⟩
      case measure => simp [intOf] <;> omega
    · have lti : ¬ (i : Int) < (no2 : Int) := by omega
      clear RM
      have XO : Hid (TT w1 wo q1 k2 cc1 L1 q2 cc2 L2 O1 O2 ∧ wo.ownsRow w1.heap.size 22 1 (.slice Po1 no2 Co1) no2 (slv (O1.map rwO)) ∧ wo.ownsRow w1.heap.size 22 1 (.slice Po2 no2 Co2) no2 (slv (O2.map rwO)) ∧ wo.ownsRow w1.heap.size 34 1 (.slice Pa1 na1 Ka1) na1 (slv (L1.map rwC ++ vls O1)) ∧ wo.ownsRow w1.heap.size 34 1 (.slice Pa2 na2 Ka2) na2 (slv (L2.map rwC ++ vls O2)) ∧ (∀ r ∈ (L1.map rwC ++ vls O1) ++ (L2.map rwC ++ vls O2), wo.ownsRow w1.heap.size 5 1 (.slice r.p r.n r.c) r.n r.xs)) := by
        have K2 : Kept (fun _ => False) w2 wo := R2.out.1.ta.kept.trans S.out (fun _ _ z => z)
        have T1 := R1.out.ta.k0 K2
        have T2 := R2.out.1.ta.k0 S.out
        have hz := R1.out.ta.kept.size
        obtain ⟨_, v1⟩ := T1.lts
        obtain ⟨_, v2⟩ := T2.lts
        refine ⟨⟨T1.cal.row, owns_mono T2.cal.row hz, fun x hx => ?_, T1.kept⟩, T1.ofs, owns_mono T2.ofs hz, T1.all, owns_mono T2.all hz, fun r hr => ?_⟩
        · rcases List.mem_append.1 hx with m | m
          · exact (T1.ev x m).1.row
          · exact owns_mono (T2.ev x m).1.row hz
        · rcases List.mem_append.1 hr with m | m
          · exact v1 r m
          · exact owns_mono (v2 r m) hz
      have LE : Hid (w1.heap.size ≤ wo.heap.size) := XO.out.1.kept.size
      clear S
      go_wp2_with
        (first
          | (at_builtin; refine wpList_append_all _ rfl (.tmp 69) (.tmp 70) 24 34 24 _ 1 24 rfl Tryz.underlying24 Tryz.info34c rfl w1.heap.size (.slice Pa1 na1 Ka1) na1 (slv (L1.map rwC ++ vls O1)) rfl XO.out.2.2.2.1 _ na2 (slv (L2.map rwC ++ vls O2)) rfl (src_slv Tryz.underlying24 XO.out.2.2.2.2.1) (by unfold maxLen; omega) (by omega) LE.out ?_; intro P9 C9 w5 ho hg hn9)
          | fail)
      have X5 : Hid (TT w1 w5 q1 k2 cc1 L1 q2 cc2 L2 O1 O2 ∧ w5.ownsRow w1.heap.size 22 1 (.slice Po1 no2 Co1) no2 (slv (O1.map rwO)) ∧ w5.ownsRow w1.heap.size 22 1 (.slice Po2 no2 Co2) no2 (slv (O2.map rwO)) ∧ w5.ownsRow w1.heap.size 34 1 (.slice P9 (na1 + na2) C9) (na1 + na2) (slv ((L1.map rwC ++ vls O1) ++ (L2.map rwC ++ vls O2))) ∧ (∀ r ∈ (L1.map rwC ++ vls O1) ++ (L2.map rwC ++ vls O2), w5.ownsRow w1.heap.size 5 1 (.slice r.p r.n r.c) r.n r.xs)) := by
        have KG := kgr hg.out
        have hS : ∀ b, blockOf Pa1 = some b → ∃ cs, wo.heap[b]? = some (.cells cs 34 (0, 0)) := fun b z => own_type XO.out.2.2.2.1 b z
        exact ⟨XO.out.1.off KG hS (fun b z => (own_lt XO.out.2.2.2.1 b z).1) (by decide) (by decide), own_off XO.out.2.1 KG hS (by decide), own_off XO.out.2.2.1 KG hS (by decide), by rw [slv_app]; exact ho.out, fun r hr => own_off (XO.out.2.2.2.2.2 r hr) KG hS (by decide)⟩
      clear ho hg hn9 XO LE
      have SV : Hid (∀ r ∈ (L1.map rwC ++ vls O1) ++ (L2.map rwC ++ vls O2), r.n ≤ 1000000000) := fun r hr => by
        rcases List.mem_append.1 hr with m | m
        · exact R1.out.small H.out.2.2.2.2.1 r m
        · exact R2.out.1.small H.out.2.2.2.2.1 r m
      have C10 : Hid (Calls Tryz.prog 10 #[.slice P9 (na1 + na2) C9] w5 fun o w' => o = .returned (.bool true) ∧ Kept (fun b => ∃ (a : Nat) (r : Rw), ((L1.map rwC ++ vls O1) ++ (L2.map rwC ++ vls O2))[a]? = some r ∧ blockOf r.p = some b) w5 w') := by
        obtain ⟨a1, a2⟩ := apart_of X5.out.2.2.2.1 X5.out.2.2.2.2 R2.out.2.2.vv SV.out
        exact hApart a1 a2 (fun hP => own_form X5.out.2.2.2.1 hP) (by omega) X5.out.1.kept.size
      refine C10.out.mono ?_
      rintro o w6 ⟨rfl, K6⟩
      have X6 : Hid (TT w1 w6 q1 k2 cc1 L1 q2 cc2 L2 O1 O2 ∧ w6.ownsRow w1.heap.size 22 1 (.slice Po1 no2 Co1) no2 (slv (O1.map rwO)) ∧ w6.ownsRow w1.heap.size 22 1 (.slice Po2 no2 Co2) no2 (slv (O2.map rwO))) := by
        have hS : ∀ b, (∃ (a : Nat) (r : Rw), ((L1.map rwC ++ vls O1) ++ (L2.map rwC ++ vls O2))[a]? = some r ∧ blockOf r.p = some b) → ∃ cs, w5.heap[b]? = some (.cells cs 5 (0, 0)) := fun b ⟨a, r, hr, hb⟩ => own_type (X5.out.2.2.2.2 r (List.mem_of_getElem? hr)) b hb
        exact ⟨X5.out.1.off K6 hS (fun b ⟨a, r, hr, hb⟩ => (own_lt (X5.out.2.2.2.2 r (List.mem_of_getElem? hr)) b hb).1) (by decide) (by decide), own_off X5.out.2.1 K6 hS (by decide), own_off X5.out.2.2.1 K6 hS (by decide)⟩
      clear C10 K6 X5 SV
      obtain ⟨V6, hV⟩ : ∃ V, w6.alloc (.cells #[.slice q1 k2 cc1, .slice q2 k2 cc2] 25) = V := ⟨_, rfl⟩
      have X6v : Hid (TT w1 V6 q1 k2 cc1 L1 q2 cc2 L2 O1 O2 ∧ V6.ownsRow w1.heap.size 22 1 (.slice Po1 no2 Co1) no2 (slv (O1.map rwO)) ∧ V6.ownsRow w1.heap.size 22 1 (.slice Po2 no2 Co2) no2 (slv (O2.map rwO)) ∧ V6.heap[w6.heap.size]? = some (.cells #[.slice q1 k2 cc1, .slice q2 k2 cc2] 25 (0, 0)) ∧ w1.heap.size ≤ w6.heap.size) := by
        have KV : Kept (fun _ => False) w6 V6 := by rw [← hV]; exact (Kept.refl _ _).alloc _
        exact ⟨X6.out.1.k0 KV, KV.owns X6.out.2.1 (fun _ _ z => z), KV.owns X6.out.2.2 (fun _ _ z => z), by rw [← hV]; exact alloc_new _ _, X6.out.1.kept.size⟩
      have EV : Hid (w6.alloc (.cells #[.slice q1 k2 cc1, .slice q2 k2 cc2] 25) = V6) := hV
      have LE : Hid (w1.heap.size ≤ V6.heap.size) := X6v.out.1.kept.size
      clear hV X6
      go_wp2_with
        (first
          | (at_builtin; rw [EV.out]; refine wpList_append_g _ (by first | rfl | kernel_rfl | simp [Region.wanted, yielded]) (.tmp 78) (.tmp 79) 26 22 26 _ 1 24 rfl Tryz.underlying26 Tryz.info22c rfl w1.heap.size (.slice Po1 no2 Co1) no2 (slv (O1.map rwO)) rfl X6v.out.2.1 _ no2 (slv (O2.map rwO)) rfl (src_slv Tryz.underlying26 X6v.out.2.2.1) (by unfold maxLen; omega) (by omega) LE.out ?_; intro P8 C8 w7 ho hg hn9)
          | fail)
      have X7 : Hid (TT w1 w7 q1 k2 cc1 L1 q2 cc2 L2 O1 O2 ∧ w7.ownsRow w1.heap.size 22 1 (.slice P8 (no2 + no2) C8) (no2 + no2) (slv ((O1 ++ O2).map rwO)) ∧ w7.heap[w6.heap.size]? = some (.cells #[.slice q1 k2 cc1, .slice q2 k2 cc2] 25 (0, 0)) ∧ w1.heap.size ≤ w6.heap.size) := by
        have KG := kgr hg.out
        have hS : ∀ b, blockOf Po1 = some b → ∃ cs, V6.heap[b]? = some (.cells cs 22 (0, 0)) := fun b z => own_type X6v.out.2.1 b z
        refine ⟨X6v.out.1.off KG hS (fun b z => (own_lt X6v.out.2.1 b z).1) (by decide) (by decide), by rw [List.map_append, slv_app]; exact ho.out, KG.get X6v.out.2.2.2.1 (fun z => ?_), X6v.out.2.2.2.2⟩
        obtain ⟨cs, e⟩ := hS _ z
        rw [X6v.out.2.2.2.1] at e
        simp at e
      clear ho hg hn9 X6v EV LE
      have C11 : Hid (Calls Tryz.prog 11 #[.slice (some ⟨w6.heap.size, 0, none⟩) 2 2, .slice P8 (no2 + no2) C8] w7 fun o w' => o = .returned (.bool true) ∧ Kept (fun _ => False) w1 w') := by
        obtain ⟨a1, a2⟩ := outer_of X7.out.1 R2.out.2.2 X7.out.2.2.1 X7.out.2.2.2 X7.out.2.1 (by omega) (fun x hx => by have := NU.out.2.2.2.2.1 x hx; omega)
        refine (hOuterA a1 a2 (by omega) (by omega) X7.out.1.kept.size).mono ?_
        rintro o w' ⟨h1, h2⟩
        exact ⟨h1, Kept.own X7.out.1.kept h2 (RBk.ge X7.out.1)⟩
      clear X7
      refine C11.out.mono ?_
      rintro o w8 ⟨rfl, K8'⟩
      have K8 : Hid (Kept (fun _ => False) w1 w8) := K8'
      clear K8' C11
      have C12 : Hid (Calls Tryz.prog 12 #[.slice p1 n c1, .slice p n c] w8 fun o w' => o = .returned (.bool true) ∧ Kept (fun _ => False) w8 w') := hWhole (TW.out.2.1.k0 K8.out) (H.out.1.k0 (TW.out.1.kept.trans K8.out (fun _ _ z => z))) TW.out.1.co (TW.out.2.2.k0 K8.out)
      go_wp2_with fail
      refine C12.out.mono ?_
      rintro o w9 ⟨rfl, K9'⟩
      have K9 : Hid (Kept (fun _ => False) w1 w9 ∧ Kept (fun _ => False) w w9) := ⟨K8.out.trans K9' (fun _ _ z => z), TW.out.1.kept.trans (K8.out.trans K9' (fun _ _ z => z)) (fun _ _ z => z)⟩
      clear C12 K9' K8
      obtain ⟨V9, hV⟩ : ∃ V, w9.alloc (.cells #[] 39) = V := ⟨_, rfl⟩
      have X9 : Hid (V9.ownsRow w9.heap.size 39 9 (.slice (some ⟨w9.heap.size, 0, none⟩) 0 0) 0 [] ∧ Src Tryz.prog 9 22 (.slice p n c) n (ecs es) V9 ∧ w9.heap.size ≤ V9.heap.size ∧ Kept (fun _ => False) w9 V9) := by
        have KV : Kept (fun _ => False) w9 V9 := by rw [← hV]; exact (Kept.refl _ _).alloc _
        exact ⟨⟨rfl, .inr ⟨w9.heap.size, 0, #[], rfl, Nat.le_refl _, by rw [← hV]; exact alloc_new _ _, Nat.le_refl _, by unfold maxLen; omega, rfl, rfl⟩⟩, src_evs ((H.out.1.k0 K9.out.2).k0 KV), KV.size, KV⟩
      have EV : Hid (w9.alloc (.cells #[] 39) = V9) := hV
      clear hV
      go_upto_region 16 with
        (first
          | (at_builtin; rw [EV.out]; refine wpList_append_all _ rfl (.tmp 90) (.tmp 91) 22 39 22 _ 9 96 rfl Tryz.underlying22 Tryz.info39c rfl w9.heap.size (.slice (some ⟨w9.heap.size, 0, none⟩) 0 0) 0 [] rfl X9.out.1 _ n (ecs es) rfl X9.out.2.1 (by unfold maxLen; omega) (by omega) X9.out.2.2.1 ?_; intro pt ct w10 ho hg hn9; rw [Nat.zero_add])
          | fail)
      have U0 : Hid (TU w w10 es L pt ct p1 c1 n 0) := by
        have KG := kgr hg.out
        have K10 : Kept (fun _ => False) w9 w10 := Kept.own X9.out.2.2.2 KG (fun j z => by
          have z : some w9.heap.size = some j := z
          have z := Option.some.inj z
          omega)
        have h0 := ho.out
        rw [Nat.zero_add, List.nil_append] at h0
        refine ⟨owns_mono h0 K9.out.2.size, (K9.out.1.trans K10 (fun _ _ z => z)).owns TW.out.1.row (fun _ _ z => z), fun b z y => ?_, K9.out.2.trans K10 (fun _ _ z => z)⟩
        have z1 := (own_lt h0 b z).1
        have z2 := (own_lt TW.out.1.row b y).2
        have z3 := K9.out.1.size
        omega
      clear ho hg hn9 X9 EV K9 CT R1 R2 NU
      go_upto_region 17 with fail
      go_loopw [15] (fun u15 wr => ∃ i : Nat, u15 = .int .i64 (i : Int) ∧ i ≤ n ∧ Hid (TU w wr es L pt ct p1 c1 n i)) (fun u15 _ => n - (intOf u15).toNat)
      case atStart => exact ⟨0, rfl, Nat.zero_le _, U0⟩
      case round =>
        clear U0
        clear hi lti hin
        obtain ⟨i, rfl, hi, S⟩ := hrel
        obtain ⟨wq, hwq⟩ : ∃ wq, wq = wr := ⟨_, rfl⟩
        rw [← hwq] at S ⊢
        clear hwq
        obtain ⟨u1, u2⟩ := own_room2 S.out.tr
        obtain ⟨u3, u4⟩ := own_room2 S.out.ow
        by_cases hin : i < n
        · have lti : (i : Int) < (n : Int) := by omega
          have i0 : (0 : Int) ≤ (i : Int) := by omega
          obtain ⟨gt, go, et, eo⟩ := S.out.form (by omega)
          subst et
          subst eo
          obtain ⟨e, he⟩ : ∃ e, es[i]? = some e := ⟨_, List.getElem?_eq_getElem (by rw [H.out.2.2.2.2.2.2.2.2.2.2]; exact hin)⟩
          have t4 := (row_cell S.out.tr (j := i * 9 + 4) (v := .string e.key) (by rw [ecs_get _ i (by rw [turn_len rfl]; exact (List.getElem?_eq_some_iff.1 he).1) 4 (by omega)]; have q := turn_at he; obtain ⟨_, q2⟩ := List.getElem?_eq_some_iff.1 q; rw [q2]; rfl))
          obtain ⟨t4, f4⟩ := t4
          have HE : Hid (es[i]? = some e) := he
          have sz : ¬ 9223372036854775807 < e.key.size + 1 := by
            have z := H.out.2.2.1 e (List.mem_of_getElem? he)
            unfold maxLen at z
            omega
          clear he
          go_upto_region 20 with fail
          have W1 : Hid ((wq.setCell ⟨gt, i * 9 + 4, none⟩ (.string (e.key ++ ⟨#[43]⟩))).ownsRow w.heap.size 39 9 (.slice (some ⟨gt, 0, none⟩) n ct) n ((ecs ((es.take i).map tur ++ es.drop i)).set (i * 9 + 4) (.string (e.key ++ ⟨#[43]⟩)))) := owns_setN S.out.tr _ _
          have il : i < es.length := (List.getElem?_eq_some_iff.1 HE.out).1
          obtain ⟨t5, f5⟩ := row_cell W1.out (j := i * 9 + 5) (v := .slice e.va e.vn e.vc) (by rw [List.getElem?_set_ne (by omega), ecs_get _ i (by rw [turn_len rfl]; exact il) 5 (by omega)]; have q := turn_at HE.out; obtain ⟨_, q2⟩ := List.getElem?_eq_some_iff.1 q; rw [q2]; rfl)
          clear t4 f4
          go_upto_region 21 with fail
          obtain ⟨W2, hW⟩ : ∃ W2, (wq.setCell ⟨gt, i * 9 + 4, none⟩ (.string (e.key ++ ⟨#[43]⟩))).setCell ⟨gt, i * 9 + 5, none⟩ (.slice none 0 0) = W2 := ⟨_, rfl⟩
          have U2 : Hid (W2.ownsRow w.heap.size 39 9 (.slice (some ⟨gt, 0, none⟩) n ct) n (ecs ((es.take (i + 1)).map tur ++ es.drop (i + 1))) ∧ W2.ownsRow w.heap.size 39 9 (.slice (some ⟨go, 0, none⟩) (n + 1) c1) (n + 1) (ecs ((es.take i).map tur ++ L.drop i) ++ ecs [⟨-77, 0, 0, false, ⟨#[]⟩, none, 0, 0, 0, 0, 0, []⟩]) ∧ ¬ gt = go ∧ Kept (fun _ => False) w W2) := by
            have K2 : Kept (fun b => b = gt) wq W2 := by
              rw [← hW]
              exact ((Kept.refl (fun b => b = gt) wq).setCell (p := ⟨gt, i * 9 + 4, none⟩) (fun _ => rfl) _).setCell (p := ⟨gt, i * 9 + 5, none⟩) (fun _ => rfl) _
            have ne : ¬ gt = go := fun z => S.out.ne gt rfl (by rw [z]; rfl)
            refine ⟨?_, K2.owns S.out.ow (fun b z y => ?_), ne, Kept.own S.out.kept K2 (fun b z => by have z : b = gt := z; rw [z]; exact (own_lt S.out.tr gt rfl).1)⟩
            · rw [← turn_set HE.out rfl, ← ecs_tur _ i e (turn_at HE.out), ← hW]
              exact owns_setN W1.out _ _
            · have y : b = gt := y
              have z : some go = some b := z
              exact ne (by rw [← y]; exact (Option.some.inj z).symm)
          rw [hW]
          clear hW W1 t5 f5 S
          have t0 : W2.cell? ⟨gt, i * 9, none⟩ = some (.int .i64 e.kind) := (row_cell U2.out.1 (j := i * 9 + 0) (v := .int .i64 e.kind) (by (show (ecs _)[i * 9 + 0]? = _); rw [ecs_get _ i (by rw [turn_len rfl]; exact il) 0 (by omega)]; have q := tur_at HE.out; obtain ⟨_, q2⟩ := List.getElem?_eq_some_iff.1 q; rw [q2]; rfl)).1
          have t1 := (row_cell U2.out.1 (j := i * 9 + 1) (v := .int .i64 e.client) (by rw [ecs_get _ i (by rw [turn_len rfl]; exact il) 1 (by omega)]; have q := tur_at HE.out; obtain ⟨_, q2⟩ := List.getElem?_eq_some_iff.1 q; rw [q2]; rfl)).1
          have t2 := (row_cell U2.out.1 (j := i * 9 + 2) (v := .int .i64 e.op) (by rw [ecs_get _ i (by rw [turn_len rfl]; exact il) 2 (by omega)]; have q := tur_at HE.out; obtain ⟨_, q2⟩ := List.getElem?_eq_some_iff.1 q; rw [q2]; rfl)).1
          have t3 := (row_cell U2.out.1 (j := i * 9 + 3) (v := .bool e.put) (by rw [ecs_get _ i (by rw [turn_len rfl]; exact il) 3 (by omega)]; have q := tur_at HE.out; obtain ⟨_, q2⟩ := List.getElem?_eq_some_iff.1 q; rw [q2]; rfl)).1
          have t4 := (row_cell U2.out.1 (j := i * 9 + 4) (v := .string (e.key ++ ⟨#[43]⟩)) (by rw [ecs_get _ i (by rw [turn_len rfl]; exact il) 4 (by omega)]; have q := tur_at HE.out; obtain ⟨_, q2⟩ := List.getElem?_eq_some_iff.1 q; rw [q2]; rfl)).1
          have t5 := (row_cell U2.out.1 (j := i * 9 + 5) (v := .slice none 0 0) (by rw [ecs_get _ i (by rw [turn_len rfl]; exact il) 5 (by omega)]; have q := tur_at HE.out; obtain ⟨_, q2⟩ := List.getElem?_eq_some_iff.1 q; rw [q2]; rfl)).1
          have t6 := (row_cell U2.out.1 (j := i * 9 + 6) (v := .int .i64 e.st) (by rw [ecs_get _ i (by rw [turn_len rfl]; exact il) 6 (by omega)]; have q := tur_at HE.out; obtain ⟨_, q2⟩ := List.getElem?_eq_some_iff.1 q; rw [q2]; rfl)).1
          have t7 := (row_cell U2.out.1 (j := i * 9 + 7) (v := .int .i64 e.tx) (by rw [ecs_get _ i (by rw [turn_len rfl]; exact il) 7 (by omega)]; have q := tur_at HE.out; obtain ⟨_, q2⟩ := List.getElem?_eq_some_iff.1 q; rw [q2]; rfl)).1
          have t8 := (row_cell U2.out.1 (j := i * 9 + 8) (v := .int .i64 e.ty) (by rw [ecs_get _ i (by rw [turn_len rfl]; exact il) 8 (by omega)]; have q := tur_at HE.out; obtain ⟨_, q2⟩ := List.getElem?_eq_some_iff.1 q; rw [q2]; rfl)).1
          have TH : Hid (W2.there go (i * 9) 9) := fun k hk => by
            have hl := U2.out.2.1.1
            obtain ⟨v, hv⟩ : ∃ v, (ecs ((es.take i).map tur ++ L.drop i) ++ ecs [⟨-77, 0, 0, false, ⟨#[]⟩, none, 0, 0, 0, 0, 0, []⟩])[i * 9 + k]? = some v := ⟨_, List.getElem?_eq_getElem (by omega)⟩
            obtain ⟨a, b⟩ := row_cell U2.out.2.1 hv
            exact ⟨by rw [a]; rfl, b⟩
          have NX : Hid (TU w (W2.setCells go (i * 9) (tur e).cs.toList) es L (some ⟨gt, 0, none⟩) ct (some ⟨go, 0, none⟩) c1 n (i + 1)) := TU.next U2.out.1 U2.out.2.1 U2.out.2.2.1 U2.out.2.2.2 HE.out (by rw [TW.out.1.len, H.out.2.2.2.2.2.2.2.2.2.2])
          clear U2
          go_wp2_with (first | (refine wpList_store_ev _ rfl (.tmp 119) (.tmp 118) rfl go (i * 9) (tur e) rfl rfl (by with_reducible exact TH.out) ?_) | fail)
          go_roundw
          case rel => exact ⟨i + 1, by go_num, by omega, NX⟩
          case measure => simp [intOf] <;> omega
        · have lti : ¬ (i : Int) < (n : Int) := by omega
          obtain rfl : i = n := by omega
          have C7 : Hid (Calls Tryz.prog 7 #[.slice p1 i c1, .slice pt i ct, .string key] wq (TlQ wq (es.map tur) key)) := by
            obtain ⟨d1, d2⟩ := S.out.done H.out.2.2.2.2.2.2.2.2.2.2 TW.out.1.len
            refine hTells d1 d2 rfl (by omega) (fun x hx => ?_) (fun x hx => ?_) H.out.2.2.2.1 (fun x hx => ?_) H.out.2.2.2.2.2.2.1 (H.out.2.2.2.2.2.2.2.1.kept S.out.kept) (H.out.2.2.2.2.2.2.2.2.1.kept S.out.kept (fun z => z))
            · obtain ⟨e, he, rfl⟩ := List.mem_map.1 hx
              exact H.out.2.1 e he
            · obtain ⟨e, he, rfl⟩ := List.mem_map.1 hx
              have z := H.out.2.2.1 e he
              show (e.key ++ ⟨#[43]⟩ : ByteArray).size ≤ maxLen
              rw [ByteArray.size_append]
              exact z
            · obtain ⟨e, he, rfl⟩ := List.mem_map.1 hx
              show 0 + 1 ≤ _
              omega
          have KS : Hid (Kept (fun _ => False) w wq) := S.out.kept
          clear S
          go_wp2_with fail
          refine C7.out.mono ?_
          rintro o w11 ⟨Pa3, na3, Ka3, q3, k3, cc3, L3, Po3, no3, Co3, O3, rfl, R3⟩
          have FIN : Hid (Kept (fun _ => False) w w11) := KS.out.trans R3.ta.kept (fun _ _ z => z)
          clear R3 C7 KS
          go_wp2_with fail
          go_ret
          exact ⟨by first | rfl | simp, FIN.out⟩
end Go.Proofs.YtbangbobfeflcaaGreatDoor
