import Derived.Test.YtodmakcklacbfaaPSmallJ
namespace Go.Proofs.Ytodmakcklacbfaa
open Go.RowKit 

set_option maxRecDepth 100000 in
theorem closure37 {w : World} {p : Option Addr} {n c : Nat} {ms : List Cm} (h : CRd w p n c ms) {i CB AB : Nat} {mi : Cm} (hi : ms[i]? = some mi) (c1 : w.cell? ⟨CB, 0, none⟩ = some (.slice p n c)) (c2 : w.cell? ⟨AB, 0, none⟩ = some (.int .i64 (i : Int))) (m : Cm) (hm : m ∈ ms) :
    Calls Try.prog 88 #[m.agg, .pointer (some ⟨CB, 0, none⟩), .pointer (some ⟨AB, 0, none⟩)] w fun o w' => o = .returned (.bool (decide (m.val = mi.val))) ∧ Kept (fun _ => False) w w' := by
  have hin : i < n := by rw [← h.len]; exact (List.getElem?_eq_some_iff.1 hi).1
  have rm := h.room
  have sm := h.small
  unfold maxLen at sm
  obtain ⟨b, off, m2, rfl, hm2, _, _, _, _, c4, _⟩ := h.at hin
  rw [hi] at hm2
  have hm2 := Option.some.inj hm2
  subst hm2
  obtain ⟨W, hW⟩ : ∃ W, W = w.alloc (.cells #[.int .i64 m.client, .int .i64 m.op, .bool m.put, .string m.key, .slice m.va m.vn m.vc, .int .i64 m.st, .int .i64 m.frm, .int .i64 m.to, .bool m.opn, .int .i64 m.tx, .int .i64 m.ty] 38) := ⟨_, rfl⟩
  obtain ⟨B, hB⟩ : ∃ B, B = w.heap.size := ⟨_, rfl⟩
  have J : Hid (W.heap[B]? = some (.cells m.cs 38 (0, 0)) ∧ Kept (fun _ => False) w W ∧ W = w.alloc (.cells #[.int .i64 m.client, .int .i64 m.op, .bool m.put, .string m.key, .slice m.va m.vn m.vc, .int .i64 m.st, .int .i64 m.frm, .int .i64 m.to, .bool m.opn, .int .i64 m.tx, .int .i64 m.ty] 38) ∧ B = w.heap.size) := by
    refine ⟨?_, ?_, hW, hB⟩
    · rw [hW, hB]; exact heap_alloc_new _ _
    · rw [hW]; exact (Kept.refl _ _).alloc _
  have R1 : Hid (Reads W m.va m.vn m.vc m.val) := (h.rd m hm).kept J.out.2.1 (fun _ _ z => z)
  have R2 : Hid (Reads W mi.va mi.vn mi.vc mi.val) := (h.rd mi (List.mem_of_getElem? hi)).kept J.out.2.1 (fun _ _ z => z)
  obtain ⟨q, hq⟩ : ∃ q, q = decide (m.val = mi.val) := ⟨_, rfl⟩
  rw [← hq]
  have CE : Hid (∀ k, Calls Try.prog 70 #[.slice m.va m.vn m.vc, .slice mi.va mi.vn mi.vc] (W.drewN k) fun o w' => o = .returned (.bool q) ∧ w' = W.drewN k) := by
    intro k
    rw [hq]
    exact bytesEqual (R1.out.kept ((Kept.refl (fun _ => False) _).drewN k) (fun _ _ z => z)) (R2.out.kept ((Kept.refl (fun _ => False) _).drewN k) (fun _ _ z => z))
  replace c1 := J.out.2.1.cell c1 (fun z => z)
  replace c2 := J.out.2.1.cell c2 (fun z => z)
  replace c4 := J.out.2.1.cell c4 (fun z => z)
  have g4 := cell_blk J.out.1 4 (v := .slice m.va m.vn m.vc) rfl
  have i1 : (i : Int) < (n : Int) := by omega
  have i0 : (0 : Int) ≤ (i : Int) := by omega
  clear h hi hm hW hB hq
  unfold Cm.agg
  go_enter Try.func88, Try.ntmps88
  go_upto_region 1 with fail
  rw [← J.out.2.2.1, ← J.out.2.2.2]
  go_quiet (first | (go_at_call 70; exact Calls.quiet_of_same (CE.out _)) | fail)
  have G : Hid (Kept (fun _ => False) w (W.drewN nq)) := J.out.2.1.drewN _
  go_wp2_with fail
  go_ret
  exact ⟨rfl, G.out⟩
set_option maxRecDepth 100000 in
theorem indexF37 {w : World} {p : Option Addr} {n c : Nat} {ms : List Cm} (P : Cm → Bool) (h : CRd w p n c ms) {CB AB : Nat} (CC : ∀ m ∈ ms, ∀ V, Kept (fun _ => False) w V → Calls Try.prog 88 #[m.agg, .pointer (some ⟨CB, 0, none⟩), .pointer (some ⟨AB, 0, none⟩)] V fun o w' => o = .returned (.bool (P m)) ∧ Kept (fun _ => False) V w') :
    Calls Try.prog 72 #[.slice p n c, .func (.func 88) #[] #[.pointer (some ⟨CB, 0, none⟩), .pointer (some ⟨AB, 0, none⟩)]] w fun o w' => ∃ a : Int, o = .returned (.int .i64 a) ∧ Hid (((a = -1 ∧ ∀ m ∈ ms, P m = false) ∨ ∃ (j : Nat) (m : Cm), a = (j : Int) ∧ ms[j]? = some m ∧ P m = true ∧ ∀ s ∈ ms.take j, P s = false) ∧ Kept (fun _ => False) w w') := by
  have rm := h.room
  have sm := h.small
  unfold maxLen at sm
  have H : Hid (CRd w p n c ms ∧ ∀ m ∈ ms, ∀ V, Kept (fun _ => False) w V → Calls Try.prog 88 #[m.agg, .pointer (some ⟨CB, 0, none⟩), .pointer (some ⟨AB, 0, none⟩)] V fun o w' => o = .returned (.bool (P m)) ∧ Kept (fun _ => False) V w') := ⟨h, CC⟩
  have S0 : Hid ((∀ s ∈ ms.take 0, P s = false) ∧ Kept (fun _ => False) w w) := ⟨fun r hr => by simp at hr, Kept.refl _ _⟩
  clear h CC
  go_enter Try.func72, Try.ntmps72
  go_wp2_with fail
  go_loopw [5, 8] (fun _ u8 wr => ∃ (j : Nat), u8 = .int .i64 (j : Int) ∧ j ≤ n ∧ Hid ((∀ s ∈ ms.take j, P s = false) ∧ Kept (fun _ => False) w wr)) (fun _ u8 _ => n - (intOf u8).toNat)
  case atStart => exact ⟨0, rfl, Nat.zero_le _, S0⟩
  case round =>
    obtain ⟨j, rfl, hj, S⟩ := hrel
    clear S0
    by_cases hlt : j < n
    · have j1 : (j : Int) < (n : Int) := by omega
      obtain ⟨b, off, m, rfl, hm, c0, c1, c2, c3, c4, c5, c6, c7, c8, c9, c10, _⟩ := (H.out.1.k0 S.out.2).at hlt
      obtain ⟨eq, heq⟩ : ∃ eq, eq = P m := ⟨_, rfl⟩
      have CC : Hid (Calls Try.prog 88 #[.agg #[.int .i64 m.client, .int .i64 m.op, .bool m.put, .string m.key, .slice m.va m.vn m.vc, .int .i64 m.st, .int .i64 m.frm, .int .i64 m.to, .bool m.opn, .int .i64 m.tx, .int .i64 m.ty], .pointer (some ⟨CB, 0, none⟩), .pointer (some ⟨AB, 0, none⟩)] wr fun o w' => o = .returned (.bool eq) ∧ Kept (fun _ => False) wr w') := by
        rw [heq]
        exact H.out.2 m (List.mem_of_getElem? hm) wr S.out.2
      have HE : Hid (eq = P m ∧ ms[j]? = some m) := ⟨heq, hm⟩
      clear heq hm
      go_wp2_with fail
      refine CC.out.mono ?_
      rintro o w2 ⟨rfl, K2⟩
      have K3 : Hid (Kept (fun _ => False) w w2) := S.out.2.trans K2 (fun _ _ z => z.elim)
      clear K2 CC c0 c1 c2 c3 c4 c5 c6 c7 c8 c9 c10
      cases eq
      · have N : Hid (∀ s ∈ ms.take (j + 1), P s = false) := by
          intro s hs
          rw [List.take_add_one, HE.out.2] at hs
          rcases List.mem_append.1 hs with z | z
          · exact S.out.1 s z
          · have z : s = m := by simpa using z
            rw [z]
            exact HE.out.1.symm
        clear S
        go_wp2_with fail
        go_roundw
        case rel => exact ⟨j + 1, by go_num, by omega, N.out, K3.out⟩
        case measure => simp [intOf] <;> omega
      · have G : Hid (∃ (j' : Nat) (m : Cm), (j : Int) = (j' : Int) ∧ ms[j']? = some m ∧ P m = true ∧ ∀ s ∈ ms.take j', P s = false) := ⟨j, m, rfl, HE.out.2, HE.out.1.symm, S.out.1⟩
        clear S
        go_wp2_with fail
        go_ret
        exact ⟨(j : Int), rfl, .inr G.out, K3.out⟩
    · have j1 : ¬ (j : Int) < (n : Int) := by omega
      have G : Hid ((∀ m ∈ ms, P m = false) ∧ Kept (fun _ => False) w wr) := by
        have := S.out.1
        rw [List.take_of_length_le (by rw [H.out.1.len]; omega)] at this
        exact ⟨this, S.out.2⟩
      clear S
      go_wp2_with fail
      go_ret
      exact ⟨-1, rfl, .inl ⟨rfl, G.out.1⟩, G.out.2⟩
set_option maxRecDepth 100000 in
theorem indexF21 {w : World} {p : Option Addr} {n c : Nat} {ms : List Cm} (P : Cm → Bool) (h : CRd w p n c ms) (CC : ∀ m ∈ ms, ∀ V, Kept (fun _ => False) w V → Calls Try.prog 44 #[m.agg] V fun o w' => o = .returned (.bool (P m)) ∧ Kept (fun _ => False) V w') :
    Calls Try.prog 72 #[.slice p n c, .func (.func 44) #[] #[]] w fun o w' => ∃ a : Int, o = .returned (.int .i64 a) ∧ Hid (((a = -1 ∧ ∀ m ∈ ms, P m = false) ∨ ∃ (j : Nat) (m : Cm), a = (j : Int) ∧ ms[j]? = some m ∧ P m = true ∧ ∀ s ∈ ms.take j, P s = false) ∧ Kept (fun _ => False) w w') := by
  have rm := h.room
  have sm := h.small
  unfold maxLen at sm
  have H : Hid (CRd w p n c ms ∧ ∀ m ∈ ms, ∀ V, Kept (fun _ => False) w V → Calls Try.prog 44 #[m.agg] V fun o w' => o = .returned (.bool (P m)) ∧ Kept (fun _ => False) V w') := ⟨h, CC⟩
  have S0 : Hid ((∀ s ∈ ms.take 0, P s = false) ∧ Kept (fun _ => False) w w) := ⟨fun r hr => by simp at hr, Kept.refl _ _⟩
  clear h CC
  go_enter Try.func72, Try.ntmps72
  go_wp2_with fail
  go_loopw [5, 8] (fun _ u8 wr => ∃ (j : Nat), u8 = .int .i64 (j : Int) ∧ j ≤ n ∧ Hid ((∀ s ∈ ms.take j, P s = false) ∧ Kept (fun _ => False) w wr)) (fun _ u8 _ => n - (intOf u8).toNat)
  case atStart => exact ⟨0, rfl, Nat.zero_le _, S0⟩
  case round =>
    obtain ⟨j, rfl, hj, S⟩ := hrel
    clear S0
    by_cases hlt : j < n
    · have j1 : (j : Int) < (n : Int) := by omega
      obtain ⟨b, off, m, rfl, hm, c0, c1, c2, c3, c4, c5, c6, c7, c8, c9, c10, _⟩ := (H.out.1.k0 S.out.2).at hlt
      obtain ⟨eq, heq⟩ : ∃ eq, eq = P m := ⟨_, rfl⟩
      have CC : Hid (Calls Try.prog 44 #[.agg #[.int .i64 m.client, .int .i64 m.op, .bool m.put, .string m.key, .slice m.va m.vn m.vc, .int .i64 m.st, .int .i64 m.frm, .int .i64 m.to, .bool m.opn, .int .i64 m.tx, .int .i64 m.ty]] wr fun o w' => o = .returned (.bool eq) ∧ Kept (fun _ => False) wr w') := by
        rw [heq]
        exact H.out.2 m (List.mem_of_getElem? hm) wr S.out.2
      have HE : Hid (eq = P m ∧ ms[j]? = some m) := ⟨heq, hm⟩
      clear heq hm
      go_wp2_with fail
      refine CC.out.mono ?_
      rintro o w2 ⟨rfl, K2⟩
      have K3 : Hid (Kept (fun _ => False) w w2) := S.out.2.trans K2 (fun _ _ z => z.elim)
      clear K2 CC c0 c1 c2 c3 c4 c5 c6 c7 c8 c9 c10
      cases eq
      · have N : Hid (∀ s ∈ ms.take (j + 1), P s = false) := by
          intro s hs
          rw [List.take_add_one, HE.out.2] at hs
          rcases List.mem_append.1 hs with z | z
          · exact S.out.1 s z
          · have z : s = m := by simpa using z
            rw [z]
            exact HE.out.1.symm
        clear S
        go_wp2_with fail
        go_roundw
        case rel => exact ⟨j + 1, by go_num, by omega, N.out, K3.out⟩
        case measure => simp [intOf] <;> omega
      · have G : Hid (∃ (j' : Nat) (m : Cm), (j : Int) = (j' : Int) ∧ ms[j']? = some m ∧ P m = true ∧ ∀ s ∈ ms.take j', P s = false) := ⟨j, m, rfl, HE.out.2, HE.out.1.symm, S.out.1⟩
        clear S
        go_wp2_with fail
        go_ret
        exact ⟨(j : Int), rfl, .inr G.out, K3.out⟩
    · have j1 : ¬ (j : Int) < (n : Int) := by omega
      have G : Hid ((∀ m ∈ ms, P m = false) ∧ Kept (fun _ => False) w wr) := by
        have := S.out.1
        rw [List.take_of_length_le (by rw [H.out.1.len]; omega)] at this
        exact ⟨this, S.out.2⟩
      clear S
      go_wp2_with fail
      go_ret
      exact ⟨-1, rfl, .inl ⟨rfl, G.out.1⟩, G.out.2⟩
theorem containsBad {w : World} {p : Option Addr} {n c : Nat} {ms : List Cm} (h : CRd w p n c ms) : Calls Try.prog 43 #[.slice p n c, .func (.func 44) #[] #[]] w fun o w' => o = .returned (.bool (ms.any fun m => m.cl.bad)) ∧ Kept (fun _ => False) w w' := by
  have CI : Hid (Calls Try.prog 72 #[.slice p n c, .func (.func 44) #[] #[]] w fun o w' => ∃ a : Int, o = .returned (.int .i64 a) ∧ Hid (((a = -1 ∧ ∀ m ∈ ms, m.cl.bad = false) ∨ ∃ (j : Nat) (m : Cm), a = (j : Int) ∧ ms[j]? = some m ∧ m.cl.bad = true ∧ ∀ s ∈ ms.take j, s.cl.bad = false) ∧ Kept (fun _ => False) w w')) := indexF21 (fun m => m.cl.bad) h (fun m _ V _ => badTimes m V)
  obtain ⟨q, hq⟩ : ∃ q, q = ms.any fun m => m.cl.bad := ⟨_, rfl⟩
  have HQ : Hid (q = ms.any fun m => m.cl.bad) := hq
  rw [← hq]
  clear h hq
  go_enter Try.func43, Try.ntmps43
  go_wp2_with fail
  refine CI.out.mono ?_
  rintro o w2 ⟨a, rfl, Q2⟩
  have G : Hid (Kept (fun _ => False) w w2) := Q2.out.2
  rcases Q2.out.1 with ⟨e, no⟩ | ⟨j, m, e, hm, hb, _⟩
  · have q0 : q = false := by
      rw [HQ.out, List.any_eq_false]
      intro m hm
      rw [no m hm]
      decide
    subst e q0
    clear Q2 no
    go_wp2_with fail
    go_ret
    exact ⟨rfl, G.out⟩
  · have q0 : q = true := by
      rw [HQ.out, List.any_eq_true]
      exact ⟨m, List.mem_of_getElem? hm, hb⟩
    subst e q0
    have j0 : (0 : Int) ≤ (j : Int) := by omega
    clear Q2 hm hb
    go_wp2_with fail
    go_ret
    exact ⟨by simp, G.out⟩
/-- The number of a call's value. -/
def vOf (ms : List Cm) (i : Nat) : Int := match ms[i]? with
  | none => 0
  | some m => if m.put = false ∧ m.st = 76 then -1 else ((ms.findIdx fun s => decide (s.val = m.val) : Nat) : Int)
theorem findIdx_first {ms : List Cm} {P : Cm → Bool} {j : Nat} {m : Cm} (hj : ms[j]? = some m) (hp : P m = true) (no : ∀ s ∈ ms.take j, P s = false) : ms.findIdx P = j := by
  obtain ⟨h1, h2⟩ := List.getElem?_eq_some_iff.1 hj
  rw [List.findIdx_eq h1]
  refine ⟨by rw [h2]; exact hp, fun k hk => ?_⟩
  refine no _ (List.mem_of_getElem? (i := k) ?_)
  rw [List.getElem?_take_of_lt hk, List.getElem?_eq_getElem (by omega)]
set_option maxRecDepth 100000 in
theorem valueOf {w : World} {p : Option Addr} {n c : Nat} {ms : List Cm} (h : CRd w p n c ms) {i : Nat} (hi : i < n) : Calls Try.prog 73 #[.slice p n c, .int .i64 (i : Int)] w fun o w' => o = .returned (.int .i64 (vOf ms i)) ∧ Kept (fun _ => False) w w' := by
  have rm := h.room
  have sm := h.small
  unfold maxLen at sm
  obtain ⟨b, off, m, rfl, hm, _, _, c2, _, _, c5, _⟩ := h.at hi
  have E : vOf ms i = if m.put = false ∧ m.st = 76 then -1 else ((ms.findIdx fun s => decide (s.val = m.val) : Nat) : Int) := by
    unfold vOf
    rw [hm]
  obtain ⟨W, hW⟩ : ∃ W, W = (w.alloc (.cells #[.slice (some ⟨b, off, none⟩) n c] 27)).alloc (.cells #[.int .i64 (i : Int)] 3) := ⟨_, rfl⟩
  obtain ⟨CB, hCB⟩ : ∃ B, B = w.heap.size := ⟨_, rfl⟩
  obtain ⟨AB, hAB⟩ : ∃ B, B = w.heap.size + 1 := ⟨_, rfl⟩
  have J : Hid (W.heap[CB]? = some (.cells #[.slice (some ⟨b, off, none⟩) n c] 27 (0, 0)) ∧ W.heap[AB]? = some (.cells #[.int .i64 (i : Int)] 3 (0, 0)) ∧ Kept (fun _ => False) w W ∧ W = (w.alloc (.cells #[.slice (some ⟨b, off, none⟩) n c] 27)).alloc (.cells #[.int .i64 (i : Int)] 3) ∧ CB = w.heap.size ∧ AB = w.heap.size + 1) := by
    have K1 : Kept (fun _ => False) w (w.alloc (.cells #[.slice (some ⟨b, off, none⟩) n c] 27)) := (Kept.refl _ _).alloc _
    refine ⟨?_, ?_, by rw [hW]; exact K1.alloc _, hW, hCB, hAB⟩
    · rw [hW, hCB]; exact ((Kept.refl (fun _ => False) _).alloc _).get (heap_alloc_new _ _) (fun z => z)
    · rw [hW, hAB]; exact alloc_new2 _ _ _ _
  have CI : Hid (Calls Try.prog 72 #[.slice (some ⟨b, off, none⟩) n c, .func (.func 88) #[] #[.pointer (some ⟨CB, 0, none⟩), .pointer (some ⟨AB, 0, none⟩)]] W fun o w' => ∃ a : Int, o = .returned (.int .i64 a) ∧ Hid (((a = -1 ∧ ∀ s ∈ ms, decide (s.val = m.val) = false) ∨ ∃ (j : Nat) (s : Cm), a = (j : Int) ∧ ms[j]? = some s ∧ decide (s.val = m.val) = true ∧ ∀ s ∈ ms.take j, decide (s.val = m.val) = false) ∧ Kept (fun _ => False) W w')) := by
    have hW1 := h.k0 J.out.2.2.1
    refine indexF37 (fun s => decide (s.val = m.val)) hW1 (fun s hs V kv => ?_)
    exact closure37 (hW1.k0 kv) hm (kv.cell (cell_blk J.out.1 0 rfl) (fun z => z)) (kv.cell (cell_blk J.out.2.1 0 rfl) (fun z => z)) s hs
  have HM : Hid (ms[i]? = some m) := hm
  replace c2 := J.out.2.2.1.cell c2 (fun z => z)
  replace c5 := J.out.2.2.1.cell c5 (fun z => z)
  have x0 := cell_blk J.out.1 0 (v := .slice (some ⟨b, off, none⟩) n c) rfl
  have y0 := cell_blk J.out.2.1 0 (v := .int .i64 (i : Int)) rfl
  have i1 : (i : Int) < (n : Int) := by omega
  have i0 : (0 : Int) ≤ (i : Int) := by omega
  obtain ⟨mp, hmp⟩ : ∃ mp, m.put = mp := ⟨_, rfl⟩
  obtain ⟨ms76, h76⟩ : ∃ b, (m.st == 76) = b := ⟨_, rfl⟩
  rw [hmp] at c2
  have EH : Hid (vOf ms i = if m.put = false ∧ m.st = 76 then -1 else ((ms.findIdx fun s => decide (s.val = m.val) : Nat) : Int)) := E
  have HP : Hid (m.put = mp ∧ (m.st == 76) = ms76) := ⟨hmp, h76⟩
  clear h hW hCB hAB hm E hmp
  go_enter Try.func73, Try.ntmps73
  go_upto_region 1 with fail
  rw [← J.out.2.2.2.1, ← J.out.2.2.2.2.2, ← J.out.2.2.2.2.1]
  have REST : Hid (¬ (m.put = false ∧ m.st = 76) → ∀ (a : Int) (w' : World), (((a = -1 ∧ ∀ s ∈ ms, decide (s.val = m.val) = false) ∨ ∃ (j : Nat) (s : Cm), a = (j : Int) ∧ ms[j]? = some s ∧ decide (s.val = m.val) = true ∧ ∀ s ∈ ms.take j, decide (s.val = m.val) = false) ∧ Kept (fun _ => False) W w') → a = vOf ms i ∧ Kept (fun _ => False) w w') := by
    rintro hn a w' ⟨h1 | ⟨j, s, rfl, h2, h3, h4⟩, h5⟩
    · have := h1.2 m (List.mem_of_getElem? HM.out)
      simp at this
    · refine ⟨?_, J.out.2.2.1.trans h5 (fun _ _ z => z.elim)⟩
      rw [EH.out, if_neg hn, findIdx_first h2 h3 h4]
  cases mp
  · cases ms76
    · have N : Hid (¬ (m.put = false ∧ m.st = 76)) := fun z => by
        have := HP.out.2
        rw [z.2] at this
        cases this
      go_wp2_with fail
      refine CI.out.mono ?_
      rintro o w2 ⟨a, rfl, Q2⟩
      have G : Hid (a = vOf ms i ∧ Kept (fun _ => False) w w2) := REST.out N.out a w2 Q2.out
      clear Q2 CI REST
      go_wp2_with fail
      go_ret
      exact ⟨by rw [← G.out.1]; rfl, G.out.2⟩
    · have E1 : Hid (vOf ms i = -1) := by
        show vOf ms i = -1
        rw [EH.out, if_pos ⟨HP.out.1, by have := HP.out.2; simpa using this⟩]
      have G : Hid (Kept (fun _ => False) w W) := J.out.2.2.1
      clear CI REST
      go_wp2_with fail
      go_ret
      exact ⟨by rw [E1.out]; rfl, G.out⟩
  · have N : Hid (¬ (m.put = false ∧ m.st = 76)) := fun z => by
      have := HP.out.1
      rw [z.1] at this
      cases this
    go_wp2_with fail
    refine CI.out.mono ?_
    rintro o w2 ⟨a, rfl, Q2⟩
    have G : Hid (a = vOf ms i ∧ Kept (fun _ => False) w w2) := REST.out N.out a w2 Q2.out
    clear Q2 CI REST
    go_wp2_with fail
    go_ret
    exact ⟨by rw [← G.out.1]; rfl, G.out.2⟩
end Go.Proofs.Ytodmakcklacbfaa

namespace Go.Proofs.Ytodmakcklacbfaa
open Go.RowKit 

/-- A row of one-cell values. -/
def vrow (g : Nat → Value) (n : Nat) : Array Value := ((List.range n).map g).toArray
theorem vrow_get (g : Nat → Value) {n i : Nat} (h : i < n) : (vrow g n)[i]? = some (g i) := by
  unfold vrow
  rw [List.getElem?_toArray, List.getElem?_map, List.getElem?_range h]
  rfl
theorem vrow_set (g : Nat → Value) (n i : Nat) (v : Value) : (vrow g n).setIfInBounds i v = vrow (fun j => if j = i then v else g j) n := by
  unfold vrow
  rw [List.setIfInBounds_toArray]
  congr 1
  refine List.ext_getElem? fun j => ?_
  rw [List.getElem?_set]
  by_cases hj : j < n
  · rw [List.getElem?_map, List.getElem?_map, List.getElem?_range hj]
    by_cases e : i = j
    · subst e
      simp [hj]
    · rw [if_neg e]
      show some (g j) = some (if j = i then v else g j)
      rw [if_neg (fun z => e z.symm)]
  · have e1 : (List.map (fun j => if j = i then v else g j) (List.range n))[j]? = none := by
      rw [List.getElem?_eq_none]
      simp
      omega
    rw [e1]
    have e2 : (List.map g (List.range n))[j]? = none := by
      rw [List.getElem?_eq_none]
      simp
      omega
    by_cases e : i = j
    · rw [if_pos e, if_neg (by simp; omega)]
    · rw [if_neg e]; exact e2
theorem vrow_made (z : Value) (n : Nat) : madeCells #[z] n = vrow (fun _ => z) n := by
  refine Array.ext ?_ ?_
  · simp [vrow, madeCells]
  · intro i a b
    simp [vrow, madeCells, Nat.mod_one]
def u32v (A : Nat → Nat) : Nat → Value := fun i => .int .u32 ((A i : Nat) : Int)
def i64v (V : Nat → Int) : Nat → Value := fun i => .int .i64 (V i)
def put1 {α : Type} (A : Nat → α) (i : Nat) (x : α) : Nat → α := fun j => if j = i then x else A j
theorem u32v_put (A : Nat → Nat) (n i x : Nat) : (vrow (u32v A) n).setIfInBounds i (.int .u32 (x : Int)) = vrow (u32v (put1 A i x)) n := by
  rw [vrow_set]
  congr 1
  funext j
  unfold u32v put1
  by_cases e : j = i
  · rw [if_pos e, if_pos e]
  · rw [if_neg e, if_neg e]
theorem i64v_put (V : Nat → Int) (n i : Nat) (x : Int) : (vrow (i64v V) n).setIfInBounds i (.int .i64 x) = vrow (i64v (put1 V i x)) n := by
  rw [vrow_set]
  congr 1
  funext j
  unfold i64v put1
  by_cases e : j = i
  · rw [if_pos e, if_pos e]
  · rw [if_neg e, if_neg e]
/-- A finder that is being made. -/
structure NF (w : World) (fb n : Nat) (cp : Option Addr) (cc vb ab bb lb mb : Nat) (V : Nat → Int) (mw : Nat) (A B L : Nat → Nat) : Prop where
  blk : w.heap[fb]? = some (.cells #[.slice cp n cc, .slice (some ⟨vb, 0, none⟩) n n, .int .u32 ((mw : Nat) : Int), .slice (some ⟨ab, 0, none⟩) n n, .slice (some ⟨bb, 0, none⟩) n n, .slice (some ⟨lb, 0, none⟩) n n, .map (some mb)] 88 (0, 0))
  hv : w.heap[vb]? = some (.cells (vrow (i64v V) n) 3 (0, 0))
  ha : w.heap[ab]? = some (.cells (vrow (u32v A) n) 85 (0, 0))
  hb : w.heap[bb]? = some (.cells (vrow (u32v B) n) 85 (0, 0))
  hl : w.heap[lb]? = some (.cells (vrow (u32v L) n) 85 (0, 0))
  d1 : ab ≠ bb
  d2 : ab ≠ lb
  d3 : bb ≠ lb
  im : IsM w mb (fun _ => none)
  n24 : n ≤ 24
  lA : ∀ i, A i < 16777216
  lB : ∀ i, B i < 16777216
  lL : ∀ i, L i < 16777216
  lm : mw < 16777216
def NF.Own (fb vb ab bb lb mb b : Nat) : Prop := b = fb ∨ b = vb ∨ b = ab ∨ b = bb ∨ b = lb ∨ b = mb
section
variable {w w' : World} {fb n : Nat} {cp : Option Addr} {cc vb ab bb lb mb : Nat} {V : Nat → Int} {mw : Nat} {A B L : Nat → Nat}
theorem NF.k0 (h : NF w fb n cp cc vb ab bb lb mb V mw A B L) (K : Kept (fun _ => False) w w') : NF w' fb n cp cc vb ab bb lb mb V mw A B L :=
  ⟨K.get h.blk (fun z => z), K.get h.hv (fun z => z), K.get h.ha (fun z => z), K.get h.hb (fun z => z), K.get h.hl (fun z => z), h.d1, h.d2, h.d3, h.im.k0 K, h.n24, h.lA, h.lB, h.lL, h.lm⟩
theorem NF.nvb (h : NF w fb n cp cc vb ab bb lb mb V mw A B L) : fb ≠ vb ∧ fb ≠ ab ∧ fb ≠ bb ∧ fb ≠ lb ∧ vb ≠ ab ∧ vb ≠ bb ∧ vb ≠ lb := by
  have ne : ∀ {x y : Nat} {cs cs' : Array Value} {t t' : TypeId}, w.heap[x]? = some (.cells cs t (0, 0)) → w.heap[y]? = some (.cells cs' t' (0, 0)) → t ≠ t' → x ≠ y := by
    intro x y cs cs' t t' h1 h2 ht e
    subst e
    rw [h1] at h2
    have := Option.some.inj h2
    injection this with _ e
    exact ht e
  exact ⟨ne h.blk h.hv (by decide), ne h.blk h.ha (by decide), ne h.blk h.hb (by decide), ne h.blk h.hl (by decide), ne h.hv h.ha (by decide), ne h.hv h.hb (by decide), ne h.hv h.hl (by decide)⟩
theorem NF.nmb (h : NF w fb n cp cc vb ab bb lb mb V mw A B L) : fb ≠ mb ∧ vb ≠ mb ∧ ab ≠ mb ∧ bb ≠ mb ∧ lb ≠ mb := by
  have ne : ∀ {x : Nat} {cs : Array Value} {t : TypeId}, w.heap[x]? = some (.cells cs t (0, 0)) → x ≠ mb := by
    intro x cs t h1 e
    obtain ⟨D, ⟨es, clock, hb, _⟩, _⟩ := h.im.1
    rw [← e, h1] at hb
    cases hb
  exact ⟨ne h.blk, ne h.hv, ne h.ha, ne h.hb, ne h.hl⟩
theorem keptSet (w : World) (b i : Nat) (v : Value) : Kept (fun k => k = b) w (w.setCell ⟨b, i, none⟩ v) := (Kept.refl (fun k => k = b) w).setCell (p := ⟨b, i, none⟩) (fun _ => rfl) _
theorem IsM.set {M : Int → Option Unit} (h : IsM w mb M) {b i : Nat} {v : Value} (hn : b ≠ mb) : IsM (w.setCell ⟨b, i, none⟩ v) mb M := ⟨h.1.kept (keptSet w b i v) (fun z => hn z.symm), h.2⟩
theorem NF.setV (h : NF w fb n cp cc vb ab bb lb mb V mw A B L) (i : Nat) (x : Int) : NF (w.setCell ⟨vb, i, none⟩ (.int .i64 x)) fb n cp cc vb ab bb lb mb (put1 V i x) mw A B L := by
  have K := keptSet w vb i (.int .i64 x)
  obtain ⟨a1, a2, a3, a4, a5, a6, a7⟩ := h.nvb
  have hv := set_heap h.hv i (.int .i64 x)
  rw [i64v_put] at hv
  exact ⟨K.get h.blk a1, hv, K.get h.ha (fun z => a5 z.symm), K.get h.hb (fun z => a6 z.symm), K.get h.hl (fun z => a7 z.symm), h.d1, h.d2, h.d3, h.im.set h.nmb.2.1, h.n24, h.lA, h.lB, h.lL, h.lm⟩
theorem NF.setA (h : NF w fb n cp cc vb ab bb lb mb V mw A B L) (i x : Nat) (hx : x < 16777216) : NF (w.setCell ⟨ab, i, none⟩ (.int .u32 (x : Int))) fb n cp cc vb ab bb lb mb V mw (put1 A i x) B L := by
  have K := keptSet w ab i (.int .u32 (x : Int))
  obtain ⟨a1, a2, a3, a4, a5, a6, a7⟩ := h.nvb
  have ha := set_heap h.ha i (.int .u32 (x : Int))
  rw [u32v_put] at ha
  refine ⟨K.get h.blk a2, K.get h.hv a5, ha, K.get h.hb (fun z => h.d1 z.symm), K.get h.hl (fun z => h.d2 z.symm), h.d1, h.d2, h.d3, h.im.set h.nmb.2.2.1, h.n24, fun j => ?_, h.lB, h.lL, h.lm⟩
  unfold put1
  split
  · exact hx
  · exact h.lA j
theorem NF.setB (h : NF w fb n cp cc vb ab bb lb mb V mw A B L) (i x : Nat) (hx : x < 16777216) : NF (w.setCell ⟨bb, i, none⟩ (.int .u32 (x : Int))) fb n cp cc vb ab bb lb mb V mw A (put1 B i x) L := by
  have K := keptSet w bb i (.int .u32 (x : Int))
  obtain ⟨a1, a2, a3, a4, a5, a6, a7⟩ := h.nvb
  have hb := set_heap h.hb i (.int .u32 (x : Int))
  rw [u32v_put] at hb
  refine ⟨K.get h.blk a3, K.get h.hv a6, K.get h.ha h.d1, hb, K.get h.hl (fun z => h.d3 z.symm), h.d1, h.d2, h.d3, h.im.set h.nmb.2.2.2.1, h.n24, h.lA, fun j => ?_, h.lL, h.lm⟩
  unfold put1
  split
  · exact hx
  · exact h.lB j
theorem NF.setL (h : NF w fb n cp cc vb ab bb lb mb V mw A B L) (i x : Nat) (hx : x < 16777216) : NF (w.setCell ⟨lb, i, none⟩ (.int .u32 (x : Int))) fb n cp cc vb ab bb lb mb V mw A B (put1 L i x) := by
  have K := keptSet w lb i (.int .u32 (x : Int))
  obtain ⟨a1, a2, a3, a4, a5, a6, a7⟩ := h.nvb
  have hl := set_heap h.hl i (.int .u32 (x : Int))
  rw [u32v_put] at hl
  refine ⟨K.get h.blk a4, K.get h.hv a7, K.get h.ha h.d2, K.get h.hb h.d3, hl, h.d1, h.d2, h.d3, h.im.set h.nmb.2.2.2.2, h.n24, h.lA, h.lB, fun j => ?_, h.lm⟩
  unfold put1
  split
  · exact hx
  · exact h.lL j
theorem NF.setM (h : NF w fb n cp cc vb ab bb lb mb V mw A B L) (x : Nat) (hx : x < 16777216) : NF (w.setCell ⟨fb, 2, none⟩ (.int .u32 (x : Int))) fb n cp cc vb ab bb lb mb V x A B L := by
  have K := keptSet w fb 2 (.int .u32 (x : Int))
  obtain ⟨a1, a2, a3, a4, a5, a6, a7⟩ := h.nvb
  have hb := set_heap h.blk 2 (.int .u32 (x : Int))
  exact ⟨hb, K.get h.hv (fun z => a1 z.symm), K.get h.ha (fun z => a2 z.symm), K.get h.hb (fun z => a3 z.symm), K.get h.hl (fun z => a4 z.symm), h.d1, h.d2, h.d3, h.im.set h.nmb.1, h.n24, h.lA, h.lB, h.lL, hx⟩
end
end Go.Proofs.Ytodmakcklacbfaa
