import Derived.Test.YtbangbobfeflcaaGreatDoorREn
namespace Go.Proofs.YtbangbobfeflcaaGreatDoor
open Go.RowKit 

theorem set_all9 {W : World} {b : Nat} {c0 c1 c2 c3 c4 c5 c6 c7 c8 : Value} (h : W.heap[b]? = some (.cells #[c0, c1, c2, c3, c4, c5, c6, c7, c8] 39 (0, 0))) (v0 v1 v2 v3 v4 v5 v6 v7 v8 : Value) : (((((((((W.setCell ⟨b, 0, none⟩ v0).setCell ⟨b, 1, none⟩ v1).setCell ⟨b, 2, none⟩ v2).setCell ⟨b, 3, none⟩ v3).setCell ⟨b, 4, none⟩ v4).setCell ⟨b, 5, none⟩ v5).setCell ⟨b, 6, none⟩ v6).setCell ⟨b, 7, none⟩ v7).setCell ⟨b, 8, none⟩ v8).heap[b]? = some (.cells #[v0, v1, v2, v3, v4, v5, v6, v7, v8] 39 (0, 0)) ∧ Kept (fun j => j = b) W (((((((((W.setCell ⟨b, 0, none⟩ v0).setCell ⟨b, 1, none⟩ v1).setCell ⟨b, 2, none⟩ v2).setCell ⟨b, 3, none⟩ v3).setCell ⟨b, 4, none⟩ v4).setCell ⟨b, 5, none⟩ v5).setCell ⟨b, 6, none⟩ v6).setCell ⟨b, 7, none⟩ v7).setCell ⟨b, 8, none⟩ v8) := by
  have s0 := set_heap h 0 v0
  have s1 := set_heap s0 1 v1
  have s2 := set_heap s1 2 v2
  have s3 := set_heap s2 3 v3
  have s4 := set_heap s3 4 v4
  have s5 := set_heap s4 5 v5
  have s6 := set_heap s5 6 v6
  have s7 := set_heap s6 7 v7
  have s8 := set_heap s7 8 v8
  refine ⟨s8.trans (by simp), ?_⟩
  have k0 := (Kept.refl (fun j => j = b) W).setCell (p := ⟨b, 0, none⟩) (fun _ => rfl) v0
  have k1 := k0.setCell (p := ⟨b, 1, none⟩) (fun _ => rfl) v1
  have k2 := k1.setCell (p := ⟨b, 2, none⟩) (fun _ => rfl) v2
  have k3 := k2.setCell (p := ⟨b, 3, none⟩) (fun _ => rfl) v3
  have k4 := k3.setCell (p := ⟨b, 4, none⟩) (fun _ => rfl) v4
  have k5 := k4.setCell (p := ⟨b, 5, none⟩) (fun _ => rfl) v5
  have k6 := k5.setCell (p := ⟨b, 6, none⟩) (fun _ => rfl) v6
  have k7 := k6.setCell (p := ⟨b, 7, none⟩) (fun _ => rfl) v7
  have k8 := k7.setCell (p := ⟨b, 8, none⟩) (fun _ => rfl) v8
  exact k8
theorem wst_size : ∀ (l : List UInt8) (pre : List ByteArray) (last : ByteArray) (inn : Bool) (n : Nat), (∀ a ∈ pre ++ [last], a.size ≤ n) → ∀ a ∈ (l.foldl wstep (pre, last, inn)).1 ++ [(l.foldl wstep (pre, last, inn)).2.1], a.size ≤ n + l.length
  | [], pre, last, inn, n, h => fun a ha => h a ha
  | c :: r, pre, last, inn, n, h => fun a ha => by
    rw [List.foldl_cons] at ha
    rw [List.length_cons]
    have e : wstep (pre, last, inn) c = (pre ++ [last], ⟨#[]⟩, if c = 34 then !inn else inn) ∨ wstep (pre, last, inn) c = (pre, last ++ ⟨#[c]⟩, if c = 34 then !inn else inn) := by
      unfold wstep
      by_cases h : c = 32 ∧ (if c = 34 then !inn else inn) = false
      · exact .inl (by simp only; rw [if_pos h])
      · exact .inr (by simp only; rw [if_neg h])
    rcases e with e | e
    · rw [e] at ha
      have q := wst_size r (pre ++ [last]) ⟨#[]⟩ _ (n + 1) (fun x hx => by
        rcases List.mem_append.1 hx with z | z
        · have := h x z; omega
        · rw [List.mem_singleton.1 z]; exact Nat.zero_le _) a ha
      omega
    · rw [e] at ha
      have q := wst_size r pre (last ++ ⟨#[c]⟩) _ (n + 1) (fun x hx => by
        rcases List.mem_append.1 hx with z | z
        · have := h x (List.mem_append_left _ z); omega
        · rw [List.mem_singleton.1 z, ByteArray.size_append]
          have := h last (by simp)
          show last.size + 1 ≤ _
          omega) a ha
      omega
theorem wrd_size (s : ByteArray) : ∀ a ∈ wrdL s, a.size ≤ s.size := fun a ha => by
  have q := wst_size s.data.toList [] ⟨#[]⟩ false 0 (fun x hx => by rw [List.mem_singleton.1 hx]; exact Nat.zero_le _) a ha
  have e : s.data.toList.length = s.size := Array.length_toList
  omega
set_option maxRecDepth 100000 in
theorem slice5 {g k c : Nat} (h5 : 5 < k) (hc : k ≤ c) (U : World) : (Instr.slice 44 (.slice (some ⟨g, 0, none⟩) k c) (some (.int .i64 5)) none none).run Tryz.prog U = .ok (.slice (some ⟨g, 5, none⟩) (k - 5) (c - 5)) U := by
  rw [run_slice_l (P := Tryz.prog) U 44 (some ⟨g, 0, none⟩) k c (by kernel_rfl) .i64 5 (by decide) (by omega)]
  have nc : ¬ c = 5 := by omega
  go_simp
/-- Where event is: what it answers, the event, the words. -/
structure Eg (w W : World) (cs : Array Value) (g k c : Nat) (ws : List ByteArray) : Prop where
  rs : W.heap[w.heap.size]? = some (.cells zEv 39 (0, 0))
  ev : W.heap[w.heap.size + 1]? = some (.cells cs 39 (0, 0))
  row : W.ownsRow (w.heap.size + 2) 9 1 (.slice (some ⟨g, 0, none⟩) k c) k (strs ws)
  kept : Kept (fun _ => False) w W
theorem Eg.keep {w W W' : World} {cs : Array Value} {g k c : Nat} {ws : List ByteArray} (h : Eg w W cs g k c ws) (K : Kept (fun _ => False) W W') : Eg w W' cs g k c ws := ⟨K.get h.rs (fun z => z), K.get h.ev (fun z => z), K.owns h.row (fun _ _ z => z), h.kept.trans K (fun _ _ z => z)⟩
theorem Eg.by {w W W' : World} {cs cs' : Array Value} {g k c : Nat} {ws : List ByteArray} (h : Eg w W cs g k c ws) (K : Kept (fun j => j = w.heap.size + 1) W W') (e : W'.heap[w.heap.size + 1]? = some (.cells cs' 39 (0, 0))) : Eg w W' cs' g k c ws := ⟨K.get h.rs (by omega), e, K.owns h.row (fun j hj z => by have q := h.row.lt j hj; have z : j = w.heap.size + 1 := z; omega), h.kept.trans K (fun j hj z => by have z : j = w.heap.size + 1 := z; omega)⟩
theorem Eg.set {w W : World} {cs : Array Value} {g k c : Nat} {ws : List ByteArray} (h : Eg w W cs g k c ws) (i : Nat) (v : Value) : Eg w (W.setCell ⟨w.heap.size + 1, i, none⟩ v) (cs.setIfInBounds i v) g k c ws := h.by ((Kept.refl (fun j => j = w.heap.size + 1) W).setCell (p := ⟨w.heap.size + 1, i, none⟩) (fun _ => rfl) v) (set_heap h.ev i v)
theorem Eg.wd {w W : World} {cs : Array Value} {g k c : Nat} {ws : List ByteArray} (h : Eg w W cs g k c ws) {i : Nat} {a : ByteArray} (ha : ws[i]? = some a) : W.cell? ⟨g, i, none⟩ = some (.string a) := by
  have q := h.row.cells (g := g) rfl i (.string a) (by unfold strs; rw [List.getElem?_map, ha]; rfl)
  rw [Addr.add_none, Nat.zero_add] at q
  exact q
theorem Eg.len {w W : World} {cs : Array Value} {g k c : Nat} {ws : List ByteArray} (h : Eg w W cs g k c ws) : ws.length = k := by
  have q := h.row.1
  rw [strs_len] at q
  omega
set_option maxRecDepth 100000 in
set_option maxHeartbeats 2000000 in
theorem hEvBad (s : ByteArray) (hs : s.size ≤ 1000000000) (W : List ByteArray) (hW : wrdL s = W) (hk : W.length < 5 ∨ 8 < W.length) (w : World) : Calls Tryz.prog 33 #[.string s] w fun o w' => o = .returned (.agg #[.int .i64 0, .int .i64 0, .int .i64 0, .bool false, .string ⟨#[]⟩, .slice none 0 0, .int .i64 0, .int .i64 0, .int .i64 0]) ∧ Kept (fun _ => False) w w' := by
  have CW : Hid (∀ U, Calls Tryz.prog 66 #[.string s] U fun o w' => ∃ g k c, o = .returned (.slice (some ⟨g, 0, none⟩) k c) ∧ w'.ownsRow U.heap.size 9 1 (.slice (some ⟨g, 0, none⟩) k c) k (strs W) ∧ Kept (fun _ => False) U w') := fun U => by rw [← hW]; exact hWords s hs U
  obtain ⟨W0, hW0⟩ : ∃ W0, W0 = (w.alloc (.cells #[.int .i64 0, .int .i64 0, .int .i64 0, .bool false, .string ⟨#[]⟩, .slice none 0 0, .int .i64 0, .int .i64 0, .int .i64 0] 39)).alloc (.cells #[.int .i64 0, .int .i64 0, .int .i64 0, .bool false, .string ⟨#[]⟩, .slice none 0 0, .int .i64 0, .int .i64 0, .int .i64 0] 39) := ⟨_, rfl⟩
  have S0 : Hid (W0.heap[w.heap.size]? = some (.cells zEv 39 (0, 0)) ∧ W0.heap[w.heap.size + 1]? = some (.cells zEv 39 (0, 0)) ∧ w.heap.size + 2 ≤ W0.heap.size ∧ Kept (fun _ => False) w W0) := by
    rw [hW0]
    refine ⟨alloc_old _ (alloc_new _ _), ?_, ?_, ((Kept.refl _ _).alloc _).alloc _⟩
    · have q := alloc_new (w.alloc (.cells zEv 39)) (.cells zEv 39)
      rw [alloc_size] at q
      exact q
    · rw [alloc_size, alloc_size]
      exact Nat.le_refl _
  have EW : Hid (W0 = (w.alloc (.cells #[.int .i64 0, .int .i64 0, .int .i64 0, .bool false, .string ⟨#[]⟩, .slice none 0 0, .int .i64 0, .int .i64 0, .int .i64 0] 39)).alloc (.cells #[.int .i64 0, .int .i64 0, .int .i64 0, .bool false, .string ⟨#[]⟩, .slice none 0 0, .int .i64 0, .int .i64 0, .int .i64 0] 39)) := hW0
  clear hW0 hs
  go_enter Tryz.func33, Tryz.ntmps33
  go_upto_region 2 with fail
  rw [← EW.out]
  clear EW
  go_wp2_with fail
  refine (CW.out _).mono ?_
  rintro o u1 ⟨g, k, c, rfl, ro, K⟩
  have G0 : Hid (Eg w u1 #[.int .i64 0, .int .i64 0, .int .i64 0, .bool false, .string ⟨#[]⟩, .slice none 0 0, .int .i64 0, .int .i64 0, .int .i64 0] g k c W) := ⟨K.get S0.out.1 (fun z => z), K.get S0.out.2.1 (fun z => z), owns_mono ro S0.out.2.2.1, S0.out.2.2.2.trans K (fun _ _ z => z)⟩
  have kc := own_room ro
  have kl := G0.out.len
  clear ro K S0 CW
  rcases hk with hk | hk
  · have i1 : (k : Int) < 5 := by omega
    have e0 := cell_blk G0.out.ev 0 (v := .int .i64 0) rfl
    have e1 := cell_blk G0.out.ev 1 (v := .int .i64 0) rfl
    have e2 := cell_blk G0.out.ev 2 (v := .int .i64 0) rfl
    have e3 := cell_blk G0.out.ev 3 (v := .bool false) rfl
    have e4 := cell_blk G0.out.ev 4 (v := .string ⟨#[]⟩) rfl
    have e5 := cell_blk G0.out.ev 5 (v := .slice none 0 0) rfl
    have e6 := cell_blk G0.out.ev 6 (v := .int .i64 0) rfl
    have e7 := cell_blk G0.out.ev 7 (v := .int .i64 0) rfl
    have e8 := cell_blk G0.out.ev 8 (v := .int .i64 0) rfl
    have r0 := cell_blk G0.out.rs 0 (v := .int .i64 0) rfl
    have s0 := soft_blk G0.out.rs 0
    have r1 := cell_blk G0.out.rs 1 (v := .int .i64 0) rfl
    have s1 := soft_blk G0.out.rs 1
    have r2 := cell_blk G0.out.rs 2 (v := .int .i64 0) rfl
    have s2 := soft_blk G0.out.rs 2
    have r3 := cell_blk G0.out.rs 3 (v := .bool false) rfl
    have s3 := soft_blk G0.out.rs 3
    have r4 := cell_blk G0.out.rs 4 (v := .string ⟨#[]⟩) rfl
    have s4 := soft_blk G0.out.rs 4
    have r5 := cell_blk G0.out.rs 5 (v := .slice none 0 0) rfl
    have s5 := soft_blk G0.out.rs 5
    have r6 := cell_blk G0.out.rs 6 (v := .int .i64 0) rfl
    have s6 := soft_blk G0.out.rs 6
    have r7 := cell_blk G0.out.rs 7 (v := .int .i64 0) rfl
    have s7 := soft_blk G0.out.rs 7
    have r8 := cell_blk G0.out.rs 8 (v := .int .i64 0) rfl
    have s8 := soft_blk G0.out.rs 8
    go_wp2_with fail
    have SA := set_all G0.out.rs (.int .i64 0) (.int .i64 0) (.int .i64 0) (.bool false) (.string ⟨#[]⟩) (.slice none 0 0) (.int .i64 0) (.int .i64 0) (.int .i64 0)
    have KF := G0.out.kept.trans SA.2 (fun j hj z => by have z : j = w.heap.size := z; omega)
    refine bodyPost_ret (results_cell_row rfl _ _ w.heap.size 39 #[.int .i64 0, .int .i64 0, .int .i64 0, .bool false, .string ⟨#[]⟩, .slice none 0 0, .int .i64 0, .int .i64 0, .int .i64 0] (0, 0) _ rfl SA.1 Tryz.underlying39 rfl (by kernel_rfl)) rfl ?_
    exact ⟨rfl, KF⟩
  · have i1 : ¬ (k : Int) < 5 := by omega
    have i2 : (8 : Int) < (k : Int) := by omega
    have i2b : (k : Int) > 8 := by omega
    have e0 := cell_blk G0.out.ev 0 (v := .int .i64 0) rfl
    have e1 := cell_blk G0.out.ev 1 (v := .int .i64 0) rfl
    have e2 := cell_blk G0.out.ev 2 (v := .int .i64 0) rfl
    have e3 := cell_blk G0.out.ev 3 (v := .bool false) rfl
    have e4 := cell_blk G0.out.ev 4 (v := .string ⟨#[]⟩) rfl
    have e5 := cell_blk G0.out.ev 5 (v := .slice none 0 0) rfl
    have e6 := cell_blk G0.out.ev 6 (v := .int .i64 0) rfl
    have e7 := cell_blk G0.out.ev 7 (v := .int .i64 0) rfl
    have e8 := cell_blk G0.out.ev 8 (v := .int .i64 0) rfl
    have r0 := cell_blk G0.out.rs 0 (v := .int .i64 0) rfl
    have s0 := soft_blk G0.out.rs 0
    have r1 := cell_blk G0.out.rs 1 (v := .int .i64 0) rfl
    have s1 := soft_blk G0.out.rs 1
    have r2 := cell_blk G0.out.rs 2 (v := .int .i64 0) rfl
    have s2 := soft_blk G0.out.rs 2
    have r3 := cell_blk G0.out.rs 3 (v := .bool false) rfl
    have s3 := soft_blk G0.out.rs 3
    have r4 := cell_blk G0.out.rs 4 (v := .string ⟨#[]⟩) rfl
    have s4 := soft_blk G0.out.rs 4
    have r5 := cell_blk G0.out.rs 5 (v := .slice none 0 0) rfl
    have s5 := soft_blk G0.out.rs 5
    have r6 := cell_blk G0.out.rs 6 (v := .int .i64 0) rfl
    have s6 := soft_blk G0.out.rs 6
    have r7 := cell_blk G0.out.rs 7 (v := .int .i64 0) rfl
    have s7 := soft_blk G0.out.rs 7
    have r8 := cell_blk G0.out.rs 8 (v := .int .i64 0) rfl
    have s8 := soft_blk G0.out.rs 8
    go_wp2_with fail
    have SA := set_all G0.out.rs (.int .i64 0) (.int .i64 0) (.int .i64 0) (.bool false) (.string ⟨#[]⟩) (.slice none 0 0) (.int .i64 0) (.int .i64 0) (.int .i64 0)
    have KF := G0.out.kept.trans SA.2 (fun j hj z => by have z : j = w.heap.size := z; omega)
    refine bodyPost_ret (results_cell_row rfl _ _ w.heap.size 39 #[.int .i64 0, .int .i64 0, .int .i64 0, .bool false, .string ⟨#[]⟩, .slice none 0 0, .int .i64 0, .int .i64 0, .int .i64 0] (0, 0) _ rfl SA.1 Tryz.underlying39 rfl (by kernel_rfl)) rfl ?_
    exact ⟨rfl, KF⟩
set_option maxRecDepth 100000 in
set_option maxHeartbeats 2000000 in
theorem hEv0 (s : ByteArray) (hs : s.size ≤ 1000000000) (W : List ByteArray) (hW : wrdL s = W) (a1 a2 a3 a4 : ByteArray) (M1 M2 : Nat) (a0 : ByteArray) (n1 : ¬ a0 = ⟨#[105, 110, 118, 111, 107, 101]⟩) (n2 : ¬ a0 = ⟨#[114, 101, 116, 117, 114, 110]⟩) (n3 : ¬ a0 = ⟨#[99, 97, 110, 99, 101, 108]⟩) (w0 : W[0]? = some a0) (w1 : W[1]? = some a1) (w2 : W[2]? = some a2) (w3 : W[3]? = some a3) (w4 : W[4]? = some a4) (pb : Bool) (hpb : (a3.toList == [112, 117, 116]) = pb) (hk : 5 ≤ W.length) (hk8 : W.length ≤ 8) (w : World) : Calls Tryz.prog 33 #[.string s] w fun o w' => ∃ v1 v2 : Int, o = .returned (.agg #[.int .i64 0, .int .i64 v1, .int .i64 v2, .bool pb, .string (str (meaB a4)), .slice none 0 0, .int .i64 0, .int .i64 0, .int .i64 0]) ∧ (a1 = decB M1 ∧ M1 ≤ 4611686018427387903 → v1 = (M1 : Int)) ∧ (a2 = decB M2 ∧ M2 ≤ 4611686018427387903 → v2 = (M2 : Int)) ∧ Kept (fun _ => False) w w' := by
  have SZ := wrd_size s
  rw [hW] at SZ
  have z1 : a1.size ≤ 1000000000 := Nat.le_trans (SZ a1 (List.mem_of_getElem? w1)) hs
  have z2 : a2.size ≤ 1000000000 := Nat.le_trans (SZ a2 (List.mem_of_getElem? w2)) hs
  have z4 : a4.size ≤ 1000000000 := Nat.le_trans (SZ a4 (List.mem_of_getElem? w4)) hs
  clear SZ
  have C1 : Hid (∀ U, Calls Tryz.prog 67 #[.string a1] U fun o w' => ∃ v : Int, o = .returned (.int .i64 v) ∧ (a1 = decB M1 ∧ M1 ≤ 4611686018427387903 → v = (M1 : Int)) ∧ w' = U) := fun U => hRead a1 M1 U z1
  have C2 : Hid (∀ U, Calls Tryz.prog 67 #[.string a2] U fun o w' => ∃ v : Int, o = .returned (.int .i64 v) ∧ (a2 = decB M2 ∧ M2 ≤ 4611686018427387903 → v = (M2 : Int)) ∧ w' = U) := fun U => hRead a2 M2 U z2
  have C4 : Hid (∀ U, Calls Tryz.prog 68 #[.string a4] U fun o w' => ∃ p k c, o = .returned (.slice p k c) ∧ QS U (meaB a4) p k c w' ∧ (∀ x ∈ meaB a4, x < 256)) := fun U => hMeant a4 z4 U
  obtain ⟨kb, hkb⟩ : ∃ kb, str (meaB a4) = kb := ⟨_, rfl⟩
  simp only [hkb]
  have HKB : Hid (str (meaB a4) = kb) := hkb
  clear hkb
  have WW : Hid (W[0]? = some a0 ∧ W[1]? = some a1 ∧ W[2]? = some a2 ∧ W[3]? = some a3 ∧ W[4]? = some a4) := ⟨w0, w1, w2, w3, w4⟩
  have f1 : (a0.toList == [105, 110, 118, 111, 107, 101]) = false := ne_list n1 (by rw [Go.ByteArray.toList_eq])
  have f2 : (a0.toList == [114, 101, 116, 117, 114, 110]) = false := ne_list n2 (by rw [Go.ByteArray.toList_eq])
  have f3 : (a0.toList == [99, 97, 110, 99, 101, 108]) = false := ne_list n3 (by rw [Go.ByteArray.toList_eq])
  have CW : Hid (∀ U, Calls Tryz.prog 66 #[.string s] U fun o w' => ∃ g k c, o = .returned (.slice (some ⟨g, 0, none⟩) k c) ∧ w'.ownsRow U.heap.size 9 1 (.slice (some ⟨g, 0, none⟩) k c) k (strs W) ∧ Kept (fun _ => False) U w') := fun U => by rw [← hW]; exact hWords s hs U
  obtain ⟨W0, hW0⟩ : ∃ W0, W0 = (w.alloc (.cells #[.int .i64 0, .int .i64 0, .int .i64 0, .bool false, .string ⟨#[]⟩, .slice none 0 0, .int .i64 0, .int .i64 0, .int .i64 0] 39)).alloc (.cells #[.int .i64 0, .int .i64 0, .int .i64 0, .bool false, .string ⟨#[]⟩, .slice none 0 0, .int .i64 0, .int .i64 0, .int .i64 0] 39) := ⟨_, rfl⟩
  have S0 : Hid (W0.heap[w.heap.size]? = some (.cells zEv 39 (0, 0)) ∧ W0.heap[w.heap.size + 1]? = some (.cells zEv 39 (0, 0)) ∧ w.heap.size + 2 ≤ W0.heap.size ∧ Kept (fun _ => False) w W0) := by
    rw [hW0]
    refine ⟨alloc_old _ (alloc_new _ _), ?_, ?_, ((Kept.refl _ _).alloc _).alloc _⟩
    · have q := alloc_new (w.alloc (.cells zEv 39)) (.cells zEv 39)
      rw [alloc_size] at q
      exact q
    · rw [alloc_size, alloc_size]
      exact Nat.le_refl _
  have EW : Hid (W0 = (w.alloc (.cells #[.int .i64 0, .int .i64 0, .int .i64 0, .bool false, .string ⟨#[]⟩, .slice none 0 0, .int .i64 0, .int .i64 0, .int .i64 0] 39)).alloc (.cells #[.int .i64 0, .int .i64 0, .int .i64 0, .bool false, .string ⟨#[]⟩, .slice none 0 0, .int .i64 0, .int .i64 0, .int .i64 0] 39)) := hW0
  clear hW0 hs z1 z2 z4 w0 w1 w2 w3 w4 n1 n2 n3
  go_enter Tryz.func33, Tryz.ntmps33
  go_upto_region 2 with fail
  rw [← EW.out]
  clear EW
  go_wp2_with fail
  refine (CW.out _).mono ?_
  rintro o u1 ⟨g, k, c, rfl, ro, K⟩
  have G0 : Hid (Eg w u1 #[.int .i64 0, .int .i64 0, .int .i64 0, .bool false, .string ⟨#[]⟩, .slice none 0 0, .int .i64 0, .int .i64 0, .int .i64 0] g k c W) := ⟨K.get S0.out.1 (fun z => z), K.get S0.out.2.1 (fun z => z), owns_mono ro S0.out.2.2.1, S0.out.2.2.2.trans K (fun _ _ z => z)⟩
  have kc := own_room ro
  have kl := G0.out.len
  clear ro K S0 CW
  have i1 : ¬ (k : Int) < 5 := by omega
  have i2 : ¬ (8 : Int) < (k : Int) := by omega
  have i2b : ¬ (k : Int) > 8 := by omega
  have j0 : (0 : Int) < (k : Int) := by omega
  have j1 : (1 : Int) < (k : Int) := by omega
  have j2 : (2 : Int) < (k : Int) := by omega
  have j3 : (3 : Int) < (k : Int) := by omega
  have j4 : (4 : Int) < (k : Int) := by omega
  have c1 := G0.out.wd WW.out.2.1
  go_wp2_with fail
  refine (C1.out _).mono ?_
  rintro o u2 ⟨v1, rfl, R1', hw⟩
  have R1 : Hid _ := R1'
  clear R1' C1 c1
  subst hw
  have d1 := cell_blk G0.out.ev 1 (v := .int .i64 0) rfl
  have t1 := soft_blk G0.out.ev 1
  have c2 : (u2.setCell ⟨w.heap.size + 1, 1, none⟩ (.int .i64 v1)).cell? ⟨g, 2, none⟩ = some (.string a2) := (G0.out.set 1 (.int .i64 v1)).wd WW.out.2.2.1
  go_wp2_with fail
  have G1 : Hid (Eg w (u2.setCell ⟨w.heap.size + 1, 1, none⟩ (.int .i64 v1)) #[.int .i64 0, .int .i64 v1, .int .i64 0, .bool false, .string ⟨#[]⟩, .slice none 0 0, .int .i64 0, .int .i64 0, .int .i64 0] g k c W) := G0.out.set 1 (.int .i64 v1)
  clear G0 d1 t1
  obtain ⟨V1, hV1⟩ : ∃ V, u2.setCell ⟨w.heap.size + 1, 1, none⟩ (.int .i64 v1) = V := ⟨_, rfl⟩
  rw [hV1] at G1 ⊢
  clear hV1 c2
  refine (C2.out _).mono ?_
  rintro o u3 ⟨v2, rfl, R2', hw⟩
  have R2 : Hid _ := R2'
  clear R2' C2
  subst hw
  have d2 := cell_blk G1.out.ev 2 (v := .int .i64 0) rfl
  have t2 := soft_blk G1.out.ev 2
  have c3 : (u3.setCell ⟨w.heap.size + 1, 2, none⟩ (.int .i64 v2)).cell? ⟨g, 3, none⟩ = some (.string a3) := (G1.out.set 2 (.int .i64 v2)).wd WW.out.2.2.2.1
  have d3 := cell_blk (G1.out.set 2 (.int .i64 v2)).ev 3 (v := .bool false) rfl
  have t3 := soft_blk (G1.out.set 2 (.int .i64 v2)).ev 3
  have c4 : ((u3.setCell ⟨w.heap.size + 1, 2, none⟩ (.int .i64 v2)).setCell ⟨w.heap.size + 1, 3, none⟩ (.bool pb)).cell? ⟨g, 4, none⟩ = some (.string a4) := ((G1.out.set 2 (.int .i64 v2)).set 3 (.bool pb)).wd WW.out.2.2.2.2
  go_wp2_with fail
  have G2 : Hid (Eg w ((u3.setCell ⟨w.heap.size + 1, 2, none⟩ (.int .i64 v2)).setCell ⟨w.heap.size + 1, 3, none⟩ (.bool pb)) #[.int .i64 0, .int .i64 v1, .int .i64 v2, .bool pb, .string ⟨#[]⟩, .slice none 0 0, .int .i64 0, .int .i64 0, .int .i64 0] g k c W) := (G1.out.set 2 (.int .i64 v2)).set 3 (.bool pb)
  clear G1 d2 t2 d3 t3 c3 c4 hpb
  obtain ⟨V2, hV2⟩ : ∃ V, (u3.setCell ⟨w.heap.size + 1, 2, none⟩ (.int .i64 v2)).setCell ⟨w.heap.size + 1, 3, none⟩ (.bool pb) = V := ⟨_, rfl⟩
  rw [hV2] at G2 ⊢
  clear hV2
  refine (C4.out _).mono ?_
  rintro o u4 ⟨p6, k6, c6, rfl, Q, b6⟩
  have G3 : Hid (Eg w u4 #[.int .i64 0, .int .i64 v1, .int .i64 v2, .bool pb, .string ⟨#[]⟩, .slice none 0 0, .int .i64 0, .int .i64 0, .int .i64 0] g k c W) := G2.out.keep Q.kept
  have cv : (convert 34 9 (.slice p6 k6 c6)).run Tryz.prog u4 = .ok (.string kb) u4 := by rw [← HKB.out]; exact (reads_own Q.row b6).string
  clear G2 Q b6 C4
  have d4 := cell_blk G3.out.ev 4 (v := .string ⟨#[]⟩) rfl
  have t4 := soft_blk G3.out.ev 4
  have c0 : (u4.setCell ⟨w.heap.size + 1, 4, none⟩ (.string kb)).cell? ⟨g, 0, none⟩ = some (.string a0) := (G3.out.set 4 (.string kb)).wd WW.out.1
  have d0 := cell_blk (G3.out.set 4 (.string kb)).ev 0 (v := .int .i64 0) rfl
  have t0 := soft_blk (G3.out.set 4 (.string kb)).ev 0
  have G4 : Hid (Eg w (u4.setCell ⟨w.heap.size + 1, 4, none⟩ (.string kb)) #[.int .i64 0, .int .i64 v1, .int .i64 v2, .bool pb, .string kb, .slice none 0 0, .int .i64 0, .int .i64 0, .int .i64 0] g k c W) := G3.out.set 4 (.string kb)
  have e0 := cell_blk G4.out.ev 0 (v := .int .i64 0) rfl
  have e1 := cell_blk G4.out.ev 1 (v := .int .i64 v1) rfl
  have e2 := cell_blk G4.out.ev 2 (v := .int .i64 v2) rfl
  have e3 := cell_blk G4.out.ev 3 (v := .bool pb) rfl
  have e4 := cell_blk G4.out.ev 4 (v := .string kb) rfl
  have e5 := cell_blk G4.out.ev 5 (v := .slice none 0 0) rfl
  have e6 := cell_blk G4.out.ev 6 (v := .int .i64 0) rfl
  have e7 := cell_blk G4.out.ev 7 (v := .int .i64 0) rfl
  have e8 := cell_blk G4.out.ev 8 (v := .int .i64 0) rfl
  have r0 := cell_blk G4.out.rs 0 (v := .int .i64 0) rfl
  have s0 := soft_blk G4.out.rs 0
  have r1 := cell_blk G4.out.rs 1 (v := .int .i64 0) rfl
  have s1 := soft_blk G4.out.rs 1
  have r2 := cell_blk G4.out.rs 2 (v := .int .i64 0) rfl
  have s2 := soft_blk G4.out.rs 2
  have r3 := cell_blk G4.out.rs 3 (v := .bool false) rfl
  have s3 := soft_blk G4.out.rs 3
  have r4 := cell_blk G4.out.rs 4 (v := .string ⟨#[]⟩) rfl
  have s4 := soft_blk G4.out.rs 4
  have r5 := cell_blk G4.out.rs 5 (v := .slice none 0 0) rfl
  have s5 := soft_blk G4.out.rs 5
  have r6 := cell_blk G4.out.rs 6 (v := .int .i64 0) rfl
  have s6 := soft_blk G4.out.rs 6
  have r7 := cell_blk G4.out.rs 7 (v := .int .i64 0) rfl
  have s7 := soft_blk G4.out.rs 7
  have r8 := cell_blk G4.out.rs 8 (v := .int .i64 0) rfl
  have s8 := soft_blk G4.out.rs 8
  go_wp2_with fail
  have SA := set_all G4.out.rs (.int .i64 0) (.int .i64 v1) (.int .i64 v2) (.bool pb) (.string kb) (.slice none 0 0) (.int .i64 0) (.int .i64 0) (.int .i64 0)
  have KF := G4.out.kept.trans SA.2 (fun j hj z => by have z : j = w.heap.size := z; omega)
  refine bodyPost_ret (results_cell_row rfl _ _ w.heap.size 39 #[.int .i64 0, .int .i64 v1, .int .i64 v2, .bool pb, .string kb, .slice none 0 0, .int .i64 0, .int .i64 0, .int .i64 0] (0, 0) _ rfl SA.1 Tryz.underlying39 rfl (by kernel_rfl)) rfl ?_
  exact ⟨v1, v2, rfl, R1.out, R2.out, KF⟩
set_option maxRecDepth 100000 in
set_option maxHeartbeats 2000000 in
theorem hEv1v (s : ByteArray) (hs : s.size ≤ 1000000000) (W : List ByteArray) (hW : wrdL s = W) (a1 a2 a3 a4 : ByteArray) (M1 M2 : Nat) (w0 : W[0]? = some ⟨#[105, 110, 118, 111, 107, 101]⟩) (w1 : W[1]? = some a1) (w2 : W[2]? = some a2) (w3 : W[3]? = some a3) (w4 : W[4]? = some a4) (hpb : (a3.toList == [112, 117, 116]) = true) (hk : 5 < W.length) (hk8 : W.length ≤ 8) (a5 : ByteArray) (w5 : W[5]? = some a5) (w : World) : Calls Tryz.prog 33 #[.string s] w fun o w' => ∃ (v1 v2 : Int) (p : Option Addr) (kk cc : Nat), o = .returned (.agg #[.int .i64 1, .int .i64 v1, .int .i64 v2, .bool true, .string (str (meaB a4)), .slice p kk cc, .int .i64 0, .int .i64 0, .int .i64 0]) ∧ (a1 = decB M1 ∧ M1 ≤ 4611686018427387903 → v1 = (M1 : Int)) ∧ (a2 = decB M2 ∧ M2 ≤ 4611686018427387903 → v2 = (M2 : Int)) ∧ w'.ownsRow w.heap.size 5 1 (.slice p kk cc) kk (cellsOf (meaB a5)) ∧ (∀ x ∈ meaB a5, x < 256) ∧ Kept (fun _ => False) w w' := by
  have SZ := wrd_size s
  rw [hW] at SZ
  have z1 : a1.size ≤ 1000000000 := Nat.le_trans (SZ a1 (List.mem_of_getElem? w1)) hs
  have z2 : a2.size ≤ 1000000000 := Nat.le_trans (SZ a2 (List.mem_of_getElem? w2)) hs
  have z4 : a4.size ≤ 1000000000 := Nat.le_trans (SZ a4 (List.mem_of_getElem? w4)) hs
  have z5 : a5.size ≤ 1000000000 := Nat.le_trans (SZ a5 (List.mem_of_getElem? w5)) hs
  clear SZ
  have C1 : Hid (∀ U, Calls Tryz.prog 67 #[.string a1] U fun o w' => ∃ v : Int, o = .returned (.int .i64 v) ∧ (a1 = decB M1 ∧ M1 ≤ 4611686018427387903 → v = (M1 : Int)) ∧ w' = U) := fun U => hRead a1 M1 U z1
  have C2 : Hid (∀ U, Calls Tryz.prog 67 #[.string a2] U fun o w' => ∃ v : Int, o = .returned (.int .i64 v) ∧ (a2 = decB M2 ∧ M2 ≤ 4611686018427387903 → v = (M2 : Int)) ∧ w' = U) := fun U => hRead a2 M2 U z2
  have C4 : Hid (∀ U, Calls Tryz.prog 68 #[.string a4] U fun o w' => ∃ p k c, o = .returned (.slice p k c) ∧ QS U (meaB a4) p k c w' ∧ (∀ x ∈ meaB a4, x < 256)) := fun U => hMeant a4 z4 U
  have C5 : Hid (∀ U, Calls Tryz.prog 68 #[.string a5] U fun o w' => ∃ p k c, o = .returned (.slice p k c) ∧ QS U (meaB a5) p k c w' ∧ (∀ x ∈ meaB a5, x < 256)) := fun U => hMeant a5 z5 U
  obtain ⟨kb, hkb⟩ : ∃ kb, str (meaB a4) = kb := ⟨_, rfl⟩
  simp only [hkb]
  have HKB : Hid (str (meaB a4) = kb) := hkb
  clear hkb
  have WW : Hid (W[0]? = some ⟨#[105, 110, 118, 111, 107, 101]⟩ ∧ W[1]? = some a1 ∧ W[2]? = some a2 ∧ W[3]? = some a3 ∧ W[4]? = some a4) := ⟨w0, w1, w2, w3, w4⟩
  have W5 : Hid (W[5]? = some a5) := w5
  have CW : Hid (∀ U, Calls Tryz.prog 66 #[.string s] U fun o w' => ∃ g k c, o = .returned (.slice (some ⟨g, 0, none⟩) k c) ∧ w'.ownsRow U.heap.size 9 1 (.slice (some ⟨g, 0, none⟩) k c) k (strs W) ∧ Kept (fun _ => False) U w') := fun U => by rw [← hW]; exact hWords s hs U
  obtain ⟨W0, hW0⟩ : ∃ W0, W0 = (w.alloc (.cells #[.int .i64 0, .int .i64 0, .int .i64 0, .bool false, .string ⟨#[]⟩, .slice none 0 0, .int .i64 0, .int .i64 0, .int .i64 0] 39)).alloc (.cells #[.int .i64 0, .int .i64 0, .int .i64 0, .bool false, .string ⟨#[]⟩, .slice none 0 0, .int .i64 0, .int .i64 0, .int .i64 0] 39) := ⟨_, rfl⟩
  have S0 : Hid (W0.heap[w.heap.size]? = some (.cells zEv 39 (0, 0)) ∧ W0.heap[w.heap.size + 1]? = some (.cells zEv 39 (0, 0)) ∧ w.heap.size + 2 ≤ W0.heap.size ∧ Kept (fun _ => False) w W0) := by
    rw [hW0]
    refine ⟨alloc_old _ (alloc_new _ _), ?_, ?_, ((Kept.refl _ _).alloc _).alloc _⟩
    · have q := alloc_new (w.alloc (.cells zEv 39)) (.cells zEv 39)
      rw [alloc_size] at q
      exact q
    · rw [alloc_size, alloc_size]
      exact Nat.le_refl _
  have EW : Hid (W0 = (w.alloc (.cells #[.int .i64 0, .int .i64 0, .int .i64 0, .bool false, .string ⟨#[]⟩, .slice none 0 0, .int .i64 0, .int .i64 0, .int .i64 0] 39)).alloc (.cells #[.int .i64 0, .int .i64 0, .int .i64 0, .bool false, .string ⟨#[]⟩, .slice none 0 0, .int .i64 0, .int .i64 0, .int .i64 0] 39)) := hW0
  clear hW0 hs z1 z2 z4 w0 w1 w2 w3 w4 z5 w5
  go_enter Tryz.func33, Tryz.ntmps33
  go_upto_region 2 with fail
  rw [← EW.out]
  clear EW
  go_wp2_with fail
  refine (CW.out _).mono ?_
  rintro o u1 ⟨g, k, c, rfl, ro, K⟩
  have G0 : Hid (Eg w u1 #[.int .i64 0, .int .i64 0, .int .i64 0, .bool false, .string ⟨#[]⟩, .slice none 0 0, .int .i64 0, .int .i64 0, .int .i64 0] g k c W) := ⟨K.get S0.out.1 (fun z => z), K.get S0.out.2.1 (fun z => z), owns_mono ro S0.out.2.2.1, S0.out.2.2.2.trans K (fun _ _ z => z)⟩
  have kc := own_room ro
  have kl := G0.out.len
  clear ro K S0 CW
  have i1 : ¬ (k : Int) < 5 := by omega
  have i2 : ¬ (8 : Int) < (k : Int) := by omega
  have i2b : ¬ (k : Int) > 8 := by omega
  have j0 : (0 : Int) < (k : Int) := by omega
  have j1 : (1 : Int) < (k : Int) := by omega
  have j2 : (2 : Int) < (k : Int) := by omega
  have j3 : (3 : Int) < (k : Int) := by omega
  have j4 : (4 : Int) < (k : Int) := by omega
  have c1 := G0.out.wd WW.out.2.1
  go_wp2_with fail
  refine (C1.out _).mono ?_
  rintro o u2 ⟨v1, rfl, R1', hw⟩
  have R1 : Hid _ := R1'
  clear R1' C1 c1
  subst hw
  have d1 := cell_blk G0.out.ev 1 (v := .int .i64 0) rfl
  have t1 := soft_blk G0.out.ev 1
  have c2 : (u2.setCell ⟨w.heap.size + 1, 1, none⟩ (.int .i64 v1)).cell? ⟨g, 2, none⟩ = some (.string a2) := (G0.out.set 1 (.int .i64 v1)).wd WW.out.2.2.1
  go_wp2_with fail
  have G1 : Hid (Eg w (u2.setCell ⟨w.heap.size + 1, 1, none⟩ (.int .i64 v1)) #[.int .i64 0, .int .i64 v1, .int .i64 0, .bool false, .string ⟨#[]⟩, .slice none 0 0, .int .i64 0, .int .i64 0, .int .i64 0] g k c W) := G0.out.set 1 (.int .i64 v1)
  clear G0 d1 t1
  obtain ⟨V1, hV1⟩ : ∃ V, u2.setCell ⟨w.heap.size + 1, 1, none⟩ (.int .i64 v1) = V := ⟨_, rfl⟩
  rw [hV1] at G1 ⊢
  clear hV1 c2
  refine (C2.out _).mono ?_
  rintro o u3 ⟨v2, rfl, R2', hw⟩
  have R2 : Hid _ := R2'
  clear R2' C2
  subst hw
  have d2 := cell_blk G1.out.ev 2 (v := .int .i64 0) rfl
  have t2 := soft_blk G1.out.ev 2
  have c3 : (u3.setCell ⟨w.heap.size + 1, 2, none⟩ (.int .i64 v2)).cell? ⟨g, 3, none⟩ = some (.string a3) := (G1.out.set 2 (.int .i64 v2)).wd WW.out.2.2.2.1
  have d3 := cell_blk (G1.out.set 2 (.int .i64 v2)).ev 3 (v := .bool false) rfl
  have t3 := soft_blk (G1.out.set 2 (.int .i64 v2)).ev 3
  have c4 : ((u3.setCell ⟨w.heap.size + 1, 2, none⟩ (.int .i64 v2)).setCell ⟨w.heap.size + 1, 3, none⟩ (.bool true)).cell? ⟨g, 4, none⟩ = some (.string a4) := ((G1.out.set 2 (.int .i64 v2)).set 3 (.bool true)).wd WW.out.2.2.2.2
  go_wp2_with fail
  have G2 : Hid (Eg w ((u3.setCell ⟨w.heap.size + 1, 2, none⟩ (.int .i64 v2)).setCell ⟨w.heap.size + 1, 3, none⟩ (.bool true)) #[.int .i64 0, .int .i64 v1, .int .i64 v2, .bool true, .string ⟨#[]⟩, .slice none 0 0, .int .i64 0, .int .i64 0, .int .i64 0] g k c W) := (G1.out.set 2 (.int .i64 v2)).set 3 (.bool true)
  clear G1 d2 t2 d3 t3 c3 c4 hpb
  obtain ⟨V2, hV2⟩ : ∃ V, (u3.setCell ⟨w.heap.size + 1, 2, none⟩ (.int .i64 v2)).setCell ⟨w.heap.size + 1, 3, none⟩ (.bool true) = V := ⟨_, rfl⟩
  rw [hV2] at G2 ⊢
  clear hV2
  refine (C4.out _).mono ?_
  rintro o u4 ⟨p6, k6, c6, rfl, Q, b6⟩
  have G3 : Hid (Eg w u4 #[.int .i64 0, .int .i64 v1, .int .i64 v2, .bool true, .string ⟨#[]⟩, .slice none 0 0, .int .i64 0, .int .i64 0, .int .i64 0] g k c W) := G2.out.keep Q.kept
  have cv : (convert 34 9 (.slice p6 k6 c6)).run Tryz.prog u4 = .ok (.string kb) u4 := by rw [← HKB.out]; exact (reads_own Q.row b6).string
  clear G2 Q b6 C4
  have d4 := cell_blk G3.out.ev 4 (v := .string ⟨#[]⟩) rfl
  have t4 := soft_blk G3.out.ev 4
  have c0 : (u4.setCell ⟨w.heap.size + 1, 4, none⟩ (.string kb)).cell? ⟨g, 0, none⟩ = some (.string ⟨#[105, 110, 118, 111, 107, 101]⟩) := (G3.out.set 4 (.string kb)).wd WW.out.1
  have d0 := cell_blk (G3.out.set 4 (.string kb)).ev 0 (v := .int .i64 0) rfl
  have t0 := soft_blk (G3.out.set 4 (.string kb)).ev 0
  have d3 := cell_blk ((G3.out.set 4 (.string kb)).set 0 (.int .i64 1)).ev 3 (v := .bool true) rfl
  have j5 : (5 : Int) < (k : Int) := by omega
  have j5b : (k : Int) > 5 := by omega
  have c5 : ((u4.setCell ⟨w.heap.size + 1, 4, none⟩ (.string kb)).setCell ⟨w.heap.size + 1, 0, none⟩ (.int .i64 1)).cell? ⟨g, 5, none⟩ = some (.string a5) := ((G3.out.set 4 (.string kb)).set 0 (.int .i64 1)).wd W5.out
  go_wp2_with fail
  have G4 : Hid (Eg w ((u4.setCell ⟨w.heap.size + 1, 4, none⟩ (.string kb)).setCell ⟨w.heap.size + 1, 0, none⟩ (.int .i64 1)) #[.int .i64 1, .int .i64 v1, .int .i64 v2, .bool true, .string kb, .slice none 0 0, .int .i64 0, .int .i64 0, .int .i64 0] g k c W) := ((G3.out.set 4 (.string kb)).set 0 (.int .i64 1))
  clear G3 d4 t4 d0 t0 d3 c0 c5 cv
  obtain ⟨V4, hV4⟩ : ∃ V, ((u4.setCell ⟨w.heap.size + 1, 4, none⟩ (.string kb)).setCell ⟨w.heap.size + 1, 0, none⟩ (.int .i64 1)) = V := ⟨_, rfl⟩
  rw [hV4] at G4 ⊢
  clear hV4
  have BL := block_lt G4.out.ev
  refine (C5.out _).mono ?_
  rintro o u5 ⟨pv, kv, cv, rfl, Q, bv⟩
  have OW : Hid (u5.ownsRow (w.heap.size + 2) 5 1 (.slice pv kv cv) kv (cellsOf (meaB a5)) ∧ (∀ x ∈ meaB a5, x < 256)) := ⟨owns_mono Q.row (by omega), bv⟩
  have G5 : Hid (Eg w u5 #[.int .i64 1, .int .i64 v1, .int .i64 v2, .bool true, .string kb, .slice none 0 0, .int .i64 0, .int .i64 0, .int .i64 0] g k c W) := G4.out.keep Q.kept
  clear G4 Q bv C5 BL
  have d5 := cell_blk G5.out.ev 5 (v := .slice none 0 0) rfl
  have t5 := soft_blk G5.out.ev 5
  have OA : Hid ((u5.setCell ⟨w.heap.size + 1, 5, none⟩ (.slice pv kv cv)).ownsRow (w.heap.size + 2) 5 1 (.slice pv kv cv) kv (cellsOf (meaB a5)) ∧ True) := ⟨((Kept.refl (fun j => j = w.heap.size + 1) u5).setCell (p := ⟨w.heap.size + 1, 5, none⟩) (fun _ => rfl) (.slice pv kv cv)).owns OW.out.1 (fun k hk z => by have q := OW.out.1.lt k hk; have z : k = w.heap.size + 1 := z; omega), trivial⟩
  have G6 : Hid (Eg w (u5.setCell ⟨w.heap.size + 1, 5, none⟩ (.slice pv kv cv)) #[.int .i64 1, .int .i64 v1, .int .i64 v2, .bool true, .string kb, .slice pv kv cv, .int .i64 0, .int .i64 0, .int .i64 0] g k c W) := G5.out.set 5 (.slice pv kv cv)
  have e0 := cell_blk G6.out.ev 0 (v := .int .i64 1) rfl
  have e1 := cell_blk G6.out.ev 1 (v := .int .i64 v1) rfl
  have e2 := cell_blk G6.out.ev 2 (v := .int .i64 v2) rfl
  have e3 := cell_blk G6.out.ev 3 (v := .bool true) rfl
  have e4 := cell_blk G6.out.ev 4 (v := .string kb) rfl
  have e5 := cell_blk G6.out.ev 5 (v := .slice pv kv cv) rfl
  have e6 := cell_blk G6.out.ev 6 (v := .int .i64 0) rfl
  have e7 := cell_blk G6.out.ev 7 (v := .int .i64 0) rfl
  have e8 := cell_blk G6.out.ev 8 (v := .int .i64 0) rfl
  have r0 := cell_blk G6.out.rs 0 (v := .int .i64 0) rfl
  have s0 := soft_blk G6.out.rs 0
  have r1 := cell_blk G6.out.rs 1 (v := .int .i64 0) rfl
  have s1 := soft_blk G6.out.rs 1
  have r2 := cell_blk G6.out.rs 2 (v := .int .i64 0) rfl
  have s2 := soft_blk G6.out.rs 2
  have r3 := cell_blk G6.out.rs 3 (v := .bool false) rfl
  have s3 := soft_blk G6.out.rs 3
  have r4 := cell_blk G6.out.rs 4 (v := .string ⟨#[]⟩) rfl
  have s4 := soft_blk G6.out.rs 4
  have r5 := cell_blk G6.out.rs 5 (v := .slice none 0 0) rfl
  have s5 := soft_blk G6.out.rs 5
  have r6 := cell_blk G6.out.rs 6 (v := .int .i64 0) rfl
  have s6 := soft_blk G6.out.rs 6
  have r7 := cell_blk G6.out.rs 7 (v := .int .i64 0) rfl
  have s7 := soft_blk G6.out.rs 7
  have r8 := cell_blk G6.out.rs 8 (v := .int .i64 0) rfl
  have s8 := soft_blk G6.out.rs 8
  go_wp2_with fail
  have SA := set_all G6.out.rs (.int .i64 1) (.int .i64 v1) (.int .i64 v2) (.bool true) (.string kb) (.slice pv kv cv) (.int .i64 0) (.int .i64 0) (.int .i64 0)
  have KF := G6.out.kept.trans SA.2 (fun j hj z => by have z : j = w.heap.size := z; omega)
  have OB := SA.2.owns OA.out.1 (fun k hk z => by have q := OA.out.1.lt k hk; have z : k = w.heap.size := z; omega)
  refine bodyPost_ret (results_cell_row rfl _ _ w.heap.size 39 #[.int .i64 1, .int .i64 v1, .int .i64 v2, .bool true, .string kb, .slice pv kv cv, .int .i64 0, .int .i64 0, .int .i64 0] (0, 0) _ rfl SA.1 Tryz.underlying39 rfl (by kernel_rfl)) rfl ?_
  exact ⟨v1, v2, pv, kv, cv, rfl, R1.out, R2.out, owns_mono OB (show w.heap.size ≤ w.heap.size + 2 by omega), OW.out.2, KF⟩
set_option maxRecDepth 100000 in
set_option maxHeartbeats 2000000 in
theorem hEv1f (s : ByteArray) (hs : s.size ≤ 1000000000) (W : List ByteArray) (hW : wrdL s = W) (a1 a2 a3 a4 : ByteArray) (M1 M2 : Nat) (w0 : W[0]? = some ⟨#[105, 110, 118, 111, 107, 101]⟩) (w1 : W[1]? = some a1) (w2 : W[2]? = some a2) (w3 : W[3]? = some a3) (w4 : W[4]? = some a4) (hpb : (a3.toList == [112, 117, 116]) = false) (hk : 5 ≤ W.length) (hk8 : W.length ≤ 8) (w : World) : Calls Tryz.prog 33 #[.string s] w fun o w' => ∃ v1 v2 : Int, o = .returned (.agg #[.int .i64 1, .int .i64 v1, .int .i64 v2, .bool false, .string (str (meaB a4)), .slice none 0 0, .int .i64 0, .int .i64 0, .int .i64 0]) ∧ (a1 = decB M1 ∧ M1 ≤ 4611686018427387903 → v1 = (M1 : Int)) ∧ (a2 = decB M2 ∧ M2 ≤ 4611686018427387903 → v2 = (M2 : Int)) ∧ Kept (fun _ => False) w w' := by
  have SZ := wrd_size s
  rw [hW] at SZ
  have z1 : a1.size ≤ 1000000000 := Nat.le_trans (SZ a1 (List.mem_of_getElem? w1)) hs
  have z2 : a2.size ≤ 1000000000 := Nat.le_trans (SZ a2 (List.mem_of_getElem? w2)) hs
  have z4 : a4.size ≤ 1000000000 := Nat.le_trans (SZ a4 (List.mem_of_getElem? w4)) hs
  clear SZ
  have C1 : Hid (∀ U, Calls Tryz.prog 67 #[.string a1] U fun o w' => ∃ v : Int, o = .returned (.int .i64 v) ∧ (a1 = decB M1 ∧ M1 ≤ 4611686018427387903 → v = (M1 : Int)) ∧ w' = U) := fun U => hRead a1 M1 U z1
  have C2 : Hid (∀ U, Calls Tryz.prog 67 #[.string a2] U fun o w' => ∃ v : Int, o = .returned (.int .i64 v) ∧ (a2 = decB M2 ∧ M2 ≤ 4611686018427387903 → v = (M2 : Int)) ∧ w' = U) := fun U => hRead a2 M2 U z2
  have C4 : Hid (∀ U, Calls Tryz.prog 68 #[.string a4] U fun o w' => ∃ p k c, o = .returned (.slice p k c) ∧ QS U (meaB a4) p k c w' ∧ (∀ x ∈ meaB a4, x < 256)) := fun U => hMeant a4 z4 U
  obtain ⟨kb, hkb⟩ : ∃ kb, str (meaB a4) = kb := ⟨_, rfl⟩
  simp only [hkb]
  have HKB : Hid (str (meaB a4) = kb) := hkb
  clear hkb
  have WW : Hid (W[0]? = some ⟨#[105, 110, 118, 111, 107, 101]⟩ ∧ W[1]? = some a1 ∧ W[2]? = some a2 ∧ W[3]? = some a3 ∧ W[4]? = some a4) := ⟨w0, w1, w2, w3, w4⟩
  have CW : Hid (∀ U, Calls Tryz.prog 66 #[.string s] U fun o w' => ∃ g k c, o = .returned (.slice (some ⟨g, 0, none⟩) k c) ∧ w'.ownsRow U.heap.size 9 1 (.slice (some ⟨g, 0, none⟩) k c) k (strs W) ∧ Kept (fun _ => False) U w') := fun U => by rw [← hW]; exact hWords s hs U
  obtain ⟨W0, hW0⟩ : ∃ W0, W0 = (w.alloc (.cells #[.int .i64 0, .int .i64 0, .int .i64 0, .bool false, .string ⟨#[]⟩, .slice none 0 0, .int .i64 0, .int .i64 0, .int .i64 0] 39)).alloc (.cells #[.int .i64 0, .int .i64 0, .int .i64 0, .bool false, .string ⟨#[]⟩, .slice none 0 0, .int .i64 0, .int .i64 0, .int .i64 0] 39) := ⟨_, rfl⟩
  have S0 : Hid (W0.heap[w.heap.size]? = some (.cells zEv 39 (0, 0)) ∧ W0.heap[w.heap.size + 1]? = some (.cells zEv 39 (0, 0)) ∧ w.heap.size + 2 ≤ W0.heap.size ∧ Kept (fun _ => False) w W0) := by
    rw [hW0]
    refine ⟨alloc_old _ (alloc_new _ _), ?_, ?_, ((Kept.refl _ _).alloc _).alloc _⟩
    · have q := alloc_new (w.alloc (.cells zEv 39)) (.cells zEv 39)
      rw [alloc_size] at q
      exact q
    · rw [alloc_size, alloc_size]
      exact Nat.le_refl _
  have EW : Hid (W0 = (w.alloc (.cells #[.int .i64 0, .int .i64 0, .int .i64 0, .bool false, .string ⟨#[]⟩, .slice none 0 0, .int .i64 0, .int .i64 0, .int .i64 0] 39)).alloc (.cells #[.int .i64 0, .int .i64 0, .int .i64 0, .bool false, .string ⟨#[]⟩, .slice none 0 0, .int .i64 0, .int .i64 0, .int .i64 0] 39)) := hW0
  clear hW0 hs z1 z2 z4 w0 w1 w2 w3 w4
  go_enter Tryz.func33, Tryz.ntmps33
  go_upto_region 2 with fail
  rw [← EW.out]
  clear EW
  go_wp2_with fail
  refine (CW.out _).mono ?_
  rintro o u1 ⟨g, k, c, rfl, ro, K⟩
  have G0 : Hid (Eg w u1 #[.int .i64 0, .int .i64 0, .int .i64 0, .bool false, .string ⟨#[]⟩, .slice none 0 0, .int .i64 0, .int .i64 0, .int .i64 0] g k c W) := ⟨K.get S0.out.1 (fun z => z), K.get S0.out.2.1 (fun z => z), owns_mono ro S0.out.2.2.1, S0.out.2.2.2.trans K (fun _ _ z => z)⟩
  have kc := own_room ro
  have kl := G0.out.len
  clear ro K S0 CW
  have i1 : ¬ (k : Int) < 5 := by omega
  have i2 : ¬ (8 : Int) < (k : Int) := by omega
  have i2b : ¬ (k : Int) > 8 := by omega
  have j0 : (0 : Int) < (k : Int) := by omega
  have j1 : (1 : Int) < (k : Int) := by omega
  have j2 : (2 : Int) < (k : Int) := by omega
  have j3 : (3 : Int) < (k : Int) := by omega
  have j4 : (4 : Int) < (k : Int) := by omega
  have c1 := G0.out.wd WW.out.2.1
  go_wp2_with fail
  refine (C1.out _).mono ?_
  rintro o u2 ⟨v1, rfl, R1', hw⟩
  have R1 : Hid _ := R1'
  clear R1' C1 c1
  subst hw
  have d1 := cell_blk G0.out.ev 1 (v := .int .i64 0) rfl
  have t1 := soft_blk G0.out.ev 1
  have c2 : (u2.setCell ⟨w.heap.size + 1, 1, none⟩ (.int .i64 v1)).cell? ⟨g, 2, none⟩ = some (.string a2) := (G0.out.set 1 (.int .i64 v1)).wd WW.out.2.2.1
  go_wp2_with fail
  have G1 : Hid (Eg w (u2.setCell ⟨w.heap.size + 1, 1, none⟩ (.int .i64 v1)) #[.int .i64 0, .int .i64 v1, .int .i64 0, .bool false, .string ⟨#[]⟩, .slice none 0 0, .int .i64 0, .int .i64 0, .int .i64 0] g k c W) := G0.out.set 1 (.int .i64 v1)
  clear G0 d1 t1
  obtain ⟨V1, hV1⟩ : ∃ V, u2.setCell ⟨w.heap.size + 1, 1, none⟩ (.int .i64 v1) = V := ⟨_, rfl⟩
  rw [hV1] at G1 ⊢
  clear hV1 c2
  refine (C2.out _).mono ?_
  rintro o u3 ⟨v2, rfl, R2', hw⟩
  have R2 : Hid _ := R2'
  clear R2' C2
  subst hw
  have d2 := cell_blk G1.out.ev 2 (v := .int .i64 0) rfl
  have t2 := soft_blk G1.out.ev 2
  have c3 : (u3.setCell ⟨w.heap.size + 1, 2, none⟩ (.int .i64 v2)).cell? ⟨g, 3, none⟩ = some (.string a3) := (G1.out.set 2 (.int .i64 v2)).wd WW.out.2.2.2.1
  have d3 := cell_blk (G1.out.set 2 (.int .i64 v2)).ev 3 (v := .bool false) rfl
  have t3 := soft_blk (G1.out.set 2 (.int .i64 v2)).ev 3
  have c4 : ((u3.setCell ⟨w.heap.size + 1, 2, none⟩ (.int .i64 v2)).setCell ⟨w.heap.size + 1, 3, none⟩ (.bool false)).cell? ⟨g, 4, none⟩ = some (.string a4) := ((G1.out.set 2 (.int .i64 v2)).set 3 (.bool false)).wd WW.out.2.2.2.2
  go_wp2_with fail
  have G2 : Hid (Eg w ((u3.setCell ⟨w.heap.size + 1, 2, none⟩ (.int .i64 v2)).setCell ⟨w.heap.size + 1, 3, none⟩ (.bool false)) #[.int .i64 0, .int .i64 v1, .int .i64 v2, .bool false, .string ⟨#[]⟩, .slice none 0 0, .int .i64 0, .int .i64 0, .int .i64 0] g k c W) := (G1.out.set 2 (.int .i64 v2)).set 3 (.bool false)
  clear G1 d2 t2 d3 t3 c3 c4 hpb
  obtain ⟨V2, hV2⟩ : ∃ V, (u3.setCell ⟨w.heap.size + 1, 2, none⟩ (.int .i64 v2)).setCell ⟨w.heap.size + 1, 3, none⟩ (.bool false) = V := ⟨_, rfl⟩
  rw [hV2] at G2 ⊢
  clear hV2
  refine (C4.out _).mono ?_
  rintro o u4 ⟨p6, k6, c6, rfl, Q, b6⟩
  have G3 : Hid (Eg w u4 #[.int .i64 0, .int .i64 v1, .int .i64 v2, .bool false, .string ⟨#[]⟩, .slice none 0 0, .int .i64 0, .int .i64 0, .int .i64 0] g k c W) := G2.out.keep Q.kept
  have cv : (convert 34 9 (.slice p6 k6 c6)).run Tryz.prog u4 = .ok (.string kb) u4 := by rw [← HKB.out]; exact (reads_own Q.row b6).string
  clear G2 Q b6 C4
  have d4 := cell_blk G3.out.ev 4 (v := .string ⟨#[]⟩) rfl
  have t4 := soft_blk G3.out.ev 4
  have c0 : (u4.setCell ⟨w.heap.size + 1, 4, none⟩ (.string kb)).cell? ⟨g, 0, none⟩ = some (.string ⟨#[105, 110, 118, 111, 107, 101]⟩) := (G3.out.set 4 (.string kb)).wd WW.out.1
  have d0 := cell_blk (G3.out.set 4 (.string kb)).ev 0 (v := .int .i64 0) rfl
  have t0 := soft_blk (G3.out.set 4 (.string kb)).ev 0
  have d3 := cell_blk ((G3.out.set 4 (.string kb)).set 0 (.int .i64 1)).ev 3 (v := .bool false) rfl
  have G4 : Hid (Eg w ((u4.setCell ⟨w.heap.size + 1, 4, none⟩ (.string kb)).setCell ⟨w.heap.size + 1, 0, none⟩ (.int .i64 1)) #[.int .i64 1, .int .i64 v1, .int .i64 v2, .bool false, .string kb, .slice none 0 0, .int .i64 0, .int .i64 0, .int .i64 0] g k c W) := ((G3.out.set 4 (.string kb)).set 0 (.int .i64 1))
  have e0 := cell_blk G4.out.ev 0 (v := .int .i64 1) rfl
  have e1 := cell_blk G4.out.ev 1 (v := .int .i64 v1) rfl
  have e2 := cell_blk G4.out.ev 2 (v := .int .i64 v2) rfl
  have e3 := cell_blk G4.out.ev 3 (v := .bool false) rfl
  have e4 := cell_blk G4.out.ev 4 (v := .string kb) rfl
  have e5 := cell_blk G4.out.ev 5 (v := .slice none 0 0) rfl
  have e6 := cell_blk G4.out.ev 6 (v := .int .i64 0) rfl
  have e7 := cell_blk G4.out.ev 7 (v := .int .i64 0) rfl
  have e8 := cell_blk G4.out.ev 8 (v := .int .i64 0) rfl
  have r0 := cell_blk G4.out.rs 0 (v := .int .i64 0) rfl
  have s0 := soft_blk G4.out.rs 0
  have r1 := cell_blk G4.out.rs 1 (v := .int .i64 0) rfl
  have s1 := soft_blk G4.out.rs 1
  have r2 := cell_blk G4.out.rs 2 (v := .int .i64 0) rfl
  have s2 := soft_blk G4.out.rs 2
  have r3 := cell_blk G4.out.rs 3 (v := .bool false) rfl
  have s3 := soft_blk G4.out.rs 3
  have r4 := cell_blk G4.out.rs 4 (v := .string ⟨#[]⟩) rfl
  have s4 := soft_blk G4.out.rs 4
  have r5 := cell_blk G4.out.rs 5 (v := .slice none 0 0) rfl
  have s5 := soft_blk G4.out.rs 5
  have r6 := cell_blk G4.out.rs 6 (v := .int .i64 0) rfl
  have s6 := soft_blk G4.out.rs 6
  have r7 := cell_blk G4.out.rs 7 (v := .int .i64 0) rfl
  have s7 := soft_blk G4.out.rs 7
  have r8 := cell_blk G4.out.rs 8 (v := .int .i64 0) rfl
  have s8 := soft_blk G4.out.rs 8
  go_wp2_with fail
  have SA := set_all G4.out.rs (.int .i64 1) (.int .i64 v1) (.int .i64 v2) (.bool false) (.string kb) (.slice none 0 0) (.int .i64 0) (.int .i64 0) (.int .i64 0)
  have KF := G4.out.kept.trans SA.2 (fun j hj z => by have z : j = w.heap.size := z; omega)
  refine bodyPost_ret (results_cell_row rfl _ _ w.heap.size 39 #[.int .i64 1, .int .i64 v1, .int .i64 v2, .bool false, .string kb, .slice none 0 0, .int .i64 0, .int .i64 0, .int .i64 0] (0, 0) _ rfl SA.1 Tryz.underlying39 rfl (by kernel_rfl)) rfl ?_
  exact ⟨v1, v2, rfl, R1.out, R2.out, KF⟩
set_option maxRecDepth 100000 in
set_option maxHeartbeats 2000000 in
theorem hEv1t (s : ByteArray) (hs : s.size ≤ 1000000000) (W : List ByteArray) (hW : wrdL s = W) (a1 a2 a3 a4 : ByteArray) (M1 M2 : Nat) (w0 : W[0]? = some ⟨#[105, 110, 118, 111, 107, 101]⟩) (w1 : W[1]? = some a1) (w2 : W[2]? = some a2) (w3 : W[3]? = some a3) (w4 : W[4]? = some a4) (hpb : (a3.toList == [112, 117, 116]) = true) (hk : W.length = 5) (w : World) : Calls Tryz.prog 33 #[.string s] w fun o w' => ∃ v1 v2 : Int, o = .returned (.agg #[.int .i64 1, .int .i64 v1, .int .i64 v2, .bool true, .string (str (meaB a4)), .slice none 0 0, .int .i64 0, .int .i64 0, .int .i64 0]) ∧ (a1 = decB M1 ∧ M1 ≤ 4611686018427387903 → v1 = (M1 : Int)) ∧ (a2 = decB M2 ∧ M2 ≤ 4611686018427387903 → v2 = (M2 : Int)) ∧ Kept (fun _ => False) w w' := by
  have SZ := wrd_size s
  rw [hW] at SZ
  have z1 : a1.size ≤ 1000000000 := Nat.le_trans (SZ a1 (List.mem_of_getElem? w1)) hs
  have z2 : a2.size ≤ 1000000000 := Nat.le_trans (SZ a2 (List.mem_of_getElem? w2)) hs
  have z4 : a4.size ≤ 1000000000 := Nat.le_trans (SZ a4 (List.mem_of_getElem? w4)) hs
  clear SZ
  have C1 : Hid (∀ U, Calls Tryz.prog 67 #[.string a1] U fun o w' => ∃ v : Int, o = .returned (.int .i64 v) ∧ (a1 = decB M1 ∧ M1 ≤ 4611686018427387903 → v = (M1 : Int)) ∧ w' = U) := fun U => hRead a1 M1 U z1
  have C2 : Hid (∀ U, Calls Tryz.prog 67 #[.string a2] U fun o w' => ∃ v : Int, o = .returned (.int .i64 v) ∧ (a2 = decB M2 ∧ M2 ≤ 4611686018427387903 → v = (M2 : Int)) ∧ w' = U) := fun U => hRead a2 M2 U z2
  have C4 : Hid (∀ U, Calls Tryz.prog 68 #[.string a4] U fun o w' => ∃ p k c, o = .returned (.slice p k c) ∧ QS U (meaB a4) p k c w' ∧ (∀ x ∈ meaB a4, x < 256)) := fun U => hMeant a4 z4 U
  obtain ⟨kb, hkb⟩ : ∃ kb, str (meaB a4) = kb := ⟨_, rfl⟩
  simp only [hkb]
  have HKB : Hid (str (meaB a4) = kb) := hkb
  clear hkb
  have WW : Hid (W[0]? = some ⟨#[105, 110, 118, 111, 107, 101]⟩ ∧ W[1]? = some a1 ∧ W[2]? = some a2 ∧ W[3]? = some a3 ∧ W[4]? = some a4) := ⟨w0, w1, w2, w3, w4⟩
  have CW : Hid (∀ U, Calls Tryz.prog 66 #[.string s] U fun o w' => ∃ g k c, o = .returned (.slice (some ⟨g, 0, none⟩) k c) ∧ w'.ownsRow U.heap.size 9 1 (.slice (some ⟨g, 0, none⟩) k c) k (strs W) ∧ Kept (fun _ => False) U w') := fun U => by rw [← hW]; exact hWords s hs U
  obtain ⟨W0, hW0⟩ : ∃ W0, W0 = (w.alloc (.cells #[.int .i64 0, .int .i64 0, .int .i64 0, .bool false, .string ⟨#[]⟩, .slice none 0 0, .int .i64 0, .int .i64 0, .int .i64 0] 39)).alloc (.cells #[.int .i64 0, .int .i64 0, .int .i64 0, .bool false, .string ⟨#[]⟩, .slice none 0 0, .int .i64 0, .int .i64 0, .int .i64 0] 39) := ⟨_, rfl⟩
  have S0 : Hid (W0.heap[w.heap.size]? = some (.cells zEv 39 (0, 0)) ∧ W0.heap[w.heap.size + 1]? = some (.cells zEv 39 (0, 0)) ∧ w.heap.size + 2 ≤ W0.heap.size ∧ Kept (fun _ => False) w W0) := by
    rw [hW0]
    refine ⟨alloc_old _ (alloc_new _ _), ?_, ?_, ((Kept.refl _ _).alloc _).alloc _⟩
    · have q := alloc_new (w.alloc (.cells zEv 39)) (.cells zEv 39)
      rw [alloc_size] at q
      exact q
    · rw [alloc_size, alloc_size]
      exact Nat.le_refl _
  have EW : Hid (W0 = (w.alloc (.cells #[.int .i64 0, .int .i64 0, .int .i64 0, .bool false, .string ⟨#[]⟩, .slice none 0 0, .int .i64 0, .int .i64 0, .int .i64 0] 39)).alloc (.cells #[.int .i64 0, .int .i64 0, .int .i64 0, .bool false, .string ⟨#[]⟩, .slice none 0 0, .int .i64 0, .int .i64 0, .int .i64 0] 39)) := hW0
  clear hW0 hs z1 z2 z4 w0 w1 w2 w3 w4
  go_enter Tryz.func33, Tryz.ntmps33
  go_upto_region 2 with fail
  rw [← EW.out]
  clear EW
  go_wp2_with fail
  refine (CW.out _).mono ?_
  rintro o u1 ⟨g, k, c, rfl, ro, K⟩
  have G0 : Hid (Eg w u1 #[.int .i64 0, .int .i64 0, .int .i64 0, .bool false, .string ⟨#[]⟩, .slice none 0 0, .int .i64 0, .int .i64 0, .int .i64 0] g k c W) := ⟨K.get S0.out.1 (fun z => z), K.get S0.out.2.1 (fun z => z), owns_mono ro S0.out.2.2.1, S0.out.2.2.2.trans K (fun _ _ z => z)⟩
  have kc := own_room ro
  have kl := G0.out.len
  clear ro K S0 CW
  have i1 : ¬ (k : Int) < 5 := by omega
  have i2 : ¬ (8 : Int) < (k : Int) := by omega
  have i2b : ¬ (k : Int) > 8 := by omega
  have j0 : (0 : Int) < (k : Int) := by omega
  have j1 : (1 : Int) < (k : Int) := by omega
  have j2 : (2 : Int) < (k : Int) := by omega
  have j3 : (3 : Int) < (k : Int) := by omega
  have j4 : (4 : Int) < (k : Int) := by omega
  have c1 := G0.out.wd WW.out.2.1
  go_wp2_with fail
  refine (C1.out _).mono ?_
  rintro o u2 ⟨v1, rfl, R1', hw⟩
  have R1 : Hid _ := R1'
  clear R1' C1 c1
  subst hw
  have d1 := cell_blk G0.out.ev 1 (v := .int .i64 0) rfl
  have t1 := soft_blk G0.out.ev 1
  have c2 : (u2.setCell ⟨w.heap.size + 1, 1, none⟩ (.int .i64 v1)).cell? ⟨g, 2, none⟩ = some (.string a2) := (G0.out.set 1 (.int .i64 v1)).wd WW.out.2.2.1
  go_wp2_with fail
  have G1 : Hid (Eg w (u2.setCell ⟨w.heap.size + 1, 1, none⟩ (.int .i64 v1)) #[.int .i64 0, .int .i64 v1, .int .i64 0, .bool false, .string ⟨#[]⟩, .slice none 0 0, .int .i64 0, .int .i64 0, .int .i64 0] g k c W) := G0.out.set 1 (.int .i64 v1)
  clear G0 d1 t1
  obtain ⟨V1, hV1⟩ : ∃ V, u2.setCell ⟨w.heap.size + 1, 1, none⟩ (.int .i64 v1) = V := ⟨_, rfl⟩
  rw [hV1] at G1 ⊢
  clear hV1 c2
  refine (C2.out _).mono ?_
  rintro o u3 ⟨v2, rfl, R2', hw⟩
  have R2 : Hid _ := R2'
  clear R2' C2
  subst hw
  have d2 := cell_blk G1.out.ev 2 (v := .int .i64 0) rfl
  have t2 := soft_blk G1.out.ev 2
  have c3 : (u3.setCell ⟨w.heap.size + 1, 2, none⟩ (.int .i64 v2)).cell? ⟨g, 3, none⟩ = some (.string a3) := (G1.out.set 2 (.int .i64 v2)).wd WW.out.2.2.2.1
  have d3 := cell_blk (G1.out.set 2 (.int .i64 v2)).ev 3 (v := .bool false) rfl
  have t3 := soft_blk (G1.out.set 2 (.int .i64 v2)).ev 3
  have c4 : ((u3.setCell ⟨w.heap.size + 1, 2, none⟩ (.int .i64 v2)).setCell ⟨w.heap.size + 1, 3, none⟩ (.bool true)).cell? ⟨g, 4, none⟩ = some (.string a4) := ((G1.out.set 2 (.int .i64 v2)).set 3 (.bool true)).wd WW.out.2.2.2.2
  go_wp2_with fail
  have G2 : Hid (Eg w ((u3.setCell ⟨w.heap.size + 1, 2, none⟩ (.int .i64 v2)).setCell ⟨w.heap.size + 1, 3, none⟩ (.bool true)) #[.int .i64 0, .int .i64 v1, .int .i64 v2, .bool true, .string ⟨#[]⟩, .slice none 0 0, .int .i64 0, .int .i64 0, .int .i64 0] g k c W) := (G1.out.set 2 (.int .i64 v2)).set 3 (.bool true)
  clear G1 d2 t2 d3 t3 c3 c4 hpb
  obtain ⟨V2, hV2⟩ : ∃ V, (u3.setCell ⟨w.heap.size + 1, 2, none⟩ (.int .i64 v2)).setCell ⟨w.heap.size + 1, 3, none⟩ (.bool true) = V := ⟨_, rfl⟩
  rw [hV2] at G2 ⊢
  clear hV2
  refine (C4.out _).mono ?_
  rintro o u4 ⟨p6, k6, c6, rfl, Q, b6⟩
  have G3 : Hid (Eg w u4 #[.int .i64 0, .int .i64 v1, .int .i64 v2, .bool true, .string ⟨#[]⟩, .slice none 0 0, .int .i64 0, .int .i64 0, .int .i64 0] g k c W) := G2.out.keep Q.kept
  have cv : (convert 34 9 (.slice p6 k6 c6)).run Tryz.prog u4 = .ok (.string kb) u4 := by rw [← HKB.out]; exact (reads_own Q.row b6).string
  clear G2 Q b6 C4
  have d4 := cell_blk G3.out.ev 4 (v := .string ⟨#[]⟩) rfl
  have t4 := soft_blk G3.out.ev 4
  have c0 : (u4.setCell ⟨w.heap.size + 1, 4, none⟩ (.string kb)).cell? ⟨g, 0, none⟩ = some (.string ⟨#[105, 110, 118, 111, 107, 101]⟩) := (G3.out.set 4 (.string kb)).wd WW.out.1
  have d0 := cell_blk (G3.out.set 4 (.string kb)).ev 0 (v := .int .i64 0) rfl
  have t0 := soft_blk (G3.out.set 4 (.string kb)).ev 0
  have d3 := cell_blk ((G3.out.set 4 (.string kb)).set 0 (.int .i64 1)).ev 3 (v := .bool true) rfl
  have j5 : ¬ (5 : Int) < (k : Int) := by omega
  have j5b : ¬ (k : Int) > 5 := by omega
  have G4 : Hid (Eg w ((u4.setCell ⟨w.heap.size + 1, 4, none⟩ (.string kb)).setCell ⟨w.heap.size + 1, 0, none⟩ (.int .i64 1)) #[.int .i64 1, .int .i64 v1, .int .i64 v2, .bool true, .string kb, .slice none 0 0, .int .i64 0, .int .i64 0, .int .i64 0] g k c W) := ((G3.out.set 4 (.string kb)).set 0 (.int .i64 1))
  have e0 := cell_blk G4.out.ev 0 (v := .int .i64 1) rfl
  have e1 := cell_blk G4.out.ev 1 (v := .int .i64 v1) rfl
  have e2 := cell_blk G4.out.ev 2 (v := .int .i64 v2) rfl
  have e3 := cell_blk G4.out.ev 3 (v := .bool true) rfl
  have e4 := cell_blk G4.out.ev 4 (v := .string kb) rfl
  have e5 := cell_blk G4.out.ev 5 (v := .slice none 0 0) rfl
  have e6 := cell_blk G4.out.ev 6 (v := .int .i64 0) rfl
  have e7 := cell_blk G4.out.ev 7 (v := .int .i64 0) rfl
  have e8 := cell_blk G4.out.ev 8 (v := .int .i64 0) rfl
  have r0 := cell_blk G4.out.rs 0 (v := .int .i64 0) rfl
  have s0 := soft_blk G4.out.rs 0
  have r1 := cell_blk G4.out.rs 1 (v := .int .i64 0) rfl
  have s1 := soft_blk G4.out.rs 1
  have r2 := cell_blk G4.out.rs 2 (v := .int .i64 0) rfl
  have s2 := soft_blk G4.out.rs 2
  have r3 := cell_blk G4.out.rs 3 (v := .bool false) rfl
  have s3 := soft_blk G4.out.rs 3
  have r4 := cell_blk G4.out.rs 4 (v := .string ⟨#[]⟩) rfl
  have s4 := soft_blk G4.out.rs 4
  have r5 := cell_blk G4.out.rs 5 (v := .slice none 0 0) rfl
  have s5 := soft_blk G4.out.rs 5
  have r6 := cell_blk G4.out.rs 6 (v := .int .i64 0) rfl
  have s6 := soft_blk G4.out.rs 6
  have r7 := cell_blk G4.out.rs 7 (v := .int .i64 0) rfl
  have s7 := soft_blk G4.out.rs 7
  have r8 := cell_blk G4.out.rs 8 (v := .int .i64 0) rfl
  have s8 := soft_blk G4.out.rs 8
  go_wp2_with fail
  have SA := set_all G4.out.rs (.int .i64 1) (.int .i64 v1) (.int .i64 v2) (.bool true) (.string kb) (.slice none 0 0) (.int .i64 0) (.int .i64 0) (.int .i64 0)
  have KF := G4.out.kept.trans SA.2 (fun j hj z => by have z : j = w.heap.size := z; omega)
  refine bodyPost_ret (results_cell_row rfl _ _ w.heap.size 39 #[.int .i64 1, .int .i64 v1, .int .i64 v2, .bool true, .string kb, .slice none 0 0, .int .i64 0, .int .i64 0, .int .i64 0] (0, 0) _ rfl SA.1 Tryz.underlying39 rfl (by kernel_rfl)) rfl ?_
  exact ⟨v1, v2, rfl, R1.out, R2.out, KF⟩
set_option maxRecDepth 100000 in
set_option maxHeartbeats 2000000 in
theorem hEv3v (s : ByteArray) (hs : s.size ≤ 1000000000) (W : List ByteArray) (hW : wrdL s = W) (a1 a2 a3 a4 : ByteArray) (M1 M2 : Nat) (w0 : W[0]? = some ⟨#[99, 97, 110, 99, 101, 108]⟩) (w1 : W[1]? = some a1) (w2 : W[2]? = some a2) (w3 : W[3]? = some a3) (w4 : W[4]? = some a4) (hpb : (a3.toList == [112, 117, 116]) = true) (hk : 5 < W.length) (hk8 : W.length ≤ 8) (a5 : ByteArray) (w5 : W[5]? = some a5) (w : World) : Calls Tryz.prog 33 #[.string s] w fun o w' => ∃ v1 v2 x y er : Int, o = .returned (.agg #[.int .i64 3, .int .i64 v1, .int .i64 v2, .bool true, .string (str (meaB a4)), .slice none 0 0, .int .i64 0, .int .i64 x, .int .i64 y]) ∧ (a1 = decB M1 ∧ M1 ≤ 4611686018427387903 → v1 = (M1 : Int)) ∧ (a2 = decB M2 ∧ M2 ≤ 4611686018427387903 → v2 = (M2 : Int)) ∧ TPar a5.data.toList x y er ∧ Kept (fun _ => False) w w' := by
  have SZ := wrd_size s
  rw [hW] at SZ
  have z1 : a1.size ≤ 1000000000 := Nat.le_trans (SZ a1 (List.mem_of_getElem? w1)) hs
  have z2 : a2.size ≤ 1000000000 := Nat.le_trans (SZ a2 (List.mem_of_getElem? w2)) hs
  have z4 : a4.size ≤ 1000000000 := Nat.le_trans (SZ a4 (List.mem_of_getElem? w4)) hs
  have z5 : a5.size ≤ 1000000000 := Nat.le_trans (SZ a5 (List.mem_of_getElem? w5)) hs
  clear SZ
  have C1 : Hid (∀ U, Calls Tryz.prog 67 #[.string a1] U fun o w' => ∃ v : Int, o = .returned (.int .i64 v) ∧ (a1 = decB M1 ∧ M1 ≤ 4611686018427387903 → v = (M1 : Int)) ∧ w' = U) := fun U => hRead a1 M1 U z1
  have C2 : Hid (∀ U, Calls Tryz.prog 67 #[.string a2] U fun o w' => ∃ v : Int, o = .returned (.int .i64 v) ∧ (a2 = decB M2 ∧ M2 ≤ 4611686018427387903 → v = (M2 : Int)) ∧ w' = U) := fun U => hRead a2 M2 U z2
  have C4 : Hid (∀ U, Calls Tryz.prog 68 #[.string a4] U fun o w' => ∃ p k c, o = .returned (.slice p k c) ∧ QS U (meaB a4) p k c w' ∧ (∀ x ∈ meaB a4, x < 256)) := fun U => hMeant a4 z4 U
  have C5 : Hid (∀ U, Calls Tryz.prog 70 #[.string a5] U fun o w' => ∃ x y e : Int, o = .returned (.agg #[.int .i64 x, .int .i64 y]) ∧ TPar a5.data.toList x y e ∧ Kept (fun _ => False) U w') := fun U => hTagD a5 z5 U
  obtain ⟨kb, hkb⟩ : ∃ kb, str (meaB a4) = kb := ⟨_, rfl⟩
  simp only [hkb]
  have HKB : Hid (str (meaB a4) = kb) := hkb
  clear hkb
  have WW : Hid (W[0]? = some ⟨#[99, 97, 110, 99, 101, 108]⟩ ∧ W[1]? = some a1 ∧ W[2]? = some a2 ∧ W[3]? = some a3 ∧ W[4]? = some a4) := ⟨w0, w1, w2, w3, w4⟩
  have W5 : Hid (W[5]? = some a5) := w5
  have CW : Hid (∀ U, Calls Tryz.prog 66 #[.string s] U fun o w' => ∃ g k c, o = .returned (.slice (some ⟨g, 0, none⟩) k c) ∧ w'.ownsRow U.heap.size 9 1 (.slice (some ⟨g, 0, none⟩) k c) k (strs W) ∧ Kept (fun _ => False) U w') := fun U => by rw [← hW]; exact hWords s hs U
  obtain ⟨W0, hW0⟩ : ∃ W0, W0 = (w.alloc (.cells #[.int .i64 0, .int .i64 0, .int .i64 0, .bool false, .string ⟨#[]⟩, .slice none 0 0, .int .i64 0, .int .i64 0, .int .i64 0] 39)).alloc (.cells #[.int .i64 0, .int .i64 0, .int .i64 0, .bool false, .string ⟨#[]⟩, .slice none 0 0, .int .i64 0, .int .i64 0, .int .i64 0] 39) := ⟨_, rfl⟩
  have S0 : Hid (W0.heap[w.heap.size]? = some (.cells zEv 39 (0, 0)) ∧ W0.heap[w.heap.size + 1]? = some (.cells zEv 39 (0, 0)) ∧ w.heap.size + 2 ≤ W0.heap.size ∧ Kept (fun _ => False) w W0) := by
    rw [hW0]
    refine ⟨alloc_old _ (alloc_new _ _), ?_, ?_, ((Kept.refl _ _).alloc _).alloc _⟩
    · have q := alloc_new (w.alloc (.cells zEv 39)) (.cells zEv 39)
      rw [alloc_size] at q
      exact q
    · rw [alloc_size, alloc_size]
      exact Nat.le_refl _
  have EW : Hid (W0 = (w.alloc (.cells #[.int .i64 0, .int .i64 0, .int .i64 0, .bool false, .string ⟨#[]⟩, .slice none 0 0, .int .i64 0, .int .i64 0, .int .i64 0] 39)).alloc (.cells #[.int .i64 0, .int .i64 0, .int .i64 0, .bool false, .string ⟨#[]⟩, .slice none 0 0, .int .i64 0, .int .i64 0, .int .i64 0] 39)) := hW0
  clear hW0 hs z1 z2 z4 w0 w1 w2 w3 w4 z5 w5
  go_enter Tryz.func33, Tryz.ntmps33
  go_upto_region 2 with fail
  rw [← EW.out]
  clear EW
  go_wp2_with fail
  refine (CW.out _).mono ?_
  rintro o u1 ⟨g, k, c, rfl, ro, K⟩
  have G0 : Hid (Eg w u1 #[.int .i64 0, .int .i64 0, .int .i64 0, .bool false, .string ⟨#[]⟩, .slice none 0 0, .int .i64 0, .int .i64 0, .int .i64 0] g k c W) := ⟨K.get S0.out.1 (fun z => z), K.get S0.out.2.1 (fun z => z), owns_mono ro S0.out.2.2.1, S0.out.2.2.2.trans K (fun _ _ z => z)⟩
  have kc := own_room ro
  have kl := G0.out.len
  clear ro K S0 CW
  have i1 : ¬ (k : Int) < 5 := by omega
  have i2 : ¬ (8 : Int) < (k : Int) := by omega
  have i2b : ¬ (k : Int) > 8 := by omega
  have j0 : (0 : Int) < (k : Int) := by omega
  have j1 : (1 : Int) < (k : Int) := by omega
  have j2 : (2 : Int) < (k : Int) := by omega
  have j3 : (3 : Int) < (k : Int) := by omega
  have j4 : (4 : Int) < (k : Int) := by omega
  have c1 := G0.out.wd WW.out.2.1
  go_wp2_with fail
  refine (C1.out _).mono ?_
  rintro o u2 ⟨v1, rfl, R1', hw⟩
  have R1 : Hid _ := R1'
  clear R1' C1 c1
  subst hw
  have d1 := cell_blk G0.out.ev 1 (v := .int .i64 0) rfl
  have t1 := soft_blk G0.out.ev 1
  have c2 : (u2.setCell ⟨w.heap.size + 1, 1, none⟩ (.int .i64 v1)).cell? ⟨g, 2, none⟩ = some (.string a2) := (G0.out.set 1 (.int .i64 v1)).wd WW.out.2.2.1
  go_wp2_with fail
  have G1 : Hid (Eg w (u2.setCell ⟨w.heap.size + 1, 1, none⟩ (.int .i64 v1)) #[.int .i64 0, .int .i64 v1, .int .i64 0, .bool false, .string ⟨#[]⟩, .slice none 0 0, .int .i64 0, .int .i64 0, .int .i64 0] g k c W) := G0.out.set 1 (.int .i64 v1)
  clear G0 d1 t1
  obtain ⟨V1, hV1⟩ : ∃ V, u2.setCell ⟨w.heap.size + 1, 1, none⟩ (.int .i64 v1) = V := ⟨_, rfl⟩
  rw [hV1] at G1 ⊢
  clear hV1 c2
  refine (C2.out _).mono ?_
  rintro o u3 ⟨v2, rfl, R2', hw⟩
  have R2 : Hid _ := R2'
  clear R2' C2
  subst hw
  have d2 := cell_blk G1.out.ev 2 (v := .int .i64 0) rfl
  have t2 := soft_blk G1.out.ev 2
  have c3 : (u3.setCell ⟨w.heap.size + 1, 2, none⟩ (.int .i64 v2)).cell? ⟨g, 3, none⟩ = some (.string a3) := (G1.out.set 2 (.int .i64 v2)).wd WW.out.2.2.2.1
  have d3 := cell_blk (G1.out.set 2 (.int .i64 v2)).ev 3 (v := .bool false) rfl
  have t3 := soft_blk (G1.out.set 2 (.int .i64 v2)).ev 3
  have c4 : ((u3.setCell ⟨w.heap.size + 1, 2, none⟩ (.int .i64 v2)).setCell ⟨w.heap.size + 1, 3, none⟩ (.bool true)).cell? ⟨g, 4, none⟩ = some (.string a4) := ((G1.out.set 2 (.int .i64 v2)).set 3 (.bool true)).wd WW.out.2.2.2.2
  go_wp2_with fail
  have G2 : Hid (Eg w ((u3.setCell ⟨w.heap.size + 1, 2, none⟩ (.int .i64 v2)).setCell ⟨w.heap.size + 1, 3, none⟩ (.bool true)) #[.int .i64 0, .int .i64 v1, .int .i64 v2, .bool true, .string ⟨#[]⟩, .slice none 0 0, .int .i64 0, .int .i64 0, .int .i64 0] g k c W) := (G1.out.set 2 (.int .i64 v2)).set 3 (.bool true)
  clear G1 d2 t2 d3 t3 c3 c4 hpb
  obtain ⟨V2, hV2⟩ : ∃ V, (u3.setCell ⟨w.heap.size + 1, 2, none⟩ (.int .i64 v2)).setCell ⟨w.heap.size + 1, 3, none⟩ (.bool true) = V := ⟨_, rfl⟩
  rw [hV2] at G2 ⊢
  clear hV2
  refine (C4.out _).mono ?_
  rintro o u4 ⟨p6, k6, c6, rfl, Q, b6⟩
  have G3 : Hid (Eg w u4 #[.int .i64 0, .int .i64 v1, .int .i64 v2, .bool true, .string ⟨#[]⟩, .slice none 0 0, .int .i64 0, .int .i64 0, .int .i64 0] g k c W) := G2.out.keep Q.kept
  have cv : (convert 34 9 (.slice p6 k6 c6)).run Tryz.prog u4 = .ok (.string kb) u4 := by rw [← HKB.out]; exact (reads_own Q.row b6).string
  clear G2 Q b6 C4
  have d4 := cell_blk G3.out.ev 4 (v := .string ⟨#[]⟩) rfl
  have t4 := soft_blk G3.out.ev 4
  have c0 : (u4.setCell ⟨w.heap.size + 1, 4, none⟩ (.string kb)).cell? ⟨g, 0, none⟩ = some (.string ⟨#[99, 97, 110, 99, 101, 108]⟩) := (G3.out.set 4 (.string kb)).wd WW.out.1
  have d0 := cell_blk (G3.out.set 4 (.string kb)).ev 0 (v := .int .i64 0) rfl
  have t0 := soft_blk (G3.out.set 4 (.string kb)).ev 0
  have d3 := cell_blk ((G3.out.set 4 (.string kb)).set 0 (.int .i64 3)).ev 3 (v := .bool true) rfl
  have j5 : (5 : Int) < (k : Int) := by omega
  have j5b : (k : Int) > 5 := by omega
  have c5 : ((u4.setCell ⟨w.heap.size + 1, 4, none⟩ (.string kb)).setCell ⟨w.heap.size + 1, 0, none⟩ (.int .i64 3)).cell? ⟨g, 5, none⟩ = some (.string a5) := ((G3.out.set 4 (.string kb)).set 0 (.int .i64 3)).wd W5.out
  go_wp2_with fail
  have G4 : Hid (Eg w ((u4.setCell ⟨w.heap.size + 1, 4, none⟩ (.string kb)).setCell ⟨w.heap.size + 1, 0, none⟩ (.int .i64 3)) #[.int .i64 3, .int .i64 v1, .int .i64 v2, .bool true, .string kb, .slice none 0 0, .int .i64 0, .int .i64 0, .int .i64 0] g k c W) := ((G3.out.set 4 (.string kb)).set 0 (.int .i64 3))
  clear G3 d4 t4 d0 t0 d3 c0 c5 cv
  obtain ⟨V4, hV4⟩ : ∃ V, ((u4.setCell ⟨w.heap.size + 1, 4, none⟩ (.string kb)).setCell ⟨w.heap.size + 1, 0, none⟩ (.int .i64 3)) = V := ⟨_, rfl⟩
  rw [hV4] at G4 ⊢
  clear hV4
  refine (C5.out _).mono ?_
  rintro o u5 ⟨x, y, er, rfl, TP', K⟩
  have TP : Hid (TPar a5.data.toList x y er) := TP'
  have G5 : Hid (Eg w u5 #[.int .i64 3, .int .i64 v1, .int .i64 v2, .bool true, .string kb, .slice none 0 0, .int .i64 0, .int .i64 0, .int .i64 0] g k c W) := G4.out.keep K
  clear G4 K C5 TP'
  have d7 := cell_blk G5.out.ev 7 (v := .int .i64 0) rfl
  have t7 := soft_blk G5.out.ev 7
  have d8 := cell_blk G5.out.ev 8 (v := .int .i64 0) rfl
  have t8 := soft_blk G5.out.ev 8
  have G6 : Hid (Eg w ((u5.setCell ⟨w.heap.size + 1, 7, none⟩ (.int .i64 x)).setCell ⟨w.heap.size + 1, 8, none⟩ (.int .i64 y)) #[.int .i64 3, .int .i64 v1, .int .i64 v2, .bool true, .string kb, .slice none 0 0, .int .i64 0, .int .i64 x, .int .i64 y] g k c W) := (G5.out.set 7 (.int .i64 x)).set 8 (.int .i64 y)
  have e0 := cell_blk G6.out.ev 0 (v := .int .i64 3) rfl
  have e1 := cell_blk G6.out.ev 1 (v := .int .i64 v1) rfl
  have e2 := cell_blk G6.out.ev 2 (v := .int .i64 v2) rfl
  have e3 := cell_blk G6.out.ev 3 (v := .bool true) rfl
  have e4 := cell_blk G6.out.ev 4 (v := .string kb) rfl
  have e5 := cell_blk G6.out.ev 5 (v := .slice none 0 0) rfl
  have e6 := cell_blk G6.out.ev 6 (v := .int .i64 0) rfl
  have e7 := cell_blk G6.out.ev 7 (v := .int .i64 x) rfl
  have e8 := cell_blk G6.out.ev 8 (v := .int .i64 y) rfl
  have r0 := cell_blk G6.out.rs 0 (v := .int .i64 0) rfl
  have s0 := soft_blk G6.out.rs 0
  have r1 := cell_blk G6.out.rs 1 (v := .int .i64 0) rfl
  have s1 := soft_blk G6.out.rs 1
  have r2 := cell_blk G6.out.rs 2 (v := .int .i64 0) rfl
  have s2 := soft_blk G6.out.rs 2
  have r3 := cell_blk G6.out.rs 3 (v := .bool false) rfl
  have s3 := soft_blk G6.out.rs 3
  have r4 := cell_blk G6.out.rs 4 (v := .string ⟨#[]⟩) rfl
  have s4 := soft_blk G6.out.rs 4
  have r5 := cell_blk G6.out.rs 5 (v := .slice none 0 0) rfl
  have s5 := soft_blk G6.out.rs 5
  have r6 := cell_blk G6.out.rs 6 (v := .int .i64 0) rfl
  have s6 := soft_blk G6.out.rs 6
  have r7 := cell_blk G6.out.rs 7 (v := .int .i64 0) rfl
  have s7 := soft_blk G6.out.rs 7
  have r8 := cell_blk G6.out.rs 8 (v := .int .i64 0) rfl
  have s8 := soft_blk G6.out.rs 8
  go_wp2_with fail
  have SA := set_all G6.out.rs (.int .i64 3) (.int .i64 v1) (.int .i64 v2) (.bool true) (.string kb) (.slice none 0 0) (.int .i64 0) (.int .i64 x) (.int .i64 y)
  have KF := G6.out.kept.trans SA.2 (fun j hj z => by have z : j = w.heap.size := z; omega)
  refine bodyPost_ret (results_cell_row rfl _ _ w.heap.size 39 #[.int .i64 3, .int .i64 v1, .int .i64 v2, .bool true, .string kb, .slice none 0 0, .int .i64 0, .int .i64 x, .int .i64 y] (0, 0) _ rfl SA.1 Tryz.underlying39 rfl (by kernel_rfl)) rfl ?_
  exact ⟨v1, v2, x, y, er, rfl, R1.out, R2.out, TP.out, KF⟩
set_option maxRecDepth 100000 in
set_option maxHeartbeats 2000000 in
theorem hEv3f (s : ByteArray) (hs : s.size ≤ 1000000000) (W : List ByteArray) (hW : wrdL s = W) (a1 a2 a3 a4 : ByteArray) (M1 M2 : Nat) (w0 : W[0]? = some ⟨#[99, 97, 110, 99, 101, 108]⟩) (w1 : W[1]? = some a1) (w2 : W[2]? = some a2) (w3 : W[3]? = some a3) (w4 : W[4]? = some a4) (hpb : (a3.toList == [112, 117, 116]) = false) (hk : 5 ≤ W.length) (hk8 : W.length ≤ 8) (w : World) : Calls Tryz.prog 33 #[.string s] w fun o w' => ∃ v1 v2 : Int, o = .returned (.agg #[.int .i64 3, .int .i64 v1, .int .i64 v2, .bool false, .string (str (meaB a4)), .slice none 0 0, .int .i64 0, .int .i64 0, .int .i64 0]) ∧ (a1 = decB M1 ∧ M1 ≤ 4611686018427387903 → v1 = (M1 : Int)) ∧ (a2 = decB M2 ∧ M2 ≤ 4611686018427387903 → v2 = (M2 : Int)) ∧ Kept (fun _ => False) w w' := by
  have SZ := wrd_size s
  rw [hW] at SZ
  have z1 : a1.size ≤ 1000000000 := Nat.le_trans (SZ a1 (List.mem_of_getElem? w1)) hs
  have z2 : a2.size ≤ 1000000000 := Nat.le_trans (SZ a2 (List.mem_of_getElem? w2)) hs
  have z4 : a4.size ≤ 1000000000 := Nat.le_trans (SZ a4 (List.mem_of_getElem? w4)) hs
  clear SZ
  have C1 : Hid (∀ U, Calls Tryz.prog 67 #[.string a1] U fun o w' => ∃ v : Int, o = .returned (.int .i64 v) ∧ (a1 = decB M1 ∧ M1 ≤ 4611686018427387903 → v = (M1 : Int)) ∧ w' = U) := fun U => hRead a1 M1 U z1
  have C2 : Hid (∀ U, Calls Tryz.prog 67 #[.string a2] U fun o w' => ∃ v : Int, o = .returned (.int .i64 v) ∧ (a2 = decB M2 ∧ M2 ≤ 4611686018427387903 → v = (M2 : Int)) ∧ w' = U) := fun U => hRead a2 M2 U z2
  have C4 : Hid (∀ U, Calls Tryz.prog 68 #[.string a4] U fun o w' => ∃ p k c, o = .returned (.slice p k c) ∧ QS U (meaB a4) p k c w' ∧ (∀ x ∈ meaB a4, x < 256)) := fun U => hMeant a4 z4 U
  obtain ⟨kb, hkb⟩ : ∃ kb, str (meaB a4) = kb := ⟨_, rfl⟩
  simp only [hkb]
  have HKB : Hid (str (meaB a4) = kb) := hkb
  clear hkb
  have WW : Hid (W[0]? = some ⟨#[99, 97, 110, 99, 101, 108]⟩ ∧ W[1]? = some a1 ∧ W[2]? = some a2 ∧ W[3]? = some a3 ∧ W[4]? = some a4) := ⟨w0, w1, w2, w3, w4⟩
  have CW : Hid (∀ U, Calls Tryz.prog 66 #[.string s] U fun o w' => ∃ g k c, o = .returned (.slice (some ⟨g, 0, none⟩) k c) ∧ w'.ownsRow U.heap.size 9 1 (.slice (some ⟨g, 0, none⟩) k c) k (strs W) ∧ Kept (fun _ => False) U w') := fun U => by rw [← hW]; exact hWords s hs U
  obtain ⟨W0, hW0⟩ : ∃ W0, W0 = (w.alloc (.cells #[.int .i64 0, .int .i64 0, .int .i64 0, .bool false, .string ⟨#[]⟩, .slice none 0 0, .int .i64 0, .int .i64 0, .int .i64 0] 39)).alloc (.cells #[.int .i64 0, .int .i64 0, .int .i64 0, .bool false, .string ⟨#[]⟩, .slice none 0 0, .int .i64 0, .int .i64 0, .int .i64 0] 39) := ⟨_, rfl⟩
  have S0 : Hid (W0.heap[w.heap.size]? = some (.cells zEv 39 (0, 0)) ∧ W0.heap[w.heap.size + 1]? = some (.cells zEv 39 (0, 0)) ∧ w.heap.size + 2 ≤ W0.heap.size ∧ Kept (fun _ => False) w W0) := by
    rw [hW0]
    refine ⟨alloc_old _ (alloc_new _ _), ?_, ?_, ((Kept.refl _ _).alloc _).alloc _⟩
    · have q := alloc_new (w.alloc (.cells zEv 39)) (.cells zEv 39)
      rw [alloc_size] at q
      exact q
    · rw [alloc_size, alloc_size]
      exact Nat.le_refl _
  have EW : Hid (W0 = (w.alloc (.cells #[.int .i64 0, .int .i64 0, .int .i64 0, .bool false, .string ⟨#[]⟩, .slice none 0 0, .int .i64 0, .int .i64 0, .int .i64 0] 39)).alloc (.cells #[.int .i64 0, .int .i64 0, .int .i64 0, .bool false, .string ⟨#[]⟩, .slice none 0 0, .int .i64 0, .int .i64 0, .int .i64 0] 39)) := hW0
  clear hW0 hs z1 z2 z4 w0 w1 w2 w3 w4
  go_enter Tryz.func33, Tryz.ntmps33
  go_upto_region 2 with fail
  rw [← EW.out]
  clear EW
  go_wp2_with fail
  refine (CW.out _).mono ?_
  rintro o u1 ⟨g, k, c, rfl, ro, K⟩
  have G0 : Hid (Eg w u1 #[.int .i64 0, .int .i64 0, .int .i64 0, .bool false, .string ⟨#[]⟩, .slice none 0 0, .int .i64 0, .int .i64 0, .int .i64 0] g k c W) := ⟨K.get S0.out.1 (fun z => z), K.get S0.out.2.1 (fun z => z), owns_mono ro S0.out.2.2.1, S0.out.2.2.2.trans K (fun _ _ z => z)⟩
  have kc := own_room ro
  have kl := G0.out.len
  clear ro K S0 CW
  have i1 : ¬ (k : Int) < 5 := by omega
  have i2 : ¬ (8 : Int) < (k : Int) := by omega
  have i2b : ¬ (k : Int) > 8 := by omega
  have j0 : (0 : Int) < (k : Int) := by omega
  have j1 : (1 : Int) < (k : Int) := by omega
  have j2 : (2 : Int) < (k : Int) := by omega
  have j3 : (3 : Int) < (k : Int) := by omega
  have j4 : (4 : Int) < (k : Int) := by omega
  have c1 := G0.out.wd WW.out.2.1
  go_wp2_with fail
  refine (C1.out _).mono ?_
  rintro o u2 ⟨v1, rfl, R1', hw⟩
  have R1 : Hid _ := R1'
  clear R1' C1 c1
  subst hw
  have d1 := cell_blk G0.out.ev 1 (v := .int .i64 0) rfl
  have t1 := soft_blk G0.out.ev 1
  have c2 : (u2.setCell ⟨w.heap.size + 1, 1, none⟩ (.int .i64 v1)).cell? ⟨g, 2, none⟩ = some (.string a2) := (G0.out.set 1 (.int .i64 v1)).wd WW.out.2.2.1
  go_wp2_with fail
  have G1 : Hid (Eg w (u2.setCell ⟨w.heap.size + 1, 1, none⟩ (.int .i64 v1)) #[.int .i64 0, .int .i64 v1, .int .i64 0, .bool false, .string ⟨#[]⟩, .slice none 0 0, .int .i64 0, .int .i64 0, .int .i64 0] g k c W) := G0.out.set 1 (.int .i64 v1)
  clear G0 d1 t1
  obtain ⟨V1, hV1⟩ : ∃ V, u2.setCell ⟨w.heap.size + 1, 1, none⟩ (.int .i64 v1) = V := ⟨_, rfl⟩
  rw [hV1] at G1 ⊢
  clear hV1 c2
  refine (C2.out _).mono ?_
  rintro o u3 ⟨v2, rfl, R2', hw⟩
  have R2 : Hid _ := R2'
  clear R2' C2
  subst hw
  have d2 := cell_blk G1.out.ev 2 (v := .int .i64 0) rfl
  have t2 := soft_blk G1.out.ev 2
  have c3 : (u3.setCell ⟨w.heap.size + 1, 2, none⟩ (.int .i64 v2)).cell? ⟨g, 3, none⟩ = some (.string a3) := (G1.out.set 2 (.int .i64 v2)).wd WW.out.2.2.2.1
  have d3 := cell_blk (G1.out.set 2 (.int .i64 v2)).ev 3 (v := .bool false) rfl
  have t3 := soft_blk (G1.out.set 2 (.int .i64 v2)).ev 3
  have c4 : ((u3.setCell ⟨w.heap.size + 1, 2, none⟩ (.int .i64 v2)).setCell ⟨w.heap.size + 1, 3, none⟩ (.bool false)).cell? ⟨g, 4, none⟩ = some (.string a4) := ((G1.out.set 2 (.int .i64 v2)).set 3 (.bool false)).wd WW.out.2.2.2.2
  go_wp2_with fail
  have G2 : Hid (Eg w ((u3.setCell ⟨w.heap.size + 1, 2, none⟩ (.int .i64 v2)).setCell ⟨w.heap.size + 1, 3, none⟩ (.bool false)) #[.int .i64 0, .int .i64 v1, .int .i64 v2, .bool false, .string ⟨#[]⟩, .slice none 0 0, .int .i64 0, .int .i64 0, .int .i64 0] g k c W) := (G1.out.set 2 (.int .i64 v2)).set 3 (.bool false)
  clear G1 d2 t2 d3 t3 c3 c4 hpb
  obtain ⟨V2, hV2⟩ : ∃ V, (u3.setCell ⟨w.heap.size + 1, 2, none⟩ (.int .i64 v2)).setCell ⟨w.heap.size + 1, 3, none⟩ (.bool false) = V := ⟨_, rfl⟩
  rw [hV2] at G2 ⊢
  clear hV2
  refine (C4.out _).mono ?_
  rintro o u4 ⟨p6, k6, c6, rfl, Q, b6⟩
  have G3 : Hid (Eg w u4 #[.int .i64 0, .int .i64 v1, .int .i64 v2, .bool false, .string ⟨#[]⟩, .slice none 0 0, .int .i64 0, .int .i64 0, .int .i64 0] g k c W) := G2.out.keep Q.kept
  have cv : (convert 34 9 (.slice p6 k6 c6)).run Tryz.prog u4 = .ok (.string kb) u4 := by rw [← HKB.out]; exact (reads_own Q.row b6).string
  clear G2 Q b6 C4
  have d4 := cell_blk G3.out.ev 4 (v := .string ⟨#[]⟩) rfl
  have t4 := soft_blk G3.out.ev 4
  have c0 : (u4.setCell ⟨w.heap.size + 1, 4, none⟩ (.string kb)).cell? ⟨g, 0, none⟩ = some (.string ⟨#[99, 97, 110, 99, 101, 108]⟩) := (G3.out.set 4 (.string kb)).wd WW.out.1
  have d0 := cell_blk (G3.out.set 4 (.string kb)).ev 0 (v := .int .i64 0) rfl
  have t0 := soft_blk (G3.out.set 4 (.string kb)).ev 0
  have d3 := cell_blk ((G3.out.set 4 (.string kb)).set 0 (.int .i64 3)).ev 3 (v := .bool false) rfl
  have G4 : Hid (Eg w ((u4.setCell ⟨w.heap.size + 1, 4, none⟩ (.string kb)).setCell ⟨w.heap.size + 1, 0, none⟩ (.int .i64 3)) #[.int .i64 3, .int .i64 v1, .int .i64 v2, .bool false, .string kb, .slice none 0 0, .int .i64 0, .int .i64 0, .int .i64 0] g k c W) := ((G3.out.set 4 (.string kb)).set 0 (.int .i64 3))
  have e0 := cell_blk G4.out.ev 0 (v := .int .i64 3) rfl
  have e1 := cell_blk G4.out.ev 1 (v := .int .i64 v1) rfl
  have e2 := cell_blk G4.out.ev 2 (v := .int .i64 v2) rfl
  have e3 := cell_blk G4.out.ev 3 (v := .bool false) rfl
  have e4 := cell_blk G4.out.ev 4 (v := .string kb) rfl
  have e5 := cell_blk G4.out.ev 5 (v := .slice none 0 0) rfl
  have e6 := cell_blk G4.out.ev 6 (v := .int .i64 0) rfl
  have e7 := cell_blk G4.out.ev 7 (v := .int .i64 0) rfl
  have e8 := cell_blk G4.out.ev 8 (v := .int .i64 0) rfl
  have r0 := cell_blk G4.out.rs 0 (v := .int .i64 0) rfl
  have s0 := soft_blk G4.out.rs 0
  have r1 := cell_blk G4.out.rs 1 (v := .int .i64 0) rfl
  have s1 := soft_blk G4.out.rs 1
  have r2 := cell_blk G4.out.rs 2 (v := .int .i64 0) rfl
  have s2 := soft_blk G4.out.rs 2
  have r3 := cell_blk G4.out.rs 3 (v := .bool false) rfl
  have s3 := soft_blk G4.out.rs 3
  have r4 := cell_blk G4.out.rs 4 (v := .string ⟨#[]⟩) rfl
  have s4 := soft_blk G4.out.rs 4
  have r5 := cell_blk G4.out.rs 5 (v := .slice none 0 0) rfl
  have s5 := soft_blk G4.out.rs 5
  have r6 := cell_blk G4.out.rs 6 (v := .int .i64 0) rfl
  have s6 := soft_blk G4.out.rs 6
  have r7 := cell_blk G4.out.rs 7 (v := .int .i64 0) rfl
  have s7 := soft_blk G4.out.rs 7
  have r8 := cell_blk G4.out.rs 8 (v := .int .i64 0) rfl
  have s8 := soft_blk G4.out.rs 8
  go_wp2_with fail
  have SA := set_all G4.out.rs (.int .i64 3) (.int .i64 v1) (.int .i64 v2) (.bool false) (.string kb) (.slice none 0 0) (.int .i64 0) (.int .i64 0) (.int .i64 0)
  have KF := G4.out.kept.trans SA.2 (fun j hj z => by have z : j = w.heap.size := z; omega)
  refine bodyPost_ret (results_cell_row rfl _ _ w.heap.size 39 #[.int .i64 3, .int .i64 v1, .int .i64 v2, .bool false, .string kb, .slice none 0 0, .int .i64 0, .int .i64 0, .int .i64 0] (0, 0) _ rfl SA.1 Tryz.underlying39 rfl (by kernel_rfl)) rfl ?_
  exact ⟨v1, v2, rfl, R1.out, R2.out, KF⟩
set_option maxRecDepth 100000 in
set_option maxHeartbeats 2000000 in
theorem hEv3t (s : ByteArray) (hs : s.size ≤ 1000000000) (W : List ByteArray) (hW : wrdL s = W) (a1 a2 a3 a4 : ByteArray) (M1 M2 : Nat) (w0 : W[0]? = some ⟨#[99, 97, 110, 99, 101, 108]⟩) (w1 : W[1]? = some a1) (w2 : W[2]? = some a2) (w3 : W[3]? = some a3) (w4 : W[4]? = some a4) (hpb : (a3.toList == [112, 117, 116]) = true) (hk : W.length = 5) (w : World) : Calls Tryz.prog 33 #[.string s] w fun o w' => ∃ v1 v2 : Int, o = .returned (.agg #[.int .i64 3, .int .i64 v1, .int .i64 v2, .bool true, .string (str (meaB a4)), .slice none 0 0, .int .i64 0, .int .i64 0, .int .i64 0]) ∧ (a1 = decB M1 ∧ M1 ≤ 4611686018427387903 → v1 = (M1 : Int)) ∧ (a2 = decB M2 ∧ M2 ≤ 4611686018427387903 → v2 = (M2 : Int)) ∧ Kept (fun _ => False) w w' := by
  have SZ := wrd_size s
  rw [hW] at SZ
  have z1 : a1.size ≤ 1000000000 := Nat.le_trans (SZ a1 (List.mem_of_getElem? w1)) hs
  have z2 : a2.size ≤ 1000000000 := Nat.le_trans (SZ a2 (List.mem_of_getElem? w2)) hs
  have z4 : a4.size ≤ 1000000000 := Nat.le_trans (SZ a4 (List.mem_of_getElem? w4)) hs
  clear SZ
  have C1 : Hid (∀ U, Calls Tryz.prog 67 #[.string a1] U fun o w' => ∃ v : Int, o = .returned (.int .i64 v) ∧ (a1 = decB M1 ∧ M1 ≤ 4611686018427387903 → v = (M1 : Int)) ∧ w' = U) := fun U => hRead a1 M1 U z1
  have C2 : Hid (∀ U, Calls Tryz.prog 67 #[.string a2] U fun o w' => ∃ v : Int, o = .returned (.int .i64 v) ∧ (a2 = decB M2 ∧ M2 ≤ 4611686018427387903 → v = (M2 : Int)) ∧ w' = U) := fun U => hRead a2 M2 U z2
  have C4 : Hid (∀ U, Calls Tryz.prog 68 #[.string a4] U fun o w' => ∃ p k c, o = .returned (.slice p k c) ∧ QS U (meaB a4) p k c w' ∧ (∀ x ∈ meaB a4, x < 256)) := fun U => hMeant a4 z4 U
  obtain ⟨kb, hkb⟩ : ∃ kb, str (meaB a4) = kb := ⟨_, rfl⟩
  simp only [hkb]
  have HKB : Hid (str (meaB a4) = kb) := hkb
  clear hkb
  have WW : Hid (W[0]? = some ⟨#[99, 97, 110, 99, 101, 108]⟩ ∧ W[1]? = some a1 ∧ W[2]? = some a2 ∧ W[3]? = some a3 ∧ W[4]? = some a4) := ⟨w0, w1, w2, w3, w4⟩
  have CW : Hid (∀ U, Calls Tryz.prog 66 #[.string s] U fun o w' => ∃ g k c, o = .returned (.slice (some ⟨g, 0, none⟩) k c) ∧ w'.ownsRow U.heap.size 9 1 (.slice (some ⟨g, 0, none⟩) k c) k (strs W) ∧ Kept (fun _ => False) U w') := fun U => by rw [← hW]; exact hWords s hs U
  obtain ⟨W0, hW0⟩ : ∃ W0, W0 = (w.alloc (.cells #[.int .i64 0, .int .i64 0, .int .i64 0, .bool false, .string ⟨#[]⟩, .slice none 0 0, .int .i64 0, .int .i64 0, .int .i64 0] 39)).alloc (.cells #[.int .i64 0, .int .i64 0, .int .i64 0, .bool false, .string ⟨#[]⟩, .slice none 0 0, .int .i64 0, .int .i64 0, .int .i64 0] 39) := ⟨_, rfl⟩
  have S0 : Hid (W0.heap[w.heap.size]? = some (.cells zEv 39 (0, 0)) ∧ W0.heap[w.heap.size + 1]? = some (.cells zEv 39 (0, 0)) ∧ w.heap.size + 2 ≤ W0.heap.size ∧ Kept (fun _ => False) w W0) := by
    rw [hW0]
    refine ⟨alloc_old _ (alloc_new _ _), ?_, ?_, ((Kept.refl _ _).alloc _).alloc _⟩
    · have q := alloc_new (w.alloc (.cells zEv 39)) (.cells zEv 39)
      rw [alloc_size] at q
      exact q
    · rw [alloc_size, alloc_size]
      exact Nat.le_refl _
  have EW : Hid (W0 = (w.alloc (.cells #[.int .i64 0, .int .i64 0, .int .i64 0, .bool false, .string ⟨#[]⟩, .slice none 0 0, .int .i64 0, .int .i64 0, .int .i64 0] 39)).alloc (.cells #[.int .i64 0, .int .i64 0, .int .i64 0, .bool false, .string ⟨#[]⟩, .slice none 0 0, .int .i64 0, .int .i64 0, .int .i64 0] 39)) := hW0
  clear hW0 hs z1 z2 z4 w0 w1 w2 w3 w4
  go_enter Tryz.func33, Tryz.ntmps33
  go_upto_region 2 with fail
  rw [← EW.out]
  clear EW
  go_wp2_with fail
  refine (CW.out _).mono ?_
  rintro o u1 ⟨g, k, c, rfl, ro, K⟩
  have G0 : Hid (Eg w u1 #[.int .i64 0, .int .i64 0, .int .i64 0, .bool false, .string ⟨#[]⟩, .slice none 0 0, .int .i64 0, .int .i64 0, .int .i64 0] g k c W) := ⟨K.get S0.out.1 (fun z => z), K.get S0.out.2.1 (fun z => z), owns_mono ro S0.out.2.2.1, S0.out.2.2.2.trans K (fun _ _ z => z)⟩
  have kc := own_room ro
  have kl := G0.out.len
  clear ro K S0 CW
  have i1 : ¬ (k : Int) < 5 := by omega
  have i2 : ¬ (8 : Int) < (k : Int) := by omega
  have i2b : ¬ (k : Int) > 8 := by omega
  have j0 : (0 : Int) < (k : Int) := by omega
  have j1 : (1 : Int) < (k : Int) := by omega
  have j2 : (2 : Int) < (k : Int) := by omega
  have j3 : (3 : Int) < (k : Int) := by omega
  have j4 : (4 : Int) < (k : Int) := by omega
  have c1 := G0.out.wd WW.out.2.1
  go_wp2_with fail
  refine (C1.out _).mono ?_
  rintro o u2 ⟨v1, rfl, R1', hw⟩
  have R1 : Hid _ := R1'
  clear R1' C1 c1
  subst hw
  have d1 := cell_blk G0.out.ev 1 (v := .int .i64 0) rfl
  have t1 := soft_blk G0.out.ev 1
  have c2 : (u2.setCell ⟨w.heap.size + 1, 1, none⟩ (.int .i64 v1)).cell? ⟨g, 2, none⟩ = some (.string a2) := (G0.out.set 1 (.int .i64 v1)).wd WW.out.2.2.1
  go_wp2_with fail
  have G1 : Hid (Eg w (u2.setCell ⟨w.heap.size + 1, 1, none⟩ (.int .i64 v1)) #[.int .i64 0, .int .i64 v1, .int .i64 0, .bool false, .string ⟨#[]⟩, .slice none 0 0, .int .i64 0, .int .i64 0, .int .i64 0] g k c W) := G0.out.set 1 (.int .i64 v1)
  clear G0 d1 t1
  obtain ⟨V1, hV1⟩ : ∃ V, u2.setCell ⟨w.heap.size + 1, 1, none⟩ (.int .i64 v1) = V := ⟨_, rfl⟩
  rw [hV1] at G1 ⊢
  clear hV1 c2
  refine (C2.out _).mono ?_
  rintro o u3 ⟨v2, rfl, R2', hw⟩
  have R2 : Hid _ := R2'
  clear R2' C2
  subst hw
  have d2 := cell_blk G1.out.ev 2 (v := .int .i64 0) rfl
  have t2 := soft_blk G1.out.ev 2
  have c3 : (u3.setCell ⟨w.heap.size + 1, 2, none⟩ (.int .i64 v2)).cell? ⟨g, 3, none⟩ = some (.string a3) := (G1.out.set 2 (.int .i64 v2)).wd WW.out.2.2.2.1
  have d3 := cell_blk (G1.out.set 2 (.int .i64 v2)).ev 3 (v := .bool false) rfl
  have t3 := soft_blk (G1.out.set 2 (.int .i64 v2)).ev 3
  have c4 : ((u3.setCell ⟨w.heap.size + 1, 2, none⟩ (.int .i64 v2)).setCell ⟨w.heap.size + 1, 3, none⟩ (.bool true)).cell? ⟨g, 4, none⟩ = some (.string a4) := ((G1.out.set 2 (.int .i64 v2)).set 3 (.bool true)).wd WW.out.2.2.2.2
  go_wp2_with fail
  have G2 : Hid (Eg w ((u3.setCell ⟨w.heap.size + 1, 2, none⟩ (.int .i64 v2)).setCell ⟨w.heap.size + 1, 3, none⟩ (.bool true)) #[.int .i64 0, .int .i64 v1, .int .i64 v2, .bool true, .string ⟨#[]⟩, .slice none 0 0, .int .i64 0, .int .i64 0, .int .i64 0] g k c W) := (G1.out.set 2 (.int .i64 v2)).set 3 (.bool true)
  clear G1 d2 t2 d3 t3 c3 c4 hpb
  obtain ⟨V2, hV2⟩ : ∃ V, (u3.setCell ⟨w.heap.size + 1, 2, none⟩ (.int .i64 v2)).setCell ⟨w.heap.size + 1, 3, none⟩ (.bool true) = V := ⟨_, rfl⟩
  rw [hV2] at G2 ⊢
  clear hV2
  refine (C4.out _).mono ?_
  rintro o u4 ⟨p6, k6, c6, rfl, Q, b6⟩
  have G3 : Hid (Eg w u4 #[.int .i64 0, .int .i64 v1, .int .i64 v2, .bool true, .string ⟨#[]⟩, .slice none 0 0, .int .i64 0, .int .i64 0, .int .i64 0] g k c W) := G2.out.keep Q.kept
  have cv : (convert 34 9 (.slice p6 k6 c6)).run Tryz.prog u4 = .ok (.string kb) u4 := by rw [← HKB.out]; exact (reads_own Q.row b6).string
  clear G2 Q b6 C4
  have d4 := cell_blk G3.out.ev 4 (v := .string ⟨#[]⟩) rfl
  have t4 := soft_blk G3.out.ev 4
  have c0 : (u4.setCell ⟨w.heap.size + 1, 4, none⟩ (.string kb)).cell? ⟨g, 0, none⟩ = some (.string ⟨#[99, 97, 110, 99, 101, 108]⟩) := (G3.out.set 4 (.string kb)).wd WW.out.1
  have d0 := cell_blk (G3.out.set 4 (.string kb)).ev 0 (v := .int .i64 0) rfl
  have t0 := soft_blk (G3.out.set 4 (.string kb)).ev 0
  have d3 := cell_blk ((G3.out.set 4 (.string kb)).set 0 (.int .i64 3)).ev 3 (v := .bool true) rfl
  have j5 : ¬ (5 : Int) < (k : Int) := by omega
  have j5b : ¬ (k : Int) > 5 := by omega
  have G4 : Hid (Eg w ((u4.setCell ⟨w.heap.size + 1, 4, none⟩ (.string kb)).setCell ⟨w.heap.size + 1, 0, none⟩ (.int .i64 3)) #[.int .i64 3, .int .i64 v1, .int .i64 v2, .bool true, .string kb, .slice none 0 0, .int .i64 0, .int .i64 0, .int .i64 0] g k c W) := ((G3.out.set 4 (.string kb)).set 0 (.int .i64 3))
  have e0 := cell_blk G4.out.ev 0 (v := .int .i64 3) rfl
  have e1 := cell_blk G4.out.ev 1 (v := .int .i64 v1) rfl
  have e2 := cell_blk G4.out.ev 2 (v := .int .i64 v2) rfl
  have e3 := cell_blk G4.out.ev 3 (v := .bool true) rfl
  have e4 := cell_blk G4.out.ev 4 (v := .string kb) rfl
  have e5 := cell_blk G4.out.ev 5 (v := .slice none 0 0) rfl
  have e6 := cell_blk G4.out.ev 6 (v := .int .i64 0) rfl
  have e7 := cell_blk G4.out.ev 7 (v := .int .i64 0) rfl
  have e8 := cell_blk G4.out.ev 8 (v := .int .i64 0) rfl
  have r0 := cell_blk G4.out.rs 0 (v := .int .i64 0) rfl
  have s0 := soft_blk G4.out.rs 0
  have r1 := cell_blk G4.out.rs 1 (v := .int .i64 0) rfl
  have s1 := soft_blk G4.out.rs 1
  have r2 := cell_blk G4.out.rs 2 (v := .int .i64 0) rfl
  have s2 := soft_blk G4.out.rs 2
  have r3 := cell_blk G4.out.rs 3 (v := .bool false) rfl
  have s3 := soft_blk G4.out.rs 3
  have r4 := cell_blk G4.out.rs 4 (v := .string ⟨#[]⟩) rfl
  have s4 := soft_blk G4.out.rs 4
  have r5 := cell_blk G4.out.rs 5 (v := .slice none 0 0) rfl
  have s5 := soft_blk G4.out.rs 5
  have r6 := cell_blk G4.out.rs 6 (v := .int .i64 0) rfl
  have s6 := soft_blk G4.out.rs 6
  have r7 := cell_blk G4.out.rs 7 (v := .int .i64 0) rfl
  have s7 := soft_blk G4.out.rs 7
  have r8 := cell_blk G4.out.rs 8 (v := .int .i64 0) rfl
  have s8 := soft_blk G4.out.rs 8
  go_wp2_with fail
  have SA := set_all G4.out.rs (.int .i64 3) (.int .i64 v1) (.int .i64 v2) (.bool true) (.string kb) (.slice none 0 0) (.int .i64 0) (.int .i64 0) (.int .i64 0)
  have KF := G4.out.kept.trans SA.2 (fun j hj z => by have z : j = w.heap.size := z; omega)
  refine bodyPost_ret (results_cell_row rfl _ _ w.heap.size 39 #[.int .i64 3, .int .i64 v1, .int .i64 v2, .bool true, .string kb, .slice none 0 0, .int .i64 0, .int .i64 0, .int .i64 0] (0, 0) _ rfl SA.1 Tryz.underlying39 rfl (by kernel_rfl)) rfl ?_
  exact ⟨v1, v2, rfl, R1.out, R2.out, KF⟩
set_option maxRecDepth 100000 in
set_option maxHeartbeats 2000000 in
theorem hEv2n (s : ByteArray) (hs : s.size ≤ 1000000000) (W : List ByteArray) (hW : wrdL s = W) (a1 a2 a3 a4 : ByteArray) (M1 M2 : Nat) (w0 : W[0]? = some ⟨#[114, 101, 116, 117, 114, 110]⟩) (w1 : W[1]? = some a1) (w2 : W[2]? = some a2) (w3 : W[3]? = some a3) (w4 : W[4]? = some a4) (pb : Bool) (hpb : (a3.toList == [112, 117, 116]) = pb) (hk : W.length = 5) (w : World) : Calls Tryz.prog 33 #[.string s] w fun o w' => ∃ v1 v2 : Int, o = .returned (.agg #[.int .i64 2, .int .i64 v1, .int .i64 v2, .bool pb, .string (str (meaB a4)), .slice none 0 0, .int .i64 0, .int .i64 0, .int .i64 0]) ∧ (a1 = decB M1 ∧ M1 ≤ 4611686018427387903 → v1 = (M1 : Int)) ∧ (a2 = decB M2 ∧ M2 ≤ 4611686018427387903 → v2 = (M2 : Int)) ∧ Kept (fun _ => False) w w' := by
  have SZ := wrd_size s
  rw [hW] at SZ
  have z1 : a1.size ≤ 1000000000 := Nat.le_trans (SZ a1 (List.mem_of_getElem? w1)) hs
  have z2 : a2.size ≤ 1000000000 := Nat.le_trans (SZ a2 (List.mem_of_getElem? w2)) hs
  have z4 : a4.size ≤ 1000000000 := Nat.le_trans (SZ a4 (List.mem_of_getElem? w4)) hs
  clear SZ
  have C1 : Hid (∀ U, Calls Tryz.prog 67 #[.string a1] U fun o w' => ∃ v : Int, o = .returned (.int .i64 v) ∧ (a1 = decB M1 ∧ M1 ≤ 4611686018427387903 → v = (M1 : Int)) ∧ w' = U) := fun U => hRead a1 M1 U z1
  have C2 : Hid (∀ U, Calls Tryz.prog 67 #[.string a2] U fun o w' => ∃ v : Int, o = .returned (.int .i64 v) ∧ (a2 = decB M2 ∧ M2 ≤ 4611686018427387903 → v = (M2 : Int)) ∧ w' = U) := fun U => hRead a2 M2 U z2
  have C4 : Hid (∀ U, Calls Tryz.prog 68 #[.string a4] U fun o w' => ∃ p k c, o = .returned (.slice p k c) ∧ QS U (meaB a4) p k c w' ∧ (∀ x ∈ meaB a4, x < 256)) := fun U => hMeant a4 z4 U
  obtain ⟨kb, hkb⟩ : ∃ kb, str (meaB a4) = kb := ⟨_, rfl⟩
  simp only [hkb]
  have HKB : Hid (str (meaB a4) = kb) := hkb
  clear hkb
  have WW : Hid (W[0]? = some ⟨#[114, 101, 116, 117, 114, 110]⟩ ∧ W[1]? = some a1 ∧ W[2]? = some a2 ∧ W[3]? = some a3 ∧ W[4]? = some a4) := ⟨w0, w1, w2, w3, w4⟩
  have CW : Hid (∀ U, Calls Tryz.prog 66 #[.string s] U fun o w' => ∃ g k c, o = .returned (.slice (some ⟨g, 0, none⟩) k c) ∧ w'.ownsRow U.heap.size 9 1 (.slice (some ⟨g, 0, none⟩) k c) k (strs W) ∧ Kept (fun _ => False) U w') := fun U => by rw [← hW]; exact hWords s hs U
  obtain ⟨W0, hW0⟩ : ∃ W0, W0 = (w.alloc (.cells #[.int .i64 0, .int .i64 0, .int .i64 0, .bool false, .string ⟨#[]⟩, .slice none 0 0, .int .i64 0, .int .i64 0, .int .i64 0] 39)).alloc (.cells #[.int .i64 0, .int .i64 0, .int .i64 0, .bool false, .string ⟨#[]⟩, .slice none 0 0, .int .i64 0, .int .i64 0, .int .i64 0] 39) := ⟨_, rfl⟩
  have S0 : Hid (W0.heap[w.heap.size]? = some (.cells zEv 39 (0, 0)) ∧ W0.heap[w.heap.size + 1]? = some (.cells zEv 39 (0, 0)) ∧ w.heap.size + 2 ≤ W0.heap.size ∧ Kept (fun _ => False) w W0) := by
    rw [hW0]
    refine ⟨alloc_old _ (alloc_new _ _), ?_, ?_, ((Kept.refl _ _).alloc _).alloc _⟩
    · have q := alloc_new (w.alloc (.cells zEv 39)) (.cells zEv 39)
      rw [alloc_size] at q
      exact q
    · rw [alloc_size, alloc_size]
      exact Nat.le_refl _
  have EW : Hid (W0 = (w.alloc (.cells #[.int .i64 0, .int .i64 0, .int .i64 0, .bool false, .string ⟨#[]⟩, .slice none 0 0, .int .i64 0, .int .i64 0, .int .i64 0] 39)).alloc (.cells #[.int .i64 0, .int .i64 0, .int .i64 0, .bool false, .string ⟨#[]⟩, .slice none 0 0, .int .i64 0, .int .i64 0, .int .i64 0] 39)) := hW0
  clear hW0 hs z1 z2 z4 w0 w1 w2 w3 w4
  go_enter Tryz.func33, Tryz.ntmps33
  go_upto_region 2 with fail
  rw [← EW.out]
  clear EW
  go_wp2_with fail
  refine (CW.out _).mono ?_
  rintro o u1 ⟨g, k, c, rfl, ro, K⟩
  have G0 : Hid (Eg w u1 #[.int .i64 0, .int .i64 0, .int .i64 0, .bool false, .string ⟨#[]⟩, .slice none 0 0, .int .i64 0, .int .i64 0, .int .i64 0] g k c W) := ⟨K.get S0.out.1 (fun z => z), K.get S0.out.2.1 (fun z => z), owns_mono ro S0.out.2.2.1, S0.out.2.2.2.trans K (fun _ _ z => z)⟩
  have kc := own_room ro
  have kl := G0.out.len
  clear ro K S0 CW
  have i1 : ¬ (k : Int) < 5 := by omega
  have i2 : ¬ (8 : Int) < (k : Int) := by omega
  have i2b : ¬ (k : Int) > 8 := by omega
  have j0 : (0 : Int) < (k : Int) := by omega
  have j1 : (1 : Int) < (k : Int) := by omega
  have j2 : (2 : Int) < (k : Int) := by omega
  have j3 : (3 : Int) < (k : Int) := by omega
  have j4 : (4 : Int) < (k : Int) := by omega
  have c1 := G0.out.wd WW.out.2.1
  go_wp2_with fail
  refine (C1.out _).mono ?_
  rintro o u2 ⟨v1, rfl, R1', hw⟩
  have R1 : Hid _ := R1'
  clear R1' C1 c1
  subst hw
  have d1 := cell_blk G0.out.ev 1 (v := .int .i64 0) rfl
  have t1 := soft_blk G0.out.ev 1
  have c2 : (u2.setCell ⟨w.heap.size + 1, 1, none⟩ (.int .i64 v1)).cell? ⟨g, 2, none⟩ = some (.string a2) := (G0.out.set 1 (.int .i64 v1)).wd WW.out.2.2.1
  go_wp2_with fail
  have G1 : Hid (Eg w (u2.setCell ⟨w.heap.size + 1, 1, none⟩ (.int .i64 v1)) #[.int .i64 0, .int .i64 v1, .int .i64 0, .bool false, .string ⟨#[]⟩, .slice none 0 0, .int .i64 0, .int .i64 0, .int .i64 0] g k c W) := G0.out.set 1 (.int .i64 v1)
  clear G0 d1 t1
  obtain ⟨V1, hV1⟩ : ∃ V, u2.setCell ⟨w.heap.size + 1, 1, none⟩ (.int .i64 v1) = V := ⟨_, rfl⟩
  rw [hV1] at G1 ⊢
  clear hV1 c2
  refine (C2.out _).mono ?_
  rintro o u3 ⟨v2, rfl, R2', hw⟩
  have R2 : Hid _ := R2'
  clear R2' C2
  subst hw
  have d2 := cell_blk G1.out.ev 2 (v := .int .i64 0) rfl
  have t2 := soft_blk G1.out.ev 2
  have c3 : (u3.setCell ⟨w.heap.size + 1, 2, none⟩ (.int .i64 v2)).cell? ⟨g, 3, none⟩ = some (.string a3) := (G1.out.set 2 (.int .i64 v2)).wd WW.out.2.2.2.1
  have d3 := cell_blk (G1.out.set 2 (.int .i64 v2)).ev 3 (v := .bool false) rfl
  have t3 := soft_blk (G1.out.set 2 (.int .i64 v2)).ev 3
  have c4 : ((u3.setCell ⟨w.heap.size + 1, 2, none⟩ (.int .i64 v2)).setCell ⟨w.heap.size + 1, 3, none⟩ (.bool pb)).cell? ⟨g, 4, none⟩ = some (.string a4) := ((G1.out.set 2 (.int .i64 v2)).set 3 (.bool pb)).wd WW.out.2.2.2.2
  go_wp2_with fail
  have G2 : Hid (Eg w ((u3.setCell ⟨w.heap.size + 1, 2, none⟩ (.int .i64 v2)).setCell ⟨w.heap.size + 1, 3, none⟩ (.bool pb)) #[.int .i64 0, .int .i64 v1, .int .i64 v2, .bool pb, .string ⟨#[]⟩, .slice none 0 0, .int .i64 0, .int .i64 0, .int .i64 0] g k c W) := (G1.out.set 2 (.int .i64 v2)).set 3 (.bool pb)
  clear G1 d2 t2 d3 t3 c3 c4 hpb
  obtain ⟨V2, hV2⟩ : ∃ V, (u3.setCell ⟨w.heap.size + 1, 2, none⟩ (.int .i64 v2)).setCell ⟨w.heap.size + 1, 3, none⟩ (.bool pb) = V := ⟨_, rfl⟩
  rw [hV2] at G2 ⊢
  clear hV2
  refine (C4.out _).mono ?_
  rintro o u4 ⟨p6, k6, c6, rfl, Q, b6⟩
  have G3 : Hid (Eg w u4 #[.int .i64 0, .int .i64 v1, .int .i64 v2, .bool pb, .string ⟨#[]⟩, .slice none 0 0, .int .i64 0, .int .i64 0, .int .i64 0] g k c W) := G2.out.keep Q.kept
  have cv : (convert 34 9 (.slice p6 k6 c6)).run Tryz.prog u4 = .ok (.string kb) u4 := by rw [← HKB.out]; exact (reads_own Q.row b6).string
  clear G2 Q b6 C4
  have d4 := cell_blk G3.out.ev 4 (v := .string ⟨#[]⟩) rfl
  have t4 := soft_blk G3.out.ev 4
  have c0 : (u4.setCell ⟨w.heap.size + 1, 4, none⟩ (.string kb)).cell? ⟨g, 0, none⟩ = some (.string ⟨#[114, 101, 116, 117, 114, 110]⟩) := (G3.out.set 4 (.string kb)).wd WW.out.1
  have d0 := cell_blk (G3.out.set 4 (.string kb)).ev 0 (v := .int .i64 0) rfl
  have t0 := soft_blk (G3.out.set 4 (.string kb)).ev 0
  have d3 := cell_blk ((G3.out.set 4 (.string kb)).set 0 (.int .i64 2)).ev 3 (v := .bool pb) rfl
  have j5 : ¬ (5 : Int) < (k : Int) := by omega
  have j5b : ¬ (k : Int) > 5 := by omega
  have G4 : Hid (Eg w ((u4.setCell ⟨w.heap.size + 1, 4, none⟩ (.string kb)).setCell ⟨w.heap.size + 1, 0, none⟩ (.int .i64 2)) #[.int .i64 2, .int .i64 v1, .int .i64 v2, .bool pb, .string kb, .slice none 0 0, .int .i64 0, .int .i64 0, .int .i64 0] g k c W) := ((G3.out.set 4 (.string kb)).set 0 (.int .i64 2))
  have e0 := cell_blk G4.out.ev 0 (v := .int .i64 2) rfl
  have e1 := cell_blk G4.out.ev 1 (v := .int .i64 v1) rfl
  have e2 := cell_blk G4.out.ev 2 (v := .int .i64 v2) rfl
  have e3 := cell_blk G4.out.ev 3 (v := .bool pb) rfl
  have e4 := cell_blk G4.out.ev 4 (v := .string kb) rfl
  have e5 := cell_blk G4.out.ev 5 (v := .slice none 0 0) rfl
  have e6 := cell_blk G4.out.ev 6 (v := .int .i64 0) rfl
  have e7 := cell_blk G4.out.ev 7 (v := .int .i64 0) rfl
  have e8 := cell_blk G4.out.ev 8 (v := .int .i64 0) rfl
  have r0 := cell_blk G4.out.rs 0 (v := .int .i64 0) rfl
  have s0 := soft_blk G4.out.rs 0
  have r1 := cell_blk G4.out.rs 1 (v := .int .i64 0) rfl
  have s1 := soft_blk G4.out.rs 1
  have r2 := cell_blk G4.out.rs 2 (v := .int .i64 0) rfl
  have s2 := soft_blk G4.out.rs 2
  have r3 := cell_blk G4.out.rs 3 (v := .bool false) rfl
  have s3 := soft_blk G4.out.rs 3
  have r4 := cell_blk G4.out.rs 4 (v := .string ⟨#[]⟩) rfl
  have s4 := soft_blk G4.out.rs 4
  have r5 := cell_blk G4.out.rs 5 (v := .slice none 0 0) rfl
  have s5 := soft_blk G4.out.rs 5
  have r6 := cell_blk G4.out.rs 6 (v := .int .i64 0) rfl
  have s6 := soft_blk G4.out.rs 6
  have r7 := cell_blk G4.out.rs 7 (v := .int .i64 0) rfl
  have s7 := soft_blk G4.out.rs 7
  have r8 := cell_blk G4.out.rs 8 (v := .int .i64 0) rfl
  have s8 := soft_blk G4.out.rs 8
  go_wp2_with fail
  have SA := set_all G4.out.rs (.int .i64 2) (.int .i64 v1) (.int .i64 v2) (.bool pb) (.string kb) (.slice none 0 0) (.int .i64 0) (.int .i64 0) (.int .i64 0)
  have KF := G4.out.kept.trans SA.2 (fun j hj z => by have z : j = w.heap.size := z; omega)
  refine bodyPost_ret (results_cell_row rfl _ _ w.heap.size 39 #[.int .i64 2, .int .i64 v1, .int .i64 v2, .bool pb, .string kb, .slice none 0 0, .int .i64 0, .int .i64 0, .int .i64 0] (0, 0) _ rfl SA.1 Tryz.underlying39 rfl (by kernel_rfl)) rfl ?_
  exact ⟨v1, v2, rfl, R1.out, R2.out, KF⟩
set_option maxRecDepth 100000 in
set_option maxHeartbeats 2000000 in
theorem hEv2e (s : ByteArray) (hs : s.size ≤ 1000000000) (W : List ByteArray) (hW : wrdL s = W) (a1 a2 a3 a4 : ByteArray) (M1 M2 : Nat) (w0 : W[0]? = some ⟨#[114, 101, 116, 117, 114, 110]⟩) (w1 : W[1]? = some a1) (w2 : W[2]? = some a2) (w3 : W[3]? = some a3) (w4 : W[4]? = some a4) (pb : Bool) (hpb : (a3.toList == [112, 117, 116]) = pb) (hk : 5 < W.length) (hk8 : W.length ≤ 8) (EP : Int → Int → Int → List Nat → Prop) (EN : ∀ (U : World) (g m c : Nat) (v1 v2 : Int), m + 5 = W.length → (∀ i a, W[i]? = some a → U.cell? ⟨g, i, none⟩ = some (.string a)) → Calls Tryz.prog 69 #[.agg #[.int .i64 2, .int .i64 v1, .int .i64 v2, .bool pb, .string (str (meaB a4)), .slice none 0 0, .int .i64 0, .int .i64 0, .int .i64 0], .slice (some ⟨g, 5, none⟩) m c] U fun o w' => ∃ (p : Option Addr) (kk cc : Nat) (st x y : Int) (l : List Nat), o = .returned (.agg #[.int .i64 2, .int .i64 v1, .int .i64 v2, .bool pb, .string (str (meaB a4)), .slice p kk cc, .int .i64 st, .int .i64 x, .int .i64 y]) ∧ EP st x y l ∧ w'.ownsRow U.heap.size 5 1 (.slice p kk cc) kk (cellsOf l) ∧ (∀ z ∈ l, z < 256) ∧ Kept (fun _ => False) U w') (w : World) : Calls Tryz.prog 33 #[.string s] w fun o w' => ∃ (v1 v2 : Int) (p : Option Addr) (kk cc : Nat) (st x y : Int) (l : List Nat), o = .returned (.agg #[.int .i64 2, .int .i64 v1, .int .i64 v2, .bool pb, .string (str (meaB a4)), .slice p kk cc, .int .i64 st, .int .i64 x, .int .i64 y]) ∧ (a1 = decB M1 ∧ M1 ≤ 4611686018427387903 → v1 = (M1 : Int)) ∧ (a2 = decB M2 ∧ M2 ≤ 4611686018427387903 → v2 = (M2 : Int)) ∧ EP st x y l ∧ w'.ownsRow w.heap.size 5 1 (.slice p kk cc) kk (cellsOf l) ∧ (∀ z ∈ l, z < 256) ∧ Kept (fun _ => False) w w' := by
  have SZ := wrd_size s
  rw [hW] at SZ
  have z1 : a1.size ≤ 1000000000 := Nat.le_trans (SZ a1 (List.mem_of_getElem? w1)) hs
  have z2 : a2.size ≤ 1000000000 := Nat.le_trans (SZ a2 (List.mem_of_getElem? w2)) hs
  have z4 : a4.size ≤ 1000000000 := Nat.le_trans (SZ a4 (List.mem_of_getElem? w4)) hs
  clear SZ
  have C1 : Hid (∀ U, Calls Tryz.prog 67 #[.string a1] U fun o w' => ∃ v : Int, o = .returned (.int .i64 v) ∧ (a1 = decB M1 ∧ M1 ≤ 4611686018427387903 → v = (M1 : Int)) ∧ w' = U) := fun U => hRead a1 M1 U z1
  have C2 : Hid (∀ U, Calls Tryz.prog 67 #[.string a2] U fun o w' => ∃ v : Int, o = .returned (.int .i64 v) ∧ (a2 = decB M2 ∧ M2 ≤ 4611686018427387903 → v = (M2 : Int)) ∧ w' = U) := fun U => hRead a2 M2 U z2
  have C4 : Hid (∀ U, Calls Tryz.prog 68 #[.string a4] U fun o w' => ∃ p k c, o = .returned (.slice p k c) ∧ QS U (meaB a4) p k c w' ∧ (∀ x ∈ meaB a4, x < 256)) := fun U => hMeant a4 z4 U
  obtain ⟨kb, hkb⟩ : ∃ kb, str (meaB a4) = kb := ⟨_, rfl⟩
  simp only [hkb] at EN ⊢
  have EH : Hid (_) := EN
  clear EN
  have HKB : Hid (str (meaB a4) = kb) := hkb
  clear hkb
  have WW : Hid (W[0]? = some ⟨#[114, 101, 116, 117, 114, 110]⟩ ∧ W[1]? = some a1 ∧ W[2]? = some a2 ∧ W[3]? = some a3 ∧ W[4]? = some a4) := ⟨w0, w1, w2, w3, w4⟩
  have CW : Hid (∀ U, Calls Tryz.prog 66 #[.string s] U fun o w' => ∃ g k c, o = .returned (.slice (some ⟨g, 0, none⟩) k c) ∧ w'.ownsRow U.heap.size 9 1 (.slice (some ⟨g, 0, none⟩) k c) k (strs W) ∧ Kept (fun _ => False) U w') := fun U => by rw [← hW]; exact hWords s hs U
  obtain ⟨W0, hW0⟩ : ∃ W0, W0 = (w.alloc (.cells #[.int .i64 0, .int .i64 0, .int .i64 0, .bool false, .string ⟨#[]⟩, .slice none 0 0, .int .i64 0, .int .i64 0, .int .i64 0] 39)).alloc (.cells #[.int .i64 0, .int .i64 0, .int .i64 0, .bool false, .string ⟨#[]⟩, .slice none 0 0, .int .i64 0, .int .i64 0, .int .i64 0] 39) := ⟨_, rfl⟩
  have S0 : Hid (W0.heap[w.heap.size]? = some (.cells zEv 39 (0, 0)) ∧ W0.heap[w.heap.size + 1]? = some (.cells zEv 39 (0, 0)) ∧ w.heap.size + 2 ≤ W0.heap.size ∧ Kept (fun _ => False) w W0) := by
    rw [hW0]
    refine ⟨alloc_old _ (alloc_new _ _), ?_, ?_, ((Kept.refl _ _).alloc _).alloc _⟩
    · have q := alloc_new (w.alloc (.cells zEv 39)) (.cells zEv 39)
      rw [alloc_size] at q
      exact q
    · rw [alloc_size, alloc_size]
      exact Nat.le_refl _
  have EW : Hid (W0 = (w.alloc (.cells #[.int .i64 0, .int .i64 0, .int .i64 0, .bool false, .string ⟨#[]⟩, .slice none 0 0, .int .i64 0, .int .i64 0, .int .i64 0] 39)).alloc (.cells #[.int .i64 0, .int .i64 0, .int .i64 0, .bool false, .string ⟨#[]⟩, .slice none 0 0, .int .i64 0, .int .i64 0, .int .i64 0] 39)) := hW0
  clear hW0 hs z1 z2 z4 w0 w1 w2 w3 w4
  go_enter Tryz.func33, Tryz.ntmps33
  go_upto_region 2 with fail
  rw [← EW.out]
  clear EW
  go_wp2_with fail
  refine (CW.out _).mono ?_
  rintro o u1 ⟨g, k, c, rfl, ro, K⟩
  have G0 : Hid (Eg w u1 #[.int .i64 0, .int .i64 0, .int .i64 0, .bool false, .string ⟨#[]⟩, .slice none 0 0, .int .i64 0, .int .i64 0, .int .i64 0] g k c W) := ⟨K.get S0.out.1 (fun z => z), K.get S0.out.2.1 (fun z => z), owns_mono ro S0.out.2.2.1, S0.out.2.2.2.trans K (fun _ _ z => z)⟩
  have kc := own_room ro
  have kl := G0.out.len
  clear ro K S0 CW
  have i1 : ¬ (k : Int) < 5 := by omega
  have i2 : ¬ (8 : Int) < (k : Int) := by omega
  have i2b : ¬ (k : Int) > 8 := by omega
  have j0 : (0 : Int) < (k : Int) := by omega
  have j1 : (1 : Int) < (k : Int) := by omega
  have j2 : (2 : Int) < (k : Int) := by omega
  have j3 : (3 : Int) < (k : Int) := by omega
  have j4 : (4 : Int) < (k : Int) := by omega
  have c1 := G0.out.wd WW.out.2.1
  go_wp2_with fail
  refine (C1.out _).mono ?_
  rintro o u2 ⟨v1, rfl, R1', hw⟩
  have R1 : Hid _ := R1'
  clear R1' C1 c1
  subst hw
  have d1 := cell_blk G0.out.ev 1 (v := .int .i64 0) rfl
  have t1 := soft_blk G0.out.ev 1
  have c2 : (u2.setCell ⟨w.heap.size + 1, 1, none⟩ (.int .i64 v1)).cell? ⟨g, 2, none⟩ = some (.string a2) := (G0.out.set 1 (.int .i64 v1)).wd WW.out.2.2.1
  go_wp2_with fail
  have G1 : Hid (Eg w (u2.setCell ⟨w.heap.size + 1, 1, none⟩ (.int .i64 v1)) #[.int .i64 0, .int .i64 v1, .int .i64 0, .bool false, .string ⟨#[]⟩, .slice none 0 0, .int .i64 0, .int .i64 0, .int .i64 0] g k c W) := G0.out.set 1 (.int .i64 v1)
  clear G0 d1 t1
  obtain ⟨V1, hV1⟩ : ∃ V, u2.setCell ⟨w.heap.size + 1, 1, none⟩ (.int .i64 v1) = V := ⟨_, rfl⟩
  rw [hV1] at G1 ⊢
  clear hV1 c2
  refine (C2.out _).mono ?_
  rintro o u3 ⟨v2, rfl, R2', hw⟩
  have R2 : Hid _ := R2'
  clear R2' C2
  subst hw
  have d2 := cell_blk G1.out.ev 2 (v := .int .i64 0) rfl
  have t2 := soft_blk G1.out.ev 2
  have c3 : (u3.setCell ⟨w.heap.size + 1, 2, none⟩ (.int .i64 v2)).cell? ⟨g, 3, none⟩ = some (.string a3) := (G1.out.set 2 (.int .i64 v2)).wd WW.out.2.2.2.1
  have d3 := cell_blk (G1.out.set 2 (.int .i64 v2)).ev 3 (v := .bool false) rfl
  have t3 := soft_blk (G1.out.set 2 (.int .i64 v2)).ev 3
  have c4 : ((u3.setCell ⟨w.heap.size + 1, 2, none⟩ (.int .i64 v2)).setCell ⟨w.heap.size + 1, 3, none⟩ (.bool pb)).cell? ⟨g, 4, none⟩ = some (.string a4) := ((G1.out.set 2 (.int .i64 v2)).set 3 (.bool pb)).wd WW.out.2.2.2.2
  go_wp2_with fail
  have G2 : Hid (Eg w ((u3.setCell ⟨w.heap.size + 1, 2, none⟩ (.int .i64 v2)).setCell ⟨w.heap.size + 1, 3, none⟩ (.bool pb)) #[.int .i64 0, .int .i64 v1, .int .i64 v2, .bool pb, .string ⟨#[]⟩, .slice none 0 0, .int .i64 0, .int .i64 0, .int .i64 0] g k c W) := (G1.out.set 2 (.int .i64 v2)).set 3 (.bool pb)
  clear G1 d2 t2 d3 t3 c3 c4 hpb
  obtain ⟨V2, hV2⟩ : ∃ V, (u3.setCell ⟨w.heap.size + 1, 2, none⟩ (.int .i64 v2)).setCell ⟨w.heap.size + 1, 3, none⟩ (.bool pb) = V := ⟨_, rfl⟩
  rw [hV2] at G2 ⊢
  clear hV2
  refine (C4.out _).mono ?_
  rintro o u4 ⟨p6, k6, c6, rfl, Q, b6⟩
  have G3 : Hid (Eg w u4 #[.int .i64 0, .int .i64 v1, .int .i64 v2, .bool pb, .string ⟨#[]⟩, .slice none 0 0, .int .i64 0, .int .i64 0, .int .i64 0] g k c W) := G2.out.keep Q.kept
  have cv : (convert 34 9 (.slice p6 k6 c6)).run Tryz.prog u4 = .ok (.string kb) u4 := by rw [← HKB.out]; exact (reads_own Q.row b6).string
  clear G2 Q b6 C4
  have d4 := cell_blk G3.out.ev 4 (v := .string ⟨#[]⟩) rfl
  have t4 := soft_blk G3.out.ev 4
  have c0 : (u4.setCell ⟨w.heap.size + 1, 4, none⟩ (.string kb)).cell? ⟨g, 0, none⟩ = some (.string ⟨#[114, 101, 116, 117, 114, 110]⟩) := (G3.out.set 4 (.string kb)).wd WW.out.1
  have d0 := cell_blk (G3.out.set 4 (.string kb)).ev 0 (v := .int .i64 0) rfl
  have t0 := soft_blk (G3.out.set 4 (.string kb)).ev 0
  have d3 := cell_blk ((G3.out.set 4 (.string kb)).set 0 (.int .i64 2)).ev 3 (v := .bool pb) rfl
  have j5 : (5 : Int) < (k : Int) := by omega
  have j5b : (k : Int) > 5 := by omega
  go_upto_region 17 with fail
  have G4 : Hid (Eg w ((u4.setCell ⟨w.heap.size + 1, 4, none⟩ (.string kb)).setCell ⟨w.heap.size + 1, 0, none⟩ (.int .i64 2)) #[.int .i64 2, .int .i64 v1, .int .i64 v2, .bool pb, .string kb, .slice none 0 0, .int .i64 0, .int .i64 0, .int .i64 0] g k c W) := ((G3.out.set 4 (.string kb)).set 0 (.int .i64 2))
  clear G3 d4 t4 d0 t0 d3 c0 cv
  obtain ⟨V4, hV4⟩ : ∃ V, ((u4.setCell ⟨w.heap.size + 1, 4, none⟩ (.string kb)).setCell ⟨w.heap.size + 1, 0, none⟩ (.int .i64 2)) = V := ⟨_, rfl⟩
  rw [hV4] at G4 ⊢
  clear hV4
  obtain ⟨m, hm⟩ : ∃ m, k - 5 = m := ⟨_, rfl⟩
  obtain ⟨cc0, hcc⟩ : ∃ m, c - 5 = m := ⟨_, rfl⟩
  have mk : Hid (m + 5 = W.length) := by show m + 5 = W.length; omega
  have sl1 : ∀ U, (Instr.slice 44 (.slice (some ⟨g, 0, none⟩) k c) (some (.int .i64 5)) none none).run Tryz.prog U = .ok (.slice (some ⟨g, 5, none⟩) m cc0) U := fun U => by rw [← hm, ← hcc]; exact slice5 (by omega) kc.1 U
  have e0 := cell_blk G4.out.ev 0 (v := .int .i64 2) rfl
  have e1 := cell_blk G4.out.ev 1 (v := .int .i64 v1) rfl
  have e2 := cell_blk G4.out.ev 2 (v := .int .i64 v2) rfl
  have e3 := cell_blk G4.out.ev 3 (v := .bool pb) rfl
  have e4 := cell_blk G4.out.ev 4 (v := .string kb) rfl
  have e5 := cell_blk G4.out.ev 5 (v := .slice none 0 0) rfl
  have e6 := cell_blk G4.out.ev 6 (v := .int .i64 0) rfl
  have e7 := cell_blk G4.out.ev 7 (v := .int .i64 0) rfl
  have e8 := cell_blk G4.out.ev 8 (v := .int .i64 0) rfl
  have G4d : Hid (Eg w V4.drew #[.int .i64 2, .int .i64 v1, .int .i64 v2, .bool pb, .string kb, .slice none 0 0, .int .i64 0, .int .i64 0, .int .i64 0] g k c W) := G4.out.keep (Kept.refl _ _).drew
  refine wp_region_held_drew (S := (fun _ => True)) (by kernel_rfl) trivial (fun hHeld => ?_)
  refine wpAnyH_take (i := 1) (oi := { dst := some 62, op := Go.Op.move (Go.Operand.tmp 4), type := 44, pos := "ref.go:370", after := #[], guard := none }) (v := .slice (some ⟨g, 0, none⟩) k c) rfl (by kernel_rfl) (by kernel_rfl) (by kernel_rfl) (fun _ _ _ h => h) (Or.inl ⟨by rfl, ?_⟩) (by assumption) ?_
  · intro w9 hSw
    (try dsimp only at hSw)
    go_simp
  (try simp only [Act.put, List.setIfInBounds_toArray, List.set_cons_zero, List.set_cons_succ])
  refine wpAnyH_take (i := 2) (oi := { dst := some 63, op := Go.Op.slice 44 (Go.Operand.tmp 62) (some (Go.Operand.const (Go.Value.int Go.IntKind.i64 5))) none none, type := 44, pos := "ref.go:370", after := #[{ on := 1, ground := Go.Ground.data }], guard := none }) (v := .slice (some ⟨g, 5, none⟩) m cc0) rfl (by kernel_rfl) (by kernel_rfl) (by kernel_rfl) (fun _ _ _ h => h) (Or.inl ⟨by rfl, ?_⟩) (by assumption) ?_
  · intro w9 hSw
    (try dsimp only at hSw)
    go_simp
  (try simp only [Act.put, List.setIfInBounds_toArray, List.set_cons_zero, List.set_cons_succ])
  refine wpAnyH_ready (rs := [0]) (by kernel_rfl) (by simp) ?_
  refine (AllReadyH.cons (o := { dst := some 61, op := Go.Op.load 39 (Go.Operand.tmp 3), type := 39, pos := "ref.go:370", after := #[], guard := none }) rfl (fun K hK => ?_) AllReadyH.nil)
  go_simp
  refine hK.out _ _ ?_ (fun hHeld => ?_)
  · exact trivial
  clear hK K
  (try simp only [Act.put, List.setIfInBounds_toArray, List.set_cons_zero, List.set_cons_succ])
  refine wpAnyH_ready (rs := [3]) (by kernel_rfl) (by simp) ?_
  refine (AllReadyH.cons (o := { dst := some 64, op := Go.Op.call { callee := Go.Callee.value (Go.Operand.func 69), args := #[Go.Operand.tmp 61, Go.Operand.tmp 63], argTypes := #[39, 44] }, type := 39, pos := "ref.go:370", after := #[{ on := 0, ground := Go.Ground.data }, { on := 2, ground := Go.Ground.data }], guard := none }) rfl (fun K hK => ?_) AllReadyH.nil)
  go_simp
  refine (EH.out V4.drew g m cc0 v1 v2 mk.out (fun i a ha => G4d.out.wd ha)).mono ?_
  rintro o u5 ⟨pv, kv, cv, st, x, y, l, rfl, EP', Q, bv, K5⟩
  have EPH : Hid (EP st x y l) := EP'
  have BL := block_lt G4.out.ev
  have OW : Hid (u5.ownsRow (w.heap.size + 2) 5 1 (.slice pv kv cv) kv (cellsOf l) ∧ (∀ z ∈ l, z < 256)) := ⟨owns_mono Q (by show w.heap.size + 2 ≤ V4.heap.size; omega), bv⟩
  have G5 : Hid (Eg w u5 #[.int .i64 2, .int .i64 v1, .int .i64 v2, .bool pb, .string kb, .slice none 0 0, .int .i64 0, .int .i64 0, .int .i64 0] g k c W) := G4d.out.keep K5
  clear Q bv BL EP' K5
  refine hK.out _ _ ?_ (fun hHeld => ?_)
  · exact trivial
  clear hK K
  (try simp only [Act.put, List.setIfInBounds_toArray, List.set_cons_zero, List.set_cons_succ])
  clear G4 G4d EH mk sl1 e0 e1 e2 e3 e4 e5 e6 e7 e8
  have e0 := cell_blk G5.out.ev 0 (v := .int .i64 2) rfl
  have t0 := soft_blk G5.out.ev 0
  have e1 := cell_blk G5.out.ev 1 (v := .int .i64 v1) rfl
  have t1 := soft_blk G5.out.ev 1
  have e2 := cell_blk G5.out.ev 2 (v := .int .i64 v2) rfl
  have t2 := soft_blk G5.out.ev 2
  have e3 := cell_blk G5.out.ev 3 (v := .bool pb) rfl
  have t3 := soft_blk G5.out.ev 3
  have e4 := cell_blk G5.out.ev 4 (v := .string kb) rfl
  have t4 := soft_blk G5.out.ev 4
  have e5 := cell_blk G5.out.ev 5 (v := .slice none 0 0) rfl
  have t5 := soft_blk G5.out.ev 5
  have e6 := cell_blk G5.out.ev 6 (v := .int .i64 0) rfl
  have t6 := soft_blk G5.out.ev 6
  have e7 := cell_blk G5.out.ev 7 (v := .int .i64 0) rfl
  have t7 := soft_blk G5.out.ev 7
  have e8 := cell_blk G5.out.ev 8 (v := .int .i64 0) rfl
  have t8 := soft_blk G5.out.ev 8
  have SB := set_all9 G5.out.ev (.int .i64 2) (.int .i64 v1) (.int .i64 v2) (.bool pb) (.string kb) (.slice pv kv cv) (.int .i64 st) (.int .i64 x) (.int .i64 y)
  have SBH : Hid (_ ∧ _) := SB
  clear SB
  obtain ⟨V6, hV6⟩ : ∃ V, (((((((((u5.setCell ⟨w.heap.size + 1, 0, none⟩ (.int .i64 2)).setCell ⟨w.heap.size + 1, 1, none⟩ (.int .i64 v1)).setCell ⟨w.heap.size + 1, 2, none⟩ (.int .i64 v2)).setCell ⟨w.heap.size + 1, 3, none⟩ (.bool pb)).setCell ⟨w.heap.size + 1, 4, none⟩ (.string kb)).setCell ⟨w.heap.size + 1, 5, none⟩ (.slice pv kv cv)).setCell ⟨w.heap.size + 1, 6, none⟩ (.int .i64 st)).setCell ⟨w.heap.size + 1, 7, none⟩ (.int .i64 x)).setCell ⟨w.heap.size + 1, 8, none⟩ (.int .i64 y)) = V := ⟨_, rfl⟩
  rw [hV6] at SBH
  have EV6 : Hid ((((((((((u5.setCell ⟨w.heap.size + 1, 0, none⟩ (.int .i64 2)).setCell ⟨w.heap.size + 1, 1, none⟩ (.int .i64 v1)).setCell ⟨w.heap.size + 1, 2, none⟩ (.int .i64 v2)).setCell ⟨w.heap.size + 1, 3, none⟩ (.bool pb)).setCell ⟨w.heap.size + 1, 4, none⟩ (.string kb)).setCell ⟨w.heap.size + 1, 5, none⟩ (.slice pv kv cv)).setCell ⟨w.heap.size + 1, 6, none⟩ (.int .i64 st)).setCell ⟨w.heap.size + 1, 7, none⟩ (.int .i64 x)).setCell ⟨w.heap.size + 1, 8, none⟩ (.int .i64 y)) = V6) := hV6
  clear hV6
  refine wpAnyH_ready (rs := [4]) (by kernel_rfl) (by simp) ?_
  refine (AllReadyH.cons (o := { dst := none, op := Go.Op.store 39 (Go.Operand.tmp 3) (Go.Operand.tmp 64), type := 0, pos := "ref.go:370", after := #[{ on := 3, ground := Go.Ground.data }, { on := 3, ground := Go.Ground.chain }, { on := 0, ground := Go.Ground.phase }, { on := 1, ground := Go.Ground.phase }, { on := 2, ground := Go.Ground.phase }, { on := 3, ground := Go.Ground.phase }], guard := none }) rfl (fun K hK => ?_) AllReadyH.nil)
  go_simp
  rw [EV6.out]
  clear EV6
  refine hK.out _ _ ?_ (fun hHeld => ?_)
  · exact trivial
  clear hK K
  (try simp only [Act.put, List.setIfInBounds_toArray, List.set_cons_zero, List.set_cons_succ])
  refine wpAnyH_done (by kernel_rfl) ?_ _
  clear hHeld
  clear e0 t0 e1 t1 e2 t2 e3 t3 e4 t4 e5 t5 e6 t6 e7 t7 e8 t8
  have G6 : Hid (Eg w V6 #[.int .i64 2, .int .i64 v1, .int .i64 v2, .bool pb, .string kb, .slice pv kv cv, .int .i64 st, .int .i64 x, .int .i64 y] g k c W) := G5.out.by SBH.out.2 SBH.out.1
  have OA : Hid (V6.ownsRow (w.heap.size + 2) 5 1 (.slice pv kv cv) kv (cellsOf l) ∧ True) := ⟨SBH.out.2.owns OW.out.1 (fun k hk z => by have q := OW.out.1.lt k hk; have z : k = w.heap.size + 1 := z; omega), trivial⟩
  clear G5 SBH
  have e0 := cell_blk G6.out.ev 0 (v := .int .i64 2) rfl
  have e1 := cell_blk G6.out.ev 1 (v := .int .i64 v1) rfl
  have e2 := cell_blk G6.out.ev 2 (v := .int .i64 v2) rfl
  have e3 := cell_blk G6.out.ev 3 (v := .bool pb) rfl
  have e4 := cell_blk G6.out.ev 4 (v := .string kb) rfl
  have e5 := cell_blk G6.out.ev 5 (v := .slice pv kv cv) rfl
  have e6 := cell_blk G6.out.ev 6 (v := .int .i64 st) rfl
  have e7 := cell_blk G6.out.ev 7 (v := .int .i64 x) rfl
  have e8 := cell_blk G6.out.ev 8 (v := .int .i64 y) rfl
  have r0 := cell_blk G6.out.rs 0 (v := .int .i64 0) rfl
  have s0 := soft_blk G6.out.rs 0
  have r1 := cell_blk G6.out.rs 1 (v := .int .i64 0) rfl
  have s1 := soft_blk G6.out.rs 1
  have r2 := cell_blk G6.out.rs 2 (v := .int .i64 0) rfl
  have s2 := soft_blk G6.out.rs 2
  have r3 := cell_blk G6.out.rs 3 (v := .bool false) rfl
  have s3 := soft_blk G6.out.rs 3
  have r4 := cell_blk G6.out.rs 4 (v := .string ⟨#[]⟩) rfl
  have s4 := soft_blk G6.out.rs 4
  have r5 := cell_blk G6.out.rs 5 (v := .slice none 0 0) rfl
  have s5 := soft_blk G6.out.rs 5
  have r6 := cell_blk G6.out.rs 6 (v := .int .i64 0) rfl
  have s6 := soft_blk G6.out.rs 6
  have r7 := cell_blk G6.out.rs 7 (v := .int .i64 0) rfl
  have s7 := soft_blk G6.out.rs 7
  have r8 := cell_blk G6.out.rs 8 (v := .int .i64 0) rfl
  have s8 := soft_blk G6.out.rs 8
  go_wp2_with fail
  have SA := set_all G6.out.rs (.int .i64 2) (.int .i64 v1) (.int .i64 v2) (.bool pb) (.string kb) (.slice pv kv cv) (.int .i64 st) (.int .i64 x) (.int .i64 y)
  have KF := G6.out.kept.trans SA.2 (fun j hj z => by have z : j = w.heap.size := z; omega)
  have OB := SA.2.owns OA.out.1 (fun k hk z => by have q := OA.out.1.lt k hk; have z : k = w.heap.size := z; omega)
  refine bodyPost_ret (results_cell_row rfl _ _ w.heap.size 39 #[.int .i64 2, .int .i64 v1, .int .i64 v2, .bool pb, .string kb, .slice pv kv cv, .int .i64 st, .int .i64 x, .int .i64 y] (0, 0) _ rfl SA.1 Tryz.underlying39 rfl (by kernel_rfl)) rfl ?_
  exact ⟨v1, v2, pv, kv, cv, st, x, y, l, rfl, R1.out, R2.out, EPH.out, owns_mono OB (show w.heap.size ≤ w.heap.size + 2 by omega), OW.out.2, KF⟩
end Go.Proofs.YtbangbobfeflcaaGreatDoor
