import Derived.Test.YtbangbobfeflcaaGreatDoorLG1J
import Derived.Test.YtbangbobfeflcaaGreatDoorLGaJ
namespace Go.Proofs.YtbangbobfeflcaaGreatDoor
open Go.RowKit 

theorem unqF_lt : ∀ (k : Nat) (l : List Nat), (∀ c ∈ l, c < 256) → ∀ c ∈ unqF k l, c < 256
  | 0, _, _, c, hc => by
    have hc : c ∈ ([] : List Nat) := hc
    cases hc
  | k + 1, [], _, c, hc => by
    have hc : c ∈ ([] : List Nat) := hc
    cases hc
  | k + 1, a :: r, h, c, hc => by
    unfold unqF at hc
    split at hc
    · rcases List.mem_cons.1 hc with rfl | hc
      · exact hx2_lt _ _
      · exact unqF_lt k (r.drop 3) (fun x hx => h x (List.mem_cons_of_mem _ (List.mem_of_mem_drop hx))) c hc
    · rcases List.mem_cons.1 hc with rfl | hc
      · exact h _ List.mem_cons_self
      · exact unqF_lt k r (fun x hx => h x (List.mem_cons_of_mem _ hx)) c hc
theorem bytB_lt (s : ByteArray) : ∀ c ∈ bytB s, c < 256 := unqF_lt _ _ (bl_lt _)
theorem wordX (s : ByteArray) (hs : s.size ≤ 1000000000) : ∃ a t : ByteArray, a.size ≤ 1000000000 ∧ t.size ≤ 1000000000 ∧ Hid (∀ W g, Rdr W g s → Calls Tryz.prog 51 #[.pointer (some ⟨g, 0, none⟩)] W fun o w' => o = .returned (.string a) ∧ Rdr w' g t ∧ Kept (fun j => j = g) W w') :=
  ⟨preB s 32, sufB s 32, Nat.le_trans (preB_size s 32) hs, Nat.le_trans (sufB_size s 32) hs, fun _ _ h => hWordG h hs⟩
theorem numX (s : ByteArray) (hs : s.size ≤ 1000000000) : ∃ t : ByteArray, t.size ≤ 1000000000 ∧ Hid (∀ W g, Rdr W g s → (∀ V, Kept (fun j => j = g) W V → EVs V) → Calls Tryz.prog 52 #[.pointer (some ⟨g, 0, none⟩)] W fun o w' => ∃ v : Int, o = .returned (.int .i64 v) ∧ Rdr w' g t ∧ Kept (fun j => j = g) W w') :=
  ⟨sufB s 32, Nat.le_trans (sufB_size s 32) hs, fun _ _ h hE => (hNumberG h hs hE).mono (by
    rintro o w1 ⟨v, rfl, _, R, K⟩
    exact ⟨v, rfl, R, K⟩)⟩
theorem byX (s : ByteArray) (hs : s.size ≤ 1000000000) : ∃ (l : List Nat) (t : ByteArray), t.size ≤ 1000000000 ∧ Hid (∀ c ∈ l, c < 256) ∧ Hid (∀ W g, Rdr W g s → (∀ V, Kept (fun j => j = g) W V → EVs V) → Calls Tryz.prog 53 #[.pointer (some ⟨g, 0, none⟩)] W fun o w' => ∃ p k c, o = .returned (.slice p k c) ∧ w'.ownsRow W.heap.size 5 1 (.slice p k c) k (cellsOf l) ∧ Rdr w' g t ∧ Kept (fun j => j = g) W w') :=
  ⟨bytB s, byrB s, Nat.le_trans (byrB_size s) hs, bytB_lt s, fun _ _ h hE => hBytesG h hs hE⟩
/-- What guess gives of any text: an event whose value lies in a row of its own. -/
def GuP (w : World) (o : Ending) (w' : World) : Prop := ∃ e : Ev, o = .returned e.agg ∧ w'.ownsRow w.heap.size 5 1 (.slice e.va e.vn e.vc) e.vn (cellsOf e.val) ∧ (∀ c ∈ e.val, c < 256) ∧ Kept (fun _ => False) w w'
theorem formE_in (e : Ev) : formE e = 0 ∨ formE e = 1 ∨ formE e = 2 ∨ formE e = 3 ∨ formE e = 4 := by
  unfold formE formR
  repeat' split
  all_goals first | exact .inl rfl | exact .inr (.inl rfl) | exact .inr (.inr (.inl rfl)) | exact .inr (.inr (.inr (.inl rfl))) | exact .inr (.inr (.inr (.inr rfl)))
set_option maxRecDepth 100000 in
set_option maxHeartbeats 8000000 in
theorem hGuessA (s : ByteArray) (hs : s.size ≤ 1000000000) (w : World) (E : EVs w) (V : Tab w) (kw : KWs w) (h0 : w.heap.size ≠ 0) (gm : ∃ x, w.cell? ⟨1, 0, none⟩ = some (.int .i64 x)) : Calls Tryz.prog 30 #[.string s] w (GuP w) := by
  obtain ⟨a0, s1, -, z1, W0⟩ := wordX s hs
  obtain ⟨s2, z2, W1⟩ := numX s1 z1
  obtain ⟨s3, z3, W2⟩ := numX s2 z2
  obtain ⟨a3, s4, -, z4, W3⟩ := wordX s3 z3
  obtain ⟨ky, s5, z5, kl, W4⟩ := byX s4 z4
  obtain ⟨a5, s6, -, z6, W5⟩ := wordX s5 z5
  have Z5 : Hid (s5.size ≤ 1000000000) := z5
  have Z6 : Hid (s6.size ≤ 1000000000) := z6
  have EE : Hid (EVs w) := E
  have G0 : Hid (Gu w _ s #[.int .i64 0, .int .i64 0, .int .i64 0, .bool false, .string ⟨#[]⟩, .slice none 0 0, .int .i64 0, .int .i64 0, .int .i64 0]) := Gu.start w s gm h0
  have HV : Hid (Tab w ∧ KWs w) := ⟨V, kw⟩
  obtain ⟨k, hk⟩ : ∃ k : Int, ((kdN a0 : Nat) : Int) = k := ⟨_, rfl⟩
  have CK : Hid (∀ U, KWs U → Calls Tryz.prog 50 #[.string a0] U fun o w' => o = .returned (.int .i64 k) ∧ w' = U) := fun U h => by rw [← hk]; exact hKindG a0 U h
  obtain ⟨st, hst⟩ : ∃ st : Int, statusB a5 = st := ⟨_, rfl⟩
  have CS : Hid (∀ U, Calls Tryz.prog 54 #[.string a5] U fun o w' => o = .returned (.int .i64 st) ∧ w' = U) := fun U => by rw [← hst]; exact hStatusOf a5 U
  have TT : Hid (∀ (t : ByteArray), t.size ≤ 1000000000 → ∀ U, Kept (fun _ => False) w U → (∃ x, U.cell? ⟨1, 0, none⟩ = some (.int .i64 x)) → Calls Tryz.prog 56 #[.string t] U (TagP U)) := fun t ht U hK hx => hTagParseA t ht U (V.kept hK) (E.by (below_of hK)) hx
  clear hk hst V kw h0 gm E hs z1 z2 z3 z4 z5 z6
  go_enter Tryz.func30, Tryz.ntmps30
  go_wp2_with fail
  refine (W0.out _ _ G0.out.rd).mono ?_
  rintro o w1 ⟨rfl, R, K⟩
  have G1 : Hid (Gu w w1 s1 #[.int .i64 0, .int .i64 0, .int .i64 0, .bool false, .string ⟨#[]⟩, .slice none 0 0, .int .i64 0, .int .i64 0, .int .i64 0]) := G0.out.call K R
  clear G0
  clear R K W0
  go_wp2_with fail
  refine (CK.out w1 (HV.out.2.kept G1.out.kept (fun z => z))).mono ?_
  rintro o w2 ⟨rfl, hw⟩
  subst hw
  have d0 := cell_blk G1.out.ev 0 (v := .int .i64 0) rfl
  have t0 := soft_blk G1.out.ev 0
  go_wp2_with fail
  clear d0 t0 CK
  have G2 : Hid (Gu w (w2.setCell ⟨w.heap.size + 2, 0, none⟩ (.int .i64 k)) s1 #[.int .i64 k, .int .i64 0, .int .i64 0, .bool false, .string ⟨#[]⟩, .slice none 0 0, .int .i64 0, .int .i64 0, .int .i64 0]) := G1.out.set 0 (.int .i64 k)
  clear G1
  refine (W1.out _ _ G2.out.rd (G2.out.evs EE.out)).mono ?_
  rintro o w3 ⟨v1, rfl, R, K⟩
  have G3 : Hid (Gu w w3 s2 #[.int .i64 k, .int .i64 0, .int .i64 0, .bool false, .string ⟨#[]⟩, .slice none 0 0, .int .i64 0, .int .i64 0, .int .i64 0]) := G2.out.call K R
  clear G2
  clear R K W1
  have d1 := cell_blk G3.out.ev 1 (v := .int .i64 0) rfl
  have t1 := soft_blk G3.out.ev 1
  go_wp2_with fail
  clear d1 t1
  have G4 : Hid (Gu w (w3.setCell ⟨w.heap.size + 2, 1, none⟩ (.int .i64 v1)) s2 #[.int .i64 k, .int .i64 v1, .int .i64 0, .bool false, .string ⟨#[]⟩, .slice none 0 0, .int .i64 0, .int .i64 0, .int .i64 0]) := G3.out.set 1 (.int .i64 v1)
  clear G3
  refine (W2.out _ _ G4.out.rd (G4.out.evs EE.out)).mono ?_
  rintro o w4 ⟨v2, rfl, R, K⟩
  have G5 : Hid (Gu w w4 s3 #[.int .i64 k, .int .i64 v1, .int .i64 0, .bool false, .string ⟨#[]⟩, .slice none 0 0, .int .i64 0, .int .i64 0, .int .i64 0]) := G4.out.call K R
  clear G4
  clear R K W2
  have d2 := cell_blk G5.out.ev 2 (v := .int .i64 0) rfl
  have t2 := soft_blk G5.out.ev 2
  go_wp2_with fail
  clear d2 t2
  have G6 : Hid (Gu w (w4.setCell ⟨w.heap.size + 2, 2, none⟩ (.int .i64 v2)) s3 #[.int .i64 k, .int .i64 v1, .int .i64 v2, .bool false, .string ⟨#[]⟩, .slice none 0 0, .int .i64 0, .int .i64 0, .int .i64 0]) := G5.out.set 2 (.int .i64 v2)
  clear G5
  refine (W3.out _ _ G6.out.rd).mono ?_
  rintro o w5 ⟨rfl, R, K⟩
  have G7 : Hid (Gu w w5 s4 #[.int .i64 k, .int .i64 v1, .int .i64 v2, .bool false, .string ⟨#[]⟩, .slice none 0 0, .int .i64 0, .int .i64 0, .int .i64 0]) := G6.out.call K R
  clear G6
  clear R K W3
  have d3 := cell_blk G7.out.ev 3 (v := .bool false) rfl
  have t3 := soft_blk G7.out.ev 3
  obtain ⟨pb, hpb⟩ : ∃ b, (a3.toList == [112, 117, 116]) = b := ⟨_, rfl⟩
  go_wp2_with fail
  clear d3 t3
  clear hpb
  have G8 : Hid (Gu w (w5.setCell ⟨w.heap.size + 2, 3, none⟩ (.bool pb)) s4 #[.int .i64 k, .int .i64 v1, .int .i64 v2, .bool pb, .string ⟨#[]⟩, .slice none 0 0, .int .i64 0, .int .i64 0, .int .i64 0]) := G7.out.set 3 (.bool pb)
  clear G7
  refine (W4.out _ _ G8.out.rd (G8.out.evs EE.out)).mono ?_
  rintro o w6 ⟨p6, k6, c6, rfl, O, R, K⟩
  have G9 : Hid (Gu w w6 s5 #[.int .i64 k, .int .i64 v1, .int .i64 v2, .bool pb, .string ⟨#[]⟩, .slice none 0 0, .int .i64 0, .int .i64 0, .int .i64 0]) := G8.out.call K R
  clear G8
  obtain ⟨kb, hkb⟩ : ∃ kb, str ky = kb := ⟨_, rfl⟩
  have cv : (convert 34 9 (.slice p6 k6 c6)).run Tryz.prog w6 = .ok (.string kb) w6 := by rw [← hkb]; exact (reads_own O kl.out).string
  clear O R K hkb W4
  have d4 := cell_blk G9.out.ev 4 (v := .string ⟨#[]⟩) rfl
  have t4 := soft_blk G9.out.ev 4
  have GN : Hid (Gu w (w6.setCell ⟨w.heap.size + 2, 4, none⟩ (.string kb)) s5 #[.int .i64 k, .int .i64 v1, .int .i64 v2, .bool pb, .string kb, .slice none 0 0, .int .i64 0, .int .i64 0, .int .i64 0]) := G9.out.set 4 (.string kb)
  have e0 := cell_blk GN.out.ev 0 (v := .int .i64 k) rfl
  have e1 := cell_blk GN.out.ev 1 (v := .int .i64 v1) rfl
  have e2 := cell_blk GN.out.ev 2 (v := .int .i64 v2) rfl
  have e3 := cell_blk GN.out.ev 3 (v := .bool pb) rfl
  have e4 := cell_blk GN.out.ev 4 (v := .string kb) rfl
  have e5 := cell_blk GN.out.ev 5 (v := .slice none 0 0) rfl
  have e6 := cell_blk GN.out.ev 6 (v := .int .i64 0) rfl
  have e7 := cell_blk GN.out.ev 7 (v := .int .i64 0) rfl
  have e8 := cell_blk GN.out.ev 8 (v := .int .i64 0) rfl
  by_cases hk2 : k = 2
  · subst hk2
    go_wp2_with fail
    clear d4 t4 cv
    clear G9 e0 e1 e2 e3 e4 e5 e6 e7 e8
    have G10 : Hid (Gu w (w6.setCell ⟨w.heap.size + 2, 4, none⟩ (.string kb)) s5 #[.int .i64 2, .int .i64 v1, .int .i64 v2, .bool pb, .string kb, .slice none 0 0, .int .i64 0, .int .i64 0, .int .i64 0]) := GN.out
    clear GN
    refine (W5.out _ _ G10.out.rd).mono ?_
    rintro o w7 ⟨rfl, R, K⟩
    have G11 : Hid (Gu w w7 s6 #[.int .i64 2, .int .i64 v1, .int .i64 v2, .bool pb, .string kb, .slice none 0 0, .int .i64 0, .int .i64 0, .int .i64 0]) := G10.out.call K R
    clear G10
    clear R K W5
    go_wp2_with fail
    refine (CS.out w7).mono ?_
    rintro o w8 ⟨rfl, hw⟩
    subst hw
    have d6 := cell_blk G11.out.ev 6 (v := .int .i64 0) rfl
    have t6 := soft_blk G11.out.ev 6
    have GN : Hid (Gu w (w8.setCell ⟨w.heap.size + 2, 6, none⟩ (.int .i64 st)) s6 #[.int .i64 2, .int .i64 v1, .int .i64 v2, .bool pb, .string kb, .slice none 0 0, .int .i64 st, .int .i64 0, .int .i64 0]) := G11.out.set 6 (.int .i64 st)
    have e0 := cell_blk GN.out.ev 0 (v := .int .i64 2) rfl
    have e1 := cell_blk GN.out.ev 1 (v := .int .i64 v1) rfl
    have e2 := cell_blk GN.out.ev 2 (v := .int .i64 v2) rfl
    have e3 := cell_blk GN.out.ev 3 (v := .bool pb) rfl
    have e4 := cell_blk GN.out.ev 4 (v := .string kb) rfl
    have e5 := cell_blk GN.out.ev 5 (v := .slice none 0 0) rfl
    have e6 := cell_blk GN.out.ev 6 (v := .int .i64 st) rfl
    have e7 := cell_blk GN.out.ev 7 (v := .int .i64 0) rfl
    have e8 := cell_blk GN.out.ev 8 (v := .int .i64 0) rfl
    go_wp2_with fail
    clear d6 t6 G11 CS e0 e1 e2 e3 e4 e5 e6 e7 e8
    have G12 : Hid (Gu w (w8.setCell ⟨w.heap.size + 2, 6, none⟩ (.int .i64 st)) s6 #[.int .i64 2, .int .i64 v1, .int .i64 v2, .bool pb, .string kb, .slice none 0 0, .int .i64 st, .int .i64 0, .int .i64 0]) := GN.out
    clear GN
    obtain ⟨f, hf⟩ : ∃ f : Int, formE ⟨2, v1, v2, pb, kb, none, 0, 0, st, 0, 0, []⟩ = f := ⟨_, rfl⟩
    have CF : Hid (∀ V, Calls Tryz.prog 55 #[.agg #[.int .i64 2, .int .i64 v1, .int .i64 v2, .bool pb, .string kb, .slice none 0 0, .int .i64 st, .int .i64 0, .int .i64 0]] V fun o w' => o = .returned (.int .i64 f) ∧ Kept (fun _ => False) V w') := fun V => by rw [← hf]; exact hForm ⟨2, v1, v2, pb, kb, none, 0, 0, st, 0, 0, []⟩ V
    have fin := formE_in ⟨2, v1, v2, pb, kb, none, 0, 0, st, 0, 0, []⟩
    rw [hf] at fin
    clear hf
    refine (CF.out _).mono ?_
    rintro o w9 ⟨rfl, K⟩
    have G13 : Hid (Gu w w9 s6 #[.int .i64 2, .int .i64 v1, .int .i64 v2, .bool pb, .string kb, .slice none 0 0, .int .i64 st, .int .i64 0, .int .i64 0]) := G12.out.keep K
    clear G12 K CF
    rcases fin with rfl | rfl | rfl | rfl | rfl
    · have e0 := cell_blk G13.out.ev 0 (v := .int .i64 2) rfl
      have e1 := cell_blk G13.out.ev 1 (v := .int .i64 v1) rfl
      have e2 := cell_blk G13.out.ev 2 (v := .int .i64 v2) rfl
      have e3 := cell_blk G13.out.ev 3 (v := .bool pb) rfl
      have e4 := cell_blk G13.out.ev 4 (v := .string kb) rfl
      have e5 := cell_blk G13.out.ev 5 (v := .slice none 0 0) rfl
      have e6 := cell_blk G13.out.ev 6 (v := .int .i64 st) rfl
      have e7 := cell_blk G13.out.ev 7 (v := .int .i64 0) rfl
      have e8 := cell_blk G13.out.ev 8 (v := .int .i64 0) rfl
      have r0 := cell_blk G13.out.rs 0 (v := .int .i64 0) rfl
      have q0 := soft_blk G13.out.rs 0
      have r1 := cell_blk G13.out.rs 1 (v := .int .i64 0) rfl
      have q1 := soft_blk G13.out.rs 1
      have r2 := cell_blk G13.out.rs 2 (v := .int .i64 0) rfl
      have q2 := soft_blk G13.out.rs 2
      have r3 := cell_blk G13.out.rs 3 (v := .bool false) rfl
      have q3 := soft_blk G13.out.rs 3
      have r4 := cell_blk G13.out.rs 4 (v := .string ⟨#[]⟩) rfl
      have q4 := soft_blk G13.out.rs 4
      have r5 := cell_blk G13.out.rs 5 (v := .slice none 0 0) rfl
      have q5 := soft_blk G13.out.rs 5
      have r6 := cell_blk G13.out.rs 6 (v := .int .i64 0) rfl
      have q6 := soft_blk G13.out.rs 6
      have r7 := cell_blk G13.out.rs 7 (v := .int .i64 0) rfl
      have q7 := soft_blk G13.out.rs 7
      have r8 := cell_blk G13.out.rs 8 (v := .int .i64 0) rfl
      have q8 := soft_blk G13.out.rs 8
      go_wp2_with fail
      have SA := set_all G13.out.rs (.int .i64 2) (.int .i64 v1) (.int .i64 v2) (.bool pb) (.string kb) (.slice none 0 0) (.int .i64 st) (.int .i64 0) (.int .i64 0)
      have KF := G13.out.kept.trans SA.2 (fun j hj z => by have z : j = w.heap.size := z; omega)
      refine bodyPost_ret (results_cell_row rfl _ _ w.heap.size 39 #[.int .i64 2, .int .i64 v1, .int .i64 v2, .bool pb, .string kb, .slice none 0 0, .int .i64 st, .int .i64 0, .int .i64 0] (0, 0) _ rfl SA.1 Tryz.underlying39 rfl (by kernel_rfl)) rfl ?_
      exact ⟨⟨2, v1, v2, pb, kb, none, 0, 0, st, 0, 0, []⟩, rfl, ⟨rfl, .inl ⟨rfl, rfl⟩⟩, (fun c hc => by cases hc), KF⟩
    · obtain ⟨lA, tA, -, bA, WA⟩ := byX s6 Z6.out
      go_wp2_with fail
      have BL := block_lt G13.out.ev
      refine (WA.out _ _ G13.out.rd (G13.out.evs EE.out)).mono ?_
      rintro o w10 ⟨pv, kv, cv2, rfl, O, R, K⟩
      have G14 : Hid (Gu w w10 tA #[.int .i64 2, .int .i64 v1, .int .i64 v2, .bool pb, .string kb, .slice none 0 0, .int .i64 st, .int .i64 0, .int .i64 0]) := G13.out.call K R
      clear G13
      have OW : Hid (w10.ownsRow (w.heap.size + 3) 5 1 (.slice pv kv cv2) kv (cellsOf lA)) := owns_mono O (by first | omega | (simp only [alloc_size] at BL ⊢; omega) | (simp at BL ⊢; omega))
      clear O R K BL WA
      have d5 := cell_blk G14.out.ev 5 (v := .slice none 0 0) rfl
      have t5 := soft_blk G14.out.ev 5
      have OA : Hid ((w10.setCell ⟨w.heap.size + 2, 5, none⟩ (.slice pv kv cv2)).ownsRow (w.heap.size + 3) 5 1 (.slice pv kv cv2) kv (cellsOf lA)) := ((Kept.refl (fun j => j = w.heap.size + 2) w10).setCell (p := ⟨w.heap.size + 2, 5, none⟩) (fun _ => rfl) (.slice pv kv cv2)).owns OW.out (fun k hk z => by have q := OW.out.lt k hk; have z : k = w.heap.size + 2 := z; omega)
      have G15 : Hid (Gu w (w10.setCell ⟨w.heap.size + 2, 5, none⟩ (.slice pv kv cv2)) tA #[.int .i64 2, .int .i64 v1, .int .i64 v2, .bool pb, .string kb, .slice pv kv cv2, .int .i64 st, .int .i64 0, .int .i64 0]) := G14.out.set 5 (.slice pv kv cv2)
      clear G14 OW
      have e0 := cell_blk G15.out.ev 0 (v := .int .i64 2) rfl
      have e1 := cell_blk G15.out.ev 1 (v := .int .i64 v1) rfl
      have e2 := cell_blk G15.out.ev 2 (v := .int .i64 v2) rfl
      have e3 := cell_blk G15.out.ev 3 (v := .bool pb) rfl
      have e4 := cell_blk G15.out.ev 4 (v := .string kb) rfl
      have e5 := cell_blk G15.out.ev 5 (v := .slice pv kv cv2) rfl
      have e6 := cell_blk G15.out.ev 6 (v := .int .i64 st) rfl
      have e7 := cell_blk G15.out.ev 7 (v := .int .i64 0) rfl
      have e8 := cell_blk G15.out.ev 8 (v := .int .i64 0) rfl
      have r0 := cell_blk G15.out.rs 0 (v := .int .i64 0) rfl
      have q0 := soft_blk G15.out.rs 0
      have r1 := cell_blk G15.out.rs 1 (v := .int .i64 0) rfl
      have q1 := soft_blk G15.out.rs 1
      have r2 := cell_blk G15.out.rs 2 (v := .int .i64 0) rfl
      have q2 := soft_blk G15.out.rs 2
      have r3 := cell_blk G15.out.rs 3 (v := .bool false) rfl
      have q3 := soft_blk G15.out.rs 3
      have r4 := cell_blk G15.out.rs 4 (v := .string ⟨#[]⟩) rfl
      have q4 := soft_blk G15.out.rs 4
      have r5 := cell_blk G15.out.rs 5 (v := .slice none 0 0) rfl
      have q5 := soft_blk G15.out.rs 5
      have r6 := cell_blk G15.out.rs 6 (v := .int .i64 0) rfl
      have q6 := soft_blk G15.out.rs 6
      have r7 := cell_blk G15.out.rs 7 (v := .int .i64 0) rfl
      have q7 := soft_blk G15.out.rs 7
      have r8 := cell_blk G15.out.rs 8 (v := .int .i64 0) rfl
      have q8 := soft_blk G15.out.rs 8
      go_wp2_with fail
      have SA := set_all G15.out.rs (.int .i64 2) (.int .i64 v1) (.int .i64 v2) (.bool pb) (.string kb) (.slice pv kv cv2) (.int .i64 st) (.int .i64 0) (.int .i64 0)
      have KF := G15.out.kept.trans SA.2 (fun j hj z => by have z : j = w.heap.size := z; omega)
      refine bodyPost_ret (results_cell_row rfl _ _ w.heap.size 39 #[.int .i64 2, .int .i64 v1, .int .i64 v2, .bool pb, .string kb, .slice pv kv cv2, .int .i64 st, .int .i64 0, .int .i64 0] (0, 0) _ rfl SA.1 Tryz.underlying39 rfl (by kernel_rfl)) rfl ?_
      have OB := SA.2.owns OA.out (fun k hk z => by have q := OA.out.lt k hk; have z : k = w.heap.size := z; omega)
      exact ⟨⟨2, v1, v2, pb, kb, pv, kv, cv2, st, 0, 0, lA⟩, rfl, owns_mono OB (show w.heap.size ≤ w.heap.size + 3 by omega), bA.out, KF⟩
    · obtain ⟨aA, tA, yA, zA, WA⟩ := wordX s6 Z6.out
      have YA : Hid (aA.size ≤ 1000000000 ∧ tA.size ≤ 1000000000) := ⟨yA, zA⟩
      clear yA zA
      go_wp2_with fail
      refine (WA.out _ _ G13.out.rd).mono ?_
      rintro o w10 ⟨rfl, R, K⟩
      have G14 : Hid (Gu w w10 tA #[.int .i64 2, .int .i64 v1, .int .i64 v2, .bool pb, .string kb, .slice none 0 0, .int .i64 st, .int .i64 0, .int .i64 0]) := G13.out.call K R
      clear G13
      clear R K WA
      have CT : Hid (Calls Tryz.prog 56 #[.string aA] w10 (TagP w10)) := TT.out aA YA.out.1 w10 G14.out.kept G14.out.rd.lib
      go_wp2_with fail
      refine CT.out.mono ?_
      rintro o w11 ⟨x, y, er, rfl, K⟩
      have G15 : Hid (Gu w w11 tA #[.int .i64 2, .int .i64 v1, .int .i64 v2, .bool pb, .string kb, .slice none 0 0, .int .i64 st, .int .i64 0, .int .i64 0]) := G14.out.keep K
      clear G14 K CT
      have d7 := cell_blk G15.out.ev 7 (v := .int .i64 0) rfl
      have t7 := soft_blk G15.out.ev 7
      have d8 := cell_blk G15.out.ev 8 (v := .int .i64 0) rfl
      have t8 := soft_blk G15.out.ev 8
      have G16 : Hid (Gu w ((w11.setCell ⟨w.heap.size + 2, 7, none⟩ (.int .i64 x)).setCell ⟨w.heap.size + 2, 8, none⟩ (.int .i64 y)) tA #[.int .i64 2, .int .i64 v1, .int .i64 v2, .bool pb, .string kb, .slice none 0 0, .int .i64 st, .int .i64 x, .int .i64 y]) := (G15.out.set 7 (.int .i64 x)).set 8 (.int .i64 y)
      clear G15
      have e0 := cell_blk G16.out.ev 0 (v := .int .i64 2) rfl
      have e1 := cell_blk G16.out.ev 1 (v := .int .i64 v1) rfl
      have e2 := cell_blk G16.out.ev 2 (v := .int .i64 v2) rfl
      have e3 := cell_blk G16.out.ev 3 (v := .bool pb) rfl
      have e4 := cell_blk G16.out.ev 4 (v := .string kb) rfl
      have e5 := cell_blk G16.out.ev 5 (v := .slice none 0 0) rfl
      have e6 := cell_blk G16.out.ev 6 (v := .int .i64 st) rfl
      have e7 := cell_blk G16.out.ev 7 (v := .int .i64 x) rfl
      have e8 := cell_blk G16.out.ev 8 (v := .int .i64 y) rfl
      have r0 := cell_blk G16.out.rs 0 (v := .int .i64 0) rfl
      have q0 := soft_blk G16.out.rs 0
      have r1 := cell_blk G16.out.rs 1 (v := .int .i64 0) rfl
      have q1 := soft_blk G16.out.rs 1
      have r2 := cell_blk G16.out.rs 2 (v := .int .i64 0) rfl
      have q2 := soft_blk G16.out.rs 2
      have r3 := cell_blk G16.out.rs 3 (v := .bool false) rfl
      have q3 := soft_blk G16.out.rs 3
      have r4 := cell_blk G16.out.rs 4 (v := .string ⟨#[]⟩) rfl
      have q4 := soft_blk G16.out.rs 4
      have r5 := cell_blk G16.out.rs 5 (v := .slice none 0 0) rfl
      have q5 := soft_blk G16.out.rs 5
      have r6 := cell_blk G16.out.rs 6 (v := .int .i64 0) rfl
      have q6 := soft_blk G16.out.rs 6
      have r7 := cell_blk G16.out.rs 7 (v := .int .i64 0) rfl
      have q7 := soft_blk G16.out.rs 7
      have r8 := cell_blk G16.out.rs 8 (v := .int .i64 0) rfl
      have q8 := soft_blk G16.out.rs 8
      go_wp2_with fail
      have SA := set_all G16.out.rs (.int .i64 2) (.int .i64 v1) (.int .i64 v2) (.bool pb) (.string kb) (.slice none 0 0) (.int .i64 st) (.int .i64 x) (.int .i64 y)
      have KF := G16.out.kept.trans SA.2 (fun j hj z => by have z : j = w.heap.size := z; omega)
      refine bodyPost_ret (results_cell_row rfl _ _ w.heap.size 39 #[.int .i64 2, .int .i64 v1, .int .i64 v2, .bool pb, .string kb, .slice none 0 0, .int .i64 st, .int .i64 x, .int .i64 y] (0, 0) _ rfl SA.1 Tryz.underlying39 rfl (by kernel_rfl)) rfl ?_
      exact ⟨⟨2, v1, v2, pb, kb, none, 0, 0, st, x, y, []⟩, rfl, ⟨rfl, .inl ⟨rfl, rfl⟩⟩, (fun c hc => by cases hc), KF⟩
    · obtain ⟨aA, tA, yA, zA, WA⟩ := wordX s6 Z6.out
      have YA : Hid (aA.size ≤ 1000000000 ∧ tA.size ≤ 1000000000) := ⟨yA, zA⟩
      clear yA zA
      go_wp2_with fail
      refine (WA.out _ _ G13.out.rd).mono ?_
      rintro o w10 ⟨rfl, R, K⟩
      have G14 : Hid (Gu w w10 tA #[.int .i64 2, .int .i64 v1, .int .i64 v2, .bool pb, .string kb, .slice none 0 0, .int .i64 st, .int .i64 0, .int .i64 0]) := G13.out.call K R
      clear G13
      clear R K WA
      have CT : Hid (Calls Tryz.prog 56 #[.string aA] w10 (TagP w10)) := TT.out aA YA.out.1 w10 G14.out.kept G14.out.rd.lib
      go_wp2_with fail
      refine CT.out.mono ?_
      rintro o w11 ⟨x, y, er, rfl, K⟩
      have G15 : Hid (Gu w w11 tA #[.int .i64 2, .int .i64 v1, .int .i64 v2, .bool pb, .string kb, .slice none 0 0, .int .i64 st, .int .i64 0, .int .i64 0]) := G14.out.keep K
      clear G14 K CT
      have d7 := cell_blk G15.out.ev 7 (v := .int .i64 0) rfl
      have t7 := soft_blk G15.out.ev 7
      have d8 := cell_blk G15.out.ev 8 (v := .int .i64 0) rfl
      have t8 := soft_blk G15.out.ev 8
      go_wp2_with fail
      clear d7 t7 d8 t8
      have G16 : Hid (Gu w ((w11.setCell ⟨w.heap.size + 2, 7, none⟩ (.int .i64 x)).setCell ⟨w.heap.size + 2, 8, none⟩ (.int .i64 y)) tA #[.int .i64 2, .int .i64 v1, .int .i64 v2, .bool pb, .string kb, .slice none 0 0, .int .i64 st, .int .i64 x, .int .i64 y]) := (G15.out.set 7 (.int .i64 x)).set 8 (.int .i64 y)
      clear G15
      obtain ⟨lB, tB, -, bB, WB⟩ := byX tA YA.out.2
      have BL := block_lt G16.out.ev
      refine (WB.out _ _ G16.out.rd (G16.out.evs EE.out)).mono ?_
      rintro o w12 ⟨pv, kv, cv2, rfl, O, R, K⟩
      have G17 : Hid (Gu w w12 tB #[.int .i64 2, .int .i64 v1, .int .i64 v2, .bool pb, .string kb, .slice none 0 0, .int .i64 st, .int .i64 x, .int .i64 y]) := G16.out.call K R
      clear G16
      have OW : Hid (w12.ownsRow (w.heap.size + 3) 5 1 (.slice pv kv cv2) kv (cellsOf lB)) := owns_mono O (by first | omega | (simp only [alloc_size] at BL ⊢; omega) | (simp at BL ⊢; omega))
      clear O R K BL WB
      have d5 := cell_blk G17.out.ev 5 (v := .slice none 0 0) rfl
      have t5 := soft_blk G17.out.ev 5
      have OA : Hid ((w12.setCell ⟨w.heap.size + 2, 5, none⟩ (.slice pv kv cv2)).ownsRow (w.heap.size + 3) 5 1 (.slice pv kv cv2) kv (cellsOf lB)) := ((Kept.refl (fun j => j = w.heap.size + 2) w12).setCell (p := ⟨w.heap.size + 2, 5, none⟩) (fun _ => rfl) (.slice pv kv cv2)).owns OW.out (fun k hk z => by have q := OW.out.lt k hk; have z : k = w.heap.size + 2 := z; omega)
      have G18 : Hid (Gu w (w12.setCell ⟨w.heap.size + 2, 5, none⟩ (.slice pv kv cv2)) tB #[.int .i64 2, .int .i64 v1, .int .i64 v2, .bool pb, .string kb, .slice pv kv cv2, .int .i64 st, .int .i64 x, .int .i64 y]) := G17.out.set 5 (.slice pv kv cv2)
      clear G17 OW
      have e0 := cell_blk G18.out.ev 0 (v := .int .i64 2) rfl
      have e1 := cell_blk G18.out.ev 1 (v := .int .i64 v1) rfl
      have e2 := cell_blk G18.out.ev 2 (v := .int .i64 v2) rfl
      have e3 := cell_blk G18.out.ev 3 (v := .bool pb) rfl
      have e4 := cell_blk G18.out.ev 4 (v := .string kb) rfl
      have e5 := cell_blk G18.out.ev 5 (v := .slice pv kv cv2) rfl
      have e6 := cell_blk G18.out.ev 6 (v := .int .i64 st) rfl
      have e7 := cell_blk G18.out.ev 7 (v := .int .i64 x) rfl
      have e8 := cell_blk G18.out.ev 8 (v := .int .i64 y) rfl
      have r0 := cell_blk G18.out.rs 0 (v := .int .i64 0) rfl
      have q0 := soft_blk G18.out.rs 0
      have r1 := cell_blk G18.out.rs 1 (v := .int .i64 0) rfl
      have q1 := soft_blk G18.out.rs 1
      have r2 := cell_blk G18.out.rs 2 (v := .int .i64 0) rfl
      have q2 := soft_blk G18.out.rs 2
      have r3 := cell_blk G18.out.rs 3 (v := .bool false) rfl
      have q3 := soft_blk G18.out.rs 3
      have r4 := cell_blk G18.out.rs 4 (v := .string ⟨#[]⟩) rfl
      have q4 := soft_blk G18.out.rs 4
      have r5 := cell_blk G18.out.rs 5 (v := .slice none 0 0) rfl
      have q5 := soft_blk G18.out.rs 5
      have r6 := cell_blk G18.out.rs 6 (v := .int .i64 0) rfl
      have q6 := soft_blk G18.out.rs 6
      have r7 := cell_blk G18.out.rs 7 (v := .int .i64 0) rfl
      have q7 := soft_blk G18.out.rs 7
      have r8 := cell_blk G18.out.rs 8 (v := .int .i64 0) rfl
      have q8 := soft_blk G18.out.rs 8
      go_wp2_with fail
      have SA := set_all G18.out.rs (.int .i64 2) (.int .i64 v1) (.int .i64 v2) (.bool pb) (.string kb) (.slice pv kv cv2) (.int .i64 st) (.int .i64 x) (.int .i64 y)
      have KF := G18.out.kept.trans SA.2 (fun j hj z => by have z : j = w.heap.size := z; omega)
      refine bodyPost_ret (results_cell_row rfl _ _ w.heap.size 39 #[.int .i64 2, .int .i64 v1, .int .i64 v2, .bool pb, .string kb, .slice pv kv cv2, .int .i64 st, .int .i64 x, .int .i64 y] (0, 0) _ rfl SA.1 Tryz.underlying39 rfl (by kernel_rfl)) rfl ?_
      have OB := SA.2.owns OA.out (fun k hk z => by have q := OA.out.lt k hk; have z : k = w.heap.size := z; omega)
      exact ⟨⟨2, v1, v2, pb, kb, pv, kv, cv2, st, x, y, lB⟩, rfl, owns_mono OB (show w.heap.size ≤ w.heap.size + 3 by omega), bB.out, KF⟩
    · obtain ⟨tN, zN, WN⟩ := numX s6 Z6.out
      have YN : Hid (tN.size ≤ 1000000000) := zN
      clear zN
      go_wp2_with fail
      refine (WN.out _ _ G13.out.rd (G13.out.evs EE.out)).mono ?_
      rintro o w10 ⟨v6, rfl, R, K⟩
      have G14 : Hid (Gu w w10 tN #[.int .i64 2, .int .i64 v1, .int .i64 v2, .bool pb, .string kb, .slice none 0 0, .int .i64 st, .int .i64 0, .int .i64 0]) := G13.out.call K R
      clear G13
      clear R K WN
      have d6 := cell_blk G14.out.ev 6 (v := .int .i64 st) rfl
      have t6 := soft_blk G14.out.ev 6
      obtain ⟨aA, tA, yA, zA, WA⟩ := wordX tN YN.out
      have YA : Hid (aA.size ≤ 1000000000 ∧ tA.size ≤ 1000000000) := ⟨yA, zA⟩
      clear yA zA
      go_wp2_with fail
      clear d6 t6
      have G15 : Hid (Gu w (w10.setCell ⟨w.heap.size + 2, 6, none⟩ (.int .i64 v6)) tN #[.int .i64 2, .int .i64 v1, .int .i64 v2, .bool pb, .string kb, .slice none 0 0, .int .i64 v6, .int .i64 0, .int .i64 0]) := G14.out.set 6 (.int .i64 v6)
      clear G14
      refine (WA.out _ _ G15.out.rd).mono ?_
      rintro o w11 ⟨rfl, R, K⟩
      have G16 : Hid (Gu w w11 tA #[.int .i64 2, .int .i64 v1, .int .i64 v2, .bool pb, .string kb, .slice none 0 0, .int .i64 v6, .int .i64 0, .int .i64 0]) := G15.out.call K R
      clear G15
      clear R K WA
      have CT : Hid (Calls Tryz.prog 56 #[.string aA] w11 (TagP w11)) := TT.out aA YA.out.1 w11 G16.out.kept G16.out.rd.lib
      go_wp2_with fail
      refine CT.out.mono ?_
      rintro o w12 ⟨x, y, er, rfl, K⟩
      have G17 : Hid (Gu w w12 tA #[.int .i64 2, .int .i64 v1, .int .i64 v2, .bool pb, .string kb, .slice none 0 0, .int .i64 v6, .int .i64 0, .int .i64 0]) := G16.out.keep K
      clear G16 K CT
      have d7 := cell_blk G17.out.ev 7 (v := .int .i64 0) rfl
      have t7 := soft_blk G17.out.ev 7
      have d8 := cell_blk G17.out.ev 8 (v := .int .i64 0) rfl
      have t8 := soft_blk G17.out.ev 8
      have G18 : Hid (Gu w ((w12.setCell ⟨w.heap.size + 2, 7, none⟩ (.int .i64 x)).setCell ⟨w.heap.size + 2, 8, none⟩ (.int .i64 y)) tA #[.int .i64 2, .int .i64 v1, .int .i64 v2, .bool pb, .string kb, .slice none 0 0, .int .i64 v6, .int .i64 x, .int .i64 y]) := (G17.out.set 7 (.int .i64 x)).set 8 (.int .i64 y)
      clear G17
      have e0 := cell_blk G18.out.ev 0 (v := .int .i64 2) rfl
      have e1 := cell_blk G18.out.ev 1 (v := .int .i64 v1) rfl
      have e2 := cell_blk G18.out.ev 2 (v := .int .i64 v2) rfl
      have e3 := cell_blk G18.out.ev 3 (v := .bool pb) rfl
      have e4 := cell_blk G18.out.ev 4 (v := .string kb) rfl
      have e5 := cell_blk G18.out.ev 5 (v := .slice none 0 0) rfl
      have e6 := cell_blk G18.out.ev 6 (v := .int .i64 v6) rfl
      have e7 := cell_blk G18.out.ev 7 (v := .int .i64 x) rfl
      have e8 := cell_blk G18.out.ev 8 (v := .int .i64 y) rfl
      have r0 := cell_blk G18.out.rs 0 (v := .int .i64 0) rfl
      have q0 := soft_blk G18.out.rs 0
      have r1 := cell_blk G18.out.rs 1 (v := .int .i64 0) rfl
      have q1 := soft_blk G18.out.rs 1
      have r2 := cell_blk G18.out.rs 2 (v := .int .i64 0) rfl
      have q2 := soft_blk G18.out.rs 2
      have r3 := cell_blk G18.out.rs 3 (v := .bool false) rfl
      have q3 := soft_blk G18.out.rs 3
      have r4 := cell_blk G18.out.rs 4 (v := .string ⟨#[]⟩) rfl
      have q4 := soft_blk G18.out.rs 4
      have r5 := cell_blk G18.out.rs 5 (v := .slice none 0 0) rfl
      have q5 := soft_blk G18.out.rs 5
      have r6 := cell_blk G18.out.rs 6 (v := .int .i64 0) rfl
      have q6 := soft_blk G18.out.rs 6
      have r7 := cell_blk G18.out.rs 7 (v := .int .i64 0) rfl
      have q7 := soft_blk G18.out.rs 7
      have r8 := cell_blk G18.out.rs 8 (v := .int .i64 0) rfl
      have q8 := soft_blk G18.out.rs 8
      go_wp2_with fail
      have SA := set_all G18.out.rs (.int .i64 2) (.int .i64 v1) (.int .i64 v2) (.bool pb) (.string kb) (.slice none 0 0) (.int .i64 v6) (.int .i64 x) (.int .i64 y)
      have KF := G18.out.kept.trans SA.2 (fun j hj z => by have z : j = w.heap.size := z; omega)
      refine bodyPost_ret (results_cell_row rfl _ _ w.heap.size 39 #[.int .i64 2, .int .i64 v1, .int .i64 v2, .bool pb, .string kb, .slice none 0 0, .int .i64 v6, .int .i64 x, .int .i64 y] (0, 0) _ rfl SA.1 Tryz.underlying39 rfl (by kernel_rfl)) rfl ?_
      exact ⟨⟨2, v1, v2, pb, kb, none, 0, 0, v6, x, y, []⟩, rfl, ⟨rfl, .inl ⟨rfl, rfl⟩⟩, (fun c hc => by cases hc), KF⟩
  · go_wp2_with fail
    clear d4 t4 cv G9 W5 CS e0 e1 e2 e3 e4 e5 e6 e7 e8
    have G10 : Hid (Gu w (w6.setCell ⟨w.heap.size + 2, 4, none⟩ (.string kb)) s5 #[.int .i64 k, .int .i64 v1, .int .i64 v2, .bool pb, .string kb, .slice none 0 0, .int .i64 0, .int .i64 0, .int .i64 0]) := GN.out
    clear GN
    obtain ⟨f, hf⟩ : ∃ f : Int, formE ⟨k, v1, v2, pb, kb, none, 0, 0, 0, 0, 0, []⟩ = f := ⟨_, rfl⟩
    have CF : Hid (∀ V, Calls Tryz.prog 55 #[.agg #[.int .i64 k, .int .i64 v1, .int .i64 v2, .bool pb, .string kb, .slice none 0 0, .int .i64 0, .int .i64 0, .int .i64 0]] V fun o w' => o = .returned (.int .i64 f) ∧ Kept (fun _ => False) V w') := fun V => by rw [← hf]; exact hForm ⟨k, v1, v2, pb, kb, none, 0, 0, 0, 0, 0, []⟩ V
    have fin := formE_in ⟨k, v1, v2, pb, kb, none, 0, 0, 0, 0, 0, []⟩
    rw [hf] at fin
    clear hf
    refine (CF.out _).mono ?_
    rintro o w7 ⟨rfl, K⟩
    have G11 : Hid (Gu w w7 s5 #[.int .i64 k, .int .i64 v1, .int .i64 v2, .bool pb, .string kb, .slice none 0 0, .int .i64 0, .int .i64 0, .int .i64 0]) := G10.out.keep K
    clear G10 K CF
    rcases fin with rfl | rfl | rfl | rfl | rfl
    · have e0 := cell_blk G11.out.ev 0 (v := .int .i64 k) rfl
      have e1 := cell_blk G11.out.ev 1 (v := .int .i64 v1) rfl
      have e2 := cell_blk G11.out.ev 2 (v := .int .i64 v2) rfl
      have e3 := cell_blk G11.out.ev 3 (v := .bool pb) rfl
      have e4 := cell_blk G11.out.ev 4 (v := .string kb) rfl
      have e5 := cell_blk G11.out.ev 5 (v := .slice none 0 0) rfl
      have e6 := cell_blk G11.out.ev 6 (v := .int .i64 0) rfl
      have e7 := cell_blk G11.out.ev 7 (v := .int .i64 0) rfl
      have e8 := cell_blk G11.out.ev 8 (v := .int .i64 0) rfl
      have r0 := cell_blk G11.out.rs 0 (v := .int .i64 0) rfl
      have q0 := soft_blk G11.out.rs 0
      have r1 := cell_blk G11.out.rs 1 (v := .int .i64 0) rfl
      have q1 := soft_blk G11.out.rs 1
      have r2 := cell_blk G11.out.rs 2 (v := .int .i64 0) rfl
      have q2 := soft_blk G11.out.rs 2
      have r3 := cell_blk G11.out.rs 3 (v := .bool false) rfl
      have q3 := soft_blk G11.out.rs 3
      have r4 := cell_blk G11.out.rs 4 (v := .string ⟨#[]⟩) rfl
      have q4 := soft_blk G11.out.rs 4
      have r5 := cell_blk G11.out.rs 5 (v := .slice none 0 0) rfl
      have q5 := soft_blk G11.out.rs 5
      have r6 := cell_blk G11.out.rs 6 (v := .int .i64 0) rfl
      have q6 := soft_blk G11.out.rs 6
      have r7 := cell_blk G11.out.rs 7 (v := .int .i64 0) rfl
      have q7 := soft_blk G11.out.rs 7
      have r8 := cell_blk G11.out.rs 8 (v := .int .i64 0) rfl
      have q8 := soft_blk G11.out.rs 8
      go_wp2_with fail
      have SA := set_all G11.out.rs (.int .i64 k) (.int .i64 v1) (.int .i64 v2) (.bool pb) (.string kb) (.slice none 0 0) (.int .i64 0) (.int .i64 0) (.int .i64 0)
      have KF := G11.out.kept.trans SA.2 (fun j hj z => by have z : j = w.heap.size := z; omega)
      refine bodyPost_ret (results_cell_row rfl _ _ w.heap.size 39 #[.int .i64 k, .int .i64 v1, .int .i64 v2, .bool pb, .string kb, .slice none 0 0, .int .i64 0, .int .i64 0, .int .i64 0] (0, 0) _ rfl SA.1 Tryz.underlying39 rfl (by kernel_rfl)) rfl ?_
      exact ⟨⟨k, v1, v2, pb, kb, none, 0, 0, 0, 0, 0, []⟩, rfl, ⟨rfl, .inl ⟨rfl, rfl⟩⟩, (fun c hc => by cases hc), KF⟩
    · obtain ⟨lA, tA, -, bA, WA⟩ := byX s5 Z5.out
      go_wp2_with fail
      have BL := block_lt G11.out.ev
      refine (WA.out _ _ G11.out.rd (G11.out.evs EE.out)).mono ?_
      rintro o w8 ⟨pv, kv, cv2, rfl, O, R, K⟩
      have G12 : Hid (Gu w w8 tA #[.int .i64 k, .int .i64 v1, .int .i64 v2, .bool pb, .string kb, .slice none 0 0, .int .i64 0, .int .i64 0, .int .i64 0]) := G11.out.call K R
      clear G11
      have OW : Hid (w8.ownsRow (w.heap.size + 3) 5 1 (.slice pv kv cv2) kv (cellsOf lA)) := owns_mono O (by first | omega | (simp only [alloc_size] at BL ⊢; omega) | (simp at BL ⊢; omega))
      clear O R K BL WA
      have d5 := cell_blk G12.out.ev 5 (v := .slice none 0 0) rfl
      have t5 := soft_blk G12.out.ev 5
      have OA : Hid ((w8.setCell ⟨w.heap.size + 2, 5, none⟩ (.slice pv kv cv2)).ownsRow (w.heap.size + 3) 5 1 (.slice pv kv cv2) kv (cellsOf lA)) := ((Kept.refl (fun j => j = w.heap.size + 2) w8).setCell (p := ⟨w.heap.size + 2, 5, none⟩) (fun _ => rfl) (.slice pv kv cv2)).owns OW.out (fun k hk z => by have q := OW.out.lt k hk; have z : k = w.heap.size + 2 := z; omega)
      have G13 : Hid (Gu w (w8.setCell ⟨w.heap.size + 2, 5, none⟩ (.slice pv kv cv2)) tA #[.int .i64 k, .int .i64 v1, .int .i64 v2, .bool pb, .string kb, .slice pv kv cv2, .int .i64 0, .int .i64 0, .int .i64 0]) := G12.out.set 5 (.slice pv kv cv2)
      clear G12 OW
      have e0 := cell_blk G13.out.ev 0 (v := .int .i64 k) rfl
      have e1 := cell_blk G13.out.ev 1 (v := .int .i64 v1) rfl
      have e2 := cell_blk G13.out.ev 2 (v := .int .i64 v2) rfl
      have e3 := cell_blk G13.out.ev 3 (v := .bool pb) rfl
      have e4 := cell_blk G13.out.ev 4 (v := .string kb) rfl
      have e5 := cell_blk G13.out.ev 5 (v := .slice pv kv cv2) rfl
      have e6 := cell_blk G13.out.ev 6 (v := .int .i64 0) rfl
      have e7 := cell_blk G13.out.ev 7 (v := .int .i64 0) rfl
      have e8 := cell_blk G13.out.ev 8 (v := .int .i64 0) rfl
      have r0 := cell_blk G13.out.rs 0 (v := .int .i64 0) rfl
      have q0 := soft_blk G13.out.rs 0
      have r1 := cell_blk G13.out.rs 1 (v := .int .i64 0) rfl
      have q1 := soft_blk G13.out.rs 1
      have r2 := cell_blk G13.out.rs 2 (v := .int .i64 0) rfl
      have q2 := soft_blk G13.out.rs 2
      have r3 := cell_blk G13.out.rs 3 (v := .bool false) rfl
      have q3 := soft_blk G13.out.rs 3
      have r4 := cell_blk G13.out.rs 4 (v := .string ⟨#[]⟩) rfl
      have q4 := soft_blk G13.out.rs 4
      have r5 := cell_blk G13.out.rs 5 (v := .slice none 0 0) rfl
      have q5 := soft_blk G13.out.rs 5
      have r6 := cell_blk G13.out.rs 6 (v := .int .i64 0) rfl
      have q6 := soft_blk G13.out.rs 6
      have r7 := cell_blk G13.out.rs 7 (v := .int .i64 0) rfl
      have q7 := soft_blk G13.out.rs 7
      have r8 := cell_blk G13.out.rs 8 (v := .int .i64 0) rfl
      have q8 := soft_blk G13.out.rs 8
      go_wp2_with fail
      have SA := set_all G13.out.rs (.int .i64 k) (.int .i64 v1) (.int .i64 v2) (.bool pb) (.string kb) (.slice pv kv cv2) (.int .i64 0) (.int .i64 0) (.int .i64 0)
      have KF := G13.out.kept.trans SA.2 (fun j hj z => by have z : j = w.heap.size := z; omega)
      refine bodyPost_ret (results_cell_row rfl _ _ w.heap.size 39 #[.int .i64 k, .int .i64 v1, .int .i64 v2, .bool pb, .string kb, .slice pv kv cv2, .int .i64 0, .int .i64 0, .int .i64 0] (0, 0) _ rfl SA.1 Tryz.underlying39 rfl (by kernel_rfl)) rfl ?_
      have OB := SA.2.owns OA.out (fun k hk z => by have q := OA.out.lt k hk; have z : k = w.heap.size := z; omega)
      exact ⟨⟨k, v1, v2, pb, kb, pv, kv, cv2, 0, 0, 0, lA⟩, rfl, owns_mono OB (show w.heap.size ≤ w.heap.size + 3 by omega), bA.out, KF⟩
    · obtain ⟨aA, tA, yA, zA, WA⟩ := wordX s5 Z5.out
      have YA : Hid (aA.size ≤ 1000000000 ∧ tA.size ≤ 1000000000) := ⟨yA, zA⟩
      clear yA zA
      go_wp2_with fail
      refine (WA.out _ _ G11.out.rd).mono ?_
      rintro o w8 ⟨rfl, R, K⟩
      have G12 : Hid (Gu w w8 tA #[.int .i64 k, .int .i64 v1, .int .i64 v2, .bool pb, .string kb, .slice none 0 0, .int .i64 0, .int .i64 0, .int .i64 0]) := G11.out.call K R
      clear G11
      clear R K WA
      have CT : Hid (Calls Tryz.prog 56 #[.string aA] w8 (TagP w8)) := TT.out aA YA.out.1 w8 G12.out.kept G12.out.rd.lib
      go_wp2_with fail
      refine CT.out.mono ?_
      rintro o w9 ⟨x, y, er, rfl, K⟩
      have G13 : Hid (Gu w w9 tA #[.int .i64 k, .int .i64 v1, .int .i64 v2, .bool pb, .string kb, .slice none 0 0, .int .i64 0, .int .i64 0, .int .i64 0]) := G12.out.keep K
      clear G12 K CT
      have d7 := cell_blk G13.out.ev 7 (v := .int .i64 0) rfl
      have t7 := soft_blk G13.out.ev 7
      have d8 := cell_blk G13.out.ev 8 (v := .int .i64 0) rfl
      have t8 := soft_blk G13.out.ev 8
      have G14 : Hid (Gu w ((w9.setCell ⟨w.heap.size + 2, 7, none⟩ (.int .i64 x)).setCell ⟨w.heap.size + 2, 8, none⟩ (.int .i64 y)) tA #[.int .i64 k, .int .i64 v1, .int .i64 v2, .bool pb, .string kb, .slice none 0 0, .int .i64 0, .int .i64 x, .int .i64 y]) := (G13.out.set 7 (.int .i64 x)).set 8 (.int .i64 y)
      clear G13
      have e0 := cell_blk G14.out.ev 0 (v := .int .i64 k) rfl
      have e1 := cell_blk G14.out.ev 1 (v := .int .i64 v1) rfl
      have e2 := cell_blk G14.out.ev 2 (v := .int .i64 v2) rfl
      have e3 := cell_blk G14.out.ev 3 (v := .bool pb) rfl
      have e4 := cell_blk G14.out.ev 4 (v := .string kb) rfl
      have e5 := cell_blk G14.out.ev 5 (v := .slice none 0 0) rfl
      have e6 := cell_blk G14.out.ev 6 (v := .int .i64 0) rfl
      have e7 := cell_blk G14.out.ev 7 (v := .int .i64 x) rfl
      have e8 := cell_blk G14.out.ev 8 (v := .int .i64 y) rfl
      have r0 := cell_blk G14.out.rs 0 (v := .int .i64 0) rfl
      have q0 := soft_blk G14.out.rs 0
      have r1 := cell_blk G14.out.rs 1 (v := .int .i64 0) rfl
      have q1 := soft_blk G14.out.rs 1
      have r2 := cell_blk G14.out.rs 2 (v := .int .i64 0) rfl
      have q2 := soft_blk G14.out.rs 2
      have r3 := cell_blk G14.out.rs 3 (v := .bool false) rfl
      have q3 := soft_blk G14.out.rs 3
      have r4 := cell_blk G14.out.rs 4 (v := .string ⟨#[]⟩) rfl
      have q4 := soft_blk G14.out.rs 4
      have r5 := cell_blk G14.out.rs 5 (v := .slice none 0 0) rfl
      have q5 := soft_blk G14.out.rs 5
      have r6 := cell_blk G14.out.rs 6 (v := .int .i64 0) rfl
      have q6 := soft_blk G14.out.rs 6
      have r7 := cell_blk G14.out.rs 7 (v := .int .i64 0) rfl
      have q7 := soft_blk G14.out.rs 7
      have r8 := cell_blk G14.out.rs 8 (v := .int .i64 0) rfl
      have q8 := soft_blk G14.out.rs 8
      go_wp2_with fail
      have SA := set_all G14.out.rs (.int .i64 k) (.int .i64 v1) (.int .i64 v2) (.bool pb) (.string kb) (.slice none 0 0) (.int .i64 0) (.int .i64 x) (.int .i64 y)
      have KF := G14.out.kept.trans SA.2 (fun j hj z => by have z : j = w.heap.size := z; omega)
      refine bodyPost_ret (results_cell_row rfl _ _ w.heap.size 39 #[.int .i64 k, .int .i64 v1, .int .i64 v2, .bool pb, .string kb, .slice none 0 0, .int .i64 0, .int .i64 x, .int .i64 y] (0, 0) _ rfl SA.1 Tryz.underlying39 rfl (by kernel_rfl)) rfl ?_
      exact ⟨⟨k, v1, v2, pb, kb, none, 0, 0, 0, x, y, []⟩, rfl, ⟨rfl, .inl ⟨rfl, rfl⟩⟩, (fun c hc => by cases hc), KF⟩
    · obtain ⟨aA, tA, yA, zA, WA⟩ := wordX s5 Z5.out
      have YA : Hid (aA.size ≤ 1000000000 ∧ tA.size ≤ 1000000000) := ⟨yA, zA⟩
      clear yA zA
      go_wp2_with fail
      refine (WA.out _ _ G11.out.rd).mono ?_
      rintro o w8 ⟨rfl, R, K⟩
      have G12 : Hid (Gu w w8 tA #[.int .i64 k, .int .i64 v1, .int .i64 v2, .bool pb, .string kb, .slice none 0 0, .int .i64 0, .int .i64 0, .int .i64 0]) := G11.out.call K R
      clear G11
      clear R K WA
      have CT : Hid (Calls Tryz.prog 56 #[.string aA] w8 (TagP w8)) := TT.out aA YA.out.1 w8 G12.out.kept G12.out.rd.lib
      go_wp2_with fail
      refine CT.out.mono ?_
      rintro o w9 ⟨x, y, er, rfl, K⟩
      have G13 : Hid (Gu w w9 tA #[.int .i64 k, .int .i64 v1, .int .i64 v2, .bool pb, .string kb, .slice none 0 0, .int .i64 0, .int .i64 0, .int .i64 0]) := G12.out.keep K
      clear G12 K CT
      have d7 := cell_blk G13.out.ev 7 (v := .int .i64 0) rfl
      have t7 := soft_blk G13.out.ev 7
      have d8 := cell_blk G13.out.ev 8 (v := .int .i64 0) rfl
      have t8 := soft_blk G13.out.ev 8
      go_wp2_with fail
      clear d7 t7 d8 t8
      have G14 : Hid (Gu w ((w9.setCell ⟨w.heap.size + 2, 7, none⟩ (.int .i64 x)).setCell ⟨w.heap.size + 2, 8, none⟩ (.int .i64 y)) tA #[.int .i64 k, .int .i64 v1, .int .i64 v2, .bool pb, .string kb, .slice none 0 0, .int .i64 0, .int .i64 x, .int .i64 y]) := (G13.out.set 7 (.int .i64 x)).set 8 (.int .i64 y)
      clear G13
      obtain ⟨lB, tB, -, bB, WB⟩ := byX tA YA.out.2
      have BL := block_lt G14.out.ev
      refine (WB.out _ _ G14.out.rd (G14.out.evs EE.out)).mono ?_
      rintro o w10 ⟨pv, kv, cv2, rfl, O, R, K⟩
      have G15 : Hid (Gu w w10 tB #[.int .i64 k, .int .i64 v1, .int .i64 v2, .bool pb, .string kb, .slice none 0 0, .int .i64 0, .int .i64 x, .int .i64 y]) := G14.out.call K R
      clear G14
      have OW : Hid (w10.ownsRow (w.heap.size + 3) 5 1 (.slice pv kv cv2) kv (cellsOf lB)) := owns_mono O (by first | omega | (simp only [alloc_size] at BL ⊢; omega) | (simp at BL ⊢; omega))
      clear O R K BL WB
      have d5 := cell_blk G15.out.ev 5 (v := .slice none 0 0) rfl
      have t5 := soft_blk G15.out.ev 5
      have OA : Hid ((w10.setCell ⟨w.heap.size + 2, 5, none⟩ (.slice pv kv cv2)).ownsRow (w.heap.size + 3) 5 1 (.slice pv kv cv2) kv (cellsOf lB)) := ((Kept.refl (fun j => j = w.heap.size + 2) w10).setCell (p := ⟨w.heap.size + 2, 5, none⟩) (fun _ => rfl) (.slice pv kv cv2)).owns OW.out (fun k hk z => by have q := OW.out.lt k hk; have z : k = w.heap.size + 2 := z; omega)
      have G16 : Hid (Gu w (w10.setCell ⟨w.heap.size + 2, 5, none⟩ (.slice pv kv cv2)) tB #[.int .i64 k, .int .i64 v1, .int .i64 v2, .bool pb, .string kb, .slice pv kv cv2, .int .i64 0, .int .i64 x, .int .i64 y]) := G15.out.set 5 (.slice pv kv cv2)
      clear G15 OW
      have e0 := cell_blk G16.out.ev 0 (v := .int .i64 k) rfl
      have e1 := cell_blk G16.out.ev 1 (v := .int .i64 v1) rfl
      have e2 := cell_blk G16.out.ev 2 (v := .int .i64 v2) rfl
      have e3 := cell_blk G16.out.ev 3 (v := .bool pb) rfl
      have e4 := cell_blk G16.out.ev 4 (v := .string kb) rfl
      have e5 := cell_blk G16.out.ev 5 (v := .slice pv kv cv2) rfl
      have e6 := cell_blk G16.out.ev 6 (v := .int .i64 0) rfl
      have e7 := cell_blk G16.out.ev 7 (v := .int .i64 x) rfl
      have e8 := cell_blk G16.out.ev 8 (v := .int .i64 y) rfl
      have r0 := cell_blk G16.out.rs 0 (v := .int .i64 0) rfl
      have q0 := soft_blk G16.out.rs 0
      have r1 := cell_blk G16.out.rs 1 (v := .int .i64 0) rfl
      have q1 := soft_blk G16.out.rs 1
      have r2 := cell_blk G16.out.rs 2 (v := .int .i64 0) rfl
      have q2 := soft_blk G16.out.rs 2
      have r3 := cell_blk G16.out.rs 3 (v := .bool false) rfl
      have q3 := soft_blk G16.out.rs 3
      have r4 := cell_blk G16.out.rs 4 (v := .string ⟨#[]⟩) rfl
      have q4 := soft_blk G16.out.rs 4
      have r5 := cell_blk G16.out.rs 5 (v := .slice none 0 0) rfl
      have q5 := soft_blk G16.out.rs 5
      have r6 := cell_blk G16.out.rs 6 (v := .int .i64 0) rfl
      have q6 := soft_blk G16.out.rs 6
      have r7 := cell_blk G16.out.rs 7 (v := .int .i64 0) rfl
      have q7 := soft_blk G16.out.rs 7
      have r8 := cell_blk G16.out.rs 8 (v := .int .i64 0) rfl
      have q8 := soft_blk G16.out.rs 8
      go_wp2_with fail
      have SA := set_all G16.out.rs (.int .i64 k) (.int .i64 v1) (.int .i64 v2) (.bool pb) (.string kb) (.slice pv kv cv2) (.int .i64 0) (.int .i64 x) (.int .i64 y)
      have KF := G16.out.kept.trans SA.2 (fun j hj z => by have z : j = w.heap.size := z; omega)
      refine bodyPost_ret (results_cell_row rfl _ _ w.heap.size 39 #[.int .i64 k, .int .i64 v1, .int .i64 v2, .bool pb, .string kb, .slice pv kv cv2, .int .i64 0, .int .i64 x, .int .i64 y] (0, 0) _ rfl SA.1 Tryz.underlying39 rfl (by kernel_rfl)) rfl ?_
      have OB := SA.2.owns OA.out (fun k hk z => by have q := OA.out.lt k hk; have z : k = w.heap.size := z; omega)
      exact ⟨⟨k, v1, v2, pb, kb, pv, kv, cv2, 0, x, y, lB⟩, rfl, owns_mono OB (show w.heap.size ≤ w.heap.size + 3 by omega), bB.out, KF⟩
    · obtain ⟨tN, zN, WN⟩ := numX s5 Z5.out
      have YN : Hid (tN.size ≤ 1000000000) := zN
      clear zN
      go_wp2_with fail
      refine (WN.out _ _ G11.out.rd (G11.out.evs EE.out)).mono ?_
      rintro o w8 ⟨v6, rfl, R, K⟩
      have G12 : Hid (Gu w w8 tN #[.int .i64 k, .int .i64 v1, .int .i64 v2, .bool pb, .string kb, .slice none 0 0, .int .i64 0, .int .i64 0, .int .i64 0]) := G11.out.call K R
      clear G11
      clear R K WN
      have d6 := cell_blk G12.out.ev 6 (v := .int .i64 0) rfl
      have t6 := soft_blk G12.out.ev 6
      obtain ⟨aA, tA, yA, zA, WA⟩ := wordX tN YN.out
      have YA : Hid (aA.size ≤ 1000000000 ∧ tA.size ≤ 1000000000) := ⟨yA, zA⟩
      clear yA zA
      go_wp2_with fail
      clear d6 t6
      have G13 : Hid (Gu w (w8.setCell ⟨w.heap.size + 2, 6, none⟩ (.int .i64 v6)) tN #[.int .i64 k, .int .i64 v1, .int .i64 v2, .bool pb, .string kb, .slice none 0 0, .int .i64 v6, .int .i64 0, .int .i64 0]) := G12.out.set 6 (.int .i64 v6)
      clear G12
      refine (WA.out _ _ G13.out.rd).mono ?_
      rintro o w9 ⟨rfl, R, K⟩
      have G14 : Hid (Gu w w9 tA #[.int .i64 k, .int .i64 v1, .int .i64 v2, .bool pb, .string kb, .slice none 0 0, .int .i64 v6, .int .i64 0, .int .i64 0]) := G13.out.call K R
      clear G13
      clear R K WA
      have CT : Hid (Calls Tryz.prog 56 #[.string aA] w9 (TagP w9)) := TT.out aA YA.out.1 w9 G14.out.kept G14.out.rd.lib
      go_wp2_with fail
      refine CT.out.mono ?_
      rintro o w10 ⟨x, y, er, rfl, K⟩
      have G15 : Hid (Gu w w10 tA #[.int .i64 k, .int .i64 v1, .int .i64 v2, .bool pb, .string kb, .slice none 0 0, .int .i64 v6, .int .i64 0, .int .i64 0]) := G14.out.keep K
      clear G14 K CT
      have d7 := cell_blk G15.out.ev 7 (v := .int .i64 0) rfl
      have t7 := soft_blk G15.out.ev 7
      have d8 := cell_blk G15.out.ev 8 (v := .int .i64 0) rfl
      have t8 := soft_blk G15.out.ev 8
      have G16 : Hid (Gu w ((w10.setCell ⟨w.heap.size + 2, 7, none⟩ (.int .i64 x)).setCell ⟨w.heap.size + 2, 8, none⟩ (.int .i64 y)) tA #[.int .i64 k, .int .i64 v1, .int .i64 v2, .bool pb, .string kb, .slice none 0 0, .int .i64 v6, .int .i64 x, .int .i64 y]) := (G15.out.set 7 (.int .i64 x)).set 8 (.int .i64 y)
      clear G15
      have e0 := cell_blk G16.out.ev 0 (v := .int .i64 k) rfl
      have e1 := cell_blk G16.out.ev 1 (v := .int .i64 v1) rfl
      have e2 := cell_blk G16.out.ev 2 (v := .int .i64 v2) rfl
      have e3 := cell_blk G16.out.ev 3 (v := .bool pb) rfl
      have e4 := cell_blk G16.out.ev 4 (v := .string kb) rfl
      have e5 := cell_blk G16.out.ev 5 (v := .slice none 0 0) rfl
      have e6 := cell_blk G16.out.ev 6 (v := .int .i64 v6) rfl
      have e7 := cell_blk G16.out.ev 7 (v := .int .i64 x) rfl
      have e8 := cell_blk G16.out.ev 8 (v := .int .i64 y) rfl
      have r0 := cell_blk G16.out.rs 0 (v := .int .i64 0) rfl
      have q0 := soft_blk G16.out.rs 0
      have r1 := cell_blk G16.out.rs 1 (v := .int .i64 0) rfl
      have q1 := soft_blk G16.out.rs 1
      have r2 := cell_blk G16.out.rs 2 (v := .int .i64 0) rfl
      have q2 := soft_blk G16.out.rs 2
      have r3 := cell_blk G16.out.rs 3 (v := .bool false) rfl
      have q3 := soft_blk G16.out.rs 3
      have r4 := cell_blk G16.out.rs 4 (v := .string ⟨#[]⟩) rfl
      have q4 := soft_blk G16.out.rs 4
      have r5 := cell_blk G16.out.rs 5 (v := .slice none 0 0) rfl
      have q5 := soft_blk G16.out.rs 5
      have r6 := cell_blk G16.out.rs 6 (v := .int .i64 0) rfl
      have q6 := soft_blk G16.out.rs 6
      have r7 := cell_blk G16.out.rs 7 (v := .int .i64 0) rfl
      have q7 := soft_blk G16.out.rs 7
      have r8 := cell_blk G16.out.rs 8 (v := .int .i64 0) rfl
      have q8 := soft_blk G16.out.rs 8
      go_wp2_with fail
      have SA := set_all G16.out.rs (.int .i64 k) (.int .i64 v1) (.int .i64 v2) (.bool pb) (.string kb) (.slice none 0 0) (.int .i64 v6) (.int .i64 x) (.int .i64 y)
      have KF := G16.out.kept.trans SA.2 (fun j hj z => by have z : j = w.heap.size := z; omega)
      refine bodyPost_ret (results_cell_row rfl _ _ w.heap.size 39 #[.int .i64 k, .int .i64 v1, .int .i64 v2, .bool pb, .string kb, .slice none 0 0, .int .i64 v6, .int .i64 x, .int .i64 y] (0, 0) _ rfl SA.1 Tryz.underlying39 rfl (by kernel_rfl)) rfl ?_
      exact ⟨⟨k, v1, v2, pb, kb, none, 0, 0, v6, x, y, []⟩, rfl, ⟨rfl, .inl ⟨rfl, rfl⟩⟩, (fun c hc => by cases hc), KF⟩
end Go.Proofs.YtbangbobfeflcaaGreatDoor
