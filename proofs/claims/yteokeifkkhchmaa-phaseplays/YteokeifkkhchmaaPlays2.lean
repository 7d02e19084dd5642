import Derived.Test.YteokeifkkhchmaaPlays
namespace Go.Proofs.Yteokeifkkhchmaa
open Go.RowKit 

/-- Where the writing over stands. -/
structure Wo (w wr : World) (x : PX) (g c len : Nat) : Prop where
  b : Both wr x
  blk : ∃ cur, wr.heap[g]? = some (.cells cur 3 (0, 0)) ∧ len ≤ cur.size
  kept : Kept (fun _ => False) w wr
  new : w.heap.size ≤ g
  apart : ¬ x.Uses g ∧ g ≠ x.pb ∧ g ≠ x.rb
theorem Wo.step {w wr : World} {x : PX} {g c len : Nat} (h : Wo w wr x g c len) (i : Nat) (u : Value) : Wo w (wr.setCell ⟨g, i, none⟩ u) x g c len := by
  have K : Kept (fun j => j = g) wr (wr.setCell ⟨g, i, none⟩ u) := (Kept.refl (fun j => j = g) wr).setCell (p := ⟨g, i, none⟩) (fun _ => rfl) _
  obtain ⟨a1, a2, a3⟩ := h.apart
  obtain ⟨cur, hc, hl⟩ := h.blk
  refine ⟨⟨h.b.p.kept K (fun z => a2 z.symm) (fun z => a1 (.inl z.symm)), h.b.r.kept K (fun z => a3 z.symm) (fun z => a1 (.inr (.inl z.symm))) (fun z => a1 (.inr (.inr z.symm)))⟩, ⟨_, heap_set hc i u, by simpa using hl⟩, h.kept.trans K (fun j hj z => ?_), h.new, h.apart⟩
  have z : j = g := z
  have := h.new
  omega
theorem Wo.at {w wr : World} {x : PX} {g c len : Nat} (h : Wo w wr x g c len) (i : Nat) (hi : i < len) : (∃ u, wr.cell? ⟨g, i, none⟩ = some u) ∧ wr.frozen? ⟨g, i, none⟩ = false := by
  obtain ⟨cur, hc, hl⟩ := h.blk
  exact ⟨⟨cur[i], cell_blk hc i (Array.getElem?_eq_getElem (by omega))⟩, soft_blk hc i⟩
set_option maxRecDepth 100000 in
set_option maxHeartbeats 4000000 in
/-- Met, Len and Missing. -/
theorem playsX (x : PX) (k p s v n : Int) (w : World) (h : Both w x) (h0 : ¬ k = 0) (h2 : ¬ k = 2) (h3 : ¬ k = 3) : Calls Try.prog 6 #[.pointer (some ⟨x.pb, 0, none⟩), .pointer (some ⟨x.rb, 0, none⟩), .agg #[.int .i64 k, .int .i64 p, .int .i64 s, .int .i64 v, .int .i64 n]] w fun o w' => o = .returned (.bool true) ∧ Both w' x ∧ Kept (fun _ => False) w w' := by
  obtain ⟨W, hW⟩ : ∃ W, W = w.alloc (.cells #[.int .i64 k, .int .i64 p, .int .i64 s, .int .i64 v, .int .i64 n] 36) := ⟨_, rfl⟩
  have K1 : Kept (fun _ => False) w W := by rw [hW]; exact k0_alloc _ _
  have H : Hid (Both W x ∧ Kept (fun _ => False) w W) := ⟨h.k0 K1, K1⟩
  have EW : Hid (W = w.alloc (.cells #[.int .i64 k, .int .i64 p, .int .i64 s, .int .i64 v, .int .i64 n] 36)) := hW
  have n255 : x.n ≤ 255 := by have := h.r.ok.2.2.1; omega
  have eN : ((x.n : Int)).toNat = x.n := by omega
  clear h hW K1
  go_enter Try.func6, Try.ntmps6
  go_wp2_with fail
  rw [← EW.out]
  refine (misI W H.out.1.p).mono ?_
  rw [eN]
  rintro o w1 ⟨q, L, c, rfl, R⟩
  have rm := R.out.1.room
  have sm := R.out.1.small
  unfold maxLen at sm
  have hL : L = (pick x.M false x.n).length := by have := R.out.1.length; rw [ints_length] at this; exact this.symm
  have HL : Hid (L = (pick x.M false x.n).length) := hL
  have L255 : L ≤ 255 := by have := pick_le x.M false x.n; omega
  have H1 : Hid (Both w1 x ∧ Kept (fun _ => False) w w1 ∧ Row w1 3 q L c (ints (pick x.M false x.n)) ∧ ∀ g, blockOf q = some g → W.heap.size ≤ g) := ⟨H.out.1.k0 R.out.2.2, H.out.2.and0 R.out.2.2, R.out.1, R.out.2.1⟩
  have LW : Hid (∀ j, (x.Uses j ∨ j = x.pb ∨ j = x.rb) → j < W.heap.size) := fun j hj => by
    rcases hj with hj | hj | hj
    · exact H.out.1.lt hj
    · rw [hj]; exact H.out.1.p.lt.1
    · rw [hj]; exact H.out.1.r.lt.1
  have WW : Hid (w.heap.size ≤ W.heap.size) := H.out.2.size
  clear R hL H
  go_wp2_with fail
  refine (metI w1 H1.out.1.p).mono ?_
  rw [eN]
  rintro o w2 ⟨rfl, k2, rfl⟩
  have H2 : Hid (Both (w1.drewN k2) x ∧ Kept (fun _ => False) w (w1.drewN k2) ∧ Row (w1.drewN k2) 3 q L c (ints (pick x.M false x.n))) := ⟨H1.out.1.k0 ((Kept.refl _ _).drewN k2), H1.out.2.1.drewN k2, H1.out.2.2.1.kept ((Kept.refl (fun _ => False) _).drewN k2) (fun _ _ z => z)⟩
  have FAR : Hid (∀ g, blockOf q = some g → W.heap.size ≤ g) := H1.out.2.2.2
  generalize w1.drewN k2 = w2 at H2 ⊢
  clear H1
  go_wp2_with fail
  refine (rMet w2 H2.out.1.r).mono ?_
  rintro o w3 ⟨rfl, k3⟩
  have H3 : Hid (Both w3 x ∧ Kept (fun _ => False) w w3 ∧ Row w3 3 q L c (ints (pick x.M false x.n))) := ⟨H2.out.1.k0 k3, H2.out.2.1.and0 k3, H2.out.2.2.kept k3 (fun _ _ z => z)⟩
  clear H2 k3
  generalize decide (quo (x.n : Int) x.K ≤ (cntM x.M x.n : Int)) = bb
  have ebb : (bb == bb) = true := by cases bb <;> rfl
  go_wp2_with fail
  refine (lenI w3 H3.out.1.p).mono ?_
  rw [eN]
  rintro o w4 ⟨rfl, rfl⟩
  go_wp2_with fail
  refine (rServers true w4 H3.out.1.r).mono ?_
  rintro o w5 ⟨q5, n5, c5, rfl, R5⟩
  have e5 : n5 = cntM x.M x.n := by have := R5.out.1.length; rw [ints_length, pick_len] at this; exact this.symm
  have rm5 := R5.out.1.room
  have n5b : n5 ≤ 255 := by have := cntM_le x.M x.n; omega
  have H5 : Hid (Both w5 x ∧ Kept (fun _ => False) w w5 ∧ Row w5 3 q L c (ints (pick x.M false x.n))) := ⟨H3.out.1.k0 R5.out.2.2, H3.out.2.1.and0 R5.out.2.2, H3.out.2.2.kept R5.out.2.2 (fun _ _ z => z)⟩
  rw [← e5]
  clear R5 H3 e5
  go_wp2_with fail
  refine (rServers false w5 H5.out.1.r).mono ?_
  rintro o w6 ⟨q6, n6, c6, rfl, R6⟩
  have rm6 := R6.out.1.room
  have H6 : Hid (Both w6 x ∧ Kept (fun _ => False) w w6 ∧ Row w6 3 q L c (ints (pick x.M false x.n)) ∧ Row w6 3 q6 n6 c6 (ints (pick x.M false x.n))) := ⟨H5.out.1.k0 R6.out.2.2, H5.out.2.1.and0 R6.out.2.2, H5.out.2.2.kept R6.out.2.2 (fun _ _ z => z), R6.out.1⟩
  clear R6 H5
  go_wp2_with fail
  refine (sameInts q q6 L c n6 c6 _ _ w6 H6.out.2.2.1.reads H6.out.2.2.2.reads).mono ?_
  rintro o w7 ⟨rfl, k7, rfl⟩
  rw [decide_eq_true rfl]
  have H7 : Hid (Both (w6.drewN k7) x ∧ Kept (fun _ => False) w (w6.drewN k7) ∧ Row (w6.drewN k7) 3 q L c (ints (pick x.M false x.n))) := ⟨H6.out.1.k0 ((Kept.refl _ _).drewN k7), H6.out.2.1.drewN k7, H6.out.2.2.1.kept ((Kept.refl (fun _ => False) _).drewN k7) (fun _ _ z => z)⟩
  generalize w6.drewN k7 = w8 at H7 ⊢
  clear H6
  go_wp2_with fail
  (try go_frame)
  go_loopw [106] (fun z wr => ∃ i : Nat, z = .int .i64 (i : Int) ∧ i ≤ L ∧ Hid ((L = 0 ∧ Both wr x ∧ Kept (fun _ => False) w wr) ∨ ∃ g, q = some ⟨g, 0, none⟩ ∧ Wo w wr x g c L)) (fun z _ => L - (intOf z).toNat)
  case atStart =>
    refine ⟨0, rfl, Nat.zero_le _, ?_⟩
    by_cases l0 : L = 0
    · exact .inl ⟨l0, H7.out.1, H7.out.2.1⟩
    · obtain ⟨g, hg⟩ := H7.out.2.2.some_of (by omega)
      have fg := FAR.out g (by rw [hg]; rfl)
      refine .inr ⟨g, hg, H7.out.1, ?_, H7.out.2.1, Nat.le_trans WW.out fg, fun z => ?_, fun z => ?_, fun z => ?_⟩
      · rcases H7.out.2.2.pos with ⟨e, _⟩ | ⟨g', cur, e, hc, hs, _⟩
        · rw [hg] at e; cases e
        · rw [hg] at e
          simp at e
          subst e
          exact ⟨cur, hc, by omega⟩
      · have := LW.out g (.inl z); omega
      · have := LW.out g (.inr (.inl z)); omega
      · have := LW.out g (.inr (.inr z)); omega
  case round =>
    obtain ⟨i, rfl, hi, F⟩ := hrel
    by_cases hlt : i < L
    · rcases F.out with ⟨l0, _⟩ | ⟨g, rfl, wo⟩
      · omega
      · obtain ⟨⟨u, d0⟩, d1⟩ := wo.at i hlt
        have F2 : Hid (Wo w (wr.setCell ⟨g, i, none⟩ (.int .i64 (-9))) x g c L) := wo.step i _
        have hlt' : (i : Int) < (L : Int) := by omega
        clear wo F
        go_wp2_with fail
        go_roundw
        case rel => exact ⟨i + 1, by go_num, by omega, .inr ⟨g, rfl, F2.out⟩⟩
        case measure => simp [intOf]; omega
    · have G : Hid (Both wr x ∧ Kept (fun _ => False) w wr) := by
        rcases F.out with ⟨_, b, k⟩ | ⟨g, _, wo⟩
        · exact ⟨b, k⟩
        · exact ⟨wo.b, wo.kept⟩
      clear F
      go_wp2_with fail
      refine (misI wr G.out.1.p).mono ?_
      rw [eN]
      rintro o w9 ⟨q9, n9, c9, rfl, R9⟩
      have rm9 := R9.out.1.room
      have G9 : Hid (Both w9 x ∧ Kept (fun _ => False) w w9 ∧ Row w9 3 q9 n9 c9 (ints (pick x.M false x.n))) := ⟨G.out.1.k0 R9.out.2.2, G.out.2.and0 R9.out.2.2, R9.out.1⟩
      clear R9 G
      go_wp2_with fail
      refine (rServers false w9 G9.out.1.r).mono ?_
      rintro o wA ⟨qA, nA, cA, rfl, RA⟩
      have rmA := RA.out.1.room
      have GA : Hid (Both wA x ∧ Kept (fun _ => False) w wA ∧ Row wA 3 q9 n9 c9 (ints (pick x.M false x.n)) ∧ Row wA 3 qA nA cA (ints (pick x.M false x.n))) := ⟨G9.out.1.k0 RA.out.2.2, G9.out.2.1.and0 RA.out.2.2, G9.out.2.2.kept RA.out.2.2 (fun _ _ z => z), RA.out.1⟩
      clear RA G9
      go_wp2_with fail
      refine (sameInts q9 qA n9 c9 nA cA _ _ wA GA.out.2.2.1.reads GA.out.2.2.2.reads).mono ?_
      rintro o wB ⟨rfl, kB, rfl⟩
      rw [decide_eq_true rfl]
      have GB : Hid (Both (wA.drewN kB) x ∧ Kept (fun _ => False) w (wA.drewN kB)) := ⟨GA.out.1.k0 ((Kept.refl _ _).drewN kB), GA.out.2.1.drewN kB⟩
      generalize wA.drewN kB = wC at GB ⊢
      go_wp2_with fail
      go_ret
      exact ⟨rfl, GB.out.1, GB.out.2⟩
end Go.Proofs.Yteokeifkkhchmaa
