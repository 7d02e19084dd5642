import Derived.Test.YtgfglbbfoadiaaaBook
namespace Go.Proofs.Ytgfglbbfoadiaaa
open Go.RowKit

theorem owns_form {w : World} {base : Nat} {e : TypeId} {v : Value} {n : Nat} {xs : List Value} (h : w.ownsRow base e 1 v n xs) : ∃ a c, v = .slice a n c := by
  rcases h.2 with ⟨rfl, rfl⟩ | ⟨g, cap, cur, rfl, _⟩
  · exact ⟨none, 0, rfl⟩
  · exact ⟨_, _, rfl⟩
theorem owns_some {w : World} {base : Nat} {e : TypeId} {p : Option Addr} {n c : Nat} {xs : List Value} (h : w.ownsRow base e 1 (.slice p n c) n xs) (hn : 0 < n) : ∃ g cur, p = some ⟨g, 0, none⟩ ∧ base ≤ g ∧ w.heap[g]? = some (.cells cur e (0, 0)) ∧ n ≤ cur.size ∧ cur.toList.take n = xs ∧ n ≤ c ∧ c ≤ maxLen := by
  rcases h.2 with ⟨q, h0⟩ | ⟨g, cap, cur, q, hb, hg, hk, hm, hs, ht⟩
  · omega
  · simp at q
    obtain ⟨rfl, rfl⟩ := q
    exact ⟨g, cur, rfl, hb, hg, by omega, by simpa using ht, hk, hm⟩
theorem owns_cell {w : World} {base : Nat} {e : TypeId} {g n c : Nat} {xs : List Value} (h : w.ownsRow base e 1 (.slice (some ⟨g, 0, none⟩) n c) n xs) {i : Nat} (hi : i < n) {u : Value} (hu : xs[i]? = some u) : w.cell? ⟨g, i, none⟩ = some u ∧ w.frozen? ⟨g, i, none⟩ = false := by
  obtain ⟨g2, cur, e2, _, hg, hs, ht, _, _⟩ := owns_some h (by omega)
  simp at e2
  subst e2
  refine ⟨cell_blk hg i ?_, soft_blk hg i⟩
  rw [← ht, List.getElem?_take_of_lt hi] at hu
  simpa using hu

/-- One step of the seventy. -/
theorem Mid.more {base N : Nat} {w w2 : World} {K : Nat} {hs : List Held} {v x x2 : Value} {n m k : Nat} {vL vM : Value} (h : Mid base w K hs v n m vL vM) (ox : w.ownsRow base 5 1 x (n + k) (reps (n + k) m)) (hx : ∀ j, x.ownBlock = some j → ¬ bfoot hs j)
    (o2 : w2.ownsRow base 5 1 x2 (n + k + 1) (reps (n + k) m ++ cellsOf [m])) (g : Grew (w.alloc (.cells #[.int .u8 (m : Int)] 5)) w2 x x2 (n + k) 1) (hN : N ≤ w.heap.size) (near : ∀ j, x.ownBlock = some j → v.ownBlock = some j ∨ N ≤ j) :
    Mid base w2 K hs v n m vL vM ∧ w2.ownsRow base 5 1 x2 (n + (k + 1)) (reps (n + (k + 1)) m) ∧ (∀ j, x2.ownBlock = some j → v.ownBlock = some j ∨ N ≤ j) ∧ Kept (fun j => x.ownBlock = some j) w w2 := by
  have k0 : Kept (fun _ => False) w (w.alloc (.cells #[.int .u8 (m : Int)] 5)) := (Kept.refl _ w).alloc _
  have kk : Kept (fun j => x.ownBlock = some j) w w2 := (k0.mono (fun _ _ f => f.elim)).trans g.kept (fun _ _ q => q)
  rw [reps_snoc] at o2
  refine ⟨h.keptQ kk (fun j hj hb => ?_) hx ?_, o2, fun j hj => ?_, kk⟩
  · obtain ⟨_, cs, hb2⟩ := owns_block ox hj
    exact not_bookish hb2 (by decide) (by decide) hb
  · exact g.part (ox.alloc _) o2 (h.own.alloc _) (by omega) (reps_take _ _ _ (by omega))
  · rcases g.near j hj with q | q
    · exact near j q
    · simp at q
      exact .inr (by omega)

set_option maxRecDepth 100000 in
set_option maxHeartbeats 2000000 in
theorem hold_any (base K : Nat) (hs : List Held) (p : Option Addr) (n c : Nat) (l0 : List Nat) (w : World) (hB : IsB base w K hs) (ho : w.ownsRow base 5 1 (.slice p n c) n (cellsOf l0)) (fresh : ∀ j, (Value.slice p n c).ownBlock = some j → ¬ bfoot hs j)
    (hn : n + 70 ≤ 140737488355328) (h24 : (hs.length + 1) * 24 ≤ 140737488355328) (hbase : base ≤ w.heap.size) :
    Calls Try.prog 29 #[.pointer (some ⟨K, 0, none⟩), .slice p n c] w fun x w' => x = .returned (.tuple #[]) ∧ ∃ q d, IsB base w' K (hs ++ [⟨p, n, c, q, d⟩]) ∧ Kept (fun j => bookish base w j ∨ (Value.slice p n c).ownBlock = some j) w w' ∧
      ∀ j, (Value.slice q (n + 70) d).ownBlock = some j → (Value.slice p n c).ownBlock = some j ∨ w.heap.size ≤ j := by
  have BH : Hid (IsB base w K hs) := hB
  have FH : Hid (∀ j, (Value.slice p n c).ownBlock = some j → ¬ bfoot hs j) := fresh
  obtain ⟨vL, vM, hb, hl, hm, hd⟩ := hB.ex
  obtain ⟨aL, cL, rfl⟩ := owns_form hl
  obtain ⟨aM, cM, rfl⟩ := owns_form hm
  obtain ⟨H, hH⟩ : ∃ H, hs.length = H := ⟨_, rfl⟩
  have HH : Hid (hs.length = H) := hH
  have l0n : Hid (l0.length = n) := by have := ho.1; rw [cellsOf_length] at this; show _ = n; omega
  rw [hH] at hb hl hm h24 hd
  have BK : Hid (w.heap[K]? = some (.cells #[.slice aL H cL, .slice aM H cM] 53 (0, 0))) := hb
  have RL : Hid (w.ownsRow base 28 1 (.slice aL H cL) H (hs.map Held.lv)) := hl
  have RM : Hid (w.ownsRow base 28 1 (.slice aM H cM) H (hs.map Held.mv)) := hm
  have DS : Hid (∀ j, (Value.slice aL H cL).ownBlock = some j → (Value.slice aM H cM).ownBlock ≠ some j) := hd
  have OH : Hid (w.ownsRow base 5 1 (.slice p n c) n (cellsOf l0)) := ho
  have BS : Hid (base ≤ w.heap.size) := hbase
  obtain ⟨m, hmk⟩ : ∃ m, mark H = m := ⟨_, rfl⟩
  have mm : ((H : Int) * 5 + 3) % 256 = (m : Int) := by rw [← hmk]; unfold mark; omega
  have m256 : m < 256 := hmk ▸ mark_lt H
  have MH : Hid (mark hs.length = m) := by show mark hs.length = m; rw [hH]; exact hmk
  have c0 := cell_blk hb 0 (v := .slice aL H cL) rfl
  have SB : Hid (∀ j, j = K ∨ (Value.slice aL H cL).ownBlock = some j ∨ (Value.slice aM H cM).ownBlock = some j → bookish base w j) := fun j q => by
    rcases q with q | q | q
    · subst q; exact ⟨BH.out.low, _, 53, _, hb, .inl rfl⟩
    · exact owns_bookish hl q
    · exact owns_bookish hm q
  clear hB fresh hb hl hm hd hH ho hbase hmk
  go_enter Try.func29, Try.ntmps29
  go_wp2_with fail
  go_loopw [5] (fun x wr => ∃ (i : Nat), x = .int .i64 (i : Int) ∧ i ≤ n ∧ Hid (wr.ownsRow base 5 1 (.slice p n c) n (cellsOf (List.replicate i m ++ l0.drop i)) ∧ Kept (fun j => (Value.slice p n c).ownBlock = some j) w wr)) (fun x _ => n - (intOf x).toNat)
  case atStart => exact ⟨0, rfl, Nat.zero_le _, by simpa using OH.out, Kept.refl _ _⟩
  case round =>
    obtain ⟨i, rfl, hi, O⟩ := hrel
    by_cases hlt : i < n
    · obtain ⟨g, cur, rfl, hg1, hg2, hg3, hg4, hg5, hg6⟩ := owns_some O.out.1 (by omega)
      obtain ⟨u, hu⟩ : ∃ u, (cellsOf (List.replicate i m ++ l0.drop i))[i]? = some u := by
        have : i < (cellsOf (List.replicate i m ++ l0.drop i)).length := by
          rw [cellsOf_length, List.length_append, List.length_replicate, List.length_drop, l0n.out]; omega
        exact ⟨_, List.getElem?_eq_getElem this⟩
      obtain ⟨c1, z1⟩ := owns_cell O.out.1 hlt hu
      have i1 : (i : Int) < (n : Int) := by omega
      have O2 : Hid ((wr.setCell ⟨g, i, none⟩ (.int .u8 (m : Int))).ownsRow base 5 1 (.slice (some ⟨g, 0, none⟩) n c) n (cellsOf (List.replicate (i + 1) m ++ l0.drop (i + 1))) ∧ Kept (fun j => (Value.slice (some ⟨g, 0, none⟩) n c).ownBlock = some j) w (wr.setCell ⟨g, i, none⟩ (.int .u8 (m : Int)))) := by
        refine ⟨?_, O.out.2.setCell (p := ⟨g, i, none⟩) (fun _ => rfl) _⟩
        rw [← reps_step i m l0 (by rw [l0n.out]; exact hlt)]
        exact owns_set O.out.1 i _
      clear hg2 hg3 hg4 hu
      go_wp2_with fail
      go_roundw
      case rel => exact ⟨i + 1, by go_num, by omega, by simpa using O2⟩
      case measure => simp [intOf]; omega
    · have hk' : n = i := by omega
      have e1 : cellsOf (List.replicate i m ++ l0.drop i) = reps n m := by
        rw [List.drop_of_length_le (by rw [l0n.out]; omega), List.append_nil, hk']; rfl
      rw [e1] at O
      subst hk'
      clear hlt hi e1
      have kq : Kept (fun j => (Value.slice p n c).ownBlock = some j) w wr := O.out.2
      have nb : ∀ j, (Value.slice p n c).ownBlock = some j → ¬ bookish base w j := fun j hj hb => by
        obtain ⟨_, cs, hb2⟩ := owns_block OH.out hj
        exact not_bookish hb2 (by decide) (by decide) hb
      have bk2 := kq.get BK.out (fun s => nb K s (SB.out K (.inl rfl)))
      have BK2 : Hid (wr.heap[K]? = some (.cells #[.slice aL H cL, .slice aM H cM] 53 (0, 0))) := bk2
      have RL2 : Hid (wr.ownsRow base 28 1 (.slice aL H cL) H (hs.map Held.lv)) := kq.owns RL.out (fun j hj s => nb j s (SB.out j (.inr (.inl hj))))
      have RM2 : Hid (wr.ownsRow base 28 1 (.slice aM H cM) H (hs.map Held.mv)) := kq.owns RM.out (fun j hj s => nb j s (SB.out j (.inr (.inr hj))))
      have B2 : Hid (IsB base wr K hs) := BH.out.kept kq nb FH.out
      have KQ : Hid (Kept (fun j => (Value.slice p n c).ownBlock = some j) w wr) := kq
      have OV : Hid (wr.ownsRow base 5 1 (.slice p n c) n (reps n m)) := O.out.1
      have c1 := cell_blk bk2 0 (v := .slice aL H cL) rfl
      clear kq nb bk2 O
      go_wp2_with (first | (at_builtin; refine wpList_append_two _ rfl (.tmp 30) (.tmp 32) 51 28 51 (.slice none 0 0) 24 rfl Try.underlying51 Try.info28 rfl base (.slice aL H cL) H (hs.map Held.lv) rfl (RL2.out.alloc _) (.slice (some ⟨wr.heap.size, 0, none⟩) 1 1) 1 [.slice p n c] rfl (src_one wr _ rfl) (by unfold maxLen; omega) h24 (by have := KQ.out.size; have := BS.out; simp; omega) ?_; intro aL2 cL2 w2 r2 g2; have bz := (((Kept.refl (fun _ => False) wr).alloc (.cells #[.slice p n c] 28)).mono (S' := fun j => (Value.slice aL H cL).ownBlock = some j) (fun _ _ f => f.elim) |>.trans g2.out.kept (fun _ _ q => q)).get BK2.out (own_ne BK2.out RL2.out (by decide)); have c2 := cell_blk bz 0 (v := .slice aL H cL) rfl; have z2 := soft_blk bz 0; clear bz) | fail)
      have MS : Hid (Mid base (w2.setCell ⟨K, 0, none⟩ (.slice aL2 (H + 1) cL2)) K hs (.slice p n c) n m (.slice aL2 (H + 1) cL2) (.slice aM H cM) ∧ Kept (fun j => j = K ∨ (Value.slice aL H cL).ownBlock = some j) wr (w2.setCell ⟨K, 0, none⟩ (.slice aL2 (H + 1) cL2))) := by
        have h := HH.out
        subst h
        exact Mid.start BH.out.low BK2.out RL2.out RM2.out DS.out B2.out.held OV.out r2.out g2.out
      obtain ⟨w3, hw3⟩ : ∃ w3, w2.setCell ⟨K, 0, none⟩ (.slice aL2 (H + 1) cL2) = w3 := ⟨_, rfl⟩
      rw [hw3] at MS ⊢
      have KW : Hid (Kept (fun j => bookish base w j ∨ (Value.slice p n c).ownBlock = some j) w w3) := by
        refine (KQ.out.mono (S' := fun j => bookish base w j ∨ (Value.slice p n c).ownBlock = some j) (fun _ _ q => .inr q)).trans MS.out.2 (fun j _ q => .inl (SB.out j ?_))
        rcases q with q | q
        · exact .inl q
        · exact .inr (.inl q)
      clear hw3 c2 z2 c1 r2 g2
      go_loopw [6, 7] (fun x6 x7 wx => ∃ (k : Nat) (q : Option Addr) (d : Nat), x7 = .int .i64 (k : Int) ∧ k ≤ 70 ∧ x6 = .slice q (n + k) d ∧ Hid (Mid base wx K hs (.slice p n c) n m (.slice aL2 (H + 1) cL2) (.slice aM H cM) ∧ wx.ownsRow base 5 1 (.slice q (n + k) d) (n + k) (reps (n + k) m) ∧
          (∀ j, (Value.slice q (n + k) d).ownBlock = some j → (Value.slice p n c).ownBlock = some j ∨ w.heap.size ≤ j) ∧ Kept (fun j => bookish base w j ∨ (Value.slice p n c).ownBlock = some j) w wx)) (fun _ x7 _ => 70 - (intOf x7).toNat)
      case atStart => exact ⟨0, p, c, rfl, by omega, rfl, MS.out.1, MS.out.1.own, fun j hj => .inl hj, KW.out⟩
      case round =>
        obtain ⟨k, q, d, rfl, hk, rfl, Z⟩ := hrel
        have nf : ∀ j, (Value.slice q (n + k) d).ownBlock = some j → ¬ bfoot hs j := fun j hj hf => by
          rcases Z.out.2.2.1 j hj with a | a
          · exact FH.out j a hf
          · have := (BH.out.foot hf).2.1; omega
        have NF : Hid (∀ j, (Value.slice q (n + k) d).ownBlock = some j → ¬ bfoot hs j) := nf
        clear nf
        by_cases hlt : k < 70
        · have i1 : (k : Int) < 70 := by omega
          go_wp2_with (first | (at_builtin; refine wpList_append_two _ rfl (.tmp 41) (.tmp 43) 28 5 28 (.int .u8 0) 1 rfl Try.underlying28 Try.info5 rfl base (.slice q (n + k) d) (n + k) (reps (n + k) m) rfl (Z.out.2.1.alloc _) (.slice (some ⟨wr.heap.size, 0, none⟩) 1 1) 1 (cellsOf [m]) rfl (Reads.lit wr m m256).src (by unfold maxLen; omega) (by omega) (by have := Z.out.2.2.2.size; have := BS.out; simp; omega) ?_; intro q2 d2 w4 r4 g4) | fail)
          have Z2 : Hid (Mid base w4 K hs (.slice p n c) n m (.slice aL2 (H + 1) cL2) (.slice aM H cM) ∧ w4.ownsRow base 5 1 (.slice q2 (n + (k + 1)) d2) (n + (k + 1)) (reps (n + (k + 1)) m) ∧
              (∀ j, (Value.slice q2 (n + (k + 1)) d2).ownBlock = some j → (Value.slice p n c).ownBlock = some j ∨ w.heap.size ≤ j) ∧ Kept (fun j => bookish base w j ∨ (Value.slice p n c).ownBlock = some j) w w4) := by
            obtain ⟨z1, z2, z3, z4⟩ := Z.out.1.more Z.out.2.1 NF.out r4.out g4.out Z.out.2.2.2.size Z.out.2.2.1
            refine ⟨z1, z2, z3, Z.out.2.2.2.trans z4 (fun j hj h => ?_)⟩
            rcases Z.out.2.2.1 j h with a | a
            · exact .inr a
            · omega
          go_roundw
          case rel => exact ⟨k + 1, q2, d2, by go_num, by omega, rfl, Z2⟩
          case measure => simp [intOf]; omega
        · have hk' : k = 70 := by omega
          subst hk'
          clear hlt hk
          have c1 := cell_blk Z.out.1.blk 1 (v := .slice aM H cM) rfl
          have RM3 : Hid (wr.ownsRow base 28 1 (.slice aM H cM) H (hs.map Held.mv)) := by have := Z.out.1.rowM; rw [HH.out] at this; exact this
          go_wp2_with (first | (at_builtin; refine wpList_append_two _ rfl (.tmp 49) (.tmp 51) 51 28 51 (.slice none 0 0) 24 rfl Try.underlying51 Try.info28 rfl base (.slice aM H cM) H (hs.map Held.mv) rfl (RM3.out.alloc _) (.slice (some ⟨wr.heap.size, 0, none⟩) 1 1) 1 [.slice q (n + 70) d] rfl (src_one wr _ rfl) (by unfold maxLen; omega) h24 (by have := Z.out.2.2.2.size; have := BS.out; simp; omega) ?_; intro aM2 cM2 w5 r5 g5; have bz := (((Kept.refl (fun _ => False) wr).alloc (.cells #[.slice q (n + 70) d] 28)).mono (S' := fun j => (Value.slice aM H cM).ownBlock = some j) (fun _ _ f => f.elim) |>.trans g5.out.kept (fun _ _ q => q)).get Z.out.1.blk (own_ne Z.out.1.blk RM3.out (by decide)); have c5 := cell_blk bz 1 (v := .slice aM H cM) rfl; have z5 := soft_blk bz 1; clear bz) | fail)
          go_end0
          have DN : IsB base (w5.setCell ⟨K, 1, none⟩ (.slice aM2 (H + 1) cM2)) K (hs ++ [⟨p, n, c, q, d⟩]) ∧ Kept (fun j => j = K ∨ (Value.slice aM H cM).ownBlock = some j) wr (w5.setCell ⟨K, 1, none⟩ (.slice aM2 (H + 1) cM2)) := by
            have h := HH.out
            have h2 := MH.out
            subst h
            subst h2
            exact Mid.done Z.out.1 Z.out.2.1 r5.out g5.out
          refine ⟨rfl, q, d, DN.1, Z.out.2.2.2.trans DN.2 (fun j _ h => .inl (SB.out j ?_)), Z.out.2.2.1⟩
          rcases h with h | h
          · exact .inl h
          · exact .inr (.inr h)
end Go.Proofs.Ytgfglbbfoadiaaa
