import Derived.Test.YtodmakcklacbfaaNWords
namespace Go.Proofs.Ytodmakcklacbfaa
open Go.RowKit 

theorem u32_info : (Try.prog.info? 85).map (fun i => (i.zero, i.size, i.bytes)) = some (some (.int .u32 0), 1, 4) := by kernel_rfl
theorem three2 (w : World) (a b : Obj) (c : Obj) : (((w.alloc a).alloc b).alloc c).heap[w.heap.size + 1 + 1]? = some c := by
  have : w.heap.size + 1 + 1 = ((w.alloc a).alloc b).heap.size := by simp
  rw [this]
  exact alloc_new _ _
theorem start6 {w W : World} {fb n : Nat} {cp : Option Addr} {cc vb mb : Nat} (h1 : W.heap[fb]? = some (.cells #[.slice cp n cc, .slice (some ⟨vb, 0, none⟩) n n, .int .u32 0, .slice none 0 0, .slice none 0 0, .slice none 0 0, .map (some mb)] 88 (0, 0))) (h2 : W.heap[vb]? = some (.cells (vrow (fun _ => Value.int .i64 0) n) 3 (0, 0))) (h3 : IsM W mb (fun _ => none)) (h4 : Kept (fun _ => False) w W) (h5 : w.heap.size ≤ fb) (n24 : n ≤ 24) (a b c : Nat) (ha : a = W.heap.size ∨ a = W.heap.size + 1 ∨ a = W.heap.size + 1 + 1) (hb : b = W.heap.size ∨ b = W.heap.size + 1 ∨ b = W.heap.size + 1 + 1) (hc : c = W.heap.size ∨ c = W.heap.size + 1 ∨ c = W.heap.size + 1 + 1) (ab : a ≠ b) (ac : a ≠ c) (bc : b ≠ c) :
    ∃ x y z, NF (((((((W.setCell ⟨fb, 3, none⟩ (.slice (some ⟨a, 0, none⟩) n n)).setCell ⟨fb, 4, none⟩ (.slice (some ⟨b, 0, none⟩) n n)).setCell ⟨fb, 5, none⟩ (.slice (some ⟨c, 0, none⟩) n n)).alloc (.cells (vrow (fun _ => Value.int .u32 0) n) 85)).alloc (.cells (vrow (fun _ => Value.int .u32 0) n) 85)).alloc (.cells (vrow (fun _ => Value.int .u32 0) n) 85)).drew) fb n cp cc vb x y z mb (fun _ => 0) 0 (fun _ => 0) (fun _ => 0) (fun _ => 0) ∧ Kept (fun _ => False) w (((((((W.setCell ⟨fb, 3, none⟩ (.slice (some ⟨a, 0, none⟩) n n)).setCell ⟨fb, 4, none⟩ (.slice (some ⟨b, 0, none⟩) n n)).setCell ⟨fb, 5, none⟩ (.slice (some ⟨c, 0, none⟩) n n)).alloc (.cells (vrow (fun _ => Value.int .u32 0) n) 85)).alloc (.cells (vrow (fun _ => Value.int .u32 0) n) 85)).alloc (.cells (vrow (fun _ => Value.int .u32 0) n) 85)).drew) ∧ w.heap.size ≤ x ∧ w.heap.size ≤ y ∧ w.heap.size ≤ z := by
  obtain ⟨W1, hW1⟩ : ∃ W1, W1 = ((W.setCell ⟨fb, 3, none⟩ (.slice (some ⟨a, 0, none⟩) n n)).setCell ⟨fb, 4, none⟩ (.slice (some ⟨b, 0, none⟩) n n)).setCell ⟨fb, 5, none⟩ (.slice (some ⟨c, 0, none⟩) n n) := ⟨_, rfl⟩
  rw [← hW1]
  have KS : Kept (fun k => k = fb) W W1 := by
    rw [hW1]
    exact (((Kept.refl (fun k => k = fb) W).setCell (p := ⟨fb, 3, none⟩) (fun _ => rfl) _).setCell (p := ⟨fb, 4, none⟩) (fun _ => rfl) _).setCell (p := ⟨fb, 5, none⟩) (fun _ => rfl) _
  have sz : W1.heap.size = W.heap.size := by rw [hW1]; simp
  have b1 : W1.heap[fb]? = some (.cells #[.slice cp n cc, .slice (some ⟨vb, 0, none⟩) n n, .int .u32 0, .slice (some ⟨a, 0, none⟩) n n, .slice (some ⟨b, 0, none⟩) n n, .slice (some ⟨c, 0, none⟩) n n, .map (some mb)] 88 (0, 0)) := by
    rw [hW1]
    exact set_heap (set_heap (set_heap h1 3 _) 4 _) 5 _
  have nv : ¬ vb = fb := fun e => by
    rw [e, h1] at h2
    simp at h2
  have nm : ¬ mb = fb := fun e => by
    obtain ⟨D, ⟨es, clock, hq, _⟩, _⟩ := h3.1
    rw [e, h1] at hq
    cases hq
  have v1 := KS.get h2 nv
  have m1 : IsM W1 mb (fun _ => none) := ⟨h3.1.kept KS nm, h3.2⟩
  obtain ⟨O, hO⟩ : ∃ O : Obj, O = .cells (vrow (fun _ => Value.int .u32 0) n) 85 := ⟨_, rfl⟩
  rw [← hO]
  have K3 : Kept (fun _ => False) W1 (((W1.alloc O).alloc O).alloc O).drew := ((((Kept.refl (fun _ => False) W1).alloc O).alloc O).alloc O).drew
  have row : ∀ k, (k = W.heap.size ∨ k = W.heap.size + 1 ∨ k = W.heap.size + 1 + 1) → (((W1.alloc O).alloc O).alloc O).drew.heap[k]? = some (.cells (vrow (u32v fun _ => 0) n) 85 (0, 0)) := by
    intro k hk
    have eO : (.cells (vrow (u32v fun _ => 0) n) 85 (0, 0) : Obj) = O := by rw [hO]; rfl
    rw [eO]
    show (((W1.alloc O).alloc O).alloc O).heap[k]? = some O
    rw [← sz] at hk
    rcases hk with rfl | rfl | rfl
    · exact get_alloc (get_alloc (alloc_new _ _))
    · refine get_alloc ?_
      have : W1.heap.size + 1 = (W1.alloc O).heap.size := by simp
      rw [this]
      exact alloc_new _ _
    · exact three2 _ _ _ _
  have ws := h4.size
  refine ⟨a, b, c, ⟨K3.get b1 (fun z => z), K3.get v1 (fun z => z), row a ha, row b hb, row c hc, ab, ac, bc, m1.k0 K3, n24, fun _ => by show (0 : Nat) < _; omega, fun _ => by show (0 : Nat) < _; omega, fun _ => by show (0 : Nat) < _; omega, by omega⟩, (h4.trans KS (fun k hk z => ?_)).trans K3 (fun _ _ z => z), by omega, by omega, by omega⟩
  have z : k = fb := z
  omega
theorem CmpQ.next {w w' : World} {fb : Nat} {cp : Option Addr} {cc vb ab bb lb mb mw : Nat} {ms : List Cm} {i j : Nat} {mi mj : Cm} (hi : ms[i]? = some mi) (hj : ms[j]? = some mj) (h : CmpQ w w' fb ms.length cp cc vb ab bb lb mb (vP ms ms.length) mw (wA (fdOf ms) i j) (wB (fdOf ms) i j) (wL (fdOf ms) i j) mi mj i j) : NF w' fb ms.length cp cc vb ab bb lb mb (vP ms ms.length) mw (wA (fdOf ms) i (j + 1)) (wB (fdOf ms) i (j + 1)) (wL (fdOf ms) i (j + 1)) ∧ Kept (fun b => b = ab ∨ b = bb ∨ b = lb) w w' := by
  have hil : i < (fdOf ms).n := (List.getElem?_eq_some_iff.1 hi).1
  have hjl : j < (fdOf ms).n := (List.getElem?_eq_some_iff.1 hj).1
  refine ⟨?_, h.2⟩
  have q := h.1
  rw [← fdOf_ahd hi hj, wA_step hil hjl, wB_step hil hjl] at q
  have e : (if (mi.put != mj.put) = true ∧ vP ms ms.length i = vP ms ms.length j then put1 (wL (fdOf ms) i j) i (add (wL (fdOf ms) i j i) j) else wL (fdOf ms) i j) = (if (fdOf ms).alikeB i j = true then put1 (wL (fdOf ms) i j) i (add (wL (fdOf ms) i j i) j) else wL (fdOf ms) i j) := by
    have ev : vP ms ms.length i = vOf ms i := by unfold vP; rw [if_pos (show i < ms.length from hil)]
    have ew : vP ms ms.length j = vOf ms j := by unfold vP; rw [if_pos (show j < ms.length from hjl)]
    have ec : (fdOf ms).alikeB i j = true ↔ ((mi.put != mj.put) = true ∧ vP ms ms.length i = vP ms ms.length j) := by
      rw [fdOf_alike hi hj, Bool.and_eq_true, decide_eq_true_iff, ev, ew]
    by_cases z : (fdOf ms).alikeB i j = true
    · rw [if_pos z, if_pos (ec.1 z)]
    · rw [if_neg z, if_neg (fun y => z (ec.2 y))]
  rw [e, wL_step hil hjl] at q
  exact q
theorem Kept.own {w w' w'' : World} {S : Nat → Prop} (h : Kept (fun _ => False) w w') (k : Kept S w' w'') (hs : ∀ b, S b → w.heap.size ≤ b) : Kept (fun _ => False) w w'' := h.trans k (fun j hj z => by have := hs j z; omega)
/-- What newFinder makes. -/
structure NewQ (ms : List Cm) (cp : Option Addr) (cc : Nat) (w : World) (fb : Nat) (w' : World) : Prop where
  sf : ∃ vb ab bb lb mb, SF w' fb (fdOf ms) ms cp cc vb ab bb lb mb ∧ IsM w' mb (fun _ => none) ∧ w.heap.size ≤ mb
  k : Kept (fun _ => False) w w'
set_option maxRecDepth 100000 in
set_option maxHeartbeats 8000000 in
theorem newFinder {w : World} {cp : Option Addr} {n cc : Nat} {ms : List Cm} (cr : CRd w cp n cc ms) (n24 : n ≤ 24) : Calls Try.prog 46 #[.slice cp n cc] w fun o w' => ∃ fb, o = .returned (.pointer (some ⟨fb, 0, none⟩)) ∧ Hid (NewQ ms cp cc w fb w') := by
  have rm := cr.room
  have sm := cr.small
  unfold maxLen at sm
  have mk := run_makeMap (P := Try.prog) 83 w
  have mA : ∀ W : World, (Instr.makeSlice 22 (.int .i64 (n : Int)) (.int .i64 (n : Int))).run Try.prog W = .ok (.slice (some ⟨W.heap.size, 0, none⟩) n n) (W.alloc (.cells (madeCells #[.int .i64 0] n) 3)) := run_make_row' 22 3 (.int .i64 0) 8 Try.underlying22 Try.info3c rfl .i64 .i64 n (by omega) (by omega)
  have mB : ∀ W : World, (Instr.makeSlice 86 (.int .i64 (n : Int)) (.int .i64 (n : Int))).run Try.prog W = .ok (.slice (some ⟨W.heap.size, 0, none⟩) n n) (W.alloc (.cells (madeCells #[.int .u32 0] n) 85)) := run_make_row' 86 85 (.int .u32 0) 4 Try.underlying86 u32_info rfl .i64 .i64 n (by omega) (by omega)
  rw [vrow_made] at mA mB
  have H : Hid (CRd w cp n cc ms ∧ n ≤ 24) := ⟨cr, n24⟩
  clear cr
  go_enter Try.func46, Try.ntmps46
  go_upto_region 3 with fail
  obtain ⟨W, hW⟩ : ∃ W, W = (((w.alloc (.map #[] 0)).alloc (.cells #[.slice cp n cc, .slice (some ⟨w.heap.size + 1 + 1, 0, none⟩) n n, .int .u32 0, .slice none 0 0, .slice none 0 0, .slice none 0 0, .map (some w.heap.size)] 88)).alloc (.cells (vrow (fun _ => Value.int .i64 0) n) 3)) := ⟨_, rfl⟩
  obtain ⟨vb, hvb⟩ : ∃ vb, vb = w.heap.size + 1 + 1 := ⟨_, rfl⟩
  obtain ⟨fb, hfb⟩ : ∃ fb, fb = w.heap.size + 1 := ⟨_, rfl⟩
  obtain ⟨mb, hmb⟩ : ∃ mb, mb = w.heap.size := ⟨_, rfl⟩
  have J : Hid (W.heap[fb]? = some (.cells #[.slice cp n cc, .slice (some ⟨vb, 0, none⟩) n n, .int .u32 0, .slice none 0 0, .slice none 0 0, .slice none 0 0, .map (some mb)] 88 (0, 0)) ∧ W.heap[vb]? = some (.cells (vrow (fun _ => Value.int .i64 0) n) 3 (0, 0)) ∧ IsM W mb (fun _ => none) ∧ Kept (fun _ => False) w W ∧ w.heap.size ≤ mb ∧ fb < W.heap.size ∧ w.heap.size ≤ fb) := by
    have K1 : Kept (fun _ => False) w (w.alloc (.map #[] 0)) := (Kept.refl _ _).alloc _
    have K : Kept (fun _ => False) w W := by rw [hW]; exact (K1.alloc _).alloc _
    have c1 : W.heap[fb]? = some (.cells #[.slice cp n cc, .slice (some ⟨vb, 0, none⟩) n n, .int .u32 0, .slice none 0 0, .slice none 0 0, .slice none 0 0, .map (some mb)] 88 (0, 0)) := by
      rw [hW, hvb, hfb, hmb]
      exact get_alloc (alloc_new2 _ _ _ _)
    have im : IsM (w.alloc (.map #[] 0)) mb (fun _ => none) := by
      refine ⟨?_, fun k z => absurd rfl z⟩
      rw [hmb, cntM_none]
      exact TM.made w
    refine ⟨c1, ?_, ?_, K, by omega, block_lt c1, by omega⟩
    · rw [hW, hvb]
      exact three2 _ _ _ _
    · have K2 : Kept (fun _ => False) (w.alloc (.map #[] 0)) W := by rw [hW]; exact ((Kept.refl _ _).alloc _).alloc _
      exact im.k0 K2
  rw [← hW, ← hvb, ← hfb]
  have VB : Hid (w.heap.size ≤ vb) := by show w.heap.size ≤ vb; omega
  clear hW hvb hfb hmb mk mA
  have f3 := cell_blk J.out.1 3 (v := .slice none 0 0) rfl
  have f4 := cell_blk J.out.1 4 (v := .slice none 0 0) rfl
  have f5 := cell_blk J.out.1 5 (v := .slice none 0 0) rfl
  have z3 := soft_blk J.out.1 3
  have z4 := soft_blk J.out.1 4
  have z5 := soft_blk J.out.1 5
  have lf := J.out.2.2.2.2.2.1
  have n0 : ¬ fb = W.heap.size := by omega
  have n1 : ¬ fb = W.heap.size + 1 := by omega
  have n2 : ¬ fb = W.heap.size + 1 + 1 := by omega
  have n3 : ¬ fb = W.heap.size + 2 := by omega
  have l1 : fb < W.heap.size + 1 := by omega
  have l2 : fb < W.heap.size + 1 + 1 := by omega
  have l3 : fb < W.heap.size + 2 := by omega
  have l4 : fb < W.heap.size + 1 + 1 + 1 := by omega
  go_cut [3] from 18 to 35 (fun x wc => x = .pointer (some ⟨fb, 0, none⟩) ∧ Hid (∃ ab bb lb, NF wc fb n cp cc vb ab bb lb mb (fun _ => 0) 0 (fun _ => 0) (fun _ => 0) (fun _ => 0) ∧ Kept (fun _ => False) w wc ∧ w.heap.size ≤ ab ∧ w.heap.size ≤ bb ∧ w.heap.size ≤ lb))
  case first =>
    go_region
    all_goals go_wp2_with fail
    all_goals go_meet
    all_goals exact ⟨rfl, start6 J.out.1 J.out.2.1 J.out.2.2.1 J.out.2.2.2.1 J.out.2.2.2.2.2.2 n24 _ _ _ (by omega) (by omega) (by omega) (by omega) (by omega) (by omega)⟩
  case rest =>
  clear f3 f4 f5 z3 z4 z5 lf n0 n1 n2 n3 l1 l2 l3 l4 mB
  obtain ⟨rfl, Q⟩ := hcut
  obtain ⟨ab, bb, lb, QQ⟩ := Q.out
  have en : ms.length = n := H.out.1.len
  subst en
  have LO : Hid (w.heap.size ≤ fb ∧ w.heap.size ≤ vb ∧ w.heap.size ≤ ab ∧ w.heap.size ≤ bb ∧ w.heap.size ≤ lb ∧ w.heap.size ≤ mb) := by
    have h1 := J.out.2.2.2.2.2.2
    have h2 := J.out.2.2.2.2.1
    exact ⟨h1, VB.out, QQ.2.2.1, QQ.2.2.2.1, QQ.2.2.2.2, h2⟩
  have S0 : Hid (NF wc fb ms.length cp cc vb ab bb lb mb (vP ms 0) (mP (fdOf ms) 0) (wA (fdOf ms) 0 0) (wB (fdOf ms) 0 0) (wL (fdOf ms) 0 0) ∧ Kept (fun _ => False) w wc) := by
    obtain ⟨z1, z2, z3⟩ := w_zero (fdOf ms)
    rw [z1, z2, z3]
    have e : vP ms 0 = fun _ => 0 := by funext j; unfold vP; rw [if_neg (by omega)]
    rw [e]
    exact ⟨QQ.1, QQ.2.1⟩
  clear QQ Q J VB
  go_wp2_with fail
  go_loopw [4, 5, 38] (fun _ _ u38 wr => ∃ (i : Nat), u38 = .int .i64 (i : Int) ∧ i ≤ ms.length ∧ Hid (NF wr fb ms.length cp cc vb ab bb lb mb (vP ms i) (mP (fdOf ms) i) (wA (fdOf ms) 0 0) (wB (fdOf ms) 0 0) (wL (fdOf ms) 0 0) ∧ Kept (fun _ => False) w wr)) (fun _ _ u38 _ => ms.length - (intOf u38).toNat)
  case atStart => exact ⟨0, rfl, Nat.zero_le _, S0⟩
  case round =>
    obtain ⟨i, rfl, hi, S⟩ := hrel
    clear S0
    obtain ⟨wo, hwo⟩ : ∃ wo, wo = wr := ⟨_, rfl⟩
    rw [← hwo] at S ⊢
    clear hwo
    by_cases hlt : i < ms.length
    · have i1 : (i : Int) < (ms.length : Int) := by omega
      have i0 : (0 : Int) ≤ (i : Int) := by omega
      have cr := H.out.1.k0 S.out.2
      obtain ⟨b, off, m, rfl, hm, c0, c1, c2, c3, c4, c5, c6, c7, c8, c9, c10, _⟩ := cr.at hlt
      obtain ⟨W, hW⟩ : ∃ W, W = wo.alloc (.cells #[.int .i64 m.client, .int .i64 m.op, .bool m.put, .string m.key, .slice m.va m.vn m.vc, .int .i64 m.st, .int .i64 m.frm, .int .i64 m.to, .bool m.opn, .int .i64 m.tx, .int .i64 m.ty] 38) := ⟨_, rfl⟩
      obtain ⟨CB, hCB⟩ : ∃ CB, CB = wo.heap.size := ⟨_, rfl⟩
      have J : Hid (W.heap[CB]? = some (.cells m.cs 38 (0, 0)) ∧ Kept (fun _ => False) w W ∧ NF W fb ms.length (some ⟨b, off, none⟩) cc vb ab bb lb mb (vP ms i) (mP (fdOf ms) i) (wA (fdOf ms) 0 0) (wB (fdOf ms) 0 0) (wL (fdOf ms) 0 0) ∧ CRd W (some ⟨b, off, none⟩) ms.length cc ms ∧ ms[i]? = some m) := by
        have K : Kept (fun _ => False) wo W := by rw [hW]; exact (Kept.refl _ _).alloc _
        refine ⟨?_, S.out.2.trans K (fun _ _ z => z), S.out.1.k0 K, cr.k0 K, hm⟩
        rw [hW, hCB]
        exact alloc_new _ _
      have EW : Hid (W = wo.alloc (.cells #[.int .i64 m.client, .int .i64 m.op, .bool m.put, .string m.key, .slice m.va m.vn m.vc, .int .i64 m.st, .int .i64 m.frm, .int .i64 m.to, .bool m.opn, .int .i64 m.tx, .int .i64 m.ty] 38) ∧ CB = wo.heap.size) := ⟨hW, hCB⟩
      clear hW hCB cr hm
      go_upto_region 7 with fail
      rw [← EW.out.1, ← EW.out.2]
      clear c0 c1 c2 c3 c4 c5 c6 c7 c8 c9 c10 EW S
      have f1 := cell_blk J.out.2.2.1.blk 1 (v := .slice (some ⟨vb, 0, none⟩) ms.length ms.length) rfl
      obtain ⟨x, hx⟩ : ∃ x, x = vOf ms i := ⟨_, rfl⟩
      have CV : Hid (∀ V, Kept (fun _ => False) W V → Calls Try.prog 73 #[.slice (some ⟨b, off, none⟩) ms.length cc, .int .i64 (i : Int)] V fun o w' => o = .returned (.int .i64 x) ∧ Kept (fun _ => False) V w') := by
        intro V kv
        rw [hx]
        exact valueOf (J.out.2.2.2.1.k0 kv) hlt
      have HX : Hid (x = vOf ms i) := hx
      have nvf : ¬ vb = fb := fun z => J.out.2.2.1.nvb.1 z.symm
      have nfv : ¬ fb = vb := J.out.2.2.1.nvb.1
      have ST : Hid (Kept (fun _ => False) W W.drew) := (Kept.refl _ _).drew
      clear hx
      go_region_held3 (fun V => V.cell? ⟨fb, 1, none⟩ = some (.slice (some ⟨vb, 0, none⟩) ms.length ms.length)) (first | go_keep)
        (first
          | (go_at_call 73; refine (CV.out _ ST.out).mono ?_; rintro o w2 ⟨rfl, K2'⟩
             have K2 : Hid (Kept (fun _ => False) W w2) := ST.out.trans K2' (fun _ _ z => z)
             have f1 := K2'.cell f1 (fun z => z)
             have v9 := cell_blk (J.out.2.2.1.k0 K2.out).hv i (vrow_get _ hlt)
             have z9 := soft_blk (J.out.2.2.1.k0 K2.out).hv i
             clear K2')
          | fail)
      obtain ⟨W3, hW3⟩ : ∃ W3, W3 = w2.setCell ⟨vb, i, none⟩ (.int .i64 x) := ⟨_, rfl⟩
      have J3 : Hid (W3.heap[CB]? = some (.cells m.cs 38 (0, 0)) ∧ Kept (fun _ => False) w W3 ∧ NF W3 fb ms.length (some ⟨b, off, none⟩) cc vb ab bb lb mb (vP ms (i + 1)) (mP (fdOf ms) i) (wA (fdOf ms) 0 0) (wB (fdOf ms) 0 0) (wL (fdOf ms) 0 0) ∧ (fdOf ms).opn i = (m.put && m.opn)) := by
        have KS := keptSet w2 vb i (.int .i64 x)
        have N2 := J.out.2.2.1.k0 K2.out
        have cb2 := K2.out.get J.out.1 (fun z => z)
        rw [hW3]
        refine ⟨KS.get cb2 (fun z => ?_), Kept.own (J.out.2.1.trans K2.out (fun _ _ z => z)) KS (fun b z => ?_), ?_, ?_⟩
        · have z : CB = vb := z
          rw [z, N2.hv] at cb2
          simp at cb2
        · have z : b = vb := z
          rw [z]
          exact LO.out.2.1
        · rw [← vP_step, ← HX.out]
          exact N2.setV i x
        · show ((ms[i]?).map fun m => m.put && m.opn).getD false = (m.put && m.opn)
          rw [J.out.2.2.2.2]
          rfl
      rw [← hW3]
      clear hW3 f1 v9 z9 CV ST K2 nvf nfv J HX
      obtain ⟨op, hop⟩ : ∃ op, (m.put && m.opn) = op := ⟨_, rfl⟩
      have CO : Hid (Calls Try.prog 74 #[.agg #[.int .i64 m.client, .int .i64 m.op, .bool m.put, .string m.key, .slice m.va m.vn m.vc, .int .i64 m.st, .int .i64 m.frm, .int .i64 m.to, .bool m.opn, .int .i64 m.tx, .int .i64 m.ty]] W3 fun o w' => o = .returned (.bool op) ∧ Kept (fun _ => False) W3 w') := by
        rw [← hop]
        exact isOpen m W3
      have HO : Hid ((fdOf ms).opn i = op) := by
        show (fdOf ms).opn i = op
        rw [← hop]
        exact J3.out.2.2.2
      have c0 := cell_blk J3.out.1 0 (v := .int .i64 m.client) rfl
      have c1 := cell_blk J3.out.1 1 (v := .int .i64 m.op) rfl
      have c2 := cell_blk J3.out.1 2 (v := .bool m.put) rfl
      have c3 := cell_blk J3.out.1 3 (v := .string m.key) rfl
      have c4 := cell_blk J3.out.1 4 (v := .slice m.va m.vn m.vc) rfl
      have c5 := cell_blk J3.out.1 5 (v := .int .i64 m.st) rfl
      have c6 := cell_blk J3.out.1 6 (v := .int .i64 m.frm) rfl
      have c7 := cell_blk J3.out.1 7 (v := .int .i64 m.to) rfl
      have c8 := cell_blk J3.out.1 8 (v := .bool m.opn) rfl
      have c9 := cell_blk J3.out.1 9 (v := .int .i64 m.tx) rfl
      have c10 := cell_blk J3.out.1 10 (v := .int .i64 m.ty) rfl
      clear hop
      go_wp2_with fail
      refine CO.out.mono ?_
      rintro o w4 ⟨rfl, K4⟩
      have J4 : Hid (Kept (fun _ => False) w w4 ∧ NF w4 fb ms.length (some ⟨b, off, none⟩) cc vb ab bb lb mb (vP ms (i + 1)) (mP (fdOf ms) i) (wA (fdOf ms) 0 0) (wB (fdOf ms) 0 0) (wL (fdOf ms) 0 0)) := ⟨J3.out.2.1.trans K4 (fun _ _ z => z), J3.out.2.2.1.k0 K4⟩
      clear K4 CO c0 c1 c2 c3 c4 c5 c6 c7 c8 c9 c10 J3
      cases op
      · have f2 := cell_blk J4.out.2.blk 2 (v := .int .u32 ((mP (fdOf ms) i : Nat) : Int)) rfl
        have z2 := soft_blk J4.out.2.blk 2
        obtain ⟨mw, hmw⟩ : ∃ mw, mw = mP (fdOf ms) i := ⟨_, rfl⟩
        rw [← hmw] at f2
        have lmw : mw < 16777216 := by rw [hmw]; exact J4.out.2.lm
        obtain ⟨q, hq⟩ : ∃ q : Nat, q = 2 ^ i := ⟨_, rfl⟩
        have p2 : (2 : Int) ^ i % 4294967296 = (q : Int) := by rw [hq]; exact pow_mod (by omega)
        have p3 : IntKind.u32.wrap ((2 : Int) ^ i) = (q : Int) := by rw [IntKind.wrap_u32]; exact p2
        obtain ⟨ae, hae⟩ : ∃ ae, ae = add mw i := ⟨_, rfl⟩
        have o2 : bits .or .u32 (mw : Int) (q : Int) = (ae : Int) := by
          rw [hq, hae]
          exact or_pow mw i (by omega) (by omega)
        have ae24 : ae < 16777216 := by rw [hae]; exact add_lt (n := 24) (by omega) (by omega)
        have G : Hid (NF ((w4.setCell ⟨fb, 2, none⟩ (.int .u32 (ae : Int))).drew) fb ms.length (some ⟨b, off, none⟩) cc vb ab bb lb mb (vP ms (i + 1)) (mP (fdOf ms) (i + 1)) (wA (fdOf ms) 0 0) (wB (fdOf ms) 0 0) (wL (fdOf ms) 0 0) ∧ Kept (fun _ => False) w ((w4.setCell ⟨fb, 2, none⟩ (.int .u32 (ae : Int))).drew)) := by
          have KS := keptSet w4 fb 2 (.int .u32 (ae : Int))
          have KD : Kept (fun _ => False) (w4.setCell ⟨fb, 2, none⟩ (.int .u32 (ae : Int))) ((w4.setCell ⟨fb, 2, none⟩ (.int .u32 (ae : Int))).drew) := (Kept.refl _ _).drew
          refine ⟨?_, (Kept.own J4.out.1 KS (fun b z => ?_)).trans KD (fun _ _ z => z)⟩
          · have e : mP (fdOf ms) (i + 1) = ae := by
              rw [mP_step, HO.out, if_neg (by decide), hae, hmw]
            rw [e]
            exact (J4.out.2.setM ae ae24).k0 KD
          · have z : b = fb := z
            rw [z]
            exact LO.out.1
        clear hmw hq hae
        go_wp2_with fail
        go_region
        go_wp2_with fail
        go_roundw
        case rel => exact ⟨i + 1, by go_num, by omega, G⟩
        case measure => simp [intOf] <;> omega
      · have G : Hid (NF w4 fb ms.length (some ⟨b, off, none⟩) cc vb ab bb lb mb (vP ms (i + 1)) (mP (fdOf ms) (i + 1)) (wA (fdOf ms) 0 0) (wB (fdOf ms) 0 0) (wL (fdOf ms) 0 0) ∧ Kept (fun _ => False) w w4) := by
          have e : mP (fdOf ms) (i + 1) = mP (fdOf ms) i := by rw [mP_step, HO.out, if_pos rfl]
          rw [e]
          exact ⟨J4.out.2, J4.out.1⟩
        go_wp2_with fail
        go_roundw
        case rel => exact ⟨i + 1, by go_num, by omega, G⟩
        case measure => simp [intOf] <;> omega
    · have i1 : ¬ (i : Int) < (ms.length : Int) := by omega
      have ei : i = ms.length := by omega
      have S2 : Hid (NF wo fb ms.length cp cc vb ab bb lb mb (vP ms ms.length) (mP (fdOf ms) ms.length) (wA (fdOf ms) 0 0) (wB (fdOf ms) 0 0) (wL (fdOf ms) 0 0) ∧ Kept (fun _ => False) w wo) := by
        have := S.out
        rw [ei] at this
        exact this
      clear S ei
      go_wp2_with fail
      go_loopw [6, 7, 67, 72] (fun _ _ u67 _ wr => ∃ (i : Nat), u67 = .int .i64 (i : Int) ∧ i ≤ ms.length ∧ Hid (NF wr fb ms.length cp cc vb ab bb lb mb (vP ms ms.length) (mP (fdOf ms) ms.length) (wA (fdOf ms) i 0) (wB (fdOf ms) i 0) (wL (fdOf ms) i 0) ∧ Kept (fun _ => False) w wr)) (fun _ _ u67 _ _ => ms.length - (intOf u67).toNat)
      case atStart => exact ⟨0, rfl, Nat.zero_le _, S2⟩
      case round =>
        clear hi i1 S2
        obtain ⟨i, rfl, hi, S⟩ := hrel
        obtain ⟨wp, hwp⟩ : ∃ wp, wp = wr := ⟨_, rfl⟩
        rw [← hwp] at S ⊢
        clear hwp
        by_cases hlt : i < ms.length
        · have i1 : (i : Int) < (ms.length : Int) := by omega
          go_wp2_with fail
          go_loopw [7, 72] (fun _ u72 wr => ∃ (j : Nat), u72 = .int .i64 (j : Int) ∧ j ≤ ms.length ∧ Hid (NF wr fb ms.length cp cc vb ab bb lb mb (vP ms ms.length) (mP (fdOf ms) ms.length) (wA (fdOf ms) i j) (wB (fdOf ms) i j) (wL (fdOf ms) i j) ∧ Kept (fun _ => False) w wr)) (fun _ u72 _ => ms.length - (intOf u72).toNat)
          case atStart => exact ⟨0, rfl, Nat.zero_le _, S⟩
          case round =>
            obtain ⟨j, rfl, hj, T⟩ := hrel
            by_cases hjt : j < ms.length
            · have j1 : (j : Int) < (ms.length : Int) := by omega
              have CC : Hid (Calls Try.prog 75 #[.pointer (some ⟨fb, 0, none⟩), .int .i64 (i : Int), .int .i64 (j : Int)] wr fun o w' => o = .returned (.tuple #[]) ∧ Hid (NF w' fb ms.length cp cc vb ab bb lb mb (vP ms ms.length) (mP (fdOf ms) ms.length) (wA (fdOf ms) i (j + 1)) (wB (fdOf ms) i (j + 1)) (wL (fdOf ms) i (j + 1)) ∧ Kept (fun _ => False) w w')) := by
                have ei : ms[i]? = some ms[i] := List.getElem?_eq_getElem hlt
                have ej : ms[j]? = some ms[j] := List.getElem?_eq_getElem hjt
                refine (compare T.out.1 (H.out.1.k0 T.out.2) hlt hjt ei ej).mono ?_
                rintro o w' ⟨rfl, q⟩
                obtain ⟨q1, q2⟩ := CmpQ.next ei ej q
                refine ⟨rfl, q1, Kept.own T.out.2 q2 (fun b z => ?_)⟩
                rcases z with z | z | z
                · rw [z]; exact LO.out.2.2.1
                · rw [z]; exact LO.out.2.2.2.1
                · rw [z]; exact LO.out.2.2.2.2.1
              clear T
              go_wp2_with fail
              refine CC.out.mono ?_
              rintro o w5 ⟨rfl, Q5⟩
              clear CC
              go_wp2_with fail
              go_roundw
              case rel => exact ⟨j + 1, by go_num, by omega, Q5⟩
              case measure => simp [intOf] <;> omega
            · have j1 : ¬ (j : Int) < (ms.length : Int) := by omega
              have G : Hid (NF wr fb ms.length cp cc vb ab bb lb mb (vP ms ms.length) (mP (fdOf ms) ms.length) (wA (fdOf ms) (i + 1) 0) (wB (fdOf ms) (i + 1) 0) (wL (fdOf ms) (i + 1) 0) ∧ Kept (fun _ => False) w wr) := by
                have ej : j = (fdOf ms).n := by show j = ms.length; omega
                have := T.out
                obtain ⟨r1, r2, r3⟩ := w_row (fdOf ms) i
                rw [ej, r1, r2, r3] at this
                exact this
              clear T
              go_wp2_with fail
              go_roundw
              case rel => exact ⟨i + 1, by go_num, by omega, G⟩
              case measure => simp [intOf] <;> omega
        · have i1 : ¬ (i : Int) < (ms.length : Int) := by omega
          have G : Hid (NewQ ms cp cc w fb wp) := by
            have ei : i = ms.length := by omega
            have q := S.out
            rw [ei] at q
            exact ⟨⟨vb, ab, bb, lb, mb, q.1.done (H.out.1.k0 q.2), q.1.im, LO.out.2.2.2.2.2⟩, q.2⟩
          clear S
          go_wp2_with fail
          go_ret
          exact ⟨fb, rfl, G⟩
end Go.Proofs.Ytodmakcklacbfaa
