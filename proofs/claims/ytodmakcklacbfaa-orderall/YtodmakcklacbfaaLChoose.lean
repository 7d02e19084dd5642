import Derived.Test.YtodmakcklacbfaaLChoiceJ
namespace Go.Proofs.Ytodmakcklacbfaa
open Go.RowKit 

structure CH (f : Fd) (d i : Nat) (R : List Nat) : Prop where
  may : ∀ r ∈ R, f.put r = true ∧ f.May d (-1) r
  cov : ∀ p, p < i → f.put p = true → f.May d (-1) p → (f.opn p = true ∧ f.Mute d (f.val p)) ∨ ∃ q ∈ R, f.val p = f.val q ∧ f.wait p ≤ f.wait q
  few : R.length ≤ i
theorem CH.nil (f : Fd) (d : Nat) : CH f d 0 [] := ⟨fun _ h => (by cases h), fun p h => absurd h (by omega), Nat.le_refl _⟩
theorem CH.skip {f : Fd} {d i : Nat} {R : List Nat} (h : CH f d i R) (no : f.put i = true → f.May d (-1) i → (f.opn i = true ∧ f.Mute d (f.val i)) ∨ ∃ q ∈ R, f.val i = f.val q ∧ f.wait i ≤ f.wait q) : CH f d (i + 1) R := by
  refine ⟨h.may, fun p hp h1 h2 => ?_, by have := h.few; omega⟩
  by_cases e : p = i
  · subst e; exact no h1 h2
  · exact h.cov p (by omega) h1 h2
theorem CH.push {f : Fd} {d i : Nat} {R : List Nat} (h : CH f d i R) (hp : f.put i = true) (hm : f.May d (-1) i) : CH f d (i + 1) (R ++ [i]) := by
  refine ⟨fun r hr => ?_, fun p hp2 h1 h2 => ?_, by rw [List.length_append]; have := h.few; simp; omega⟩
  · rcases List.mem_append.1 hr with z | z
    · exact h.may r z
    · rw [List.mem_singleton.1 z]; exact ⟨hp, hm⟩
  · by_cases e : p = i
    · subst e; exact .inr ⟨p, by simp, rfl, Nat.le_refl _⟩
    · rcases h.cov p (by omega) h1 h2 with z | ⟨q, hq, z⟩
      · exact .inl z
      · exact .inr ⟨q, by simp [hq], z⟩
theorem CH.swap {f : Fd} {d i j r : Nat} {R : List Nat} (h : CH f d i R) (hp : f.put i = true) (hm : f.May d (-1) i) (hj : R[j]? = some r) (hv : f.val r = f.val i) (hw : f.wait r ≤ f.wait i) : CH f d (i + 1) (R.set j i) := by
  obtain ⟨hj1, hj2⟩ := List.getElem?_eq_some_iff.1 hj
  have hmem : i ∈ R.set j i := by
    refine List.mem_of_getElem? (i := j) ?_
    rw [List.getElem?_set_self hj1]
  refine ⟨fun s hs => ?_, fun p hp2 h1 h2 => ?_, by rw [List.length_set]; have := h.few; omega⟩
  · rcases List.mem_or_eq_of_mem_set hs with z | z
    · exact h.may s z
    · rw [z]; exact ⟨hp, hm⟩
  · by_cases e : p = i
    · subst e; exact .inr ⟨p, hmem, rfl, Nat.le_refl _⟩
    · rcases h.cov p (by omega) h1 h2 with z | ⟨q, hq, z1, z2⟩
      · exact .inl z
      · by_cases er : q = r
        · subst er
          exact .inr ⟨i, hmem, z1.trans hv, Nat.le_trans z2 hw⟩
        · obtain ⟨t, ht, et⟩ := List.getElem_of_mem hq
          refine .inr ⟨q, ?_, z1, z2⟩
          have tj : j ≠ t := fun z => by subst z; rw [et] at hj2; exact er hj2
          refine List.mem_of_getElem? (i := t) ?_
          rw [List.getElem?_set_ne tj, List.getElem?_eq_getElem ht, et]
theorem CH.done {f : Fd} {d : Nat} {R : List Nat} (h : CH f d f.n R) : Choice f d R := ⟨h.may, .inr fun p h1 h2 => h.cov p h2.1 h1 h2⟩
theorem mute_of {f : Fd} {d i : Nat} (hp : f.put i = true) (h : f.alikeW i &&& d = f.alikeW i) : f.Mute d (f.val i) := by
  intro g h1 h2 h3
  refine alike_sub.1 h g h1 ?_
  unfold Fd.alikeB
  rw [hp, h2, h3, decide_eq_true rfl]
  rfl
theorem Try.info3c : (Try.prog.info? 3).map (fun i => (i.zero, i.size, i.bytes)) = some (some (.int .i64 0), 1, 8) := by kernel_rfl
theorem src_one {w : World} {b i : Nat} (h : w.heap[b]? = some (.cells #[.int .i64 (i : Int)] 3 (0, 0))) : Src Try.prog 1 22 (.slice (some ⟨b, 0, none⟩) 1 1) 1 (intsN [i]) w :=
  Src.ofSlice w Try.underlying22 ⟨b, 0, none⟩ 1 1 (intsN [i]) rfl (fun j u hj => by
    rw [Addr.add_none, Nat.zero_add]
    refine cell_blk h j ?_
    have hj : ([Value.int .i64 (i : Int)] : List Value)[j]? = some u := hj
    simpa using hj) (fun v hv => by simp [intsN] at hv; rw [hv]; rfl)
theorem NRow.more {b0 : Nat} {w wi w9 : World} {p p9 : Option Addr} {k c c9 i : Nat} {R : List Nat} {o : Obj} (h : NRow b0 w p k c R) (ho : w9.ownsRow b0 3 1 (.slice p9 (k + 1) c9) (k + 1) (intsN R ++ intsN [i])) (e : wi = w.alloc o) (hg : wi.grownBy w9 (Value.slice p k c).ownBlock) {w0 : World} (K : Kept (fun _ => False) w0 w) (hb : w0.heap.size ≤ b0) : NRow b0 w9 p9 (k + 1) c9 (R ++ [i]) ∧ Kept (fun _ => False) w0 w9 := by
  have KG : Kept (fun j => blockOf p = some j) w w9 := by
    rw [e] at hg
    exact ((Kept.refl (fun j => blockOf p = some j) w).alloc _).grown hg (fun j _ z => by rw [blockOf_own] at z; exact z)
  refine ⟨⟨by rw [List.length_append, h.len]; rfl, by rw [intsN_append]; exact ho⟩, K.trans KG (fun j hj z => ?_)⟩
  have := (own_lt h.row j z).1
  omega
theorem NRow.store {b0 g : Nat} {w : World} {k c i j : Nat} {R : List Nat} (h : NRow b0 w (some ⟨g, 0, none⟩) k c R) {w0 : World} (K : Kept (fun _ => False) w0 w) (hb : w0.heap.size ≤ b0) : NRow b0 (w.setCell ⟨g, j, none⟩ (.int .i64 (i : Int))) (some ⟨g, 0, none⟩) k c (R.set j i) ∧ Kept (fun _ => False) w0 (w.setCell ⟨g, j, none⟩ (.int .i64 (i : Int))) := by
  refine ⟨⟨by rw [List.length_set]; exact h.len, ?_⟩, K.setCell (p := ⟨g, j, none⟩) (fun z => ?_) _⟩
  · have e : intsN (R.set j i) = (intsN R).set j (.int .i64 (i : Int)) := by unfold intsN; rw [List.map_set]
    rw [e]
    exact (h.row.stored _ _).1
  · have := (own_lt h.row g rfl).1
    have z : g < w0.heap.size := z
    omega
theorem own_one {b0 : Nat} {w : World} {i : Nat} (hb : b0 ≤ w.heap.size) : (w.alloc (.cells #[.int .i64 (i : Int)] 3)).ownsRow b0 3 1 (.slice (some ⟨w.heap.size, 0, none⟩) 1 1) 1 (intsN [i]) :=
  ⟨rfl, .inr ⟨w.heap.size, 1, #[.int .i64 (i : Int)], rfl, hb, heap_alloc_new _ _, Nat.le_refl _, by unfold maxLen; omega, rfl, rfl⟩⟩
/-- What choices answers. -/
structure ChQ (f : Fd) (d : Nat) (w w' : World) (p : Option Addr) (k c : Nat) (R : List Nat) : Prop where
  row : NRow w.heap.size w' p k c R
  ch : Choice f d R
  few : k ≤ 24
  kept : Kept (fun _ => False) w w'
set_option maxRecDepth 100000 in
set_option maxHeartbeats 8000000 in
theorem choices {w : World} {fb : Nat} {f : Fd} {ms : List Cm} {cp : Option Addr} {cc vb ab bb lb mb : Nat} (h : SF w fb f ms cp cc vb ab bb lb mb) (d : Nat) (hd : d < 2 ^ f.n) :
    Calls Try.prog 105 #[.pointer (some ⟨fb, 0, none⟩), .int .u32 (d : Int)] w fun o w' => ∃ p k c, o = .returned (.slice p k c) ∧ Hid (∃ R, ChQ f d w w' p k c R) := by
  have n24 := h.n24
  have d24 := lt32 hd n24
  have rm := h.cr.room
  have sm := h.cr.small
  unfold maxLen at sm
  obtain ⟨W0, hW0⟩ : ∃ W0, W0 = w.alloc (.cells #[.pointer (some ⟨fb, 0, none⟩)] 65) := ⟨_, rfl⟩
  obtain ⟨FB, hFB⟩ : ∃ FB, FB = w.heap.size := ⟨_, rfl⟩
  have H : Hid (SF W0 fb f ms cp cc vb ab bb lb mb ∧ d < 2 ^ f.n ∧ W0.heap[FB]? = some (.cells #[.pointer (some ⟨fb, 0, none⟩)] 65 (0, 0)) ∧ Kept (fun _ => False) w W0 ∧ W0 = w.alloc (.cells #[.pointer (some ⟨fb, 0, none⟩)] 65) ∧ FB = w.heap.size) := by
    have K : Kept (fun _ => False) w W0 := by rw [hW0]; exact (Kept.refl _ _).alloc _
    exact ⟨h.k0 K, hd, by rw [hW0, hFB]; exact heap_alloc_new _ _, K, hW0, hFB⟩
  have f0 := cell_blk H.out.1.blk 0 (v := .slice cp f.n cc) rfl
  obtain ⟨n, hn⟩ : ∃ n, n = f.n := ⟨_, rfl⟩
  rw [← hn] at f0 n24 rm
  have HN : Hid (n = f.n) := hn
  have S0 : Hid (NRow W0.heap.size W0 none 0 0 [] ∧ CH f d 0 [] ∧ Kept (fun _ => False) W0 W0) := ⟨⟨rfl, ⟨rfl, .inl ⟨rfl, rfl⟩⟩⟩, CH.nil f d, Kept.refl _ _⟩
  clear h hd hn hW0 hFB
  have b0 := cell_blk H.out.2.2.1 0 (v := .pointer (some ⟨fb, 0, none⟩)) rfl
  go_enter Try.func105, Try.ntmps105
  go_upto_region 1 with fail
  rw [← H.out.2.2.2.2.1, ← H.out.2.2.2.2.2]
  go_wp2_with fail
  go_loopw [5, 6, 7, 8, 14] (fun u5 _ _ _ u14 wr => ∃ (i k c : Nat) (p : Option Addr) (R : List Nat), u5 = .slice p k c ∧ u14 = .int .i64 (i : Int) ∧ i ≤ n ∧ Hid (NRow W0.heap.size wr p k c R ∧ CH f d i R ∧ Kept (fun _ => False) W0 wr)) (fun _ _ _ _ u14 _ => n - (intOf u14).toNat)
  case atStart => exact ⟨0, 0, 0, none, [], rfl, rfl, Nat.zero_le _, S0⟩
  case round =>
    obtain ⟨i, k, c, p, R, rfl, rfl, hi, S⟩ := hrel
    clear S0
    by_cases hlt : i < n
    · have i1 : (i : Int) < (n : Int) := by omega
      have i0 : (0 : Int) ≤ (i : Int) := by omega
      have sf := H.out.1.k0 S.out.2.2
      have cr := sf.cr
      rw [← HN.out] at cr
      obtain ⟨b, off, m, rfl, hm, c0, c1, c2, c3, c4, c5, c6, c7, c8, c9, c10, _⟩ := cr.at hlt
      obtain ⟨W, hW⟩ : ∃ W, W = (wr.alloc (.cells #[.int .i64 (i : Int)] 3)).alloc (.cells #[.int .i64 m.client, .int .i64 m.op, .bool m.put, .string m.key, .slice m.va m.vn m.vc, .int .i64 m.st, .int .i64 m.frm, .int .i64 m.to, .bool m.opn, .int .i64 m.tx, .int .i64 m.ty] 38) := ⟨_, rfl⟩
      obtain ⟨IB, hIB⟩ : ∃ IB, IB = wr.heap.size := ⟨_, rfl⟩
      obtain ⟨CB, hCB⟩ : ∃ CB, CB = wr.heap.size + 1 := ⟨_, rfl⟩
      have J : Hid (W.heap[IB]? = some (.cells #[.int .i64 (i : Int)] 3 (0, 0)) ∧ W.heap[CB]? = some (.cells m.cs 38 (0, 0)) ∧ Kept (fun _ => False) wr W ∧ i < f.n ∧ f.put i = m.put ∧ f.opn i = (m.put && m.opn) ∧ SF W fb f ms (some ⟨b, off, none⟩) cc vb ab bb lb mb ∧ Kept (fun _ => False) W0 W ∧ W.heap[FB]? = some (.cells #[.pointer (some ⟨fb, 0, none⟩)] 65 (0, 0))) := by
        have K1 : Kept (fun _ => False) wr (wr.alloc (.cells #[.int .i64 (i : Int)] 3)) := (Kept.refl _ _).alloc _
        have K : Kept (fun _ => False) wr W := by rw [hW]; exact K1.alloc _
        have KK : Kept (fun _ => False) W0 W := S.out.2.2.trans K (fun _ _ z => z.elim)
        refine ⟨?_, ?_, K, by rw [← HN.out]; exact hlt, sf.put i m hm, sf.opn i m hm, sf.k0 K, KK, KK.get H.out.2.2.1 (fun z => z)⟩
        · rw [hW, hIB]; exact ((Kept.refl (fun _ => False) _).alloc _).get (heap_alloc_new _ _) (fun z => z)
        · rw [hW, hCB]; exact alloc_new2 _ _ _ _
      have EW : Hid (W = (wr.alloc (.cells #[.int .i64 (i : Int)] 3)).alloc (.cells #[.int .i64 m.client, .int .i64 m.op, .bool m.put, .string m.key, .slice m.va m.vn m.vc, .int .i64 m.st, .int .i64 m.frm, .int .i64 m.to, .bool m.opn, .int .i64 m.tx, .int .i64 m.ty] 38) ∧ IB = wr.heap.size ∧ CB = wr.heap.size + 1) := ⟨hW, hIB, hCB⟩
      clear sf cr hm hW hIB hCB
      go_upto_region 5 with fail
      rw [← EW.out.1, ← EW.out.2.2, ← EW.out.2.1]
      clear c0 c1 c2 c3 c4 c5 c6 c7 c8 c9 c10 EW
      have x0 := cell_blk J.out.1 0 (v := .int .i64 (i : Int)) rfl
      have g2 := cell_blk J.out.2.1 2 (v := .bool m.put) rfl
      have g8 := cell_blk J.out.2.1 8 (v := .bool m.opn) rfl
      have z0 := cell_blk J.out.2.2.2.2.2.2.2.2 0 (v := .pointer (some ⟨fb, 0, none⟩)) rfl
      obtain ⟨mp, hmp⟩ : ∃ mp, m.put = mp := ⟨_, rfl⟩
      obtain ⟨mo, hmo⟩ : ∃ mo, m.opn = mo := ⟨_, rfl⟩
      rw [hmp] at g2
      rw [hmo] at g8
      have PE : Hid (f.put i = mp ∧ f.opn i = (mp && mo)) := by rw [← hmp, ← hmo]; exact ⟨J.out.2.2.2.2.1, J.out.2.2.2.2.2.1⟩
      clear hmp hmo
      have T : Hid (NRow W0.heap.size W p k c R ∧ CH f d i R ∧ Kept (fun _ => False) W0 W) := ⟨S.out.1.k0 J.out.2.2.1, S.out.2.1, J.out.2.2.2.2.2.2.2.1⟩
      cases mp
      · go_wp2_with fail
        go_roundw
        case rel => exact ⟨i + 1, k, c, p, R, rfl, by go_num, by omega, T.out.1, T.out.2.1.skip (fun z => by rw [PE.out.1] at z; cases z), T.out.2.2⟩
        case measure => simp [intOf] <;> omega
      · obtain ⟨r, hr⟩ : ∃ r, f.mayB d (-1) i = r := ⟨_, rfl⟩
        have CM : Hid (Calls Try.prog 89 #[.pointer (some ⟨fb, 0, none⟩), .int .u32 (d : Int), .int .i64 (-1), .int .i64 (i : Int)] W fun o w' => o = .returned (.bool r) ∧ w' = W) := mayFollow J.out.2.2.2.2.2.2.1 d (-1) i H.out.2.1 J.out.2.2.2.1 hr
        have HR : Hid (f.mayB d (-1) i = r) := hr
        clear hr
        go_wp2_with fail
        refine CM.out.mono ?_
        rintro o w2 ⟨rfl, e2⟩
        rw [e2]
        clear CM e2
        cases r
        · go_wp2_with fail
          go_roundw
          case rel =>
            refine ⟨i + 1, k, c, p, R, rfl, by go_num, by omega, T.out.1, T.out.2.1.skip (fun _ z => ?_), T.out.2.2⟩
            rw [(mayB_iff J.out.2.2.2.1).2 z] at HR
            cases HR.out
          case measure => simp [intOf] <;> omega
        · have f5 := cell_blk J.out.2.2.2.2.2.2.1.blk 5 (v := .slice (some ⟨lb, 0, none⟩) f.n f.n) rfl
          rw [← HN.out] at f5
          have a1 := J.out.2.2.2.2.2.2.1.alk i J.out.2.2.2.1
          obtain ⟨aw, haw⟩ : ∃ aw, aw = f.alikeW i := ⟨_, rfl⟩
          rw [← haw] at a1
          have aw24 : aw < 16777216 := by rw [haw]; exact lt32 (wrd_lt _ _) H.out.1.n24
          obtain ⟨t3, ht3⟩ : ∃ t3, t3 = decide (aw &&& d = aw) := ⟨_, rfl⟩
          have b3 : (bits .andNot .u32 (aw : Int) (d : Int) == 0) = t3 := by rw [ht3]; exact u32_andNot_nat aw d (by omega) (by omega)
          have MU : Hid (t3 = true → f.Mute d (f.val i)) := by
            intro z
            rw [z] at ht3
            have ht3 := of_decide_eq_true ht3.symm
            rw [haw] at ht3
            exact mute_of PE.out.1 ht3
          have MY : Hid (f.May d (-1) i) := (mayB_iff J.out.2.2.2.1).1 HR.out
          clear haw ht3
          go_upto_region 6 with fail
          go_quiet (fail)
          obtain ⟨W3, hW3⟩ : ∃ W3, W3 = W.drewN nq := ⟨_, rfl⟩
          have K3 : Hid (Kept (fun _ => False) W W3) := by rw [hW3]; exact (Kept.refl _ _).drewN _
          rw [← hW3]
          clear hW3 a1 b3 f5
          replace x0 := K3.out.cell x0 (fun z => z)
          replace g8 := K3.out.cell g8 (fun z => z)
          replace z0 := K3.out.cell z0 (fun z => z)
          clear g2
          have T3 : Hid (NRow W0.heap.size W3 p k c R ∧ CH f d i R ∧ Kept (fun _ => False) W0 W3) := ⟨T.out.1.k0 K3.out, T.out.2.1, T.out.2.2.trans K3.out (fun _ _ z => z.elim)⟩
          cases t3
          · have CI : Hid (Calls Try.prog 64 #[.slice p k c, .func (.func 112) #[] #[.pointer (some ⟨FB, 0, none⟩), .pointer (some ⟨IB, 0, none⟩)]] W3 fun o w' => ∃ a : Int, o = .returned (.int .i64 a) ∧ Hid (AtP f R i a ∧ Kept (fun _ => False) W3 w')) := indexFunc (J.out.2.2.2.2.2.2.1.k0 K3.out) i J.out.2.2.2.1 z0 x0 T3.out.1 (fun r hr => (T3.out.2.1.may r hr).2.1)
            go_wp2_with fail
            refine CI.out.mono ?_
            rintro o w4 ⟨a, rfl, Q4⟩
            have T4 : Hid (NRow W0.heap.size w4 p k c R ∧ CH f d i R ∧ Kept (fun _ => False) W0 w4) := ⟨T3.out.1.k0 Q4.out.2, T3.out.2.1, T3.out.2.2.trans Q4.out.2 (fun _ _ z => z.elim)⟩
            replace x0 := Q4.out.2.cell x0 (fun z => z)
            replace z0 := Q4.out.2.cell z0 (fun z => z)
            have SF4 : Hid (SF w4 fb f ms (some ⟨b, off, none⟩) cc vb ab bb lb mb) := (J.out.2.2.2.2.2.2.1.k0 K3.out).k0 Q4.out.2
            clear CI g8
            rcases Q4.out.1 with ⟨ea, no⟩ | ⟨j, r, ea, hj, hv⟩
            · subst ea
              clear Q4 no
              have BL : Hid (k + 1 ≤ maxLen ∧ ((k + 1) + (k + 1) / 4 + 192) * 8 ≤ 281474976710656) := by
                have h1 := T4.out.2.1.few
                have h2 := T4.out.1.len
                unfold maxLen
                exact ⟨by omega, by omega⟩
              go_upto_region 14 with
                (first
                  | (at_builtin; refine wpList_append_all _ rfl (.tmp 48) (.tmp 50) 22 3 22 _ 1 8 rfl Try.underlying22 Try.info3c rfl W0.heap.size (.slice p k c) k (intsN R) rfl (((Kept.refl (fun _ => False) w4).alloc _).owns T4.out.1.row (fun _ _ z => z)) _ 1 (intsN [i]) rfl (src_one (heap_alloc_new w4 _)) BL.out.1 BL.out.2 (Nat.le_trans T4.out.2.2.size ((Kept.refl (fun _ => False) w4).alloc _).size) ?_; intro p9 c9 w9 ho hg hn
                     have T9 : Hid (NRow W0.heap.size w9 p9 (k + 1) c9 (R ++ [i]) ∧ CH f d (i + 1) (R ++ [i]) ∧ Kept (fun _ => False) W0 w9) := by
                       obtain ⟨q1, q2⟩ := T4.out.1.more ho.out rfl hg.out T4.out.2.2 (Nat.le_refl _)
                       exact ⟨q1, T4.out.2.1.push PE.out.1 MY.out, q2⟩
                     clear ho hg hn)
                  | fail)
              clear x0 z0
              go_wp2_with fail
              go_roundw
              case rel => exact ⟨i + 1, k + 1, c9, p9, R ++ [i], rfl, by go_num, by omega, T9⟩
              case measure => simp [intOf] <;> omega
            · subst ea
              have hjk : j < k := by
                have := (List.getElem?_eq_some_iff.1 hj).1
                rw [T4.out.1.len] at this
                exact this
              have rm4 := own_room T4.out.1.row
              unfold maxLen at rm4
              obtain ⟨rm5, rm6⟩ := rm4
              obtain ⟨g, r', rfl, hr', cr⟩ := T4.out.1.at hjk
              rw [hj] at hr'
              have hr' := Option.some.inj hr'
              subst hr'
              have fz := T4.out.1.row.frozenAt j
              have rn : r < f.n := (T4.out.2.1.may r (List.mem_of_getElem? hj)).2.1
              have HJ : Hid (R[j]? = some r ∧ f.val r = f.val i ∧ r < f.n) := ⟨hj, hv, rn⟩
              have j1 : (j : Int) < (k : Int) := by omega
              have j0 : (0 : Int) ≤ (j : Int) := by omega
              have nj : ¬ (j : Int) < 0 := by omega
              clear Q4 hj hv rn
              obtain ⟨wi, hwi⟩ : ∃ wi, wi = f.wait i := ⟨_, rfl⟩
              obtain ⟨wj, hwj⟩ : ∃ wj, wj = f.wait r := ⟨_, rfl⟩
              have C1 : Hid (∀ V, Kept (fun _ => False) w4 V → Calls Try.prog 113 #[.pointer (some ⟨fb, 0, none⟩), .int .i64 (i : Int)] V fun o w' => o = .returned (.int .i64 (wi : Int)) ∧ Kept (fun _ => False) V w') := by
                intro V kv
                rw [hwi]
                exact waitFor (SF4.out.k0 kv) i J.out.2.2.2.1
              have C2 : Hid (∀ V, Kept (fun _ => False) w4 V → Calls Try.prog 113 #[.pointer (some ⟨fb, 0, none⟩), .int .i64 (r : Int)] V fun o w' => o = .returned (.int .i64 (wj : Int)) ∧ Kept (fun _ => False) V w') := by
                intro V kv
                rw [hwj]
                exact waitFor (SF4.out.k0 kv) r HJ.out.2.2
              have HW : Hid (wi = f.wait i ∧ wj = f.wait r) := ⟨hwi, hwj⟩
              clear hwi hwj
              have ST : Hid (Kept (fun _ => False) w4 w4.drew) := (Kept.refl _ _).drew
              go_upto_region 12 with fail
              go_region_held3 (fun V => V.cell? ⟨FB, 0, none⟩ = some (.pointer (some ⟨fb, 0, none⟩)) ∧ V.cell? ⟨IB, 0, none⟩ = some (.int .i64 (i : Int)) ∧ V.cell? ⟨g, j, none⟩ = some (.int .i64 (r : Int))) (first | go_keep)
                (first
                  | (go_at_call 113; refine (C2.out _ STB.out).mono ?_; rintro o w10 ⟨rfl, K9⟩; have STC : Hid (Kept (fun _ => False) w4 w10) := STB.out.trans K9 (fun _ _ z => z.elim); have x0 := K9.cell x0 (fun z => z); have z0 := K9.cell z0 (fun z => z); have cr := K9.cell cr (fun z => z); clear K9)
                  | (go_at_call 113; refine (C1.out _ ST.out).mono ?_; rintro o w9 ⟨rfl, K9⟩; have STB : Hid (Kept (fun _ => False) w4 w9) := ST.out.trans K9 (fun _ _ z => z.elim); have x0 := K9.cell x0 (fun z => z); have z0 := K9.cell z0 (fun z => z); have cr := K9.cell cr (fun z => z); clear K9)
                  | fail)
              clear fz
              have T10 : Hid (NRow W0.heap.size w10 (some ⟨g, 0, none⟩) k c R ∧ CH f d i R ∧ Kept (fun _ => False) W0 w10) := ⟨T4.out.1.k0 STC.out, T4.out.2.1, T4.out.2.2.trans STC.out (fun _ _ z => z.elim)⟩
              have fz := T10.out.1.row.frozenAt j
              clear STB ST C1 C2
              by_cases hgt : wj < wi
              · have g1 : (wj : Int) < (wi : Int) := by omega
                go_wp2_with fail
                go_roundw
                case rel =>
                  obtain ⟨q1, q2⟩ := T10.out.1.store (i := i) (j := j) T10.out.2.2 (Nat.le_refl _)
                  exact ⟨i + 1, k, c, some ⟨g, 0, none⟩, R.set j i, rfl, by go_num, by omega, q1, T10.out.2.1.swap PE.out.1 MY.out HJ.out.1 HJ.out.2.1 (by rw [← HW.out.1, ← HW.out.2]; omega), q2⟩
                case measure => simp [intOf] <;> omega
              · have g1 : ¬ (wj : Int) < (wi : Int) := by omega
                go_wp2_with fail
                go_roundw
                case rel => exact ⟨i + 1, k, c, some ⟨g, 0, none⟩, R, rfl, by go_num, by omega, T10.out.1, T10.out.2.1.skip (fun _ _ => .inr ⟨r, List.mem_of_getElem? HJ.out.1, HJ.out.2.1.symm, by rw [← HW.out.1, ← HW.out.2]; omega⟩), T10.out.2.2⟩
                case measure => simp [intOf] <;> omega
          · cases mo
            · have G : Hid (∃ R, ChQ f d w (W3.alloc (.cells #[.int .i64 (i : Int)] 3)) (some ⟨W3.heap.size, 0, none⟩) 1 1 R) := by
                have KA : Kept (fun _ => False) w (W3.alloc (.cells #[.int .i64 (i : Int)] 3)) := (H.out.2.2.2.1.trans T3.out.2.2 (fun _ _ z => z.elim)).alloc _
                refine ⟨[i], ⟨rfl, own_one (H.out.2.2.2.1.trans T3.out.2.2 (fun _ _ z => z.elim)).size⟩, ⟨fun r hr => ?_, .inl ⟨i, rfl, by rw [PE.out.2]; rfl, by first | exact MU.out | exact MU.out rfl | exact MU.out trivial⟩⟩, by omega, KA⟩
                rw [List.mem_singleton.1 hr]
                exact ⟨PE.out.1, MY.out⟩
              go_wp2_with fail
              go_ret
              exact ⟨some ⟨W3.heap.size, 0, none⟩, 1, 1, rfl, G⟩
            · go_wp2_with fail
              go_roundw
              case rel => exact ⟨i + 1, k, c, p, R, rfl, by go_num, by omega, T3.out.1, T3.out.2.1.skip (fun _ _ => .inl ⟨by rw [PE.out.2]; rfl, by first | exact MU.out | exact MU.out rfl | exact MU.out trivial⟩), T3.out.2.2⟩
              case measure => simp [intOf] <;> omega
    · have i1 : ¬ (i : Int) < (n : Int) := by omega
      have G : Hid (∃ R, ChQ f d w wr p k c R) := by
        have e : i = f.n := by rw [← HN.out]; omega
        refine ⟨R, ⟨S.out.1.len, owns_mono S.out.1.row H.out.2.2.2.1.size⟩, ?_, ?_, H.out.2.2.2.1.trans S.out.2.2 (fun _ _ z => z.elim)⟩
        · have := S.out.2.1
          rw [e] at this
          exact this.done
        · have h1 := S.out.2.1.few
          have h2 := S.out.1.len
          omega
      clear S
      go_wp2_with fail
      go_ret
      exact ⟨p, k, c, rfl, G⟩
end Go.Proofs.Ytodmakcklacbfaa
