import Derived.Test.YthcnpijgfhinhaaRef4
namespace Go.Proofs.Ythcnpijgfhinhaa
open Go.RowKit

/-- A list in new memory. -/
def NewL (w w' : World) (q : Option Addr) (n c : Nat) (t : List Int) : Prop := Row w' 3 q n c (ints t) ∧ (∀ g, blockOf q = some g → w.heap.size ≤ g) ∧ Below w.heap.size w w'
/-- Two sets, one of the program and one of the document, that tell the same. -/
structure Tells (w : World) (p p2 : Option Addr) (n : Nat) (mt : Bool) (li lo : List Int) : Prop where
  len : ∀ wx, Below w.heap.size w wx → Calls Try.prog 18 #[.pointer p] wx fun o w' => o = .returned (.int .i64 (n : Int)) ∧ Hid (Below wx.heap.size wx w')
  rlen : ∀ wx, Below w.heap.size w wx → Calls Try.prog 45 #[.pointer p2] wx fun o w' => o = .returned (.int .i64 (n : Int)) ∧ Hid (Below wx.heap.size wx w')
  met : ∀ wx, Below w.heap.size w wx → Calls Try.prog 17 #[.pointer p] wx fun o w' => o = .returned (.bool mt) ∧ Hid (Below wx.heap.size wx w')
  rmet : ∀ wx, Below w.heap.size w wx → Calls Try.prog 46 #[.pointer p2] wx fun o w' => o = .returned (.bool mt) ∧ Hid (Below wx.heap.size wx w')
  rlist : ∀ wx, Below w.heap.size w wx → Calls Try.prog 47 #[.pointer p2] wx fun o w' => ∃ q n c, o = .returned (.slice q n c) ∧ Hid (NewL wx w' q n c li)
  rrest : ∀ wx, Below w.heap.size w wx → Calls Try.prog 48 #[.pointer p2] wx fun o w' => ∃ q n c, o = .returned (.slice q n c) ∧ Hid (NewL wx w' q n c lo)
  list : ∀ wx, Below w.heap.size w wx → Calls Try.prog 14 #[.pointer p] wx fun o w' => ∃ q n c, o = .returned (.slice q n c) ∧ Hid (NewL wx w' q n c li)
  rest : ∀ wx, Below w.heap.size w wx → Calls Try.prog 15 #[.pointer p] wx fun o w' => ∃ q n c, o = .returned (.slice q n c) ∧ Hid (NewL wx w' q n c lo)
  short : li.length ≤ 255 ∧ lo.length ≤ 255
theorem newL_nil (w : World) : NewL w w none 0 0 [] := ⟨Row.nil _ _, fun _ e => by simp [blockOf] at e, Below.refl _ _⟩
theorem newL_owns {w w' : World} {v : Value} {t : List Int} (h : w'.ownsRow w.heap.size 3 1 v t.length (ints t)) (b : Below w.heap.size w w') : ∃ q n c, v = .slice q n c ∧ NewL w w' q n c t := by
  obtain ⟨q, c, e, r, f⟩ := Row.of_owns h (ints_one t)
  exact ⟨q, _, c, e, r, f, b⟩
theorem tells_nil (w : World) : Tells w none none 0 false [] [] :=
  ⟨fun wx _ => (len_nil wx).mono (fun _ _ ⟨he, hw⟩ => ⟨he, hw ▸ Below.refl _ _⟩), fun wx _ => (rLen_nil wx).mono (fun _ _ ⟨he, hw⟩ => ⟨he, hw ▸ Below.refl _ _⟩),
   fun wx _ => (met_nil wx).mono (fun _ _ ⟨he, hw⟩ => ⟨he, hw ▸ Below.refl _ _⟩), fun wx _ => (rMet_nil wx).mono (fun _ _ ⟨he, hw⟩ => ⟨he, hw ▸ Below.refl _ _⟩),
   fun wx _ => (rList_nil wx).mono (fun _ _ ⟨he, hw⟩ => ⟨_, _, _, he, hw ▸ newL_nil _⟩), fun wx _ => (rRest_nil wx).mono (fun _ _ ⟨he, hw⟩ => ⟨_, _, _, he, hw ▸ newL_nil _⟩),
   fun wx _ => (list_nil wx).mono (fun _ _ ⟨he, hw⟩ => ⟨_, _, _, he, hw ▸ newL_nil _⟩), fun wx _ => (rest_nil wx).mono (fun _ _ ⟨he, hw⟩ => ⟨_, _, _, he, hw ▸ newL_nil _⟩), by simp⟩
theorem tells_of {w : World} {b r : Nat} {N K D : Int} {a : Option Addr} {cap : Nat} {l : List Int} (s : IsS w b N K D (lset l N)) (h : IsR w r N K D a cap l) :
    Tells w (some ⟨b, 0, none⟩) (some ⟨r, 0, none⟩) l.length (metB (lset l N) N K) (pick (lset l N) true N.toNat) (pick (lset l N) false N.toNat) := by
  have n255 : N.toNat ≤ 255 := by have := s.ok.2.2.1; omega
  refine ⟨fun wx B => ?_, fun wx B => ?_, fun wx B => ?_, fun wx B => ?_, fun wx B => ?_, fun wx B => ?_, fun wx B => ?_, fun wx B => ?_, ⟨pick_le _ _ _ _ n255, pick_le _ _ _ _ n255⟩⟩
  · exact (len wx (s.by B)).mono (fun _ _ ⟨he, hw⟩ => ⟨by rw [← h.len255.1] at he; exact he, hw ▸ Below.refl _ _⟩)
  · exact (rLen wx (h.by B)).mono (fun _ _ ⟨he, hw⟩ => ⟨he, hw ▸ Below.refl _ _⟩)
  · exact (met wx (s.by B)).mono (fun _ _ ⟨he, hw⟩ => ⟨he, hw⟩)
  · exact (rMet wx (h.by B)).mono (fun _ _ ⟨he, hw⟩ => ⟨he, hw⟩)
  · exact rList wx (h.by B)
  · exact rRest wx (h.by B)
  · exact (list wx (s.by B)).mono (fun _ _ ⟨v, he, ho, hb⟩ => by obtain ⟨q, n, c, e, hn⟩ := newL_owns ho hb; exact ⟨q, n, c, by rw [he, e], hn⟩)
  · exact (rest wx (s.by B)).mono (fun _ _ ⟨v, he, ho, hb⟩ => by obtain ⟨q, n, c, e, hn⟩ := newL_owns ho hb; exact ⟨q, n, c, by rw [he, e], hn⟩)
/-- The two lists that same writes over, above what lay at wm. -/
structure Sm (wm wr : World) (aa : Option Addr) (na ca : Nat) (xs : List Int) (ab : Option Addr) (nb cb : Nat) (ys : List Int) : Prop where
  bel : Below wm.heap.size wm wr
  ra : Row wr 3 aa na ca (ints xs)
  rb : Row wr 3 ab nb cb (ints ys)
  fa : ∀ g, blockOf aa = some g → wm.heap.size ≤ g
  fb : ∀ g, blockOf ab = some g → wm.heap.size ≤ g
  ap : ∀ g, blockOf aa = some g → blockOf ab ≠ some g
theorem ints_set (xs : List Int) (i : Nat) (v : Int) : (ints xs).set i (.int .i64 v) = ints (xs.set i v) := by unfold ints; rw [List.map_set]
theorem Sm.storeA {wm wr : World} {g na ca : Nat} {xs : List Int} {ab : Option Addr} {nb cb : Nat} {ys : List Int} (h : Sm wm wr (some ⟨g, 0, none⟩) na ca xs ab nb cb ys) (i : Nat) (v : Int) : Sm wm (wr.setCell ⟨g, i, none⟩ (.int .i64 v)) (some ⟨g, 0, none⟩) na ca (xs.set i v) ab nb cb ys := by
  refine ⟨h.bel.setCell (p := ⟨g, i, none⟩) (h.fa g rfl) _, ?_, h.rb.kept ((Kept.refl (fun k => k = g) wr).setCell (p := ⟨g, i, none⟩) (fun _ => rfl) _) (fun k e e2 => h.ap g rfl (by rw [← e2]; exact e)), h.fa, h.fb, h.ap⟩
  rw [← ints_set]
  exact h.ra.store i _ rfl
theorem Sm.swap {wm wr : World} {aa : Option Addr} {na ca : Nat} {xs : List Int} {ab : Option Addr} {nb cb : Nat} {ys : List Int} (h : Sm wm wr aa na ca xs ab nb cb ys) : Sm wm wr ab nb cb ys aa na ca xs :=
  ⟨h.bel, h.rb, h.ra, h.fb, h.fa, fun g e e2 => h.ap g e2 e⟩
theorem Sm.alloc {wm wr : World} {aa : Option Addr} {na ca : Nat} {xs : List Int} {ab : Option Addr} {nb cb : Nat} {ys : List Int} (h : Sm wm wr aa na ca xs ab nb cb ys) (o : Obj) : Sm wm (wr.alloc o) aa na ca xs ab nb cb ys :=
  ⟨h.bel.alloc h.bel.size _, h.ra.by ((Below.refl _ _).alloc (Nat.le_refl _) _), h.rb.by ((Below.refl _ _).alloc (Nat.le_refl _) _), h.fa, h.fb, h.ap⟩
theorem Sm.appendA {wm wr w3 : World} {aa aa' : Option Addr} {na ca ca' : Nat} {xs : List Int} {ab : Option Addr} {nb cb : Nat} {ys : List Int} {v : Int} (h : Sm wm wr aa na ca xs ab nb cb ys) (hr : Row w3 3 aa' (na + 1) ca' (ints xs ++ [.int .i64 v])) (hg : wr.grownBy w3 (blockOf aa)) (hq : aa' = aa ∨ aa' = some ⟨wr.heap.size, 0, none⟩) : Sm wm w3 aa' (na + 1) ca' (xs ++ [v]) ab nb cb ys := by
  rw [ints_snoc] at hr
  have kk : Kept (fun k => blockOf aa = some k) wr w3 := (Kept.refl _ _).grown hg (fun k _ e => e)
  refine ⟨h.bel.trans (kk.below h.bel.size (fun k e => h.fa k e)), hr, h.rb.kept kk (fun k e e2 => h.ap k e2 e), fun g e => ?_, h.fb, fun g e e2 => ?_⟩
  · rcases hq with q | q
    · rw [q] at e; exact h.fa g e
    · rw [q, blockOf_some] at e; simp at e; have := h.bel.size; omega
  · rcases hq with q | q
    · rw [q] at e; exact h.ap g e e2
    · rw [q, blockOf_some] at e; simp at e
      have := h.rb.lt e2
      omega
/-- The first i are v. -/
def allEq (xs : List Int) (v : Int) (i : Nat) : Prop := ∀ j, j < i → xs.getD j 0 = v
theorem allEq_set {xs : List Int} {v : Int} {i : Nat} (h : allEq xs v i) (hi : i < xs.length) : allEq (xs.set i v) v (i + 1) := by
  intro j hj
  rw [List.getD_eq_getElem?_getD, List.getElem?_set]
  by_cases e : i = j
  · subst e; simp [hi]
  · rw [if_neg e, ← List.getD_eq_getElem?_getD]; exact h j (by omega)
theorem allEq_snoc {xs : List Int} {v : Int} {n : Nat} (h : allEq xs v n) (hn : xs.length = n) : allEq (xs ++ [v]) v (n + 1) := by
  intro j hj
  rw [List.getD_eq_getElem?_getD]
  by_cases e : j < n
  · rw [List.getElem?_append_left (by omega), ← List.getD_eq_getElem?_getD]; exact h j e
  · have : j = n := by omega
    subst this
    rw [List.getElem?_append_right (by omega), hn]; simp
set_option maxRecDepth 100000 in
set_option maxHeartbeats 4000000 in
theorem same_none (n : Nat) (mt : Bool) (li lo : List Int) (w : World) (t : Tells w none none n mt li lo) :
    Calls Try.prog 29 #[.pointer none, .pointer none] w fun o w' => o = .returned (.bool true) ∧ Below w.heap.size w w' := by
  have T : Hid (Tells w none none n mt li lo) := t
  have sh : li.length ≤ 255 ∧ lo.length ≤ 255 := t.short
  clear t
  go_enter Try.func29, Try.ntmps29
  go_wp2_with fail
  refine (T.out.len _ (Below.refl _ _)).mono ?_
  rintro o w1 ⟨rfl, b1⟩
  go_wp2_with fail
  refine (T.out.rlen _ b1.out).mono ?_
  rintro o w2 ⟨rfl, b2⟩
  have S2 : Hid (Below w.heap.size w w2) := b1.out.trans (b2.out.mono b1.out.size)
  clear b1 b2
  go_wp2_with fail
  refine (T.out.met _ S2.out).mono ?_
  rintro o w3 ⟨rfl, b3⟩
  have S3 : Hid (Below w.heap.size w w3) := S2.out.trans (b3.out.mono S2.out.size)
  clear b3 S2
  go_wp2_with fail
  refine (T.out.rmet _ S3.out).mono ?_
  rintro o w4 ⟨rfl, b4⟩
  have S4 : Hid (Below w.heap.size w w4) := S3.out.trans (b4.out.mono S3.out.size)
  clear b4 S3
  have mm : (mt != mt) = false := by cases mt <;> rfl
  go_wp2_with fail
  refine (T.out.rlist _ S4.out).mono ?_
  rintro o w5 ⟨qi, ni, ci, rfl, L5⟩
  have S5 : Hid (Below w.heap.size w w5 ∧ IReads w5 qi ni ci li) := ⟨S4.out.trans (L5.out.2.2.mono S4.out.size), L5.out.1.ireads⟩
  have ci5 := L5.out.1.room
  clear L5 S4 mm
  go_wp2_with fail
  refine (T.out.rrest _ S5.out.1).mono ?_
  rintro o w6 ⟨qo, no, co, rfl, L6⟩
  have S6 : Hid (Below w.heap.size w w6 ∧ IReads w6 qi ni ci li ∧ IReads w6 qo no co lo) := ⟨S5.out.1.trans (L6.out.2.2.mono S5.out.1.size), S5.out.2.by L6.out.2.2, L6.out.1.ireads⟩
  have co6 := L6.out.1.room
  clear L6 S5
  go_wp2_with fail
  refine (T.out.list _ S6.out.1).mono ?_
  rintro o w7 ⟨aa, na, ca, rfl, L7⟩
  have ca7 := L7.out.1.room
  have S7 : Hid (Below w6.heap.size w6 w7) := L7.out.2.2
  go_wp2_with fail
  refine (T.out.rest _ (S6.out.1.trans (S7.out.mono S6.out.1.size))).mono ?_
  rintro o w8 ⟨ab, nb, cb, rfl, L8⟩
  have cb8 := L8.out.1.room
  have nl : Hid (na = li.length ∧ nb = lo.length) := by
    show na = li.length ∧ nb = lo.length
    have e1 := L7.out.1.length
    have e2 := L8.out.1.length
    rw [ints_length] at e1 e2
    omega
  have M0 : Hid (Sm w6 w8 aa na ca li ab nb cb lo) := ⟨S7.out.trans (L8.out.2.2.mono S7.out.size), L7.out.1.by L8.out.2.2, L8.out.1, L7.out.2.1, fun g e => Nat.le_trans S7.out.size (L8.out.2.1 g e), fun g e e2 => by have h1 := L7.out.1.lt e; have h2 := L8.out.2.1 g e2; omega⟩
  have zb : na ≤ 255 ∧ nb ≤ 255 := by rw [nl.out.1, nl.out.2]; exact sh
  clear L7 L8 S7 sh
  go_wp2_with fail
  refine (sameInts aa qi na ca ni ci li li _ M0.out.ra.ireads (S6.out.2.1.by M0.out.bel)).mono ?_
  rintro o w9 ⟨rfl, k1, rfl⟩
  rw [decide_eq_true rfl]
  go_wp2_with fail
  refine (sameInts ab qo nb cb no co lo lo _ (M0.out.rb.ireads.by (below_drewN _ _)) ((S6.out.2.2.by M0.out.bel).by (below_drewN _ _))).mono ?_
  rintro o w9 ⟨rfl, k2, rfl⟩
  rw [decide_eq_true rfl]
  have M1 : Hid (Sm w6 ((w8.drewN k1).drewN k2) aa na ca li ab nb cb lo) := ⟨bdrewN (bdrewN M0.out.bel k1) k2, (M0.out.ra.by (below_drewN _ _)).by (below_drewN _ _), (M0.out.rb.by (below_drewN _ _)).by (below_drewN _ _), M0.out.fa, M0.out.fb, M0.out.ap⟩
  obtain ⟨w9, hw9⟩ : ∃ x, (w8.drewN k1).drewN k2 = x := ⟨_, rfl⟩
  rw [hw9] at M1 ⊢
  clear hw9 M0
  go_wp2_with fail
  go_loopw [9, 54] (fun _ x wr => ∃ (i : Nat) (xs : List Int), x = .int .i64 (i : Int) ∧ i ≤ na ∧ Hid (Sm w6 wr aa na ca xs ab nb cb lo ∧ xs.length = na ∧ allEq xs (-1) i)) (fun _ x _ => na - (intOf x).toNat)
  case atStart => exact ⟨0, li, rfl, Nat.zero_le _, M1.out, nl.out.1.symm, fun j hj => by omega⟩
  case round =>
    obtain ⟨i, xs, rfl, hi, F⟩ := hrel
    clear M1
    by_cases hlt : i < na
    · obtain ⟨g, rfl⟩ := F.out.1.ra.some_of (by omega)
      have d0 := F.out.1.ra.cell i _ (ints_get xs i (by rw [F.out.2.1]; exact hlt))
      have f0 := F.out.1.ra.soft i
      have i1 : (i : Int) < (na : Int) := by omega
      have F2 : Hid (Sm w6 (wr.setCell ⟨g, i, none⟩ (.int .i64 (-1))) (some ⟨g, 0, none⟩) na ca (xs.set i (-1)) ab nb cb lo ∧ (xs.set i (-1)).length = na ∧ allEq (xs.set i (-1)) (-1) (i + 1)) := ⟨F.out.1.storeA i (-1), by rw [List.length_set]; exact F.out.2.1, allEq_set F.out.2.2 (by rw [F.out.2.1]; exact hlt)⟩
      clear F
      go_wp2_with fail
      go_roundw
      case rel => exact ⟨i + 1, _, by go_num, by omega, F2⟩
      case measure => simp [intOf]; omega
    · have he : i = na := by omega
      subst he
      clear hlt hi
      go_wp2_with fail
      go_loopw [10, 63] (fun _ x wr => ∃ (j : Nat) (ys : List Int), x = .int .i64 (j : Int) ∧ j ≤ nb ∧ Hid (Sm w6 wr aa i ca xs ab nb cb ys ∧ ys.length = nb ∧ allEq ys (-2) j)) (fun _ x _ => nb - (intOf x).toNat)
      case atStart => exact ⟨0, lo, rfl, Nat.zero_le _, F.out.1, nl.out.2.symm, fun j hj => by omega⟩
      case round =>
        obtain ⟨j, ys, rfl, hj, G⟩ := hrel
        have FX : Hid (xs.length = i ∧ allEq xs (-1) i) := F.out.2
        clear F
        by_cases hlt : j < nb
        · obtain ⟨g, rfl⟩ := G.out.1.rb.some_of (by omega)
          have d0 := G.out.1.rb.cell j _ (ints_get ys j (by rw [G.out.2.1]; exact hlt))
          have f0 := G.out.1.rb.soft j
          have j1 : (j : Int) < (nb : Int) := by omega
          have G2 : Hid (Sm w6 (wr.setCell ⟨g, j, none⟩ (.int .i64 (-2))) aa i ca xs (some ⟨g, 0, none⟩) nb cb (ys.set j (-2)) ∧ (ys.set j (-2)).length = nb ∧ allEq (ys.set j (-2)) (-2) (j + 1)) := ⟨(G.out.1.swap.storeA j (-2)).swap, by rw [List.length_set]; exact G.out.2.1, allEq_set G.out.2.2 (by rw [G.out.2.1]; exact hlt)⟩
          clear G
          go_wp2_with fail
          go_roundw
          case rel => exact ⟨j + 1, _, by go_num, by omega, G2⟩
          case measure => simp [intOf]; omega
        · have he : j = nb := by omega
          subst he
          clear hlt hj
          have n1 : (i + 1) * 8 ≤ 140737488355328 := Nat.le_trans (Nat.mul_le_mul_right 8 (by omega : i + 1 ≤ 256)) (by decide)
          have n2 : (j + 1) * 8 ≤ 140737488355328 := Nat.le_trans (Nat.mul_le_mul_right 8 (by omega : j + 1 ≤ 256)) (by decide)
          go_upto_region 19 with fail
          go_wp2_with (first | (at_builtin; refine wpList_append_row _ rfl (.tmp 70) (.tmp 71) 24 3 (.int .i64 0) rfl Try.underlying24 int_info rfl aa i ca (ints xs) rfl (G.out.1.alloc _).ra wr.heap.size (.int .i64 (-1)) rfl rfl (by simp) n1 ?_; intro qa cA w10 hr hg hq; have c5 := hr.out.room; have G3 : Hid (Sm w6 w10 qa (i + 1) cA (xs ++ [-1]) ab j cb ys) := (G.out.1.alloc _).appendA hr.out hg.out (by simpa using hq.out); clear hr hg hq) | (at_builtin; refine wpList_append_row _ rfl (.tmp 73) (.tmp 74) 24 3 (.int .i64 0) rfl Try.underlying24 int_info rfl ab j cb (ints ys) rfl (G3.out.alloc _).rb _ (.int .i64 (-2)) rfl rfl (by simp) n2 ?_; intro qb cB w11 hr hg hq; have c6 := hr.out.room; have G4 : Hid (Sm w6 w11 qa (i + 1) cA (xs ++ [-1]) qb (j + 1) cB (ys ++ [-2])) := ((G3.out.alloc _).swap.appendA hr.out hg.out (by simpa using hq.out)).swap; clear hr hg hq) | fail)
          have GX : Hid (allEq (xs ++ [-1]) (-1) (i + 1) ∧ (xs ++ [-1]).length = i + 1 ∧ allEq (ys ++ [-2]) (-2) (j + 1) ∧ (ys ++ [-2]).length = j + 1) := ⟨allEq_snoc FX.out.2 FX.out.1, by rw [List.length_append, FX.out.1]; rfl, allEq_snoc G.out.2.2 G.out.2.1, by rw [List.length_append, G.out.2.1]; rfl⟩
          clear G G3 FX
          go_loopw [12, 78] (fun _ x wr => ∃ (k : Nat), x = .int .i64 (k : Int) ∧ k ≤ i + 1 ∧ Hid (wr = w11)) (fun _ x _ => i + 1 - (intOf x).toNat)
          case atStart => exact ⟨0, rfl, Nat.zero_le _, rfl⟩
          case round =>
            obtain ⟨k, rfl, hk, E⟩ := hrel
            obtain rfl := E.out
            clear E
            by_cases hlt : k < i + 1
            · obtain ⟨g, rfl⟩ := G4.out.ra.some_of (by omega)
              have d0 := G4.out.ra.cell k _ (ints_get _ k (by rw [GX.out.2.1]; exact hlt))
              rw [GX.out.1 k hlt] at d0
              have k1 : (k : Int) < ((i : Int) + 1) := by omega
              go_wp2_with fail
              go_roundw
              case rel => exact ⟨k + 1, by go_num, by omega, trivial⟩
              case measure => simp [intOf]; omega
            · have he : k = i + 1 := by omega
              subst he
              clear hlt hk
              go_wp2_with fail
              go_loopw [14, 87] (fun _ x wr' => ∃ (k : Nat), x = .int .i64 (k : Int) ∧ k ≤ j + 1 ∧ Hid (wr' = wr)) (fun _ x _ => j + 1 - (intOf x).toNat)
              case atStart => exact ⟨0, rfl, Nat.zero_le _, rfl⟩
              case round =>
                obtain ⟨k, rfl, hk, E⟩ := hrel
                obtain rfl := E.out
                clear E
                by_cases hlt : k < j + 1
                · obtain ⟨g, rfl⟩ := G4.out.rb.some_of (by omega)
                  have d0 := G4.out.rb.cell k _ (ints_get _ k (by rw [GX.out.2.2.2]; exact hlt))
                  rw [GX.out.2.2.1 k hlt] at d0
                  have k1 : (k : Int) < ((j : Int) + 1) := by omega
                  go_wp2_with fail
                  go_roundw
                  case rel => exact ⟨k + 1, by go_num, by omega, trivial⟩
                  case measure => simp [intOf]; omega
                · have he : k = j + 1 := by omega
                  subst he
                  clear hlt hk GX
                  have S9 : Hid (Below w.heap.size w wr) := S6.out.1.trans (G4.out.bel.mono S6.out.1.size)
                  have I9 : Hid (IReads wr qi ni ci li ∧ IReads wr qo no co lo) := ⟨S6.out.2.1.by G4.out.bel, S6.out.2.2.by G4.out.bel⟩
                  clear G4 S6
                  go_wp2_with fail
                  refine (T.out.list _ S9.out).mono ?_
                  rintro o w12 ⟨a3, n3, c3, rfl, L3⟩
                  have r3 := L3.out.1.room
                  go_wp2_with fail
                  refine (sameInts a3 qi n3 c3 ni ci li li _ L3.out.1.ireads (I9.out.1.by L3.out.2.2)).mono ?_
                  rintro o w13 ⟨rfl, k3, rfl⟩
                  rw [decide_eq_true rfl]
                  have S10 : Hid (Below w.heap.size w (w12.drewN k3) ∧ IReads (w12.drewN k3) qo no co lo) := ⟨bdrewN (S9.out.trans (L3.out.2.2.mono S9.out.size)) k3, (I9.out.2.by L3.out.2.2).by (below_drewN _ _)⟩
                  obtain ⟨w13, hw13⟩ : ∃ x, w12.drewN k3 = x := ⟨_, rfl⟩
                  rw [hw13] at S10 ⊢
                  clear hw13 L3 I9 S9
                  go_wp2_with fail
                  refine (T.out.rest _ S10.out.1).mono ?_
                  rintro o w14 ⟨a4, n4, c4, rfl, L4⟩
                  have r4 := L4.out.1.room
                  go_wp2_with fail
                  refine (sameInts a4 qo n4 c4 no co lo lo _ L4.out.1.ireads (S10.out.2.by L4.out.2.2)).mono ?_
                  rintro o w15 ⟨rfl, k4, rfl⟩
                  rw [decide_eq_true rfl]
                  have S11 : Hid (Below w.heap.size w (w14.drewN k4)) := bdrewN (S10.out.1.trans (L4.out.2.2.mono S10.out.1.size)) k4
                  clear L4 S10
                  go_wp2_with fail
                  go_ret
                  exact ⟨rfl, S11.out⟩
set_option maxRecDepth 100000 in
set_option maxHeartbeats 4000000 in
theorem same_some (b r n : Nat) (mt : Bool) (li lo : List Int) (w : World) (t : Tells w (some ⟨b, 0, none⟩) (some ⟨r, 0, none⟩) n mt li lo) :
    Calls Try.prog 29 #[.pointer (some ⟨b, 0, none⟩), .pointer (some ⟨r, 0, none⟩)] w fun o w' => o = .returned (.bool true) ∧ Below w.heap.size w w' := by
  have T : Hid (Tells w (some ⟨b, 0, none⟩) (some ⟨r, 0, none⟩) n mt li lo) := t
  have sh : li.length ≤ 255 ∧ lo.length ≤ 255 := t.short
  clear t
  go_enter Try.func29, Try.ntmps29
  go_wp2_with fail
  refine (T.out.len _ (Below.refl _ _)).mono ?_
  rintro o w1 ⟨rfl, b1⟩
  go_wp2_with fail
  refine (T.out.rlen _ b1.out).mono ?_
  rintro o w2 ⟨rfl, b2⟩
  have S2 : Hid (Below w.heap.size w w2) := b1.out.trans (b2.out.mono b1.out.size)
  clear b1 b2
  go_wp2_with fail
  refine (T.out.met _ S2.out).mono ?_
  rintro o w3 ⟨rfl, b3⟩
  have S3 : Hid (Below w.heap.size w w3) := S2.out.trans (b3.out.mono S2.out.size)
  clear b3 S2
  go_wp2_with fail
  refine (T.out.rmet _ S3.out).mono ?_
  rintro o w4 ⟨rfl, b4⟩
  have S4 : Hid (Below w.heap.size w w4) := S3.out.trans (b4.out.mono S3.out.size)
  clear b4 S3
  have mm : (mt != mt) = false := by cases mt <;> rfl
  go_wp2_with fail
  refine (T.out.rlist _ S4.out).mono ?_
  rintro o w5 ⟨qi, ni, ci, rfl, L5⟩
  have S5 : Hid (Below w.heap.size w w5 ∧ IReads w5 qi ni ci li) := ⟨S4.out.trans (L5.out.2.2.mono S4.out.size), L5.out.1.ireads⟩
  have ci5 := L5.out.1.room
  clear L5 S4 mm
  go_wp2_with fail
  refine (T.out.rrest _ S5.out.1).mono ?_
  rintro o w6 ⟨qo, no, co, rfl, L6⟩
  have S6 : Hid (Below w.heap.size w w6 ∧ IReads w6 qi ni ci li ∧ IReads w6 qo no co lo) := ⟨S5.out.1.trans (L6.out.2.2.mono S5.out.1.size), S5.out.2.by L6.out.2.2, L6.out.1.ireads⟩
  have co6 := L6.out.1.room
  clear L6 S5
  go_wp2_with fail
  refine (T.out.list _ S6.out.1).mono ?_
  rintro o w7 ⟨aa, na, ca, rfl, L7⟩
  have ca7 := L7.out.1.room
  have S7 : Hid (Below w6.heap.size w6 w7) := L7.out.2.2
  go_wp2_with fail
  refine (T.out.rest _ (S6.out.1.trans (S7.out.mono S6.out.1.size))).mono ?_
  rintro o w8 ⟨ab, nb, cb, rfl, L8⟩
  have cb8 := L8.out.1.room
  have nl : Hid (na = li.length ∧ nb = lo.length) := by
    show na = li.length ∧ nb = lo.length
    have e1 := L7.out.1.length
    have e2 := L8.out.1.length
    rw [ints_length] at e1 e2
    omega
  have M0 : Hid (Sm w6 w8 aa na ca li ab nb cb lo) := ⟨S7.out.trans (L8.out.2.2.mono S7.out.size), L7.out.1.by L8.out.2.2, L8.out.1, L7.out.2.1, fun g e => Nat.le_trans S7.out.size (L8.out.2.1 g e), fun g e e2 => by have h1 := L7.out.1.lt e; have h2 := L8.out.2.1 g e2; omega⟩
  have zb : na ≤ 255 ∧ nb ≤ 255 := by rw [nl.out.1, nl.out.2]; exact sh
  clear L7 L8 S7 sh
  go_wp2_with fail
  refine (sameInts aa qi na ca ni ci li li _ M0.out.ra.ireads (S6.out.2.1.by M0.out.bel)).mono ?_
  rintro o w9 ⟨rfl, k1, rfl⟩
  rw [decide_eq_true rfl]
  go_wp2_with fail
  refine (sameInts ab qo nb cb no co lo lo _ (M0.out.rb.ireads.by (below_drewN _ _)) ((S6.out.2.2.by M0.out.bel).by (below_drewN _ _))).mono ?_
  rintro o w9 ⟨rfl, k2, rfl⟩
  rw [decide_eq_true rfl]
  have M1 : Hid (Sm w6 ((w8.drewN k1).drewN k2) aa na ca li ab nb cb lo) := ⟨bdrewN (bdrewN M0.out.bel k1) k2, (M0.out.ra.by (below_drewN _ _)).by (below_drewN _ _), (M0.out.rb.by (below_drewN _ _)).by (below_drewN _ _), M0.out.fa, M0.out.fb, M0.out.ap⟩
  obtain ⟨w9, hw9⟩ : ∃ x, (w8.drewN k1).drewN k2 = x := ⟨_, rfl⟩
  rw [hw9] at M1 ⊢
  clear hw9 M0
  go_wp2_with fail
  go_loopw [9, 54] (fun _ x wr => ∃ (i : Nat) (xs : List Int), x = .int .i64 (i : Int) ∧ i ≤ na ∧ Hid (Sm w6 wr aa na ca xs ab nb cb lo ∧ xs.length = na ∧ allEq xs (-1) i)) (fun _ x _ => na - (intOf x).toNat)
  case atStart => exact ⟨0, li, rfl, Nat.zero_le _, M1.out, nl.out.1.symm, fun j hj => by omega⟩
  case round =>
    obtain ⟨i, xs, rfl, hi, F⟩ := hrel
    clear M1
    by_cases hlt : i < na
    · obtain ⟨g, rfl⟩ := F.out.1.ra.some_of (by omega)
      have d0 := F.out.1.ra.cell i _ (ints_get xs i (by rw [F.out.2.1]; exact hlt))
      have f0 := F.out.1.ra.soft i
      have i1 : (i : Int) < (na : Int) := by omega
      have F2 : Hid (Sm w6 (wr.setCell ⟨g, i, none⟩ (.int .i64 (-1))) (some ⟨g, 0, none⟩) na ca (xs.set i (-1)) ab nb cb lo ∧ (xs.set i (-1)).length = na ∧ allEq (xs.set i (-1)) (-1) (i + 1)) := ⟨F.out.1.storeA i (-1), by rw [List.length_set]; exact F.out.2.1, allEq_set F.out.2.2 (by rw [F.out.2.1]; exact hlt)⟩
      clear F
      go_wp2_with fail
      go_roundw
      case rel => exact ⟨i + 1, _, by go_num, by omega, F2⟩
      case measure => simp [intOf]; omega
    · have he : i = na := by omega
      subst he
      clear hlt hi
      go_wp2_with fail
      go_loopw [10, 63] (fun _ x wr => ∃ (j : Nat) (ys : List Int), x = .int .i64 (j : Int) ∧ j ≤ nb ∧ Hid (Sm w6 wr aa i ca xs ab nb cb ys ∧ ys.length = nb ∧ allEq ys (-2) j)) (fun _ x _ => nb - (intOf x).toNat)
      case atStart => exact ⟨0, lo, rfl, Nat.zero_le _, F.out.1, nl.out.2.symm, fun j hj => by omega⟩
      case round =>
        obtain ⟨j, ys, rfl, hj, G⟩ := hrel
        have FX : Hid (xs.length = i ∧ allEq xs (-1) i) := F.out.2
        clear F
        by_cases hlt : j < nb
        · obtain ⟨g, rfl⟩ := G.out.1.rb.some_of (by omega)
          have d0 := G.out.1.rb.cell j _ (ints_get ys j (by rw [G.out.2.1]; exact hlt))
          have f0 := G.out.1.rb.soft j
          have j1 : (j : Int) < (nb : Int) := by omega
          have G2 : Hid (Sm w6 (wr.setCell ⟨g, j, none⟩ (.int .i64 (-2))) aa i ca xs (some ⟨g, 0, none⟩) nb cb (ys.set j (-2)) ∧ (ys.set j (-2)).length = nb ∧ allEq (ys.set j (-2)) (-2) (j + 1)) := ⟨(G.out.1.swap.storeA j (-2)).swap, by rw [List.length_set]; exact G.out.2.1, allEq_set G.out.2.2 (by rw [G.out.2.1]; exact hlt)⟩
          clear G
          go_wp2_with fail
          go_roundw
          case rel => exact ⟨j + 1, _, by go_num, by omega, G2⟩
          case measure => simp [intOf]; omega
        · have he : j = nb := by omega
          subst he
          clear hlt hj
          have n1 : (i + 1) * 8 ≤ 140737488355328 := Nat.le_trans (Nat.mul_le_mul_right 8 (by omega : i + 1 ≤ 256)) (by decide)
          have n2 : (j + 1) * 8 ≤ 140737488355328 := Nat.le_trans (Nat.mul_le_mul_right 8 (by omega : j + 1 ≤ 256)) (by decide)
          go_upto_region 19 with fail
          go_wp2_with (first | (at_builtin; refine wpList_append_row _ rfl (.tmp 70) (.tmp 71) 24 3 (.int .i64 0) rfl Try.underlying24 int_info rfl aa i ca (ints xs) rfl (G.out.1.alloc _).ra wr.heap.size (.int .i64 (-1)) rfl rfl (by simp) n1 ?_; intro qa cA w10 hr hg hq; have c5 := hr.out.room; have G3 : Hid (Sm w6 w10 qa (i + 1) cA (xs ++ [-1]) ab j cb ys) := (G.out.1.alloc _).appendA hr.out hg.out (by simpa using hq.out); clear hr hg hq) | (at_builtin; refine wpList_append_row _ rfl (.tmp 73) (.tmp 74) 24 3 (.int .i64 0) rfl Try.underlying24 int_info rfl ab j cb (ints ys) rfl (G3.out.alloc _).rb _ (.int .i64 (-2)) rfl rfl (by simp) n2 ?_; intro qb cB w11 hr hg hq; have c6 := hr.out.room; have G4 : Hid (Sm w6 w11 qa (i + 1) cA (xs ++ [-1]) qb (j + 1) cB (ys ++ [-2])) := ((G3.out.alloc _).swap.appendA hr.out hg.out (by simpa using hq.out)).swap; clear hr hg hq) | fail)
          have GX : Hid (allEq (xs ++ [-1]) (-1) (i + 1) ∧ (xs ++ [-1]).length = i + 1 ∧ allEq (ys ++ [-2]) (-2) (j + 1) ∧ (ys ++ [-2]).length = j + 1) := ⟨allEq_snoc FX.out.2 FX.out.1, by rw [List.length_append, FX.out.1]; rfl, allEq_snoc G.out.2.2 G.out.2.1, by rw [List.length_append, G.out.2.1]; rfl⟩
          clear G G3 FX
          go_loopw [12, 78] (fun _ x wr => ∃ (k : Nat), x = .int .i64 (k : Int) ∧ k ≤ i + 1 ∧ Hid (wr = w11)) (fun _ x _ => i + 1 - (intOf x).toNat)
          case atStart => exact ⟨0, rfl, Nat.zero_le _, rfl⟩
          case round =>
            obtain ⟨k, rfl, hk, E⟩ := hrel
            obtain rfl := E.out
            clear E
            by_cases hlt : k < i + 1
            · obtain ⟨g, rfl⟩ := G4.out.ra.some_of (by omega)
              have d0 := G4.out.ra.cell k _ (ints_get _ k (by rw [GX.out.2.1]; exact hlt))
              rw [GX.out.1 k hlt] at d0
              have k1 : (k : Int) < ((i : Int) + 1) := by omega
              go_wp2_with fail
              go_roundw
              case rel => exact ⟨k + 1, by go_num, by omega, trivial⟩
              case measure => simp [intOf]; omega
            · have he : k = i + 1 := by omega
              subst he
              clear hlt hk
              go_wp2_with fail
              go_loopw [14, 87] (fun _ x wr' => ∃ (k : Nat), x = .int .i64 (k : Int) ∧ k ≤ j + 1 ∧ Hid (wr' = wr)) (fun _ x _ => j + 1 - (intOf x).toNat)
              case atStart => exact ⟨0, rfl, Nat.zero_le _, rfl⟩
              case round =>
                obtain ⟨k, rfl, hk, E⟩ := hrel
                obtain rfl := E.out
                clear E
                by_cases hlt : k < j + 1
                · obtain ⟨g, rfl⟩ := G4.out.rb.some_of (by omega)
                  have d0 := G4.out.rb.cell k _ (ints_get _ k (by rw [GX.out.2.2.2]; exact hlt))
                  rw [GX.out.2.2.1 k hlt] at d0
                  have k1 : (k : Int) < ((j : Int) + 1) := by omega
                  go_wp2_with fail
                  go_roundw
                  case rel => exact ⟨k + 1, by go_num, by omega, trivial⟩
                  case measure => simp [intOf]; omega
                · have he : k = j + 1 := by omega
                  subst he
                  clear hlt hk GX
                  have S9 : Hid (Below w.heap.size w wr) := S6.out.1.trans (G4.out.bel.mono S6.out.1.size)
                  have I9 : Hid (IReads wr qi ni ci li ∧ IReads wr qo no co lo) := ⟨S6.out.2.1.by G4.out.bel, S6.out.2.2.by G4.out.bel⟩
                  clear G4 S6
                  go_wp2_with fail
                  refine (T.out.list _ S9.out).mono ?_
                  rintro o w12 ⟨a3, n3, c3, rfl, L3⟩
                  have r3 := L3.out.1.room
                  go_wp2_with fail
                  refine (sameInts a3 qi n3 c3 ni ci li li _ L3.out.1.ireads (I9.out.1.by L3.out.2.2)).mono ?_
                  rintro o w13 ⟨rfl, k3, rfl⟩
                  rw [decide_eq_true rfl]
                  have S10 : Hid (Below w.heap.size w (w12.drewN k3) ∧ IReads (w12.drewN k3) qo no co lo) := ⟨bdrewN (S9.out.trans (L3.out.2.2.mono S9.out.size)) k3, (I9.out.2.by L3.out.2.2).by (below_drewN _ _)⟩
                  obtain ⟨w13, hw13⟩ : ∃ x, w12.drewN k3 = x := ⟨_, rfl⟩
                  rw [hw13] at S10 ⊢
                  clear hw13 L3 I9 S9
                  go_wp2_with fail
                  refine (T.out.rest _ S10.out.1).mono ?_
                  rintro o w14 ⟨a4, n4, c4, rfl, L4⟩
                  have r4 := L4.out.1.room
                  go_wp2_with fail
                  refine (sameInts a4 qo n4 c4 no co lo lo _ L4.out.1.ireads (S10.out.2.by L4.out.2.2)).mono ?_
                  rintro o w15 ⟨rfl, k4, rfl⟩
                  rw [decide_eq_true rfl]
                  have S11 : Hid (Below w.heap.size w (w14.drewN k4)) := bdrewN (S10.out.1.trans (L4.out.2.2.mono S10.out.1.size)) k4
                  clear L4 S10
                  go_wp2_with fail
                  go_ret
                  exact ⟨rfl, S11.out⟩
end Go.Proofs.Ythcnpijgfhinhaa
