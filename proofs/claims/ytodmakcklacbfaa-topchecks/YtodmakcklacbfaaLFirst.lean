import Derived.Test.YtodmakcklacbfaaLLeast
namespace Go.Proofs.Ytodmakcklacbfaa
open Go.RowKit 

structure FirstQ (f : Fd) (mb : Nat) (w : World) (p : Option Addr) (k c : Nat) (ok : Bool) (w' : World) : Prop where
  yes : ok = true → ∃ R, NRow w.heap.size w' p k c R ∧ f.Run R 0 (-1) ∧ ∀ o, f.Run o 0 (-1) → ¬ o < R
  no : ok = false → p = none ∧ k = 0 ∧ c = 0 ∧ ¬ f.Can 0 (-1)
  k : Kept (fun k => k = mb) w w'
def RetF (Q : Option Addr → Nat → Nat → Bool → World → Prop) (o : Ending) (w : World) : Prop := ∃ (p : Option Addr) (k c : Nat) (b : Bool), o = .returned (.tuple #[.slice p k c, .bool b]) ∧ Q p k c b w
theorem RetF.mk {Q : Option Addr → Nat → Nat → Bool → World → Prop} {o : Ending} {w : World} (p : Option Addr) (k c : Nat) (b : Bool) (h : o = .returned (.tuple #[.slice p k c, .bool b])) (q : Q p k c b w) : RetF Q o w := ⟨p, k, c, b, h, q⟩
theorem left_zero (n : Nat) : left n 0 = n := by
  unfold left
  have : (List.range n).filter (fun j => !(0 : Nat).testBit j) = List.range n := by
    rw [List.filter_eq_self]
    intro j _
    simp
  rw [this, List.length_range]
/-- The order on its way. -/
structure Fzs (f : Fd) (fb : Nat) (ms : List Cm) (cp : Option Addr) (cc vb ab bb lb mb : Nat) (w wr : World) (p : Option Addr) (k c d : Nat) (v : Int) (R : List Nat) : Prop where
  sf0 : SF w fb f ms cp cc vb ab bb lb mb
  m0 : ∃ M, IsM w mb M
  map : ∃ M, IsM wr mb M ∧ Sound f M
  row : NRow w.heap.size wr p k c R
  grow : Grow f R d v
  lt : d < 2 ^ f.n
  few : left f.n d + k ≤ f.n
  can : f.Can d v ∨ (d = 0 ∧ v = -1)
  kept : Kept (fun k => k = mb) w wr
theorem Fzs.k0 {f : Fd} {fb : Nat} {ms : List Cm} {cp : Option Addr} {cc vb ab bb lb mb : Nat} {w wr w' : World} {p : Option Addr} {k c d : Nat} {v : Int} {R : List Nat} (h : Fzs f fb ms cp cc vb ab bb lb mb w wr p k c d v R) (K : Kept (fun _ => False) wr w') : Fzs f fb ms cp cc vb ab bb lb mb w w' p k c d v R := by
  obtain ⟨M, h1, h2⟩ := h.map
  exact ⟨h.sf0, h.m0, ⟨M, h1.k0 K, h2⟩, h.row.k0 K, h.grow, h.lt, h.few, h.can, h.kept.trans K (fun _ _ z => z.elim)⟩
/-- Behind 'least'. -/
theorem Fzs.next {f : Fd} {fb : Nat} {ms : List Cm} {cp : Option Addr} {cc vb ab bb lb mb : Nat} {w wr w' : World} {p : Option Addr} {k c d : Nat} {v : Int} {R : List Nat} (h : Fzs f fb ms cp cc vb ab bb lb mb w wr p k c d v R) {r : Int} {b : Bool} (q : LeastQ f d v mb wr r b w') : Fzs f fb ms cp cc vb ab bb lb mb w w' p k c d v R := by
  obtain ⟨M, h1, h2⟩ := h.map
  exact ⟨h.sf0, h.m0, q.map, h.row.off q.k (h.row.ne h1), h.grow, h.lt, h.few, h.can, h.kept.trans q.k (fun _ _ z => z)⟩
theorem Fzs.stuck {f : Fd} {fb : Nat} {ms : List Cm} {cp : Option Addr} {cc vb ab bb lb mb : Nat} {w wr : World} {p : Option Addr} {k c d : Nat} {v : Int} {R : List Nat} (h : Fzs f fb ms cp cc vb ab bb lb mb w wr p k c d v R) (nw : ¬ f.Whole d) (no : ∀ j, ¬ (f.May d v j ∧ f.Can (add d j) (f.val j))) : ¬ f.Can 0 (-1) := by
  have nc : ¬ f.Can d v := by
    rintro ⟨o, ho⟩
    cases o with
    | nil => exact nw ho
    | cons j o => exact no j ⟨ho.1, o, ho.2⟩
  rcases h.can with z | ⟨z1, z2⟩
  · exact absurd z nc
  · rw [z1, z2] at nc; exact nc
/-- One call more. -/
theorem Fzs.more {f : Fd} {fb : Nat} {ms : List Cm} {cp : Option Addr} {cc vb ab bb lb mb : Nat} {w wr wi w9 : World} {p p9 : Option Addr} {k c c9 d i : Nat} {v : Int} {R : List Nat} {o : Obj} (h : Fzs f fb ms cp cc vb ab bb lb mb w wr p k c d v R) (nw : ¬ f.Whole d) (m : f.May d v i) (cn : f.Can (add d i) (f.val i)) (le : ∀ j, j < i → ¬ (f.May d v j ∧ f.Can (add d j) (f.val j))) (ho : w9.ownsRow w.heap.size 3 1 (.slice p9 (k + 1) c9) (k + 1) (intsN R ++ intsN [i])) (e : wi = wr.alloc o) (hg : wi.grownBy w9 (Value.slice p k c).ownBlock) : Fzs f fb ms cp cc vb ab bb lb mb w w9 p9 (k + 1) c9 (add d i) (f.val i) (R ++ [i]) := by
  have KG : Kept (fun j => blockOf p = some j) wr w9 := by
    rw [e] at hg
    exact ((Kept.refl (fun j => blockOf p = some j) wr).alloc _).grown hg (fun j _ z => by rw [blockOf_own] at z; exact z)
  obtain ⟨M, h1, h2⟩ := h.map
  refine ⟨h.sf0, h.m0, ⟨M, ⟨h1.1.kept KG (fun z => h.row.ne h1 mb z rfl), h1.2⟩, h2⟩, ⟨by rw [List.length_append, h.row.len]; rfl, by rw [intsN_append]; exact ho⟩, h.grow.step nw m le, add_lt h.lt m.1, ?_, .inl cn, h.kept.trans KG (fun j hj z => ?_)⟩
  · have := left_add m.1 m.2.1
    have := h.few
    omega
  · have := (own_lt h.row.row j z).1
    omega
theorem Fzs.sf {f : Fd} {fb : Nat} {ms : List Cm} {cp : Option Addr} {cc vb ab bb lb mb : Nat} {w wr : World} {p : Option Addr} {k c d : Nat} {v : Int} {R : List Nat} (h : Fzs f fb ms cp cc vb ab bb lb mb w wr p k c d v R) : SF wr fb f ms cp cc vb ab bb lb mb := by
  obtain ⟨M, hm⟩ := h.m0
  exact h.sf0.off h.kept hm.ne
set_option maxRecDepth 100000 in
set_option maxHeartbeats 8000000 in
theorem first {w : World} {fb : Nat} {f : Fd} {ms : List Cm} {cp : Option Addr} {cc vb ab bb lb mb : Nat} (ok : f.Ok) {M : Int → Option Unit} (h : SF w fb f ms cp cc vb ab bb lb mb) (hM : IsM w mb M) (sd : Sound f M) :
    Calls Try.prog 47 #[.pointer (some ⟨fb, 0, none⟩)] w (RetF (FirstQ f mb w)) := by
  have n24 := h.n24
  have OKH : Hid f.Ok := ok
  have S0 : Hid (∃ R, Fzs f fb ms cp cc vb ab bb lb mb w w none 0 0 0 (-1) R) := ⟨[], h, ⟨M, hM⟩, ⟨M, hM, sd⟩, ⟨rfl, ⟨rfl, .inl ⟨rfl, rfl⟩⟩⟩, Grow.nil f, Nat.two_pow_pos _, by rw [left_zero]; omega, .inr ⟨rfl, rfl⟩, Kept.refl _ _⟩
  obtain ⟨mw, hmw⟩ : ∃ mw, mw = f.mustW := ⟨_, rfl⟩
  have mw24 : mw < 16777216 := by rw [hmw]; exact lt32 (wrd_lt _ _) n24
  have HW : Hid (mw = f.mustW) := hmw
  clear h hM sd ok hmw
  go_enter Try.func47, Try.ntmps47
  go_wp2_with fail
  go_loopw [4, 5, 6, 7, 8] (fun u4 u5 u6 _ _ wr => ∃ (k c d : Nat) (v : Int) (p : Option Addr), u4 = .slice p k c ∧ u5 = .int .u32 (d : Int) ∧ u6 = .int .i64 v ∧ Hid (∃ R, Fzs f fb ms cp cc vb ab bb lb mb w wr p k c d v R)) (fun _ u5 _ _ _ _ => left f.n (intOf u5).toNat)
  case atStart => exact ⟨0, 0, 0, -1, none, rfl, rfl, rfl, S0⟩
  case round =>
    obtain ⟨k, c, d, v, p, rfl, rfl, rfl, S⟩ := hrel
    clear S0
    obtain ⟨R, SR⟩ := S.out
    have U : Hid (Fzs f fb ms cp cc vb ab bb lb mb w wr p k c d v R) := SR
    clear S SR
    have d24 := lt32 U.out.lt n24
    have f2 := cell_blk U.out.sf.blk 2 (v := .int .u32 ((f.mustW : Nat) : Int)) rfl
    rw [← HW.out] at f2
    obtain ⟨t3, ht3⟩ : ∃ t3, t3 = decide (mw &&& d = mw) := ⟨_, rfl⟩
    have b3 : (bits .andNot .u32 (mw : Int) (d : Int) == 0) = t3 := by rw [ht3]; exact u32_andNot_nat mw d (by omega) (by omega)
    have b4 : (bits .andNot .u32 (mw : Int) (d : Int) != 0) = !t3 := by rw [bne, b3]
    have WH : Hid (t3 = true ↔ f.Whole d) := by
      show t3 = true ↔ f.Whole d
      rw [ht3, decide_eq_true_iff, HW.out]
      exact must_sub
    clear ht3
    cases t3
    · have NW : Hid (¬ f.Whole d) := fun z => by have := WH.out.2 z; cases this
      clear WH
      have CL : Hid (Calls Try.prog 76 #[.pointer (some ⟨fb, 0, none⟩), .int .u32 (d : Int), .int .i64 v] wr (RetL (LeastQ f d v mb wr))) := by
        obtain ⟨M5, h1, h2⟩ := U.out.map
        exact least OKH.out U.out.sf h1 h2 d v U.out.lt
      go_wp2_with fail
      refine CL.out.mono ?_
      rintro o w2 ⟨r, fd, rfl, Q2⟩
      have V : Hid (Fzs f fb ms cp cc vb ab bb lb mb w w2 p k c d v R ∧ LeastQ f d v mb wr r fd w2) := ⟨U.out.next Q2, Q2⟩
      clear Q2 CL b3 b4 f2 U
      cases fd
      · have NO : Hid (¬ f.Can 0 (-1)) := V.out.1.stuck NW.out (V.out.2.no rfl)
        go_wp2_with fail
        go_ret2
        exact RetF.mk none 0 0 false rfl ⟨fun z => (by cases z), fun _ => ⟨rfl, rfl, rfl, NO.out⟩, V.out.1.kept⟩
      · obtain ⟨i, ei, my, cn, le⟩ := V.out.2.yes rfl
        subst ei
        have Y : Hid (f.May d v i ∧ f.Can (add d i) (f.val i) ∧ ∀ j, j < i → ¬ (f.May d v j ∧ f.Can (add d j) (f.val j))) := ⟨my, cn, le⟩
        have hin := my.1
        clear my cn le
        have BL : Hid (k + 1 ≤ maxLen ∧ ((k + 1) + (k + 1) / 4 + 192) * 8 ≤ 281474976710656) := by
          have h1 := V.out.1.few
          unfold maxLen
          exact ⟨by omega, by omega⟩
        go_upto_region 8 with
          (first
            | (at_builtin; refine wpList_append_all _ rfl (.tmp 25) (.tmp 27) 22 3 22 _ 1 8 rfl Try.underlying22 Try.info3c rfl w.heap.size (.slice p k c) k (intsN R) rfl (((Kept.refl (fun _ => False) w2).alloc _).owns V.out.1.row.row (fun _ _ z => z)) _ 1 (intsN [i]) rfl (src_one (heap_alloc_new w2 _)) BL.out.1 BL.out.2 (Nat.le_trans V.out.1.kept.size ((Kept.refl (fun _ => False) w2).alloc _).size) ?_; intro p9 c9 w9 ho hg hn
               have T9 : Hid (Fzs f fb ms cp cc vb ab bb lb mb w w9 p9 (k + 1) c9 (add d i) (f.val i) (R ++ [i])) := V.out.1.more NW.out Y.out.1 Y.out.2.1 Y.out.2.2 ho.out rfl hg.out
               clear ho hg hn)
            | fail)
        have v1 := T9.out.sf.val i hin
        have f1 := cell_blk T9.out.sf.blk 1 (v := .slice (some ⟨vb, 0, none⟩) f.n f.n) rfl
        obtain ⟨n, hn⟩ : ∃ n, n = f.n := ⟨_, rfl⟩
        rw [← hn] at f1 hin n24
        obtain ⟨x, hx⟩ : ∃ x, x = f.val i := ⟨_, rfl⟩
        rw [← hx] at v1
        obtain ⟨q, hq⟩ : ∃ q : Nat, q = 2 ^ i := ⟨_, rfl⟩
        have p2 : (2 : Int) ^ i % 4294967296 = (q : Int) := by rw [hq]; exact pow_mod (by omega)
        have p3 : IntKind.u32.wrap ((2 : Int) ^ i) = (q : Int) := by rw [IntKind.wrap_u32]; exact p2
        obtain ⟨ae, hae⟩ : ∃ ae, ae = add d i := ⟨_, rfl⟩
        have o2 : bits .or .u32 (d : Int) (q : Int) = (ae : Int) := by
          rw [hq, hae]
          exact or_pow d i (by omega) (by omega)
        have i1 : (i : Int) < (n : Int) := by omega
        have i0 : (0 : Int) ≤ (i : Int) := by omega
        have LM : Hid (left f.n ae < left f.n d) := by
          rw [hae]
          exact left_add Y.out.1.1 Y.out.1.2.1
        rw [← hx, ← hae] at T9
        clear hx hq hae hn
        go_quiet (fail)
        have T10 : Hid (Fzs f fb ms cp cc vb ab bb lb mb w (w9.drewN nq) p9 (k + 1) c9 ae x (R ++ [i])) := T9.out.k0 ((Kept.refl _ _).drewN _)
        clear T9 v1 f1 p2 p3 o2
        go_wp2_with fail
        go_roundw
        case rel => exact ⟨k + 1, c9, ae, x, p9, rfl, rfl, rfl, R ++ [i], T10.out⟩
        case measure =>
          have := LM.out
          simp [intOf]
          exact this
    · have G : Hid (FirstQ f mb w p k c true wr) := by
        have wh : f.Whole d := by
          have := WH.out
          first | exact this.1 rfl | exact this | (simp at this; exact this)
        obtain ⟨g1, g2⟩ := U.out.grow.done wh
        exact ⟨fun _ => ⟨R, U.out.row, g1, g2⟩, fun z => (by cases z), U.out.kept⟩
      go_wp2_with fail
      go_ret2
      exact RetF.mk p k c true rfl G.out
end Go.Proofs.Ytodmakcklacbfaa
