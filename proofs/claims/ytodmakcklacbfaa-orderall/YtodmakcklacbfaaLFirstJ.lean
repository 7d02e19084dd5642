import Derived.Test.YtodmakcklacbfaaLEnd
namespace Go.Proofs.Ytodmakcklacbfaa
open Go.RowKit 

structure LeastQ (f : Fd) (d : Nat) (v : Int) (mb : Nat) (w : World) (r : Int) (fd : Bool) (w' : World) : Prop where
  yes : fd = true → ∃ i : Nat, r = (i : Int) ∧ f.May d v i ∧ f.Can (add d i) (f.val i) ∧ ∀ j, j < i → ¬ (f.May d v j ∧ f.Can (add d j) (f.val j))
  no : fd = false → ∀ j, ¬ (f.May d v j ∧ f.Can (add d j) (f.val j))
  map : ∃ M, IsM w' mb M ∧ Sound f M
  k : Kept (fun k => k = mb) w w'
def RetL (Q : Int → Bool → World → Prop) (o : Ending) (w : World) : Prop := ∃ (r : Int) (b : Bool), o = .returned (.tuple #[.int .i64 r, .bool b]) ∧ Q r b w
theorem RetL.mk {Q : Int → Bool → World → Prop} {o : Ending} {w : World} (r : Int) (b : Bool) (h : o = .returned (.tuple #[.int .i64 r, .bool b])) (q : Q r b w) : RetL Q o w := ⟨r, b, h, q⟩
set_option maxRecDepth 100000 in
set_option maxHeartbeats 8000000 in
theorem least {w : World} {fb : Nat} {f : Fd} {ms : List Cm} {cp : Option Addr} {cc vb ab bb lb mb : Nat} (ok : f.Ok) {M : Int → Option Unit} (h : SF w fb f ms cp cc vb ab bb lb mb) (hM : IsM w mb M) (sd : Sound f M) (d : Nat) (v : Int) (hd : d < 2 ^ f.n) :
    Calls Try.prog 76 #[.pointer (some ⟨fb, 0, none⟩), .int .u32 (d : Int), .int .i64 v] w (RetL (LeastQ f d v mb w)) := by
  have H : Hid (SF w fb f ms cp cc vb ab bb lb mb ∧ f.Ok ∧ d < 2 ^ f.n) := ⟨h, ok, hd⟩
  have n24 := h.n24
  have d24 := lt32 hd n24
  have f0 := cell_blk h.blk 0 (v := .slice cp f.n cc) rfl
  have rm := h.cr.room
  have sm := h.cr.small
  unfold maxLen at sm
  obtain ⟨n, hn⟩ : ∃ n, n = f.n := ⟨_, rfl⟩
  rw [← hn] at f0 n24 rm
  have HN : Hid (n = f.n) := hn
  have S0 : Hid (∃ M, SF w fb f ms cp cc vb ab bb lb mb ∧ IsM w mb M ∧ Sound f M ∧ Kept (fun k => k = mb) w w ∧ ∀ j, j < 0 → ¬ (f.May d v j ∧ f.Can (add d j) (f.val j))) := ⟨M, h, hM, sd, Kept.refl _ _, fun j hj => absurd hj (by omega)⟩
  clear h ok hd hn hM sd
  go_enter Try.func76, Try.ntmps76
  go_wp2_with fail
  go_loopw [8, 14] (fun _ u14 wr => ∃ (i : Nat), u14 = .int .i64 (i : Int) ∧ i ≤ n ∧ Hid (∃ M, SF wr fb f ms cp cc vb ab bb lb mb ∧ IsM wr mb M ∧ Sound f M ∧ Kept (fun k => k = mb) w wr ∧ ∀ j, j < i → ¬ (f.May d v j ∧ f.Can (add d j) (f.val j)))) (fun _ u14 _ => n - (intOf u14).toNat)
  case atStart => exact ⟨0, rfl, Nat.zero_le _, S0⟩
  case round =>
    obtain ⟨i, rfl, hi, S⟩ := hrel
    clear S0
    obtain ⟨M5, S5⟩ := S.out
    have U : Hid (SF wr fb f ms cp cc vb ab bb lb mb ∧ IsM wr mb M5 ∧ Sound f M5 ∧ Kept (fun k => k = mb) w wr ∧ ∀ j, j < i → ¬ (f.May d v j ∧ f.Can (add d j) (f.val j))) := S5
    clear S S5
    by_cases hlt : i < n
    · have i1 : (i : Int) < (n : Int) := by omega
      have hin : i < f.n := by rw [← HN.out]; exact hlt
      obtain ⟨r, hr⟩ : ∃ r, f.mayB d v i = r := ⟨_, rfl⟩
      have CM : Hid (∀ V, Kept (fun _ => False) wr V → Calls Try.prog 89 #[.pointer (some ⟨fb, 0, none⟩), .int .u32 (d : Int), .int .i64 v, .int .i64 (i : Int)] V fun o w' => o = .returned (.bool r) ∧ w' = V) := fun V kv => mayFollow (U.out.1.k0 kv) d v i H.out.2.2 hin hr
      have HR : Hid (f.mayB d v i = r ∧ i < f.n) := ⟨hr, hin⟩
      have v1 := U.out.1.val i hin
      have f1 := cell_blk U.out.1.blk 1 (v := .slice (some ⟨vb, 0, none⟩) f.n f.n) rfl
      rw [← HN.out] at f1
      have ST : Hid (Kept (fun _ => False) wr wr.drew) := (Kept.refl _ _).drew
      have i0 : (0 : Int) ≤ (i : Int) := by omega
      have i00 : ¬ (i : Int) < 0 := by omega
      clear hr hin
      go_upto_region 4 with fail
      cases r
      · go_quiet (first | (go_at_call 89; exact Calls.quiet_of_same (CM.out _ ((Kept.refl _ _).drewN _))) | fail)
        have K3 : Hid (Kept (fun _ => False) wr (wr.drewN nq)) := (Kept.refl _ _).drewN _
        have N1 : Hid (∀ j, j < i + 1 → ¬ (f.May d v j ∧ f.Can (add d j) (f.val j))) := by
          intro j hj
          by_cases e : j = i
          · rw [e]
            rintro ⟨z, _⟩
            rw [(mayB_iff HR.out.2).2 z] at HR
            cases HR.out.1
          · exact U.out.2.2.2.2 j (by omega)
        go_wp2_with fail
        go_roundw
        case rel => exact ⟨i + 1, by go_num, by omega, M5, U.out.1.k0 K3.out, U.out.2.1.k0 K3.out, U.out.2.2.1, U.out.2.2.2.1.trans K3.out (fun _ _ z => z.elim), N1.out⟩
        case measure => simp [intOf] <;> omega
      · obtain ⟨x, hx⟩ : ∃ x, x = f.val i := ⟨_, rfl⟩
        rw [← hx] at v1
        obtain ⟨q, hq⟩ : ∃ q : Nat, q = 2 ^ i := ⟨_, rfl⟩
        have p2 : (2 : Int) ^ i % 4294967296 = (q : Int) := by rw [hq]; exact pow_mod (by omega)
        have p3 : IntKind.u32.wrap ((2 : Int) ^ i) = (q : Int) := by rw [IntKind.wrap_u32]; exact p2
        obtain ⟨ae, hae⟩ : ∃ ae, ae = add d i := ⟨_, rfl⟩
        have o2 : bits .or .u32 (d : Int) (q : Int) = (ae : Int) := by
          rw [hq, hae]
          exact or_pow d i (by omega) (by omega)
        have CE : Hid (∀ V, Kept (fun _ => False) wr V → Calls Try.prog 90 #[.pointer (some ⟨fb, 0, none⟩), .int .u32 (ae : Int), .int .i64 x] V (RetB (EndQ f ae x mb V))) := by
          intro V kv
          exact canEnd H.out.2.1 (left f.n ae + 1) V ae x M5 (Nat.lt_succ_self _) (U.out.1.k0 kv) (U.out.2.1.k0 kv) U.out.2.2.1 (by rw [hae]; exact add_lt H.out.2.2 HR.out.2)
        have HX : Hid (x = f.val i ∧ ae = add d i) := ⟨hx, hae⟩
        clear hx hq hae
        go_region_held3 (fun V => V.cell? ⟨fb, 1, none⟩ = some (.slice (some ⟨vb, 0, none⟩) n n) ∧ V.cell? ⟨vb, i, none⟩ = some (.int .i64 x)) (first | go_keep)
          (first
            | (go_at_call 90; refine (CE.out _ STB.out).mono ?_; rintro o w9 ⟨y, rfl, Q9⟩
               have f1 := Q9.k.cell f1 (U.out.2.1.ne _ _ f1)
               have v1 := Q9.k.cell v1 (U.out.2.1.ne _ _ v1))
            | (go_at_call 89; refine (CM.out _ ST.out).mono ?_; rintro o w2 ⟨rfl, e2⟩; rw [e2]
               have STB : Hid (Kept (fun _ => False) wr wr.drew) := ST.out
               clear e2)
            | fail)
        have U9 : Hid (SF w9 fb f ms cp cc vb ab bb lb mb ∧ Kept (fun k => k = mb) w w9) := by
          have sf := U.out.1.k0 (ST.out)
          have im := U.out.2.1.k0 (ST.out)
          exact ⟨sf.off Q9.k im.ne, (U.out.2.2.2.1.trans ST.out (fun _ _ z => z.elim)).trans Q9.k (fun _ _ z => z)⟩
        have Q10 : Hid (EndQ f ae x mb wr.drew y w9) := Q9
        have MY : Hid (f.May d v i) := (mayB_iff HR.out.2).1 (by have := HR.out.1; simpa using this)
        clear Q9 f1 v1 p2 p3 o2 CE CM
        cases y
        · have N1 : Hid (∀ j, j < i + 1 → ¬ (f.May d v j ∧ f.Can (add d j) (f.val j))) := by
            intro j hj
            by_cases e : j = i
            · rw [e, ← HX.out.1, ← HX.out.2]
              rintro ⟨_, z⟩
              have := Q10.out.can.2 z
              cases this
            · exact U.out.2.2.2.2 j (by omega)
          go_wp2_with fail
          go_roundw
          case rel =>
            obtain ⟨M9, h1, h2⟩ := Q10.out.map
            exact ⟨i + 1, by go_num, by omega, M9, U9.out.1, h1, h2, U9.out.2, N1.out⟩
          case measure => simp [intOf] <;> omega
        · have Y1 : Hid (∃ i' : Nat, (i : Int) = (i' : Int) ∧ f.May d v i' ∧ f.Can (add d i') (f.val i') ∧ ∀ j, j < i' → ¬ (f.May d v j ∧ f.Can (add d j) (f.val j))) := by
            refine ⟨i, rfl, MY.out, ?_, U.out.2.2.2.2⟩
            rw [← HX.out.1, ← HX.out.2]
            exact Q10.out.can.1 rfl
          go_wp2_with fail
          go_ret2
          exact RetL.mk (i : Int) true rfl ⟨fun _ => Y1.out, fun z => (by cases z), Q10.out.map, U9.out.2⟩
    · have i1 : ¬ (i : Int) < (n : Int) := by omega
      have N1 : Hid (∀ j, ¬ (f.May d v j ∧ f.Can (add d j) (f.val j))) := by
        intro j
        by_cases hj : j < i
        · exact U.out.2.2.2.2 j hj
        · rintro ⟨z, _⟩
          have := z.1
          rw [← HN.out] at this
          omega
      go_wp2_with fail
      go_ret2
      exact RetL.mk 0 false rfl ⟨fun z => (by cases z), fun _ => N1.out, ⟨M5, U.out.2.1, U.out.2.2.1⟩, U.out.2.2.2.1⟩
end Go.Proofs.Ytodmakcklacbfaa

namespace Go.Proofs.Ytodmakcklacbfaa
open Go.RowKit 

structure FirstQ (f : Fd) (mb : Nat) (w : World) (p : Option Addr) (k c : Nat) (ok : Bool) (w' : World) : Prop where
  yes : ok = true → ∃ R, NRow w.heap.size w' p k c R ∧ f.Run R 0 (-1) ∧ ∀ o, f.Run o 0 (-1) → ¬ o < R
  no : ok = false → p = none ∧ k = 0 ∧ c = 0 ∧ ¬ f.Can 0 (-1)
  k : Kept (fun k => k = mb) w w'
def RetF (Q : Option Addr → Nat → Nat → Bool → World → Prop) (o : Ending) (w : World) : Prop := ∃ (p : Option Addr) (k c : Nat) (b : Bool), o = .returned (.tuple #[.slice p k c, .bool b]) ∧ Q p k c b w
theorem RetF.mk {Q : Option Addr → Nat → Nat → Bool → World → Prop} {o : Ending} {w : World} (p : Option Addr) (k c : Nat) (b : Bool) (h : o = .returned (.tuple #[.slice p k c, .bool b])) (q : Q p k c b w) : RetF Q o w := ⟨p, k, c, b, h, q⟩
theorem left_zero (n : Nat) : left n 0 = n := by
  unfold left
  have : (List.range n).filter (fun j => !(0 : Nat).testBit j) = List.range n := by
    rw [List.filter_eq_self]
    intro j _
    simp
  rw [this, List.length_range]
/-- The order on its way. -/
structure Fzs (f : Fd) (fb : Nat) (ms : List Cm) (cp : Option Addr) (cc vb ab bb lb mb : Nat) (w wr : World) (p : Option Addr) (k c d : Nat) (v : Int) (R : List Nat) : Prop where
  sf0 : SF w fb f ms cp cc vb ab bb lb mb
  m0 : ∃ M, IsM w mb M
  map : ∃ M, IsM wr mb M ∧ Sound f M
  row : NRow w.heap.size wr p k c R
  grow : Grow f R d v
  lt : d < 2 ^ f.n
  few : left f.n d + k ≤ f.n
  can : f.Can d v ∨ (d = 0 ∧ v = -1)
  kept : Kept (fun k => k = mb) w wr
theorem Fzs.k0 {f : Fd} {fb : Nat} {ms : List Cm} {cp : Option Addr} {cc vb ab bb lb mb : Nat} {w wr w' : World} {p : Option Addr} {k c d : Nat} {v : Int} {R : List Nat} (h : Fzs f fb ms cp cc vb ab bb lb mb w wr p k c d v R) (K : Kept (fun _ => False) wr w') : Fzs f fb ms cp cc vb ab bb lb mb w w' p k c d v R := by
  obtain ⟨M, h1, h2⟩ := h.map
  exact ⟨h.sf0, h.m0, ⟨M, h1.k0 K, h2⟩, h.row.k0 K, h.grow, h.lt, h.few, h.can, h.kept.trans K (fun _ _ z => z.elim)⟩
/-- Behind 'least'. -/
theorem Fzs.next {f : Fd} {fb : Nat} {ms : List Cm} {cp : Option Addr} {cc vb ab bb lb mb : Nat} {w wr w' : World} {p : Option Addr} {k c d : Nat} {v : Int} {R : List Nat} (h : Fzs f fb ms cp cc vb ab bb lb mb w wr p k c d v R) {r : Int} {b : Bool} (q : LeastQ f d v mb wr r b w') : Fzs f fb ms cp cc vb ab bb lb mb w w' p k c d v R := by
  obtain ⟨M, h1, h2⟩ := h.map
  exact ⟨h.sf0, h.m0, q.map, h.row.off q.k (h.row.ne h1), h.grow, h.lt, h.few, h.can, h.kept.trans q.k (fun _ _ z => z)⟩
theorem Fzs.stuck {f : Fd} {fb : Nat} {ms : List Cm} {cp : Option Addr} {cc vb ab bb lb mb : Nat} {w wr : World} {p : Option Addr} {k c d : Nat} {v : Int} {R : List Nat} (h : Fzs f fb ms cp cc vb ab bb lb mb w wr p k c d v R) (nw : ¬ f.Whole d) (no : ∀ j, ¬ (f.May d v j ∧ f.Can (add d j) (f.val j))) : ¬ f.Can 0 (-1) := by
  have nc : ¬ f.Can d v := by
    rintro ⟨o, ho⟩
    cases o with
    | nil => exact nw ho
    | cons j o => exact no j ⟨ho.1, o, ho.2⟩
  rcases h.can with z | ⟨z1, z2⟩
  · exact absurd z nc
  · rw [z1, z2] at nc; exact nc
/-- One call more. -/
theorem Fzs.more {f : Fd} {fb : Nat} {ms : List Cm} {cp : Option Addr} {cc vb ab bb lb mb : Nat} {w wr wi w9 : World} {p p9 : Option Addr} {k c c9 d i : Nat} {v : Int} {R : List Nat} {o : Obj} (h : Fzs f fb ms cp cc vb ab bb lb mb w wr p k c d v R) (nw : ¬ f.Whole d) (m : f.May d v i) (cn : f.Can (add d i) (f.val i)) (le : ∀ j, j < i → ¬ (f.May d v j ∧ f.Can (add d j) (f.val j))) (ho : w9.ownsRow w.heap.size 3 1 (.slice p9 (k + 1) c9) (k + 1) (intsN R ++ intsN [i])) (e : wi = wr.alloc o) (hg : wi.grownBy w9 (Value.slice p k c).ownBlock) : Fzs f fb ms cp cc vb ab bb lb mb w w9 p9 (k + 1) c9 (add d i) (f.val i) (R ++ [i]) := by
  have KG : Kept (fun j => blockOf p = some j) wr w9 := by
    rw [e] at hg
    exact ((Kept.refl (fun j => blockOf p = some j) wr).alloc _).grown hg (fun j _ z => by rw [blockOf_own] at z; exact z)
  obtain ⟨M, h1, h2⟩ := h.map
  refine ⟨h.sf0, h.m0, ⟨M, ⟨h1.1.kept KG (fun z => h.row.ne h1 mb z rfl), h1.2⟩, h2⟩, ⟨by rw [List.length_append, h.row.len]; rfl, by rw [intsN_append]; exact ho⟩, h.grow.step nw m le, add_lt h.lt m.1, ?_, .inl cn, h.kept.trans KG (fun j hj z => ?_)⟩
  · have := left_add m.1 m.2.1
    have := h.few
    omega
  · have := (own_lt h.row.row j z).1
    omega
theorem Fzs.sf {f : Fd} {fb : Nat} {ms : List Cm} {cp : Option Addr} {cc vb ab bb lb mb : Nat} {w wr : World} {p : Option Addr} {k c d : Nat} {v : Int} {R : List Nat} (h : Fzs f fb ms cp cc vb ab bb lb mb w wr p k c d v R) : SF wr fb f ms cp cc vb ab bb lb mb := by
  obtain ⟨M, hm⟩ := h.m0
  exact h.sf0.off h.kept hm.ne
set_option maxRecDepth 100000 in
set_option maxHeartbeats 8000000 in
theorem first {w : World} {fb : Nat} {f : Fd} {ms : List Cm} {cp : Option Addr} {cc vb ab bb lb mb : Nat} (ok : f.Ok) {M : Int → Option Unit} (h : SF w fb f ms cp cc vb ab bb lb mb) (hM : IsM w mb M) (sd : Sound f M) :
    Calls Try.prog 47 #[.pointer (some ⟨fb, 0, none⟩)] w (RetF (FirstQ f mb w)) := by
  have n24 := h.n24
  have OKH : Hid f.Ok := ok
  have S0 : Hid (∃ R, Fzs f fb ms cp cc vb ab bb lb mb w w none 0 0 0 (-1) R) := ⟨[], h, ⟨M, hM⟩, ⟨M, hM, sd⟩, ⟨rfl, ⟨rfl, .inl ⟨rfl, rfl⟩⟩⟩, Grow.nil f, Nat.two_pow_pos _, by rw [left_zero]; omega, .inr ⟨rfl, rfl⟩, Kept.refl _ _⟩
  obtain ⟨mw, hmw⟩ : ∃ mw, mw = f.mustW := ⟨_, rfl⟩
  have mw24 : mw < 16777216 := by rw [hmw]; exact lt32 (wrd_lt _ _) n24
  have HW : Hid (mw = f.mustW) := hmw
  clear h hM sd ok hmw
  go_enter Try.func47, Try.ntmps47
  go_wp2_with fail
  go_loopw [4, 5, 6, 7, 8] (fun u4 u5 u6 _ _ wr => ∃ (k c d : Nat) (v : Int) (p : Option Addr), u4 = .slice p k c ∧ u5 = .int .u32 (d : Int) ∧ u6 = .int .i64 v ∧ Hid (∃ R, Fzs f fb ms cp cc vb ab bb lb mb w wr p k c d v R)) (fun _ u5 _ _ _ _ => left f.n (intOf u5).toNat)
  case atStart => exact ⟨0, 0, 0, -1, none, rfl, rfl, rfl, S0⟩
  case round =>
    obtain ⟨k, c, d, v, p, rfl, rfl, rfl, S⟩ := hrel
    clear S0
    obtain ⟨R, SR⟩ := S.out
    have U : Hid (Fzs f fb ms cp cc vb ab bb lb mb w wr p k c d v R) := SR
    clear S SR
    have d24 := lt32 U.out.lt n24
    have f2 := cell_blk U.out.sf.blk 2 (v := .int .u32 ((f.mustW : Nat) : Int)) rfl
    rw [← HW.out] at f2
    obtain ⟨t3, ht3⟩ : ∃ t3, t3 = decide (mw &&& d = mw) := ⟨_, rfl⟩
    have b3 : (bits .andNot .u32 (mw : Int) (d : Int) == 0) = t3 := by rw [ht3]; exact u32_andNot_nat mw d (by omega) (by omega)
    have b4 : (bits .andNot .u32 (mw : Int) (d : Int) != 0) = !t3 := by rw [bne, b3]
    have WH : Hid (t3 = true ↔ f.Whole d) := by
      show t3 = true ↔ f.Whole d
      rw [ht3, decide_eq_true_iff, HW.out]
      exact must_sub
    clear ht3
    cases t3
    · have NW : Hid (¬ f.Whole d) := fun z => by have := WH.out.2 z; cases this
      clear WH
      have CL : Hid (Calls Try.prog 76 #[.pointer (some ⟨fb, 0, none⟩), .int .u32 (d : Int), .int .i64 v] wr (RetL (LeastQ f d v mb wr))) := by
        obtain ⟨M5, h1, h2⟩ := U.out.map
        exact least OKH.out U.out.sf h1 h2 d v U.out.lt
      go_wp2_with fail
      refine CL.out.mono ?_
      rintro o w2 ⟨r, fd, rfl, Q2⟩
      have V : Hid (Fzs f fb ms cp cc vb ab bb lb mb w w2 p k c d v R ∧ LeastQ f d v mb wr r fd w2) := ⟨U.out.next Q2, Q2⟩
      clear Q2 CL b3 b4 f2 U
      cases fd
      · have NO : Hid (¬ f.Can 0 (-1)) := V.out.1.stuck NW.out (V.out.2.no rfl)
        go_wp2_with fail
        go_ret2
        exact RetF.mk none 0 0 false rfl ⟨fun z => (by cases z), fun _ => ⟨rfl, rfl, rfl, NO.out⟩, V.out.1.kept⟩
      · obtain ⟨i, ei, my, cn, le⟩ := V.out.2.yes rfl
        subst ei
        have Y : Hid (f.May d v i ∧ f.Can (add d i) (f.val i) ∧ ∀ j, j < i → ¬ (f.May d v j ∧ f.Can (add d j) (f.val j))) := ⟨my, cn, le⟩
        have hin := my.1
        clear my cn le
        have BL : Hid (k + 1 ≤ maxLen ∧ ((k + 1) + (k + 1) / 4 + 192) * 8 ≤ 281474976710656) := by
          have h1 := V.out.1.few
          unfold maxLen
          exact ⟨by omega, by omega⟩
        go_upto_region 8 with
          (first
            | (at_builtin; refine wpList_append_all _ rfl (.tmp 25) (.tmp 27) 22 3 22 _ 1 8 rfl Try.underlying22 Try.info3c rfl w.heap.size (.slice p k c) k (intsN R) rfl (((Kept.refl (fun _ => False) w2).alloc _).owns V.out.1.row.row (fun _ _ z => z)) _ 1 (intsN [i]) rfl (src_one (heap_alloc_new w2 _)) BL.out.1 BL.out.2 (Nat.le_trans V.out.1.kept.size ((Kept.refl (fun _ => False) w2).alloc _).size) ?_; intro p9 c9 w9 ho hg hn
               have T9 : Hid (Fzs f fb ms cp cc vb ab bb lb mb w w9 p9 (k + 1) c9 (add d i) (f.val i) (R ++ [i])) := V.out.1.more NW.out Y.out.1 Y.out.2.1 Y.out.2.2 ho.out rfl hg.out
               clear ho hg hn)
            | fail)
        have v1 := T9.out.sf.val i hin
        have f1 := cell_blk T9.out.sf.blk 1 (v := .slice (some ⟨vb, 0, none⟩) f.n f.n) rfl
        obtain ⟨n, hn⟩ : ∃ n, n = f.n := ⟨_, rfl⟩
        rw [← hn] at f1 hin n24
        obtain ⟨x, hx⟩ : ∃ x, x = f.val i := ⟨_, rfl⟩
        rw [← hx] at v1
        obtain ⟨q, hq⟩ : ∃ q : Nat, q = 2 ^ i := ⟨_, rfl⟩
        have p2 : (2 : Int) ^ i % 4294967296 = (q : Int) := by rw [hq]; exact pow_mod (by omega)
        have p3 : IntKind.u32.wrap ((2 : Int) ^ i) = (q : Int) := by rw [IntKind.wrap_u32]; exact p2
        obtain ⟨ae, hae⟩ : ∃ ae, ae = add d i := ⟨_, rfl⟩
        have o2 : bits .or .u32 (d : Int) (q : Int) = (ae : Int) := by
          rw [hq, hae]
          exact or_pow d i (by omega) (by omega)
        have i1 : (i : Int) < (n : Int) := by omega
        have i0 : (0 : Int) ≤ (i : Int) := by omega
        have LM : Hid (left f.n ae < left f.n d) := by
          rw [hae]
          exact left_add Y.out.1.1 Y.out.1.2.1
        rw [← hx, ← hae] at T9
        clear hx hq hae hn
        go_quiet (fail)
        have T10 : Hid (Fzs f fb ms cp cc vb ab bb lb mb w (w9.drewN nq) p9 (k + 1) c9 ae x (R ++ [i])) := T9.out.k0 ((Kept.refl _ _).drewN _)
        clear T9 v1 f1 p2 p3 o2
        go_wp2_with fail
        go_roundw
        case rel => exact ⟨k + 1, c9, ae, x, p9, rfl, rfl, rfl, R ++ [i], T10.out⟩
        case measure =>
          have := LM.out
          simp [intOf]
          exact this
    · have G : Hid (FirstQ f mb w p k c true wr) := by
        have wh : f.Whole d := by
          have := WH.out
          first | exact this.1 rfl | exact this | (simp at this; exact this)
        obtain ⟨g1, g2⟩ := U.out.grow.done wh
        exact ⟨fun _ => ⟨R, U.out.row, g1, g2⟩, fun z => (by cases z), U.out.kept⟩
      go_wp2_with fail
      go_ret2
      exact RetF.mk p k c true rfl G.out
end Go.Proofs.Ytodmakcklacbfaa
