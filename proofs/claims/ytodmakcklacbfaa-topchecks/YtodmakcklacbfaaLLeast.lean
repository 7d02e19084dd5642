import Derived.Test.YtodmakcklacbfaaLEnd
namespace Go.Proofs.Ytodmakcklacbfaa
open Go.RowKit 

structure LeastQ (f : Fd) (d : Nat) (v : Int) (mb : Nat) (w : World) (r : Int) (fd : Bool) (w' : World) : Prop where
  yes : fd = true → ∃ i : Nat, r = (i : Int) ∧ f.May d v i ∧ f.Can (add d i) (f.val i) ∧ ∀ j, j < i → ¬ (f.May d v j ∧ f.Can (add d j) (f.val j))
  no : fd = false → ∀ j, ¬ (f.May d v j ∧ f.Can (add d j) (f.val j))
  map : ∃ M, IsM w' mb M ∧ Sound f M
  k : Kept (fun k => k = mb) w w'
def RetL (Q : Int → Bool → World → Prop) (o : Ending) (w : World) : Prop := ∃ (r : Int) (b : Bool), o = .returned (.tuple #[.int .i64 r, .bool b]) ∧ Q r b w
theorem RetL.mk {Q : Int → Bool → World → Prop} {o : Ending} {w : World} (r : Int) (b : Bool) (h : o = .returned (.tuple #[.int .i64 r, .bool b])) (q : Q r b w) : RetL Q o w := ⟨r, b, h, q⟩
set_option maxRecDepth 100000 in
set_option maxHeartbeats 8000000 in
theorem least {w : World} {fb : Nat} {f : Fd} {ms : List Cm} {cp : Option Addr} {cc vb ab bb lb mb : Nat} (ok : f.Ok) {M : Int → Option Unit} (h : SF w fb f ms cp cc vb ab bb lb mb) (hM : IsM w mb M) (sd : Sound f M) (d : Nat) (v : Int) (hd : d < 2 ^ f.n) :
    Calls Try.prog 76 #[.pointer (some ⟨fb, 0, none⟩), .int .u32 (d : Int), .int .i64 v] w (RetL (LeastQ f d v mb w)) := by
  have H : Hid (SF w fb f ms cp cc vb ab bb lb mb ∧ f.Ok ∧ d < 2 ^ f.n) := ⟨h, ok, hd⟩
  have n24 := h.n24
  have d24 := lt32 hd n24
  have f0 := cell_blk h.blk 0 (v := .slice cp f.n cc) rfl
  have rm := h.cr.room
  have sm := h.cr.small
  unfold maxLen at sm
  obtain ⟨n, hn⟩ : ∃ n, n = f.n := ⟨_, rfl⟩
  rw [← hn] at f0 n24 rm
  have HN : Hid (n = f.n) := hn
  have S0 : Hid (∃ M, SF w fb f ms cp cc vb ab bb lb mb ∧ IsM w mb M ∧ Sound f M ∧ Kept (fun k => k = mb) w w ∧ ∀ j, j < 0 → ¬ (f.May d v j ∧ f.Can (add d j) (f.val j))) := ⟨M, h, hM, sd, Kept.refl _ _, fun j hj => absurd hj (by omega)⟩
  clear h ok hd hn hM sd
  go_enter Try.func76, Try.ntmps76
  go_wp2_with fail
  go_loopw [8, 14] (fun _ u14 wr => ∃ (i : Nat), u14 = .int .i64 (i : Int) ∧ i ≤ n ∧ Hid (∃ M, SF wr fb f ms cp cc vb ab bb lb mb ∧ IsM wr mb M ∧ Sound f M ∧ Kept (fun k => k = mb) w wr ∧ ∀ j, j < i → ¬ (f.May d v j ∧ f.Can (add d j) (f.val j)))) (fun _ u14 _ => n - (intOf u14).toNat)
  case atStart => exact ⟨0, rfl, Nat.zero_le _, S0⟩
  case round =>
    obtain ⟨i, rfl, hi, S⟩ := hrel
    clear S0
    obtain ⟨M5, S5⟩ := S.out
    have U : Hid (SF wr fb f ms cp cc vb ab bb lb mb ∧ IsM wr mb M5 ∧ Sound f M5 ∧ Kept (fun k => k = mb) w wr ∧ ∀ j, j < i → ¬ (f.May d v j ∧ f.Can (add d j) (f.val j))) := S5
    clear S S5
    by_cases hlt : i < n
    · have i1 : (i : Int) < (n : Int) := by omega
      have hin : i < f.n := by rw [← HN.out]; exact hlt
      obtain ⟨r, hr⟩ : ∃ r, f.mayB d v i = r := ⟨_, rfl⟩
      have CM : Hid (∀ V, Kept (fun _ => False) wr V → Calls Try.prog 89 #[.pointer (some ⟨fb, 0, none⟩), .int .u32 (d : Int), .int .i64 v, .int .i64 (i : Int)] V fun o w' => o = .returned (.bool r) ∧ w' = V) := fun V kv => mayFollow (U.out.1.k0 kv) d v i H.out.2.2 hin hr
      have HR : Hid (f.mayB d v i = r ∧ i < f.n) := ⟨hr, hin⟩
      have v1 := U.out.1.val i hin
      have f1 := cell_blk U.out.1.blk 1 (v := .slice (some ⟨vb, 0, none⟩) f.n f.n) rfl
      rw [← HN.out] at f1
      have ST : Hid (Kept (fun _ => False) wr wr.drew) := (Kept.refl _ _).drew
      have i0 : (0 : Int) ≤ (i : Int) := by omega
      have i00 : ¬ (i : Int) < 0 := by omega
      clear hr hin
      go_upto_region 4 with fail
      cases r
      · go_quiet (first | (go_at_call 89; exact Calls.quiet_of_same (CM.out _ ((Kept.refl _ _).drewN _))) | fail)
        have K3 : Hid (Kept (fun _ => False) wr (wr.drewN nq)) := (Kept.refl _ _).drewN _
        have N1 : Hid (∀ j, j < i + 1 → ¬ (f.May d v j ∧ f.Can (add d j) (f.val j))) := by
          intro j hj
          by_cases e : j = i
          · rw [e]
            rintro ⟨z, _⟩
            rw [(mayB_iff HR.out.2).2 z] at HR
            cases HR.out.1
          · exact U.out.2.2.2.2 j (by omega)
        go_wp2_with fail
        go_roundw
        case rel => exact ⟨i + 1, by go_num, by omega, M5, U.out.1.k0 K3.out, U.out.2.1.k0 K3.out, U.out.2.2.1, U.out.2.2.2.1.trans K3.out (fun _ _ z => z.elim), N1.out⟩
        case measure => simp [intOf] <;> omega
      · obtain ⟨x, hx⟩ : ∃ x, x = f.val i := ⟨_, rfl⟩
        rw [← hx] at v1
        obtain ⟨q, hq⟩ : ∃ q : Nat, q = 2 ^ i := ⟨_, rfl⟩
        have p2 : (2 : Int) ^ i % 4294967296 = (q : Int) := by rw [hq]; exact pow_mod (by omega)
        have p3 : IntKind.u32.wrap ((2 : Int) ^ i) = (q : Int) := by rw [IntKind.wrap_u32]; exact p2
        obtain ⟨ae, hae⟩ : ∃ ae, ae = add d i := ⟨_, rfl⟩
        have o2 : bits .or .u32 (d : Int) (q : Int) = (ae : Int) := by
          rw [hq, hae]
          exact or_pow d i (by omega) (by omega)
        have CE : Hid (∀ V, Kept (fun _ => False) wr V → Calls Try.prog 90 #[.pointer (some ⟨fb, 0, none⟩), .int .u32 (ae : Int), .int .i64 x] V (RetB (EndQ f ae x mb V))) := by
          intro V kv
          exact canEnd H.out.2.1 (left f.n ae + 1) V ae x M5 (Nat.lt_succ_self _) (U.out.1.k0 kv) (U.out.2.1.k0 kv) U.out.2.2.1 (by rw [hae]; exact add_lt H.out.2.2 HR.out.2)
        have HX : Hid (x = f.val i ∧ ae = add d i) := ⟨hx, hae⟩
        clear hx hq hae
        go_region_held3 (fun V => V.cell? ⟨fb, 1, none⟩ = some (.slice (some ⟨vb, 0, none⟩) n n) ∧ V.cell? ⟨vb, i, none⟩ = some (.int .i64 x)) (first | go_keep)
          (first
            | (go_at_call 90; refine (CE.out _ STB.out).mono ?_; rintro o w9 ⟨y, rfl, Q9⟩
               have f1 := Q9.k.cell f1 (U.out.2.1.ne _ _ f1)
               have v1 := Q9.k.cell v1 (U.out.2.1.ne _ _ v1))
            | (go_at_call 89; refine (CM.out _ ST.out).mono ?_; rintro o w2 ⟨rfl, e2⟩; rw [e2]
               have STB : Hid (Kept (fun _ => False) wr wr.drew) := ST.out
               clear e2)
            | fail)
        have U9 : Hid (SF w9 fb f ms cp cc vb ab bb lb mb ∧ Kept (fun k => k = mb) w w9) := by
          have sf := U.out.1.k0 (ST.out)
          have im := U.out.2.1.k0 (ST.out)
          exact ⟨sf.off Q9.k im.ne, (U.out.2.2.2.1.trans ST.out (fun _ _ z => z.elim)).trans Q9.k (fun _ _ z => z)⟩
        have Q10 : Hid (EndQ f ae x mb wr.drew y w9) := Q9
        have MY : Hid (f.May d v i) := (mayB_iff HR.out.2).1 (by have := HR.out.1; simpa using this)
        clear Q9 f1 v1 p2 p3 o2 CE CM
        cases y
        · have N1 : Hid (∀ j, j < i + 1 → ¬ (f.May d v j ∧ f.Can (add d j) (f.val j))) := by
            intro j hj
            by_cases e : j = i
            · rw [e, ← HX.out.1, ← HX.out.2]
              rintro ⟨_, z⟩
              have := Q10.out.can.2 z
              cases this
            · exact U.out.2.2.2.2 j (by omega)
          go_wp2_with fail
          go_roundw
          case rel =>
            obtain ⟨M9, h1, h2⟩ := Q10.out.map
            exact ⟨i + 1, by go_num, by omega, M9, U9.out.1, h1, h2, U9.out.2, N1.out⟩
          case measure => simp [intOf] <;> omega
        · have Y1 : Hid (∃ i' : Nat, (i : Int) = (i' : Int) ∧ f.May d v i' ∧ f.Can (add d i') (f.val i') ∧ ∀ j, j < i' → ¬ (f.May d v j ∧ f.Can (add d j) (f.val j))) := by
            refine ⟨i, rfl, MY.out, ?_, U.out.2.2.2.2⟩
            rw [← HX.out.1, ← HX.out.2]
            exact Q10.out.can.1 rfl
          go_wp2_with fail
          go_ret2
          exact RetL.mk (i : Int) true rfl ⟨fun _ => Y1.out, fun z => (by cases z), Q10.out.map, U9.out.2⟩
    · have i1 : ¬ (i : Int) < (n : Int) := by omega
      have N1 : Hid (∀ j, ¬ (f.May d v j ∧ f.Can (add d j) (f.val j))) := by
        intro j
        by_cases hj : j < i
        · exact U.out.2.2.2.2 j hj
        · rintro ⟨z, _⟩
          have := z.1
          rw [← HN.out] at this
          omega
      go_wp2_with fail
      go_ret2
      exact RetL.mk 0 false rfl ⟨fun z => (by cases z), fun _ => N1.out, ⟨M5, U.out.2.1, U.out.2.2.1⟩, U.out.2.2.2.1⟩
end Go.Proofs.Ytodmakcklacbfaa
