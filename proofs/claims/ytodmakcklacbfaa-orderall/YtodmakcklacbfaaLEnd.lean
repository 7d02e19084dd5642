import Derived.Test.YtodmakcklacbfaaLChoose
import Derived.Test.YtodmakcklacbfaaLMap
namespace Go.Proofs.Ytodmakcklacbfaa
open Go.RowKit 

theorem IsM.ne {w : World} {mb : Nat} {M : Int → Option Unit} (h : IsM w mb M) : ∀ q v, w.cell? q = some v → ¬ q.block = mb := by
  intro q v hc e
  obtain ⟨D, ⟨es, clock, hb, _⟩, _⟩ := h.1
  rw [← e] at hb
  simp [World.cell?, hb] at hc
theorem IsM.k0 {w w' : World} {mb : Nat} {M : Int → Option Unit} (h : IsM w mb M) (K : Kept (fun _ => False) w w') : IsM w' mb M := ⟨h.1.kept K (fun z => z), h.2⟩
/-- From where no order goes on, as far as is noted. -/
def Sound (f : Fd) (M : Int → Option Unit) : Prop := ∀ k : Int, M k ≠ none → ∃ e : Nat, k = (e : Int) ∧ ∀ v, f.Shut e v → ¬ f.Can e v
structure EndQ (f : Fd) (d : Nat) (v : Int) (mb : Nat) (w : World) (r : Bool) (w' : World) : Prop where
  can : r = true ↔ f.Can d v
  map : ∃ M, IsM w' mb M ∧ Sound f M
  k : Kept (fun k => k = mb) w w'
theorem must_sub {f : Fd} {e : Nat} : f.mustW &&& e = f.mustW ↔ f.Whole e := by
  rw [sub_iff]
  unfold Fd.mustW Fd.Whole
  constructor
  · intro h j h1 h2
    refine h j ?_
    rw [wrd_bit, decide_eq_true h1, h2]
    rfl
  · intro h j hj
    rw [wrd_bit, Bool.and_eq_true, decide_eq_true_iff] at hj
    exact h j hj.1 (by simpa using hj.2)
theorem Sound.put {f : Fd} {M : Int → Option Unit} (h : Sound f M) {e : Nat} {v : Int} (no : ¬ f.Can e v) : Sound f (upd M (e : Int) ()) := by
  intro k hk
  unfold upd at hk
  by_cases q : k = (e : Int)
  · exact ⟨e, q, fun x s c => no (Can.any s c)⟩
  · rw [if_neg q] at hk
    exact h k hk
theorem NRow.off {S : Nat → Prop} {b0 : Nat} {w w' : World} {p : Option Addr} {k c : Nat} {R : List Nat} (h : NRow b0 w p k c R) (K : Kept S w w') (hn : ∀ j, blockOf p = some j → ¬ S j) : NRow b0 w' p k c R := ⟨h.len, K.owns h.row (fun j hj => hn j (by rw [← hj]; exact (blockOf_own ..).symm))⟩
theorem NRow.ne {b0 : Nat} {w : World} {p : Option Addr} {k c : Nat} {R : List Nat} (h : NRow b0 w p k c R) {mb : Nat} {M : Int → Option Unit} (hm : IsM w mb M) : ∀ j, blockOf p = some j → ¬ j = mb := by
  intro j hj e
  obtain ⟨cs, hc⟩ := own_type h.row j hj
  obtain ⟨D, ⟨es, clock, hb, _⟩, _⟩ := hm.1
  rw [← e, hc] at hb
  cases hb
theorem IsM.upd {w' : World} {mb : Nat} {M : Int → Option Unit} (h2 : ∀ k, M k ≠ none → 0 ≤ k ∧ k < 16777216) {e : Nat} (he : e < 16777216) (h : TM 85 (Lit.int .u32) KF (fun _ : Unit => .agg #[]) RU w' mb (nput (cntM M 16777216) M (e : Int)) (Go.Proofs.Ytodmakcklacbfaa.upd M (e : Int) ())) : IsM w' mb (Go.Proofs.Ytodmakcklacbfaa.upd M (e : Int) ()) := by
  refine ⟨?_, fun k hk => ?_⟩
  · rw [cntM_upd M (e : Int) () 16777216 (by omega) (by omega)]
    exact h
  · by_cases q : k = (e : Int)
    · omega
    · unfold Go.Proofs.Ytodmakcklacbfaa.upd at hk
      rw [if_neg q] at hk
      exact h2 k hk
set_option maxRecDepth 100000 in
set_option maxHeartbeats 8000000 in
theorem canEnd {fb : Nat} {f : Fd} {ms : List Cm} {cp : Option Addr} {cc vb ab bb lb mb : Nat} (ok : f.Ok) : ∀ (t : Nat) (w : World) (d : Nat) (v : Int) (M : Int → Option Unit), left f.n d < t → SF w fb f ms cp cc vb ab bb lb mb → IsM w mb M → Sound f M → d < 2 ^ f.n → Calls Try.prog 90 #[.pointer (some ⟨fb, 0, none⟩), .int .u32 (d : Int), .int .i64 v] w (RetB (EndQ f d v mb w)) := by
  intro t
  induction t with
  | zero =>
    intro w d v M ht
    exact absurd ht (by omega)
  | succ t ih =>
    intro w d v M ht h hM sd hd
    have IH : Hid (∀ (w : World) (d : Nat) (v : Int) (M : Int → Option Unit), left f.n d < t → SF w fb f ms cp cc vb ab bb lb mb → IsM w mb M → Sound f M → d < 2 ^ f.n → Calls Try.prog 90 #[.pointer (some ⟨fb, 0, none⟩), .int .u32 (d : Int), .int .i64 v] w (RetB (EndQ f d v mb w))) := ih
    have H : Hid (left f.n d < t + 1 ∧ SF w fb f ms cp cc vb ab bb lb mb ∧ IsM w mb M ∧ Sound f M ∧ d < 2 ^ f.n ∧ f.Ok) := ⟨ht, h, hM, sd, hd, ok⟩
    have n24 := h.n24
    clear ih ht h hM sd hd
    go_enter Try.func90, Try.ntmps90
    go_wp2_with fail
    refine (withGets H.out.2.2.2.2.2 H.out.2.1 d v H.out.2.2.2.2.1).mono ?_
    rintro o w2 ⟨e, rfl, Q2⟩
    have G : Hid (SF w2 fb f ms cp cc vb ab bb lb mb ∧ IsM w2 mb M ∧ Kept (fun k => k = mb) w w2 ∧ e < 16777216 ∧ left f.n e < t + 1) := by
      refine ⟨H.out.2.1.k0 Q2.out.2.2, H.out.2.2.1.k0 Q2.out.2.2, Q2.out.2.2.mono (fun _ _ z => z.elim), lt32 Q2.out.1.lt n24, ?_⟩
      by_cases q : e = d
      · rw [q]; exact H.out.1
      · have := left_sub Q2.out.1.sub Q2.out.1.lt q
        have := H.out.1
        omega
    have e24 : e < 16777216 := G.out.2.2.2.1
    have f2 := cell_blk G.out.1.blk 2 (v := .int .u32 ((f.mustW : Nat) : Int)) rfl
    have f6 := cell_blk G.out.1.blk 6 (v := .map (some mb)) rfl
    obtain ⟨mw, hmw⟩ : ∃ mw, mw = f.mustW := ⟨_, rfl⟩
    rw [← hmw] at f2
    have mw24 : mw < 16777216 := by rw [hmw]; exact lt32 (wrd_lt _ _) n24
    obtain ⟨t3, ht3⟩ : ∃ t3, t3 = decide (mw &&& e = mw) := ⟨_, rfl⟩
    have b3 : (bits .andNot .u32 (mw : Int) (e : Int) == 0) = t3 := by rw [ht3]; exact u32_andNot_nat mw e (by omega) (by omega)
    have WH : Hid (t3 = true ↔ f.Whole e) := by
      show t3 = true ↔ f.Whole e
      rw [ht3, decide_eq_true_iff, hmw]
      exact must_sub
    clear hmw ht3
    cases t3
    · have NW : Hid (¬ f.Whole e) := fun z => by have := WH.out.2 z; cases this
      have lk := G.out.2.1.1.look2 setK (k := (e : Int)) ⟨by omega, by omega⟩
      obtain ⟨kn, hkn⟩ : ∃ kn, (M (e : Int)).isSome = kn := ⟨_, rfl⟩
      rw [hkn] at lk
      have KN : Hid ((M (e : Int)).isSome = kn) := hkn
      clear WH hkn
      go_upto_region 5 with fail
      obtain ⟨W3, hW3⟩ : ∃ W3, W3 = w2.alloc (.cells #[] 111) := ⟨_, rfl⟩
      have K3 : Hid (Kept (fun _ => False) w2 W3) := by rw [hW3]; exact (Kept.refl _ _).alloc _
      rw [← hW3]
      clear hW3 lk b3 f2
      have G3 : Hid (SF W3 fb f ms cp cc vb ab bb lb mb ∧ IsM W3 mb M ∧ Kept (fun k => k = mb) w W3) := ⟨G.out.1.k0 K3.out, G.out.2.1.k0 K3.out, G.out.2.2.1.trans K3.out (fun _ _ z => z.elim)⟩
      cases kn
      · go_wp2_with fail
        refine (isHopeless G3.out.1 e Q2.out.1.lt).mono ?_
        rintro o w4 ⟨r, rfl, Q4⟩
        have G4 : Hid (SF w4 fb f ms cp cc vb ab bb lb mb ∧ IsM w4 mb M ∧ Kept (fun k => k = mb) w w4 ∧ (r = true → f.Lost e)) := ⟨G3.out.1.k0 Q4.k, G3.out.2.1.k0 Q4.k, G3.out.2.2.trans Q4.k (fun _ _ z => z.elim), Q4.lost⟩
        clear Q4 G3 K3 f6
        have FIN : Hid (∀ (w5 : World) (M5 : Int → Option Unit), ¬ f.Can e v → IsM w5 mb M5 → Sound f M5 → Kept (fun k => k = mb) w w5 → ∀ w6, TM 85 (Lit.int .u32) KF (fun _ : Unit => .agg #[]) RU w6 mb (nput (cntM M5 16777216) M5 (e : Int)) (upd M5 (e : Int) ()) → Kept (fun k => k = mb) w5 w6 → EndQ f d v mb w false w6) := by
          intro w5 M5 no hm hs hk w6 htm hk2
          refine ⟨⟨fun z => (by cases z), fun z => absurd (Q2.out.1.can.1 z) no⟩, ⟨_, IsM.upd hm.2 e24 htm, hs.put no⟩, hk.trans hk2 (fun _ _ z => z)⟩
        cases r
        · go_wp2_with fail
          refine (choices G4.out.1 e Q2.out.1.lt).mono ?_
          rintro o w5 ⟨p, k, c, rfl, Q5⟩
          obtain ⟨R, Q6⟩ := Q5.out
          have G5 : Hid (SF w5 fb f ms cp cc vb ab bb lb mb ∧ NRow w4.heap.size w5 p k c R ∧ Choice f e R ∧ k ≤ 24) := ⟨G4.out.1.k0 Q6.kept, Q6.row, Q6.ch, Q6.few⟩
          have L0 : Hid (∃ M5, SF w5 fb f ms cp cc vb ab bb lb mb ∧ IsM w5 mb M5 ∧ Sound f M5 ∧ NRow w4.heap.size w5 p k c R ∧ Kept (fun k => k = mb) w w5 ∧ ∀ r ∈ R.take 0, ¬ f.Can (add e r) (f.val r)) := ⟨M, G5.out.1, G4.out.2.1.k0 Q6.kept, H.out.2.2.2.1, Q6.row, G4.out.2.2.1.trans Q6.kept (fun _ _ z => z.elim), fun r hr => by simp at hr⟩
          have k24 : k ≤ 24 := G5.out.2.2.2
          have rm := own_room Q6.row.row
          unfold maxLen at rm
          obtain ⟨rm1, rm2⟩ := rm
          clear Q6 Q5 G4
          go_wp2_with fail
          go_loopw [10, 40] (fun _ u40 wr => ∃ (j : Nat), u40 = .int .i64 (j : Int) ∧ j ≤ k ∧ Hid (∃ M5, SF wr fb f ms cp cc vb ab bb lb mb ∧ IsM wr mb M5 ∧ Sound f M5 ∧ NRow w4.heap.size wr p k c R ∧ Kept (fun k => k = mb) w wr ∧ ∀ r ∈ R.take j, ¬ f.Can (add e r) (f.val r))) (fun _ u40 _ => k - (intOf u40).toNat)
          case atStart => exact ⟨0, rfl, Nat.zero_le _, L0⟩
          case round =>
            obtain ⟨j, rfl, hj, S⟩ := hrel
            clear L0
            obtain ⟨M5, S5⟩ := S.out
            have U : Hid (SF wr fb f ms cp cc vb ab bb lb mb ∧ IsM wr mb M5 ∧ Sound f M5 ∧ NRow w4.heap.size wr p k c R ∧ Kept (fun k => k = mb) w wr ∧ ∀ r ∈ R.take j, ¬ f.Can (add e r) (f.val r)) := S5
            clear S S5
            by_cases hlt : j < k
            · have j1 : (j : Int) < (k : Int) := by omega
              obtain ⟨g, r, rfl, hr, cr⟩ := U.out.2.2.2.1.at hlt
              obtain ⟨rp, rm⟩ := G5.out.2.2.1.may r (List.mem_of_getElem? hr)
              have HR : Hid (R[j]? = some r ∧ f.put r = true ∧ f.May e (-1) r) := ⟨hr, rp, rm⟩
              have rn := rm.1
              have v1 := U.out.1.val r rn
              have f1 := cell_blk U.out.1.blk 1 (v := .slice (some ⟨vb, 0, none⟩) f.n f.n) rfl
              obtain ⟨n, hn⟩ : ∃ n, n = f.n := ⟨_, rfl⟩
              rw [← hn] at f1 n24 rn
              obtain ⟨x, hx⟩ : ∃ x, x = f.val r := ⟨_, rfl⟩
              rw [← hx] at v1
              obtain ⟨q, hq⟩ : ∃ q : Nat, q = 2 ^ r := ⟨_, rfl⟩
              have p2 : (2 : Int) ^ r % 4294967296 = (q : Int) := by rw [hq]; exact pow_mod (by omega)
              have p3 : IntKind.u32.wrap ((2 : Int) ^ r) = (q : Int) := by rw [IntKind.wrap_u32]; exact p2
              obtain ⟨ae, hae⟩ : ∃ ae, ae = add e r := ⟨_, rfl⟩
              have o2 : bits .or .u32 (e : Int) (q : Int) = (ae : Int) := by
                rw [hq, hae]
                exact or_pow e r (by omega) (by omega)
              have r1 : (r : Int) < (n : Int) := by omega
              have r0 : (0 : Int) ≤ (r : Int) := by omega
              have r00 : ¬ (r : Int) < 0 := by omega
              have CE : Hid (∀ V, Kept (fun _ => False) wr V → Calls Try.prog 90 #[.pointer (some ⟨fb, 0, none⟩), .int .u32 (ae : Int), .int .i64 x] V (RetB (EndQ f ae x mb V))) := by
                intro V kv
                refine IH.out V ae x M5 ?_ (U.out.1.k0 kv) (U.out.2.1.k0 kv) U.out.2.2.1 (by rw [hae]; exact add_lt Q2.out.1.lt HR.out.2.2.1)
                rw [hae]
                have h1 := left_add HR.out.2.2.1 HR.out.2.2.2.1
                have h2 := G.out.2.2.2.2
                omega
              have HX : Hid (x = f.val r ∧ ae = add e r) := ⟨hx, hae⟩
              have ST : Hid (Kept (fun _ => False) wr wr.drew) := (Kept.refl _ _).drew
              clear hr rp rm hn hx hq hae
              go_upto_region 11 with fail
              go_region_held3 (fun V => V.cell? ⟨fb, 1, none⟩ = some (.slice (some ⟨vb, 0, none⟩) n n) ∧ V.cell? ⟨vb, r, none⟩ = some (.int .i64 x)) (first | go_keep)
                (first
                  | (go_at_call 90; refine (CE.out _ ST.out).mono ?_; rintro o w9 ⟨y, rfl, Q9⟩
                     have f1 := Q9.k.cell f1 (U.out.2.1.ne _ _ f1)
                     have v1 := Q9.k.cell v1 (U.out.2.1.ne _ _ v1))
                  | fail)
              have U9 : Hid (SF w9 fb f ms cp cc vb ab bb lb mb ∧ NRow w4.heap.size w9 (some ⟨g, 0, none⟩) k c R ∧ Kept (fun k => k = mb) w w9) := by
                have sf := U.out.1.k0 (ST.out)
                have im := U.out.2.1.k0 (ST.out)
                have nr := U.out.2.2.2.1.k0 (ST.out)
                exact ⟨sf.off Q9.k im.ne, nr.off Q9.k (nr.ne im), (U.out.2.2.2.2.1.trans ST.out (fun _ _ z => z.elim)).trans Q9.k (fun _ _ z => z)⟩
              have Q10 : Hid (EndQ f ae x mb wr.drew y w9) := Q9
              clear Q9 f1 v1 p2 p3 o2 cr CE
              cases y
              · have N1 : Hid (∀ s ∈ R.take (j + 1), ¬ f.Can (add e s) (f.val s)) := by
                  intro s hs
                  rw [List.take_add_one, HR.out.1] at hs
                  rcases List.mem_append.1 hs with z | z
                  · exact U.out.2.2.2.2.2 s z
                  · have z : s = r := by simpa using z
                    rw [z, ← HX.out.1, ← HX.out.2]
                    intro c
                    have := Q10.out.can.2 c
                    cases this
                go_wp2_with fail
                go_roundw
                case rel =>
                  obtain ⟨M9, h1, h2⟩ := Q10.out.map
                  exact ⟨j + 1, by go_num, by omega, M9, U9.out.1, h1, h2, U9.out.2.1, U9.out.2.2, N1.out⟩
                case measure => simp [intOf] <;> omega
              · have YES : Hid (f.Can d v) := by
                  obtain ⟨o, ho⟩ := Q10.out.can.1 rfl
                  rw [HX.out.1, HX.out.2] at ho
                  exact Q2.out.1.can.2 ⟨r :: o, May.free HR.out.2.2 HR.out.2.1 v, ho⟩
                go_wp2_with fail
                go_ret
                exact RetB.mk true rfl ⟨⟨fun _ => YES.out, fun _ => rfl⟩, Q10.out.map, U9.out.2.2⟩
            · have j1 : ¬ (j : Int) < (k : Int) := by omega
              have f6 := cell_blk (U.out.1).blk 6 (v := .map (some mb)) rfl
              have NO : Hid (¬ f.Can e v) := by
                intro cn
                obtain ⟨s, hs, hc⟩ := G5.out.2.2.1.can Q2.out.2.1 NW.out cn
                exact U.out.2.2.2.2.2 s (by rw [List.take_of_length_le (by rw [U.out.2.2.2.1.len]; omega)]; exact hs) hc
              have CN : Hid (cntM M5 16777216 < maxLen) := by
                have := cntM_le M5 16777216
                show cntM M5 16777216 < maxLen
                unfold maxLen
                omega
              go_wp2_with
                (first
                  | (at_mapUpdate; refine wpList_put setK _ rfl _ _ _ rfl mb (cntM M5 16777216) M5 rfl U.out.2.1.1 CN.out (e : Int) ⟨by omega, by omega⟩ () rfl rfl ?_; intro w8 ht8 hk8
                     have FQ : Hid (EndQ f d v mb w false w8) := FIN.out _ M5 NO.out U.out.2.1 U.out.2.2.1 U.out.2.2.2.2.1 w8 ht8.out hk8.out
                     clear ht8 hk8)
                  | fail)
              go_ret
              exact RetB.mk false rfl FQ.out
        · have LO : Hid (f.Lost e) := by
            have := G4.out.2.2.2
            first | exact this | exact this rfl | exact this trivial
          have f6 := cell_blk (G4.out.1).blk 6 (v := .map (some mb)) rfl
          have NO : Hid (¬ f.Can e v) := by
            obtain ⟨i, h1, h2, h3, h4⟩ := LO.out
            exact hopeless H.out.2.2.2.2.2 Q2.out.2.1 h1 h2 h3 h4
          have CN : Hid (cntM M 16777216 < maxLen) := by
            have := cntM_le M 16777216
            show cntM M 16777216 < maxLen
            unfold maxLen
            omega
          go_wp2_with
            (first
              | (at_mapUpdate; refine wpList_put setK _ rfl _ _ _ rfl mb (cntM M 16777216) M rfl G4.out.2.1.1 CN.out (e : Int) ⟨by omega, by omega⟩ () rfl rfl ?_; intro w8 ht8 hk8
                 have FQ : Hid (EndQ f d v mb w false w8) := FIN.out _ M NO.out G4.out.2.1 H.out.2.2.2.1 G4.out.2.2.1 w8 ht8.out hk8.out
                 clear ht8 hk8)
              | fail)
          go_ret
          exact RetB.mk false rfl FQ.out
      · have NO : Hid (¬ f.Can d v) := by
          intro cn
          have ks : M (e : Int) ≠ none := by
            intro z
            have := KN.out
            rw [z] at this
            cases this
          obtain ⟨e', he, hh⟩ := H.out.2.2.2.1 (e : Int) ks
          have he : e' = e := by omega
          subst he
          exact hh v Q2.out.2.1 (Q2.out.1.can.1 cn)
        go_wp2_with fail
        go_ret
        exact RetB.mk false rfl ⟨⟨fun z => (by cases z), fun z => absurd z NO.out⟩, ⟨M, G3.out.2.1, H.out.2.2.2.1⟩, G3.out.2.2⟩
    · go_wp2_with fail
      go_ret
      refine RetB.mk true rfl ⟨⟨fun _ => ?_, fun _ => rfl⟩, ⟨M, G.out.2.1, H.out.2.2.2.1⟩, G.out.2.2.1⟩
      exact Q2.out.1.can.2 ⟨[], by have := WH.out; simp at this; exact this⟩
end Go.Proofs.Ytodmakcklacbfaa
