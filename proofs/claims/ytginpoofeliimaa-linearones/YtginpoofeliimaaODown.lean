import Derived.Test.YtginpoofeliimaaONext
namespace Go.Proofs.Ytginpoofeliimaa
open Go.RowKit 

/-- What down answers, in memory. -/
structure DnQ (cs : List Cl) (w0 : World) (sb : Nat) (p0 : Option Addr) (n c0 : Nat) (b : List Nat) (r : Option Addr) (rc : Nat) (ok : Bool) (w' : World) : Prop where
  ans : ∃ (q : Option Addr) (k kc : Nat) (R : List Nat), LstQ cs b R ok ∧ SS w0 w' sb p0 n c0 q k kc (if ok = true then R else b) r rc ∧ k ≤ 24
theorem pre_lt {cs : List Cl} {b : List Nat} (h : XPre cs b) : ∀ i ∈ b, i < cs.length := fun i hi => by
  obtain ⟨n, hn, e⟩ := List.getElem_of_mem hi
  obtain ⟨c, m⟩ := h n i (by rw [List.getElem?_eq_getElem hn, e])
  exact (List.getElem?_eq_some_iff.1 m.1).1
set_option maxRecDepth 100000 in
set_option maxHeartbeats 8000000 in
theorem rDown {w0 : World} {sb : Nat} {p0 : Option Addr} {n c0 : Nat} {r : Option Addr} {rc : Nat} {ms : List Cm} (cr : CRd w0 p0 n c0 ms) (nb : ∀ c ∈ ms.map Cm.cl, c.bad = false) : ∀ (d : Nat) {wa : World} {q : Option Addr} {k kc : Nat} {b : List Nat}, SS w0 wa sb p0 n c0 q k kc b r rc → XPre (ms.map Cm.cl) b → left2 (ms.map Cm.cl) b ≤ d → k + d ≤ 24 → Calls Try.prog 28 #[.pointer (some ⟨sb, 0, none⟩)] wa (RetB (DnQ (ms.map Cm.cl) w0 sb p0 n c0 b r rc)) := by
  intro d
  induction d using Nat.strongRecOn with
  | ind d ih =>
    intro wa q k kc b h hp hd hk
    have IH : Hid (∀ e, e < d → ∀ {wa : World} {q : Option Addr} {k kc : Nat} {b : List Nat}, SS w0 wa sb p0 n c0 q k kc b r rc → XPre (ms.map Cm.cl) b → left2 (ms.map Cm.cl) b ≤ e → k + e ≤ 24 → Calls Try.prog 28 #[.pointer (some ⟨sb, 0, none⟩)] wa (RetB (DnQ (ms.map Cm.cl) w0 sb p0 n c0 b r rc))) := ih
    clear ih
    have hl : (ms.map Cm.cl).length = n := by rw [List.length_map]; exact cr.len
    have H : Hid (CRd w0 p0 n c0 ms ∧ (∀ c ∈ ms.map Cm.cl, c.bad = false) ∧ XPre (ms.map Cm.cl) b ∧ left2 (ms.map Cm.cl) b ≤ d ∧ ∀ x ∈ b, x < n) := ⟨cr, nb, hp, hd, fun x hx => by have := pre_lt hp x hx; omega⟩
    have S0 : Hid (SS w0 wa sb p0 n c0 q k kc b r rc) := h
    have rr := own_room h.inn
    unfold maxLen at rr
    have rn1 := cr.room
    have rn2 := cr.small
    unfold maxLen at rn2
    have hbk : b.length = k := h.ord.len
    clear h hp hd nb cr
    go_enter Try.func28, Try.ntmps28
    go_wp2_with fail
    refine (rWhole H.out.1 S0.out).mono ?_
    rintro o w1 ⟨v, rfl, hv, K1⟩
    cases v
    · have NW : Hid (¬ XRun (ms.map Cm.cl) b [] none) := fun z => by
        have := hv.2 (H.out.2.2.1.run.1 z)
        cases this
      have S1 : Hid (SS w0 w1 sb p0 n c0 q k kc b r rc) := S0.out.k0 K1
      clear hv K1 S0
      have s0 := cell_blk S1.out.blk 0 (v := .slice p0 n c0) rfl
      have L0 : Hid (∀ j, j < 0 → ∀ t, ¬ XRun (ms.map Cm.cl) (b ++ j :: t) [] none) := fun j hj => absurd hj (Nat.not_lt_zero _)
      go_wp2_with fail
      go_loopw [3, 11] (fun _ u11 wy => ∃ i : Nat, u11 = .int .i64 (i : Int) ∧ i ≤ n ∧ Hid (∃ (q : Option Addr) (kc : Nat), SS w0 wy sb p0 n c0 q k kc b r rc) ∧ Hid (∀ j, j < i → ∀ t, ¬ XRun (ms.map Cm.cl) (b ++ j :: t) [] none)) (fun _ u11 _ => n - (intOf u11).toNat)
      case atStart => exact ⟨0, rfl, Nat.zero_le _, ⟨q, kc, S1.out⟩, L0⟩
      case round =>
        obtain ⟨i, rfl, hi, SH, L⟩ := hrel
        clear L0 s0 S1
        obtain ⟨q2, kc2, s2⟩ := SH.out
        have S : Hid (SS w0 wr sb p0 n c0 q2 k kc2 b r rc) := s2
        clear SH s2
        obtain ⟨wo, hwo⟩ : ∃ wo, wo = wr := ⟨_, rfl⟩
        rw [← hwo] at S ⊢
        clear hwo
        by_cases hlt : i < n
        · have i1 : (i : Int) < (n : Int) := by omega
          go_wp2_with fail
          refine (rNext H.out.1 H.out.2.1 S.out H.out.2.2.2.2 (by omega) hlt).mono ?_
          rintro o w2 ⟨v2, rfl, hv2, K2⟩
          have S2 : Hid (SS w0 w2 sb p0 n c0 q2 k kc2 b r rc) := S.out.k0 K2
          have HV : Hid (v2 = true ↔ ∃ c, XMay (ms.map Cm.cl) b (valV (ms.map Cm.cl) b none) i c) := hv2
          clear hv2 K2 S
          cases v2
          · have LN : Hid (∀ j, j < i + 1 → ∀ t, ¬ XRun (ms.map Cm.cl) (b ++ j :: t) [] none) := fun j hj t z => by
              rcases Nat.lt_succ_iff_lt_or_eq.1 hj with y | y
              · exact L.out j y t z
              · rw [y] at z
                have := HV.out.2 (run_may z)
                cases this
            go_wp2_with fail
            go_roundw
            case rel => exact ⟨i + 1, by go_num, by omega, ⟨q2, kc2, S2.out⟩, LN⟩
            case measure => simp [intOf] <;> omega
          · obtain ⟨c, may⟩ := HV.out.1 rfl
            have MY : Hid (∃ c, XMay (ms.map Cm.cl) b (valV (ms.map Cm.cl) b none) i c) := ⟨c, may⟩
            have hb : i ∉ b := may.2.2.1
            have lft : left2 (ms.map Cm.cl) (b ++ [i]) < d := by
              have h1 := left2_less may
              have h2 := H.out.2.2.2.1
              omega
            obtain ⟨g, rfl, gi, gf, gge, cs4, g4⟩ := S2.out.inAt hlt
            have t2 := cell_blk S2.out.blk 2 (v := .slice (some ⟨g, 0, none⟩) n rc) rfl
            obtain ⟨A, hA⟩ : ∃ A, A = w2.setCell ⟨g, i, none⟩ (.bool true) := ⟨_, rfl⟩
            have nsg : sb ≠ g := fun z => by have := S2.out.blk; rw [z, g4] at this; simp at this
            have bA : A.heap[sb]? = some (.cells #[.slice p0 n c0, .slice q2 k kc2, .slice (some ⟨g, 0, none⟩) n rc] 62 (0, 0)) := by rw [hA]; exact (set_other i _ nsg).trans S2.out.blk
            have EA : Hid (A = w2.setCell ⟨g, i, none⟩ (.bool true)) := hA
            have ordA : Hid (NRow w0.heap.size A q2 k kc2 b ∧ w0.heap.size ≤ A.heap.size) := by
              refine ⟨?_, ?_⟩
              · rw [hA]
                refine S2.out.ord.off (S := fun j => j = g) ((Kept.refl (fun j => j = g) w2).setCell (p := ⟨g, i, none⟩) (fun _ => rfl) _) (fun j hj z => ?_)
                obtain ⟨cs, hc⟩ := own_type S2.out.ord.row j hj
                rw [z, g4] at hc
                simp at hc
              · rw [hA]
                exact Nat.le_trans S2.out.kept.size ((Kept.refl (fun j => j = g) w2).setCell (p := ⟨g, i, none⟩) (fun _ => rfl) (.bool true)).size
            have u1 := cell_blk bA 1 (v := .slice q2 k kc2) rfl
            have BL : Hid (k + 1 ≤ maxLen ∧ ((k + 1) + (k + 1) / 4 + 192) * 8 ≤ 281474976710656) := by
              unfold maxLen
              exact ⟨by omega, by omega⟩
            clear hA g4 bA may
            go_upto_region 8 with fail
            rw [← EA.out]
            go_upto_region 9 with
              (first
                | (at_builtin; refine wpList_append_all _ rfl (.tmp 28) (.tmp 30) 25 3 25 _ 1 8 rfl Try.underlying25 Try.info3c rfl w0.heap.size (.slice q2 k kc2) k (intsN b) rfl (((Kept.refl (fun _ => False) A).alloc _).owns ordA.out.1.row (fun _ _ z => z)) _ 1 (intsN [i]) rfl (src_one (heap_alloc_new A _)) BL.out.1 BL.out.2 (Nat.le_trans ordA.out.2 ((Kept.refl (fun _ => False) A).alloc _).size) ?_; intro p9 c9 w9 ho hg hn
                   have P9 := S2.out.push ho.out (by rw [← EA.out]; exact hg.out)
                   have v1 := cell_blk P9.1 1 (v := .slice q2 k kc2) rfl
                   have vf := soft_blk P9.1 1
                   have PH : Hid (SS w0 (w9.setCell ⟨sb, 1, none⟩ (.slice p9 (k + 1) c9)) sb p0 n c0 p9 (k + 1) c9 (b ++ [i]) (some ⟨g, 0, none⟩) rc) := P9.2
                   clear P9 ho hg hn)
                | fail)
            go_wp2_with fail
            refine (IH.out (left2 (ms.map Cm.cl) (b ++ [i])) lft PH.out (by obtain ⟨c, m⟩ := MY.out; exact H.out.2.2.1.add m) (Nat.le_refl _) (by omega)).mono ?_
            rintro o w5 ⟨ok, rfl, D5⟩
            obtain ⟨q5, k5, kc5, R5, lq, s5, k524⟩ := D5.ans
            clear D5 PH S2 ordA EA u1 v1 vf t2 gi gf
            cases ok
            · have s5 : SS w0 w5 sb p0 n c0 q5 k5 kc5 (b ++ [i]) (some ⟨g, 0, none⟩) rc := s5
              have k5e : k5 = k + 1 := by
                have h1 := s5.ord.len
                rw [List.length_append] at h1
                have h2 : ([i] : List Nat).length = 1 := rfl
                omega
              have LN : Hid (∀ j, j < i + 1 → ∀ t, ¬ XRun (ms.map Cm.cl) (b ++ j :: t) [] none) := fun j hj t z => by
                rcases Nat.lt_succ_iff_lt_or_eq.1 hj with y | y
                · exact L.out j y t z
                · rw [y] at z
                  have := (lq.no rfl).2 t
                  rw [List.append_assoc] at this
                  exact this z
              obtain ⟨g', eg, gi, gf, _, _, _⟩ := s5.inAt hlt
              have eg : g = g' := by simpa using eg
              subst eg
              obtain ⟨g3, x3, rfl, _, _⟩ := s5.ord.at (show 0 < k5 by omega)
              have rk5 := own_room s5.ord.row
              unfold maxLen at rk5
              have t2 := cell_blk s5.blk 2 (v := .slice (some ⟨g, 0, none⟩) n rc) rfl
              obtain ⟨B, hB⟩ : ∃ B, B = w5.setCell ⟨g, i, none⟩ (.bool false) := ⟨_, rfl⟩
              have PP : Hid (B.heap[sb]? = some (.cells #[.slice p0 n c0, .slice (some ⟨g3, 0, none⟩) k5 kc5, .slice (some ⟨g, 0, none⟩) n rc] 62 (0, 0)) ∧ SS w0 (B.setCell ⟨sb, 1, none⟩ (.slice (some ⟨g3, 0, none⟩) k kc5)) sb p0 n c0 (some ⟨g3, 0, none⟩) k kc5 b (some ⟨g, 0, none⟩) rc) := by
                rw [hB]
                rw [k5e] at s5 ⊢
                exact s5.pop hb
              have EB : Hid (B = w5.setCell ⟨g, i, none⟩ (.bool false)) := hB
              have wk : wrap64 ((k5 : Int) - 1) = (k : Int) := by unfold wrap64; omega
              have wk' : IntKind.i64.wrap ((k5 : Int) - 1) = (k : Int) := by rw [IntKind.wrap_i64]; omega
              have kk : k ≤ kc5 := by omega
              clear hB lq k5e s5 L
              go_upto_region 12 with fail
              rw [← EB.out]
              clear EB t2 gi gf
              have x1 := cell_blk PP.out.1 1 (v := .slice (some ⟨g3, 0, none⟩) k5 kc5) rfl
              have xf := soft_blk PP.out.1 1
              go_region
              all_goals
                go_wp2_with fail
                go_roundw
                case rel => exact ⟨i + 1, by go_num, by omega, ⟨_, _, PP.out.2.k0 ((Kept.refl _ _).drew)⟩, LN⟩
                case measure => simp [intOf] <;> omega
            · have G : Hid (DnQ (ms.map Cm.cl) w0 sb p0 n c0 b (some ⟨g, 0, none⟩) rc true w5) := ⟨⟨q5, k5, kc5, R5, LstQ.found NW.out L.out lq, s5, k524⟩⟩
              clear lq s5
              go_wp2_with fail
              go_ret
              exact RetB.mk true rfl G.out
        · have i1 : ¬ (i : Int) < (n : Int) := by omega
          go_wp2_with fail
          go_ret
          refine RetB.mk false rfl ⟨⟨q2, k, kc2, [], LstQ.none' NW.out (fun j hj => L.out j (by omega)), S.out, by omega⟩⟩
    · have G : Hid (DnQ (ms.map Cm.cl) w0 sb p0 n c0 b r rc true w1) := ⟨⟨q, k, kc, b, LstQ.here (H.out.2.2.1.run.2 (hv.1 rfl)), S0.out.k0 K1, by omega⟩⟩
      clear hv K1
      go_wp2_with fail
      go_ret
      exact RetB.mk true rfl G.out
end Go.Proofs.Ytginpoofeliimaa
