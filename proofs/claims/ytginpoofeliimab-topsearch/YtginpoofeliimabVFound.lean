import Derived.Test.YtginpoofeliimabVFS
namespace Go.Proofs.Ytginpoofeliimab
open Go.RowKit 

set_option maxRecDepth 100000 in
set_option maxHeartbeats 8000000 in
theorem tFound {w0 : World} {p0 : Option Addr} {n c0 : Nat} {ms : List Cm} (cr : CRd w0 p0 n c0 ms) (hb : n ≤ 1300000000000) (hv : ∀ m ∈ ms, m.vn + 1 ≤ 140737488355328) (nb : ∀ c ∈ ms.map Cm.cl, c.bad = false) (few : (prts (ms.map Cm.cl)).length ≤ 24) {g mb : Nat} : ∀ (dd : Nat) {wa : World} {b : List Nat} {last : Int}, FT (ms.map Cm.cl) w0 wa g mb n b → (∀ i ∈ b, i ∈ prts (ms.map Cm.cl)) → (last = -1 ∨ (0 ≤ last ∧ last.toNat ∈ prts (ms.map Cm.cl))) → left2 (ms.map Cm.cl) b ≤ dd → Calls Try.prog 15 #[.slice p0 n c0, .slice (some ⟨g, 0, none⟩) n n, .int .i64 last, .map (some mb)] wa (RetB fun v w' => (v = true ↔ XCan (ms.map Cm.cl) b (valOf' (ms.map Cm.cl) last)) ∧ FT (ms.map Cm.cl) w0 w' g mb n b) := by
  intro dd
  induction dd using Nat.strongRecOn with
  | ind dd ih =>
    intro wa b last fs hbp hla hd
    have hl : (ms.map Cm.cl).length = n := by rw [List.length_map]; exact cr.len
    have hlb : -1 ≤ last ∧ last < (n : Int) := by
      rcases hla with z | z
      · omega
      · obtain ⟨c, hc, _⟩ := mem_prts.1 z.2
        have := (List.getElem?_eq_some_iff.1 hc).1
        rw [hl] at this
        omega
    have IH : Hid (∀ e, e < dd → ∀ {wa : World} {b : List Nat} {last : Int}, FT (ms.map Cm.cl) w0 wa g mb n b → (∀ i ∈ b, i ∈ prts (ms.map Cm.cl)) → (last = -1 ∨ (0 ≤ last ∧ last.toNat ∈ prts (ms.map Cm.cl))) → left2 (ms.map Cm.cl) b ≤ e → Calls Try.prog 15 #[.slice p0 n c0, .slice (some ⟨g, 0, none⟩) n n, .int .i64 last, .map (some mb)] wa (RetB fun v w' => (v = true ↔ XCan (ms.map Cm.cl) b (valOf' (ms.map Cm.cl) last)) ∧ FT (ms.map Cm.cl) w0 w' g mb n b)) := ih
    clear ih
    obtain ⟨V, hV⟩ : ∃ V, V = valOf' (ms.map Cm.cl) last := ⟨_, rfl⟩
    have VS : Hid (∀ v, V = some v → (∀ x ∈ v, x < 256) ∧ v.length + 1 ≤ 140737488355328) := by
      intro v e
      rw [hV] at e
      unfold valOf' at e
      split at e
      · cases e
      · rw [List.getElem?_map] at e
        cases q : ms[last.toNat]? with
        | none => rw [q] at e; cases e
        | some m =>
          rw [q] at e
          have e : m.val = v := by
            have e2 : m.cl.val = v := by simpa using e
            exact e2
          have hm := List.mem_of_getElem? q
          rw [← e]
          refine ⟨(cr.rd m hm).bytes, ?_⟩
          rw [(cr.rd m hm).length]
          exact hv m hm
    have SZ : Hid ((∀ x ∈ stB n b V, x < 256) ∧ (str (stB n b V)).size ≤ maxLen) := by
      refine ⟨stB_small (fun v e => (VS.out v e).1), ?_⟩
      rw [str_size]
      unfold stB
      rw [List.length_append, List.length_map, List.length_range]
      cases V with
      | none => show n + 0 ≤ maxLen; unfold maxLen; omega
      | some v => have := (VS.out v rfl).2; show n + (v.length + 1) ≤ maxLen; unfold maxLen; omega
    have H : Hid (CRd w0 p0 n c0 ms ∧ (∀ m ∈ ms, m.vn + 1 ≤ 140737488355328) ∧ (∀ c ∈ ms.map Cm.cl, c.bad = false) ∧ (prts (ms.map Cm.cl)).length ≤ 24 ∧ (∀ i ∈ b, i ∈ prts (ms.map Cm.cl)) ∧ (last = -1 ∨ (0 ≤ last ∧ last.toNat ∈ prts (ms.map Cm.cl))) ∧ left2 (ms.map Cm.cl) b ≤ dd ∧ V = valOf' (ms.map Cm.cl) last ∧ (ms.map Cm.cl).length = n) := ⟨cr, hv, nb, few, hbp, hla, hd, hV, hl⟩
    have PL : Hid (∀ j ∈ b, j < n) := fun j hj => by
      obtain ⟨c, hc, _⟩ := mem_prts.1 (hbp j hj)
      have := (List.getElem?_eq_some_iff.1 hc).1
      rw [hl] at this
      exact this
    have rm := cr.room
    have sm := cr.small
    unfold maxLen at sm
    have S0 : Hid (FT (ms.map Cm.cl) w0 wa g mb n b) := fs
    rw [← hV]
    have L0 : Hid ((false = true) ↔ ∃ j d, j < 0 ∧ ms[j]? = some d ∧ d.cl.must = true ∧ j ∉ b) := ⟨fun z => (by cases z), fun ⟨j, d, h, _⟩ => absurd h (Nat.not_lt_zero _)⟩
    clear fs hbp hla hd hV hl cr hv nb few
    go_enter Try.func15, Try.ntmps15
    go_wp2_with fail
    go_loopw [9, 10, 19] (fun u9 _ u19 wy => ∃ (i : Nat) (r : Bool), u19 = .int .i64 (i : Int) ∧ u9 = .bool r ∧ i ≤ n ∧ Hid (FT (ms.map Cm.cl) w0 wy g mb n b) ∧ Hid (r = true ↔ ∃ j d, j < i ∧ ms[j]? = some d ∧ d.cl.must = true ∧ j ∉ b)) (fun _ _ u19 _ => n - (intOf u19).toNat)
    case atStart => exact ⟨0, false, rfl, rfl, Nat.zero_le _, S0, L0⟩
    case round =>
      obtain ⟨i, r, rfl, rfl, hi, S, L⟩ := hrel
      clear S0 L0
      obtain ⟨wo, hwo⟩ : ∃ wo, wo = wr := ⟨_, rfl⟩
      rw [← hwo] at S ⊢
      clear hwo
      by_cases hlt : i < n
      · have i1 : (i : Int) < (n : Int) := by omega
        cases r
        · obtain ⟨b8, off8, d, rfl, hd, y0, y1, y2, y3, y4, y5, y6, y7, y8, y9, y10, _⟩ := (H.out.1.k0 S.out.kept).at hlt
          obtain ⟨pd, hpd⟩ : ∃ pd, pd = d.pn := ⟨_, rfl⟩
          have RP : Hid (∀ V, Calls Try.prog 6 #[d.agg] V fun o w' => o = .returned (.int .i64 pd) ∧ Kept (fun _ => False) V w') := fun V => by rw [hpd]; exact tPart d V
          have HP : Hid (pd = d.pn ∧ ms[i]? = some d) := ⟨hpd, hd⟩
          unfold Cm.agg at RP
          clear hpd hd
          go_wp2_with fail
          refine (RP.out _).mono ?_
          rintro o w2 ⟨rfl, K2⟩
          have S2 : Hid (FT (ms.map Cm.cl) w0 w2 g mb n b) := S.out.k0 K2
          clear RP K2 S y0 y1 y2 y3 y4 y5 y6 y7 y8 y9 y10
          have NO : Hid (¬ (d.cl.must = true ∧ i ∉ b) → ((false = true) ↔ ∃ j d, j < i + 1 ∧ ms[j]? = some d ∧ d.cl.must = true ∧ j ∉ b)) := fun h => by
            refine ⟨fun z => (by cases z), fun ⟨j, d', h1, h2, h3⟩ => ?_⟩
            rcases Nat.lt_succ_iff_lt_or_eq.1 h1 with z | z
            · exact L.out.2 ⟨j, d', z, h2, h3⟩
            · rw [z, HP.out.2] at h2
              injection h2 with h2
              rw [← h2, z] at h3
              exact absurd h3 h
          by_cases p2 : pd = 2
          · subst p2
            have gi := (S2.out.is.at hlt).1
            by_cases ib : i ∈ b
            · rw [decide_eq_true ib] at gi
              go_wp2_with fail
              go_roundw
              case rel => exact ⟨i + 1, false, by go_num, rfl, by omega, S2, NO.out (fun z => z.2 ib)⟩
              case measure => simp [intOf] <;> omega
            · rw [decide_eq_false ib] at gi
              go_wp2_with fail
              go_roundw
              case rel => exact ⟨i + 1, true, by go_num, rfl, by omega, S2, ⟨fun _ => ⟨i, d, by omega, HP.out.2, pn_two.1 HP.out.1.symm, ib⟩, fun _ => rfl⟩⟩
              case measure => simp [intOf] <;> omega
          · have p2' : (pd == 2) = false := by simp [p2]
            go_wp2_with fail
            go_roundw
            case rel => exact ⟨i + 1, false, by go_num, rfl, by omega, S2, NO.out (fun z => p2 (HP.out.1.trans (pn_two.2 z.1)))⟩
            case measure => simp [intOf] <;> omega
        · go_wp2_with fail
          go_roundw
          case rel => exact ⟨i + 1, true, by go_num, rfl, by omega, S, ⟨fun _ => by obtain ⟨j, d, h1, h2⟩ := L.out.1 rfl; exact ⟨j, d, by omega, h2⟩, fun _ => rfl⟩⟩
          case measure => simp [intOf] <;> omega
      · have i1 : ¬ (i : Int) < (n : Int) := by omega
        cases r
        · have W : Hid (XCan (ms.map Cm.cl) b V) := by
            refine ⟨[], fun j c hc hm => ?_⟩
            rw [List.getElem?_map] at hc
            cases q : ms[j]? with
            | none => rw [q] at hc; cases hc
            | some d =>
              rw [q] at hc
              have e : d.cl = c := by simpa using hc
              subst e
              have hj := (List.getElem?_eq_some_iff.1 q).1
              rw [H.out.1.len] at hj
              by_cases hjb : j ∈ b
              · exact hjb
              · have := L.out.2 ⟨j, d, by omega, q, hm, hjb⟩
                cases this
          go_wp2_with fail
          go_ret
          exact RetB.mk true rfl ⟨⟨fun _ => W.out, fun _ => rfl⟩, S.out⟩
        · have NW : Hid (¬ XWhole (ms.map Cm.cl) b) := fun z => by
            obtain ⟨j, d, h1, h2, h3, h4⟩ := L.out.1 rfl
            exact h4 (z j d.cl (by rw [List.getElem?_map, h2]; rfl) h3)
          clear L
          have CS : Hid (Calls Try.prog 23 #[.slice p0 n c0, .slice (some ⟨g, 0, none⟩) n n, .int .i64 last] wo fun o w' => o = .returned (.string (str (stB n b V))) ∧ Kept (fun _ => False) wo w') := by
            rw [H.out.2.2.2.2.2.2.2.1]
            exact tState (H.out.1.k0 S.out.kept) hb H.out.2.1 S.out.is last hlb
          go_wp2_with fail
          refine CS.out.mono ?_
          rintro o w3 ⟨rfl, K3⟩
          have S3 : Hid (FT (ms.map Cm.cl) w0 w3 g mb n b) := S.out.k0 K3
          clear K3 S CS
          have LK : ∃ v, (Instr.lookup 45 (.map (some mb)) (.string (str (stB n b V))) false).run Try.prog w3 = .ok (.bool v) w3 ∧ (v = true → ¬ XCan (ms.map Cm.cl) b V) := by
            have e := H.out.2.2.2.2.2.2.2.2
            have := S3.out.vm.look (p := b) (V := V) (by rw [e]; exact SZ.out.2) (by rw [e]; exact SZ.out.1) (by rw [e]; exact PL.out)
            rw [e] at this
            exact this
          obtain ⟨v, lk, hvn⟩ := LK
          obtain ⟨key, hkey⟩ : ∃ key, key = str (stB n b V) := ⟨_, rfl⟩
          rw [← hkey] at lk ⊢
          have HK : Hid (key = str (stB n b V)) := hkey
          clear hkey
          cases v
          · clear hvn
            have L0 : Hid (∀ j c, j < 0 → ¬ (XMay (ms.map Cm.cl) b V j c ∧ Wants (ms.map Cm.cl) b c ∧ XCan (ms.map Cm.cl) (b ++ [j]) (c.next V))) := fun j c hj => absurd hj (Nat.not_lt_zero _)
            go_wp2_with fail
            go_loopw [12, 13, 14, 15, 16, 50] (fun _ _ _ _ _ u50 wy => ∃ i : Nat, u50 = .int .i64 (i : Int) ∧ i ≤ n ∧ Hid (FT (ms.map Cm.cl) w0 wy g mb n b) ∧ Hid (∀ j c, j < i → ¬ (XMay (ms.map Cm.cl) b V j c ∧ Wants (ms.map Cm.cl) b c ∧ XCan (ms.map Cm.cl) (b ++ [j]) (c.next V)))) (fun _ _ _ _ _ u50 _ => n - (intOf u50).toNat)
            case atStart => exact ⟨0, rfl, Nat.zero_le _, S3, L0⟩
            case round =>
              obtain ⟨i, rfl, hi2, S, L⟩ := hrel
              clear L0 S3 lk
              obtain ⟨wb, hwb⟩ : ∃ wb, wb = wr := ⟨_, rfl⟩
              rw [← hwb] at S ⊢
              clear hwb
              by_cases hlt : i < n
              · have i1 : (i : Int) < (n : Int) := by omega
                have gi := (S.out.is.at hlt).1
                obtain ⟨b8, off8, mi, rfl, hmi, y0, y1, y2, y3, y4, y5, y6, y7, y8, y9, y10, _⟩ := (H.out.1.k0 S.out.kept).at hlt
                have HM : Hid (ms[i]? = some mi ∧ (ms.map Cm.cl)[i]? = some mi.cl) := ⟨hmi, by rw [List.getElem?_map, hmi]; rfl⟩
                have NX : Hid (¬ (XMay (ms.map Cm.cl) b V i mi.cl ∧ Wants (ms.map Cm.cl) b mi.cl ∧ XCan (ms.map Cm.cl) (b ++ [i]) (mi.cl.next V)) → ∀ j c, j < i + 1 → ¬ (XMay (ms.map Cm.cl) b V j c ∧ Wants (ms.map Cm.cl) b c ∧ XCan (ms.map Cm.cl) (b ++ [j]) (c.next V))) := fun h j c hj z => by
                  rcases Nat.lt_succ_iff_lt_or_eq.1 hj with y | y
                  · exact L.out j c y z
                  · rw [y] at z
                    have e := z.1.1
                    rw [HM.out.2] at e
                    injection e with e
                    rw [← e] at z
                    exact h z
                clear hmi
                by_cases ib : i ∈ b
                · rw [decide_eq_true ib] at gi
                  go_wp2_with fail
                  go_roundw
                  case rel => exact ⟨i + 1, by go_num, by omega, S, NX.out (fun z => z.1.2.2.1 ib)⟩
                  case measure => simp [intOf] <;> omega
                · rw [decide_eq_false ib] at gi
                  obtain ⟨pd, hpd⟩ : ∃ pd, pd = mi.pn := ⟨_, rfl⟩
                  have RP : Hid (∀ V, Calls Try.prog 6 #[mi.agg] V fun o w' => o = .returned (.int .i64 pd) ∧ Kept (fun _ => False) V w') := fun V => by rw [hpd]; exact tPart mi V
                  have HP : Hid (pd = mi.pn) := hpd
                  unfold Cm.agg at RP
                  clear hpd
                  go_wp2_with fail
                  refine (RP.out _).mono ?_
                  rintro o w4 ⟨rfl, K4⟩
                  have S4 : Hid (FT (ms.map Cm.cl) w0 w4 g mb n b) := S.out.k0 K4
                  clear RP K4 S y0 y1 y2 y3 y4 y5 y6 y7 y8 y9 y10 gi
                  by_cases pz : pd = 0
                  · subst pz
                    go_wp2_with fail
                    go_roundw
                    case rel => exact ⟨i + 1, by go_num, by omega, S4, NX.out (fun z => by have h1 := z.1.2.1; rw [pn_zero.1 HP.out.symm] at h1; cases h1)⟩
                    case measure => simp [intOf] <;> omega
                  · have pz' : (pd == 0) = false := by simp [pz]
                    have HPT : Hid (mi.cl.part = true) := by
                      show mi.cl.part = true
                      cases q : mi.cl.part
                      · exact absurd (HP.out.trans (pn_zero.2 q)) pz
                      · rfl
                    go_wp2_with fail
                    refine (tFits (H.out.1.k0 S4.out.kept) HM.out.1 HPT.out last hlb).mono ?_
                    rintro o w5 ⟨v1, rfl, hv1', K5⟩
                    have HV1 : Hid (v1 = true ↔ (mi.put = true ∨ mi.cl.told = V)) := by rw [H.out.2.2.2.2.2.2.2.1]; exact hv1'
                    have S5 : Hid (FT (ms.map Cm.cl) w0 w5 g mb n b) := S4.out.k0 K5
                    clear hv1' K5 S4
                    cases v1
                    · go_wp2_with fail
                      go_roundw
                      case rel => exact ⟨i + 1, by go_num, by omega, S5, NX.out (fun z => by have h1 := HV1.out.2 z.1.2.2.2.1; cases h1)⟩
                      case measure => simp [intOf] <;> omega
                    · go_wp2_with fail
                      refine (tWanted (H.out.1.k0 S5.out.kept) S5.out.is HM.out.1).mono ?_
                      rintro o w6 ⟨v2, rfl, hv2', K6⟩
                      have HV2 : Hid (v2 = true ↔ Wants (ms.map Cm.cl) b mi.cl) := hv2'
                      have S6 : Hid (FT (ms.map Cm.cl) w0 w6 g mb n b) := S5.out.k0 K6
                      clear hv2' K6 S5
                      cases v2
                      · go_wp2_with fail
                        go_roundw
                        case rel => exact ⟨i + 1, by go_num, by omega, S6, NX.out (fun z => by have h1 := HV2.out.2 z.2.1; cases h1)⟩
                        case measure => simp [intOf] <;> omega
                      · have F0 : Hid (∀ j' a, j' < 0 → ms[j']? = some a → j' ≠ i → j' ∉ b → a.cl.must = true → a.cl.ahead mi.cl = true → False) := fun j' a h => absurd h (Nat.not_lt_zero _)
                        go_wp2_with fail
                        go_loopw [13, 14, 81] (fun u13 _ u81 wy => ∃ (j : Nat) (fr : Bool), u81 = .int .i64 (j : Int) ∧ u13 = .bool fr ∧ j ≤ n ∧ Hid (FT (ms.map Cm.cl) w0 wy g mb n b) ∧ Hid (fr = true ↔ ∀ j' a, j' < j → ms[j']? = some a → j' ≠ i → j' ∉ b → a.cl.must = true → a.cl.ahead mi.cl = true → False)) (fun _ _ u81 _ => n - (intOf u81).toNat)
                        case atStart => exact ⟨0, true, rfl, rfl, Nat.zero_le _, S6, ⟨fun _ => F0.out, fun _ => rfl⟩⟩
                        case round =>
                          obtain ⟨j, fr, rfl, rfl, hj, S, FR⟩ := hrel
                          clear F0 S6
                          obtain ⟨wd, hwd⟩ : ∃ wd, wd = wr := ⟨_, rfl⟩
                          rw [← hwd] at S ⊢
                          clear hwd
                          by_cases hjn : j < n
                          · have j1 : (j : Int) < (n : Int) := by omega
                            cases fr
                            · go_wp2_with fail
                              go_roundw
                              case rel => exact ⟨j + 1, false, by go_num, rfl, by omega, S, ⟨fun z => (by cases z), fun z => FR.out.2 (fun j' a h => z j' a (by omega))⟩⟩
                              case measure => simp [intOf] <;> omega
                            · obtain ⟨b7, off7, a, e7, ha, y0, y1, y2, y3, y4, y5, y6, y7, y8, y9, y10, _⟩ := (H.out.1.k0 S.out.kept).at hjn
                              have e7 : b8 = b7 ∧ off8 = off7 := by simpa using e7
                              obtain ⟨rfl, rfl⟩ := e7
                              obtain ⟨pa, hpa⟩ : ∃ pa, pa = a.pn := ⟨_, rfl⟩
                              have RP : Hid (∀ V, Calls Try.prog 6 #[a.agg] V fun o w' => o = .returned (.int .i64 pa) ∧ Kept (fun _ => False) V w') := fun V => by rw [hpa]; exact tPart a V
                              have HA : Hid (pa = a.pn ∧ ms[j]? = some a) := ⟨hpa, ha⟩
                              have GO : Hid (¬ (j ≠ i ∧ j ∉ b ∧ a.cl.must = true ∧ a.cl.ahead mi.cl = true) → ∀ j' a, j' < j + 1 → ms[j']? = some a → j' ≠ i → j' ∉ b → a.cl.must = true → a.cl.ahead mi.cl = true → False) := fun h j' a' h1 h2 h3 h4 h5 h6 => by
                                rcases Nat.lt_succ_iff_lt_or_eq.1 h1 with y | y
                                · exact FR.out.1 rfl j' a' y h2 h3 h4 h5 h6
                                · subst y
                                  rw [HA.out.2] at h2
                                  injection h2 with h2
                                  subst h2
                                  exact h ⟨h3, h4, h5, h6⟩
                              unfold Cm.agg at RP
                              clear hpa ha
                              go_wp2_with fail
                              refine (RP.out _).mono ?_
                              rintro o w7 ⟨rfl, K7⟩
                              have S7 : Hid (FT (ms.map Cm.cl) w0 w7 g mb n b) := S.out.k0 K7
                              clear RP K7 S y0 y1 y2 y3 y4 y5 y6 y7 y8 y9 y10
                              by_cases p2 : pa = 2
                              · subst p2
                                have gj := (S7.out.is.at hjn).1
                                by_cases jb : j ∈ b
                                · rw [decide_eq_true jb] at gj
                                  go_wp2_with fail
                                  go_roundw
                                  case rel => exact ⟨j + 1, true, by go_num, rfl, by omega, S7, ⟨fun _ => GO.out (fun z => z.2.1 jb), fun _ => rfl⟩⟩
                                  case measure => simp [intOf] <;> omega
                                · rw [decide_eq_false jb] at gj
                                  by_cases ji : j = i
                                  · subst ji
                                    go_wp2_with fail
                                    go_roundw
                                    case rel => exact ⟨j + 1, true, by go_num, rfl, by omega, S7, ⟨fun _ => GO.out (fun z => z.1 rfl), fun _ => rfl⟩⟩
                                    case measure => simp [intOf] <;> omega
                                  · have ji1 : ((j : Int) == (i : Int)) = false := by simp; omega
                                    have ji2 : ¬ (j : Int) = (i : Int) := by omega
                                    obtain ⟨ah, hah⟩ : ∃ ah, ah = (mi.cl.part && a.cl.ahead mi.cl) := ⟨_, rfl⟩
                                    have RA : Hid (Calls Try.prog 16 #[.slice (some ⟨b8, off8, none⟩) n c0, .int .i64 (j : Int), .int .i64 (i : Int)] w7 fun o w' => o = .returned (.bool ah) ∧ Kept (fun _ => False) w7 w') := by rw [hah]; exact tAhead (H.out.1.k0 S7.out.kept) HA.out.2 HM.out.1
                                    have HAH : Hid (ah = a.cl.ahead mi.cl) := by
                                      unfold Hid
                                      rw [hah, HPT.out, Bool.true_and]
                                    clear hah
                                    go_wp2_with fail
                                    refine RA.out.mono ?_
                                    rintro o w8 ⟨rfl, K8⟩
                                    have S8 : Hid (FT (ms.map Cm.cl) w0 w8 g mb n b) := S7.out.k0 K8
                                    clear RA K8 S7 gj
                                    cases ah
                                    · go_wp2_with fail
                                      go_roundw
                                      case rel => exact ⟨j + 1, true, by go_num, rfl, by omega, S8, ⟨fun _ => GO.out (fun z => by have h1 := z.2.2.2; rw [← HAH.out] at h1; cases h1), fun _ => rfl⟩⟩
                                      case measure => simp [intOf] <;> omega
                                    · go_wp2_with fail
                                      go_roundw
                                      case rel => exact ⟨j + 1, false, by go_num, by rw [bne_iff_ne.2 ji2]; rfl, by omega, S8, ⟨fun z => (by cases z), fun z => (z j a (by omega) HA.out.2 ji jb (pn_two.1 HA.out.1.symm) HAH.out.symm).elim⟩⟩
                                      case measure => simp [intOf] <;> omega
                              · have p2' : (pa == 2) = false := by simp [p2]
                                go_wp2_with fail
                                go_roundw
                                case rel => exact ⟨j + 1, true, by go_num, rfl, by omega, S7, ⟨fun _ => GO.out (fun z => p2 (HA.out.1.trans (pn_two.2 z.2.2.1))), fun _ => rfl⟩⟩
                                case measure => simp [intOf] <;> omega
                          · have j1 : ¬ (j : Int) < (n : Int) := by omega
                            cases fr
                            · have NF : Hid (¬ XMay (ms.map Cm.cl) b V i mi.cl) := fun z => by
                                have : (false = true) := FR.out.2 (fun j' a h1 h2 h3 h4 h5 h6 => h4 (z.2.2.2.2 j' a.cl (by rw [List.getElem?_map, h2]; rfl) (by unfold Cl.must at h5; rw [Bool.and_eq_true] at h5; exact h5.1) h6))
                                cases this
                              go_wp2_with fail
                              go_roundw
                              case rel => exact ⟨i + 1, by go_num, by omega, S, NX.out (fun z => NF.out z.1)⟩
                              case measure => simp [intOf] <;> omega
                            · have MAY : Hid (XMay (ms.map Cm.cl) b V i mi.cl) := by
                                refine XMay.self HM.out.2 (H.out.2.2.1 _ (List.mem_of_getElem? HM.out.2)) HPT.out ib (HV1.out.1 (by first | rfl | trivial)) (fun j' c hj' hne hcp hca => ?_)
                                rw [List.getElem?_map] at hj'
                                cases q : ms[j']? with
                                | none => rw [q] at hj'; cases hj'
                                | some a =>
                                  rw [q] at hj'
                                  have e : a.cl = c := by simpa using hj'
                                  subst e
                                  by_cases jb : j' ∈ b
                                  · exact jb
                                  · have hl := (List.getElem?_eq_some_iff.1 q).1
                                    rw [H.out.1.len] at hl
                                    exact (FR.out.1 rfl j' a (by omega) q hne jb (by unfold Cl.ahead at hca; rw [Bool.and_eq_true, Bool.and_eq_true] at hca; exact hca.1.1) hca).elim
                              clear FR
                              have d2 : ∃ b7 off7, (some ⟨b8, off8, none⟩ : Option Addr) = some ⟨b7, off7, none⟩ ∧ wd.cell? ⟨b7, off7 + i * 11 + 2, none⟩ = some (.bool mi.put) := by
                                obtain ⟨b7, off7, x, e7, hx, _, _, y2, _⟩ := (H.out.1.k0 S.out.kept).at hlt
                                have ex : x = mi := by
                                  have e := HM.out.1
                                  rw [hx] at e
                                  injection e
                                rw [ex] at y2
                                exact ⟨b7, off7, e7, y2⟩
                              obtain ⟨b7, off7, e7, y2⟩ := d2
                              have e7 : b8 = b7 ∧ off8 = off7 := by simpa using e7
                              obtain ⟨rfl, rfl⟩ := e7
                              obtain ⟨gi, gf⟩ := S.out.is.at hlt
                              obtain ⟨pu, hpu⟩ : ∃ pu, mi.put = pu := ⟨_, rfl⟩
                              rw [hpu] at y2
                              have IP : Hid (i ∈ prts (ms.map Cm.cl)) := mem_prts.2 ⟨mi.cl, HM.out.2, HPT.out⟩
                              have ON : Hid (FT (ms.map Cm.cl) w0 (wd.setCell ⟨g, i, none⟩ (.bool true)) g mb n (b ++ [i])) := S.out.on i
                              have BP : Hid (∀ x ∈ b ++ [i], x ∈ prts (ms.map Cm.cl)) := fun x hx => by
                                rcases List.mem_append.1 hx with z | z
                                · exact H.out.2.2.2.2.1 x z
                                · rw [List.mem_singleton.1 z]; exact IP.out
                              have LL : Hid (left2 (ms.map Cm.cl) (b ++ [i]) < dd) := by
                                have h1 := left2_less MAY.out
                                have h2 := H.out.2.2.2.2.2.2.1
                                show _ < dd
                                omega
                              have NV : Hid (mi.cl.next V = valOf' (ms.map Cm.cl) (if pu = true then (i : Int) else last)) := by
                                unfold Hid Cl.next
                                rw [show mi.cl.put = pu from hpu]
                                cases pu
                                · rw [if_neg (by simp), if_neg (by simp)]
                                  exact H.out.2.2.2.2.2.2.2.1
                                · rw [if_pos rfl, if_pos rfl]
                                  unfold valOf'
                                  rw [if_neg (by omega), Int.toNat_natCast, HM.out.2]
                                  rfl
                              clear hpu
                              cases pu
                              · have NE : Hid (mi.cl.next V = valOf' (ms.map Cm.cl) last) := NV.out
                                clear NV
                                go_wp2_with fail
                                refine (IH.out (left2 (ms.map Cm.cl) (b ++ [i])) LL.out (last := last) ON.out BP.out (H.out.2.2.2.2.2.1) (Nat.le_refl _)).mono ?_
                                rintro o w9 ⟨v9, rfl, hv9', S9'⟩
                                have HV9 : Hid (v9 = true ↔ XCan (ms.map Cm.cl) (b ++ [i]) (mi.cl.next V)) := by rw [NE.out]; exact hv9'
                                obtain ⟨gi9, gf9⟩ := S9'.is.at hlt
                                have S9 : Hid (FT (ms.map Cm.cl) w0 (w9.setCell ⟨g, i, none⟩ (.bool false)) g mb n b) := S9'.off ib
                                clear hv9' S9' gi gf y2 S ON
                                cases v9
                                · go_wp2_with fail
                                  go_roundw
                                  case rel => exact ⟨i + 1, by go_num, by omega, S9, NX.out (fun z => by have h1 := HV9.out.2 z.2.2; cases h1)⟩
                                  case measure => simp [intOf] <;> omega
                                · have YES : Hid (XCan (ms.map Cm.cl) b V) := XCan.step.2 (.inr ⟨i, mi.cl, MAY.out, HV2.out.1 (by first | rfl | trivial), HV9.out.1 rfl⟩)
                                  go_wp2_with fail
                                  go_ret
                                  exact RetB.mk true rfl ⟨⟨fun _ => YES.out, fun _ => rfl⟩, S9.out⟩
                              · have NE : Hid (mi.cl.next V = valOf' (ms.map Cm.cl) (i : Int)) := NV.out
                                clear NV
                                go_wp2_with fail
                                refine (IH.out (left2 (ms.map Cm.cl) (b ++ [i])) LL.out (last := (i : Int)) ON.out BP.out (.inr ⟨by omega, by rw [Int.toNat_natCast]; exact IP.out⟩) (Nat.le_refl _)).mono ?_
                                rintro o w9 ⟨v9, rfl, hv9', S9'⟩
                                have HV9 : Hid (v9 = true ↔ XCan (ms.map Cm.cl) (b ++ [i]) (mi.cl.next V)) := by rw [NE.out]; exact hv9'
                                obtain ⟨gi9, gf9⟩ := S9'.is.at hlt
                                have S9 : Hid (FT (ms.map Cm.cl) w0 (w9.setCell ⟨g, i, none⟩ (.bool false)) g mb n b) := S9'.off ib
                                clear hv9' S9' gi gf y2 S ON
                                cases v9
                                · go_wp2_with fail
                                  go_roundw
                                  case rel => exact ⟨i + 1, by go_num, by omega, S9, NX.out (fun z => by have h1 := HV9.out.2 z.2.2; cases h1)⟩
                                  case measure => simp [intOf] <;> omega
                                · have YES : Hid (XCan (ms.map Cm.cl) b V) := XCan.step.2 (.inr ⟨i, mi.cl, MAY.out, HV2.out.1 (by first | rfl | trivial), HV9.out.1 rfl⟩)
                                  go_wp2_with fail
                                  go_ret
                                  exact RetB.mk true rfl ⟨⟨fun _ => YES.out, fun _ => rfl⟩, S9.out⟩
              · have i1 : ¬ (i : Int) < (n : Int) := by omega
                have NC : Hid (¬ XCan (ms.map Cm.cl) b V) := fun z => by
                  rcases XCan.step.1 z with y | ⟨j, c, m, y⟩
                  · exact NW.out y
                  · have hj := (List.getElem?_eq_some_iff.1 m.1).1
                    rw [H.out.2.2.2.2.2.2.2.2] at hj
                    exact L.out j c (by omega) ⟨m, y⟩
                clear L
                go_wp2_with
                  (first
                    | (at_mapUpdate; refine VM.put S.out.vm H.out.2.2.2.1 H.out.2.2.2.2.1 H.out.2.2.2.2.2.1 (by rw [← H.out.2.2.2.2.2.2.2.1, H.out.2.2.2.2.2.2.2.2]; exact SZ.out.2) (by rw [← H.out.2.2.2.2.2.2.2.1, H.out.2.2.2.2.2.2.2.2]; exact SZ.out.1) (by rw [← H.out.2.2.2.2.2.2.2.1]; exact NC.out) rfl _ _ _ rfl rfl (by rw [← H.out.2.2.2.2.2.2.2.1, H.out.2.2.2.2.2.2.2.2, ← HK.out]; rfl) rfl ?_; intro w8 hv8 hk8)
                    | fail)
                have S8 : Hid (FT (ms.map Cm.cl) w0 w8 g mb n b) := by
                  refine ⟨Kept.own S.out.kept hk8.out (fun j z => by rw [z]; exact S.out.mge), ⟨hk8.out.owns S.out.is.row (fun j hj z => ?_)⟩, hv8.out, S.out.mge⟩
                  have hj : some g = some j := hj
                  injection hj with hj
                  exact S.out.ne (by rw [hj]; exact z.symm)
                clear hv8 hk8
                go_ret
                exact RetB.mk false rfl ⟨⟨fun z => (by cases z), fun z => absurd z NC.out⟩, S8.out⟩
          · have NC : Hid (¬ XCan (ms.map Cm.cl) b V) := hvn rfl
            go_wp2_with fail
            go_ret
            exact RetB.mk false rfl ⟨⟨fun z => (by cases z), fun z => absurd z NC.out⟩, S3.out⟩
end Go.Proofs.Ytginpoofeliimab
