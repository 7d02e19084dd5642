import Derived.Test.YtodmakcklacbfaaRFit
import Derived.Test.YtodmakcklacbfaaPExJ
import Derived.Test.YtodmakcklacbfaaPByJ
import Derived.Test.YtodmakcklacbfaaVExpF
import Derived.Test.YtodmakcklacbfaaVSmallJ
namespace Go.Proofs.Ytodmakcklacbfaa
open Go.RowKit 

/-- How often a number stands in a list. -/
def cnt (R : List Int) (x : Int) : Nat := (R.filter fun y => decide (y = x)).length
theorem cnt_le (R : List Int) (x : Int) : cnt R x ≤ R.length := List.length_filter_le _ _
theorem cnt_succ {R : List Int} {i : Nat} {y : Int} (h : R[i]? = some y) (x : Int) : cnt (R.take (i + 1)) x = cnt (R.take i) x + (if y = x then 1 else 0) := by
  unfold cnt
  rw [List.take_add_one, h, List.filter_append, List.length_append]
  congr 1
  show ([y].filter _).length = _
  by_cases e : y = x
  · simp [e]
  · simp [e]
theorem cnt_zero {R : List Int} {x : Int} (h : x ∉ R) : cnt R x = 0 := by
  unfold cnt
  rw [List.length_eq_zero_iff, List.filter_eq_nil_iff]
  intro y hy z
  have : y = x := by simpa using z
  exact h (this ▸ hy)
theorem cnt_pos {R : List Int} {x : Int} (h : x ∈ R) : 1 ≤ cnt R x := by
  unfold cnt
  have : x ∈ R.filter fun y => decide (y = x) := List.mem_filter.2 ⟨h, by simp⟩
  exact List.length_pos_of_mem this
theorem cnt_app (A B : List Int) (x : Int) : cnt (A ++ B) x = cnt A x + cnt B x := by
  unfold cnt
  rw [List.filter_append, List.length_append]
theorem cnt_nodup : ∀ (R : List Int), R.Nodup → ∀ x, x ∈ R → cnt R x = 1
  | [], _, x, h => by cases h
  | a :: R, hn, x, h => by
    obtain ⟨h1, h2⟩ := List.nodup_cons.1 hn
    have e : cnt (a :: R) x = cnt [a] x + cnt R x := cnt_app [a] R x
    by_cases z : a = x
    · subst z
      rw [e, cnt_zero h1]
      unfold cnt
      simp
    · have hx : x ∈ R := by
        rcases List.mem_cons.1 h with y | y
        · exact absurd y.symm z
        · exact y
      rw [e, cnt_nodup R h2 x hx, cnt_zero (by simp; exact fun y => z y.symm)]
theorem nodup_cnt : ∀ (R : List Int), (∀ x ∈ R, cnt R x = 1) → R.Nodup
  | [], _ => List.nodup_nil
  | a :: R, h => by
    have ea := h a (by simp)
    have e1 : cnt (a :: R) a = cnt [a] a + cnt R a := cnt_app [a] R a
    have e2 : cnt [a] a = 1 := by unfold cnt; simp
    have na : a ∉ R := fun z => by
      have := cnt_pos z
      omega
    refine List.nodup_cons.2 ⟨na, nodup_cnt R (fun x hx => ?_)⟩
    have := h x (List.mem_cons_of_mem _ hx)
    have e : cnt (a :: R) x = cnt [a] x + cnt R x := cnt_app [a] R x
    have e3 : cnt [a] x = 0 := cnt_zero (by
      simp
      intro z
      exact na (z ▸ hx))
    omega
set_option maxRecDepth 100000 in
theorem dCount {w : World} {q : Option Addr} {k kc : Nat} {R : List Int} (ir : IRd w q k kc R) (x : Int) : Calls Try.prog 77 #[.slice q k kc, .int .i64 x] w fun o w' => o = .returned (.int .i64 (cnt R x : Int)) ∧ Kept (fun _ => False) w w' := by
  have rm := ir.room
  have sm := ir.small
  unfold maxLen at sm
  have H : Hid (IRd w q k kc R) := ir
  clear ir
  go_enter Try.func77, Try.ntmps77
  go_wp2_with fail
  go_loopw [5, 6] (fun u5 u6 wy => ∃ i : Nat, u6 = .int .i64 (i : Int) ∧ u5 = .int .i64 (cnt (R.take i) x : Int) ∧ i ≤ k ∧ Hid (Kept (fun _ => False) w wy)) (fun _ u6 _ => k - (intOf u6).toNat)
  case atStart => exact ⟨0, rfl, rfl, Nat.zero_le _, Kept.refl _ _⟩
  case round =>
    obtain ⟨i, rfl, rfl, hi, K⟩ := hrel
    obtain ⟨wo, hwo⟩ : ∃ wo, wo = wr := ⟨_, rfl⟩
    rw [← hwo] at K ⊢
    clear hwo
    by_cases hlt : i < k
    · have i1 : (i : Int) < (k : Int) := by omega
      obtain ⟨b, off, y, rfl, hy, cy⟩ := (H.out.k0 K.out).at hlt
      obtain ⟨cc, hcc⟩ : ∃ cc, cc = cnt (R.take i) x := ⟨_, rfl⟩
      have cb : cc ≤ i := by
        rw [hcc]
        refine Nat.le_trans (cnt_le _ _) ?_
        rw [List.length_take]
        omega
      have HN : Hid (cnt (R.take (i + 1)) x = cc + (if y = x then 1 else 0)) := by
        rw [hcc]
        exact cnt_succ hy x
      rw [← hcc]
      clear hcc hy
      have wc : wrap64 ((cc : Int) + 1) = (cc : Int) + 1 := by unfold wrap64; omega
      by_cases e : y = x
      · have e2 : (y == x) = true := by simp [e]
        have NX : Hid ((cnt (R.take (i + 1)) x : Int) = (cc : Int) + 1) := by
          show (cnt (R.take (i + 1)) x : Int) = (cc : Int) + 1
          rw [HN.out, if_pos e]
          omega
        clear e
        go_wp2_with fail
        go_roundw
        case rel => exact ⟨i + 1, by go_num, by rw [NX.out], by omega, K⟩
        case measure => simp [intOf] <;> omega
      · have e2 : (y == x) = false := by simp [e]
        have NX : Hid ((cnt (R.take (i + 1)) x : Int) = (cc : Int)) := by
          show (cnt (R.take (i + 1)) x : Int) = (cc : Int)
          rw [HN.out, if_neg e]
          omega
        go_wp2_with fail
        go_roundw
        case rel => exact ⟨i + 1, by go_num, by rw [NX.out], by omega, K⟩
        case measure => simp [intOf] <;> omega
    · have i1 : ¬ (i : Int) < (k : Int) := by omega
      have er : R.take i = R := List.take_of_length_le (by rw [H.out.len]; omega)
      rw [er]
      clear er
      go_wp2_with fail
      go_ret
      exact ⟨rfl, K.out⟩
end Go.Proofs.Ytodmakcklacbfaa

namespace Go.Proofs.Ytodmakcklacbfaa
open Go.RowKit 

def MemOk (ms : List Cm) (R : List Int) (z : Int) : Prop := 0 ≤ z ∧ cnt R z = 1 ∧ ∃ m, ms[z.toNat]? = some m ∧ m.cl.part = true
theorem just_iff2 {ms : List Cm} {R : List Int} : Just (ms.map Cm.cl) R ↔ (∀ z ∈ R, MemOk ms R z) ∧ (∀ (j : Nat) m, ms[j]? = some m → m.cl.must = true → cnt R (j : Int) = 1) := by
  have mapn : ∀ {Rn : List Nat}, ExA (ms.map Cm.cl) Rn Rn.length → (Rn.map fun r : Nat => (r : Int)).Nodup := fun {Rn} h => by
    refine List.pairwise_iff_getElem.2 (fun i j hi hj hij e => ?_)
    rw [List.length_map] at hi hj
    rw [List.getElem_map, List.getElem_map] at e
    have e : Rn[i] = Rn[j] := by omega
    refine (h j hj Rn[j] (List.getElem?_eq_getElem hj)).1 ?_
    rw [← e]
    exact List.mem_iff_getElem?.2 ⟨i, by rw [List.getElem?_take_of_lt hij]; exact List.getElem?_eq_getElem hi⟩
  constructor
  · rintro ⟨Rn, rfl, hA, hB⟩
    have nd := mapn hA
    refine ⟨fun z hz => ?_, fun j m hm hmu => ?_⟩
    · refine ⟨?_, cnt_nodup _ nd z hz, ?_⟩
      · obtain ⟨r, _, rfl⟩ := List.mem_map.1 hz
        omega
      · obtain ⟨r, hr, rfl⟩ := List.mem_map.1 hz
        obtain ⟨n, hn⟩ := List.mem_iff_getElem?.1 hr
        obtain ⟨_, c, hc, hp⟩ := hA n (List.getElem?_eq_some_iff.1 hn).1 r hn
        rw [List.getElem?_map] at hc
        obtain ⟨m, hm, rfl⟩ := Option.map_eq_some_iff.1 hc
        exact ⟨m, by rw [Int.toNat_natCast]; exact hm, hp⟩
    · refine cnt_nodup _ nd _ (List.mem_map.2 ⟨j, hB j ?_ m.cl ?_ hmu, rfl⟩)
      · rw [List.length_map]
        exact (List.getElem?_eq_some_iff.1 hm).1
      · rw [List.getElem?_map, hm]
        rfl
  · rintro ⟨h1, h2⟩
    have eR : R = (R.map Int.toNat).map fun r : Nat => (r : Int) := by
      rw [List.map_map]
      refine (List.map_id R).symm.trans (List.map_congr_left (fun z hz => ?_))
      have := (h1 z hz).1
      show z = ((z.toNat : Nat) : Int)
      omega
    have nd : R.Nodup := nodup_cnt R (fun z hz => (h1 z hz).2.1)
    refine ⟨R.map Int.toNat, eR, fun n hn r hr => ⟨fun hm => ?_, ?_⟩, fun i hi c hc hmu => ?_⟩
    · rw [List.getElem?_map] at hr
      obtain ⟨z, hz, rfl⟩ := Option.map_eq_some_iff.1 hr
      rw [← List.map_take] at hm
      obtain ⟨y, hy, e⟩ := List.mem_map.1 hm
      obtain ⟨j, hj⟩ := List.mem_iff_getElem?.1 hy
      have hjn : j < n := by
        have := (List.getElem?_eq_some_iff.1 hj).1
        rw [List.length_take] at this
        omega
      rw [List.getElem?_take_of_lt hjn] at hj
      have y0 := (h1 y (List.mem_of_getElem? hj)).1
      have z0 := (h1 z (List.mem_of_getElem? hz)).1
      have e : y = z := by omega
      subst e
      obtain ⟨a1, a2⟩ := List.getElem?_eq_some_iff.1 hj
      obtain ⟨b1, b2⟩ := List.getElem?_eq_some_iff.1 hz
      exact (List.pairwise_iff_getElem.1 nd j n a1 b1 hjn) (by rw [a2, b2])
    · rw [List.getElem?_map] at hr
      obtain ⟨z, hz, rfl⟩ := Option.map_eq_some_iff.1 hr
      obtain ⟨_, _, m, hm, hp⟩ := h1 z (List.mem_of_getElem? hz)
      exact ⟨m.cl, by rw [List.getElem?_map, hm]; rfl, hp⟩
    · rw [List.getElem?_map] at hc
      obtain ⟨m, hm, rfl⟩ := Option.map_eq_some_iff.1 hc
      have := h2 i m hm hmu
      have hi : (i : Int) ∈ R := by
        refine Classical.byContradiction (fun z => ?_)
        rw [cnt_zero z] at this
        omega
      exact List.mem_map.2 ⟨(i : Int), hi, by omega⟩
set_option maxRecDepth 100000 in
set_option maxHeartbeats 4000000 in
theorem dMembers {w : World} {p0 : Option Addr} {n c0 : Nat} {ms : List Cm} (cr : CRd w p0 n c0 ms) (fit : FitL ms) {q : Option Addr} {k kc : Nat} {R : List Int} (ir : IRd w q k kc R) : Calls Try.prog 50 #[.slice p0 n c0, .slice q k kc] w (RetB fun v w' => (v = true ↔ Just (ms.map Cm.cl) R) ∧ Kept (fun _ => False) w w') := by
  have rm := cr.room
  have sm := cr.small
  unfold maxLen at sm
  have r1 := ir.room
  have r2 := ir.small
  unfold maxLen at r2
  have H : Hid (CRd w p0 n c0 ms ∧ IRd w q k kc R ∧ FitL ms) := ⟨cr, ir, fit⟩
  have L0 : Hid (Kept (fun _ => False) w w ∧ ∀ z ∈ R.take 0, MemOk ms R z) := ⟨Kept.refl _ _, fun z hz => absurd hz (by simp)⟩
  clear cr fit ir
  go_enter Try.func50, Try.ntmps50
  go_wp2_with fail
  go_loopw [5, 6] (fun u5 _ wy => ∃ x : Nat, u5 = .int .i64 (x : Int) ∧ x ≤ k ∧ Hid (Kept (fun _ => False) w wy ∧ ∀ z ∈ R.take x, MemOk ms R z)) (fun u5 _ _ => k - (intOf u5).toNat)
  case atStart => exact ⟨0, rfl, Nat.zero_le _, L0⟩
  case round =>
    obtain ⟨x, rfl, hx, S⟩ := hrel
    clear L0
    obtain ⟨wo, hwo⟩ : ∃ wo, wo = wr := ⟨_, rfl⟩
    rw [← hwo] at S ⊢
    clear hwo
    by_cases hlt : x < k
    · have x1 : (x : Int) < (k : Int) := by omega
      obtain ⟨gq, oq, z, rfl, hz, cq⟩ := (H.out.2.1.k0 S.out.1).at hlt
      have HZ : Hid (R[x]? = some z) := hz
      have KE : Hid (Kept (fun _ => False) w wo) := S.out.1
      have NOJ : Hid (¬ MemOk ms R z → ¬ Just (ms.map Cm.cl) R) := fun h j => h ((just_iff2.1 j).1 z (List.mem_of_getElem? HZ.out))
      clear hz
      by_cases z0 : z < 0
      · have NO : Hid (¬ Just (ms.map Cm.cl) R) := NOJ.out (fun h => by have := h.1; omega)
        go_wp2_with fail
        go_ret
        exact RetB.mk false rfl ⟨⟨fun y => (by cases y), fun y => absurd y NO.out⟩, KE.out⟩
      · by_cases zn : z < (n : Int)
        · obtain ⟨i, rfl⟩ : ∃ i : Nat, z = (i : Int) := ⟨z.toNat, by omega⟩
          have ilt : i < n := by omega
          have zn' : ¬ (n : Int) ≤ (i : Int) := by omega
          obtain ⟨cc, hcc⟩ : ∃ cc, cc = cnt R (i : Int) := ⟨_, rfl⟩
          have RC : Hid (∀ V, Kept (fun _ => False) w V → Calls Try.prog 77 #[.slice (some ⟨gq, oq, none⟩) k kc, .int .i64 (i : Int)] V fun o w' => o = .returned (.int .i64 (cc : Int)) ∧ Kept (fun _ => False) V w') := fun V kv => by rw [hcc]; exact dCount (H.out.2.1.k0 kv) _
          have HC : Hid (cc = cnt R (i : Int)) := hcc
          clear hcc
          go_wp2_with fail
          refine (RC.out _ KE.out).mono ?_
          rintro o w2 ⟨rfl, K2⟩
          have KE2 : Hid (Kept (fun _ => False) w w2) := KE.out.trans K2 (fun _ _ z => z)
          clear K2 RC cq
          by_cases c1 : cc = 1
          · obtain ⟨b8, off8, d, rfl, hd, y0, y1, y2, y3, y4, y5, y6, y7, y8, y9, y10, _⟩ := (H.out.1.k0 KE2.out).at ilt
            obtain ⟨mu, hmu⟩ : ∃ mu, mu = d.cl.must := ⟨_, rfl⟩
            obtain ⟨op, hop⟩ : ∃ op, d.opn = op := ⟨_, rfl⟩
            have RD : Hid (∀ V, Calls Try.prog 78 #[d.agg] V fun o w' => o = .returned (.bool mu) ∧ Kept (fun _ => False) V w') := fun V => by rw [hmu]; exact dDue d V
            have HD : Hid (ms[i]? = some d ∧ (op || mu) = d.cl.part) := by
              refine ⟨hd, ?_⟩
              rw [← fit_part (H.out.2.2 d (List.mem_of_getElem? hd)).2, hmu, hop]
            unfold Cm.agg at RD
            rw [hop] at RD y8
            subst c1
            have KP : Hid (∀ V, Kept (fun _ => False) w2 V → V.cell? ⟨b8, off8 + i * 11 + 8, none⟩ = some (.bool op)) := fun V kv => kv.cell y8 (fun z => z)
            clear hmu hop hd
            go_wp2_with fail
            refine (RD.out _).mono ?_
            rintro o w3 ⟨rfl, K3⟩
            have KE3 : Hid (Kept (fun _ => False) w w3) := KE2.out.trans K3 (fun _ _ z => z)
            have e8 := KP.out w3 K3
            clear K3 RD KP y0 y1 y2 y3 y4 y5 y6 y7 y8 y9 y10
            have YES : Hid ((op || mu) = true → ∀ y ∈ R.take (x + 1), MemOk ms R y) := fun h y hy => by
              rw [List.take_add_one, HZ.out] at hy
              rcases List.mem_append.1 hy with t | t
              · exact S.out.2 y t
              · have e : y = (i : Int) := by simpa using t
                subst e
                exact ⟨by omega, HC.out.symm, d, by rw [Int.toNat_natCast]; exact HD.out.1, by rw [← HD.out.2]; exact h⟩
            cases mu
            · cases op
              · have NO : Hid (¬ Just (ms.map Cm.cl) R) := NOJ.out (fun h => by
                  obtain ⟨_, _, m, hm, hp⟩ := h
                  rw [Int.toNat_natCast, HD.out.1] at hm
                  rw [← Option.some.inj hm, ← HD.out.2] at hp
                  cases hp)
                clear S YES
                go_wp2_with fail
                go_ret
                exact RetB.mk false rfl ⟨⟨fun y => (by cases y), fun y => absurd y NO.out⟩, KE3.out⟩
              · have NX : Hid (Kept (fun _ => False) w w3 ∧ ∀ y ∈ R.take (x + 1), MemOk ms R y) := ⟨KE3.out, YES.out rfl⟩
                clear S YES
                go_wp2_with fail
                go_roundw
                case rel => exact ⟨x + 1, by go_num, by omega, NX⟩
                case measure => simp [intOf] <;> omega
            · have NX : Hid (Kept (fun _ => False) w w3 ∧ ∀ y ∈ R.take (x + 1), MemOk ms R y) := ⟨KE3.out, YES.out (by cases op <;> rfl)⟩
              clear S YES
              go_wp2_with fail
              go_roundw
              case rel => exact ⟨x + 1, by go_num, by omega, NX⟩
              case measure => simp [intOf] <;> omega
          · have c2 : ((cc : Int) == 1) = false := by simp; omega
            have c3 : ((cc : Int) != 1) = true := by simp; omega
            have NO : Hid (¬ Just (ms.map Cm.cl) R) := NOJ.out (fun h => by
              have := h.2.1
              rw [← HC.out] at this
              exact c1 this)
            clear S
            go_wp2_with fail
            go_ret
            exact RetB.mk false rfl ⟨⟨fun y => (by cases y), fun y => absurd y NO.out⟩, KE2.out⟩
        · have NO : Hid (¬ Just (ms.map Cm.cl) R) := NOJ.out (fun h => by
            obtain ⟨_, _, m, hm, _⟩ := h
            have := (List.getElem?_eq_some_iff.1 hm).1
            rw [H.out.1.len] at this
            omega)
          have zn' : (n : Int) ≤ z := by omega
          go_wp2_with fail
          go_ret
          exact RetB.mk false rfl ⟨⟨fun y => (by cases y), fun y => absurd y NO.out⟩, KE.out⟩
    · have x1 : ¬ (x : Int) < (k : Int) := by omega
      have ALL : Hid (∀ z ∈ R, MemOk ms R z) := by
        have h := S.out.2
        rw [List.take_of_length_le (by rw [H.out.2.1.len]; omega)] at h
        exact h
      have L0 : Hid (Kept (fun _ => False) w wo ∧ ∀ j : Nat, j < 0 → ∀ m, ms[j]? = some m → m.cl.must = true → cnt R (j : Int) = 1) := ⟨S.out.1, fun j h => absurd h (by omega)⟩
      clear S
      go_wp2_with fail
      go_loopw [7] (fun u7 wy => ∃ y : Nat, u7 = .int .i64 (y : Int) ∧ y ≤ n ∧ Hid (Kept (fun _ => False) w wy ∧ ∀ j : Nat, j < y → ∀ m, ms[j]? = some m → m.cl.must = true → cnt R (j : Int) = 1)) (fun u7 _ => n - (intOf u7).toNat)
      case atStart => exact ⟨0, rfl, Nat.zero_le _, L0⟩
      case round =>
        obtain ⟨y, rfl, hy, S⟩ := hrel
        clear L0
        obtain ⟨wb, hwb⟩ : ∃ wb, wb = wr := ⟨_, rfl⟩
        rw [← hwb] at S ⊢
        clear hwb
        by_cases hyn : y < n
        · have yi : (y : Int) < (n : Int) := by omega
          obtain ⟨b8, off8, d, rfl, hd, y0, y1, y2, y3, y4, y5, y6, y7, y8, y9, y10, _⟩ := (H.out.1.k0 S.out.1).at hyn
          obtain ⟨mu, hmu⟩ : ∃ mu, mu = d.cl.must := ⟨_, rfl⟩
          obtain ⟨cc, hcc⟩ : ∃ cc, cc = cnt R (y : Int) := ⟨_, rfl⟩
          have RD : Hid (∀ V, Calls Try.prog 78 #[d.agg] V fun o w' => o = .returned (.bool mu) ∧ Kept (fun _ => False) V w') := fun V => by rw [hmu]; exact dDue d V
          have RC : Hid (∀ V, Kept (fun _ => False) w V → Calls Try.prog 77 #[.slice q k kc, .int .i64 (y : Int)] V fun o w' => o = .returned (.int .i64 (cc : Int)) ∧ Kept (fun _ => False) V w') := fun V kv => by rw [hcc]; exact dCount (H.out.2.1.k0 kv) _
          have HD : Hid (ms[y]? = some d ∧ mu = d.cl.must ∧ cc = cnt R (y : Int)) := ⟨hd, hmu, hcc⟩
          unfold Cm.agg at RD
          have YES : Hid ((mu = true → cc = 1) → ∀ j : Nat, j < y + 1 → ∀ m, ms[j]? = some m → m.cl.must = true → cnt R (j : Int) = 1) := fun h j hj m hm hmm => by
            by_cases e : j = y
            · subst e
              rw [HD.out.1] at hm
              rw [← Option.some.inj hm, ← HD.out.2.1] at hmm
              rw [← HD.out.2.2]
              exact h hmm
            · exact S.out.2 j (by omega) m hm hmm
          have KE : Hid (Kept (fun _ => False) w wb) := S.out.1
          clear hd hmu hcc S
          go_wp2_with fail
          refine (RD.out _).mono ?_
          rintro o w3 ⟨rfl, K3⟩
          have KE3 : Hid (Kept (fun _ => False) w w3) := KE.out.trans K3 (fun _ _ z => z)
          clear K3 RD y0 y1 y2 y3 y4 y5 y6 y7 y8 y9 y10
          cases mu
          · have NX : Hid (Kept (fun _ => False) w w3 ∧ ∀ j : Nat, j < y + 1 → ∀ m, ms[j]? = some m → m.cl.must = true → cnt R (j : Int) = 1) := ⟨KE3.out, YES.out (fun h => by cases h)⟩
            clear YES RC
            go_wp2_with fail
            go_roundw
            case rel => exact ⟨y + 1, by go_num, by omega, NX⟩
            case measure => simp [intOf] <;> omega
          · go_wp2_with fail
            refine (RC.out _ KE3.out).mono ?_
            rintro o w4 ⟨rfl, K4⟩
            have KE4 : Hid (Kept (fun _ => False) w w4) := KE3.out.trans K4 (fun _ _ z => z)
            clear K4 RC
            by_cases c1 : cc = 1
            · have NX : Hid (Kept (fun _ => False) w w4 ∧ ∀ j : Nat, j < y + 1 → ∀ m, ms[j]? = some m → m.cl.must = true → cnt R (j : Int) = 1) := ⟨KE4.out, YES.out (fun _ => c1)⟩
              clear YES
              subst c1
              go_wp2_with fail
              go_roundw
              case rel => exact ⟨y + 1, by go_num, by omega, NX⟩
              case measure => simp [intOf] <;> omega
            · have c2 : ((cc : Int) == 1) = false := by simp; omega
              have c3 : ((cc : Int) != 1) = true := by simp; omega
              have NO : Hid (¬ Just (ms.map Cm.cl) R) := fun j => c1 (by rw [HD.out.2.2]; exact (just_iff2.1 j).2 y d HD.out.1 HD.out.2.1.symm)
              clear YES
              go_wp2_with fail
              go_ret
              exact RetB.mk false rfl ⟨⟨fun y => (by cases y), fun y => absurd y NO.out⟩, KE4.out⟩
        · have yi : ¬ (y : Int) < (n : Int) := by omega
          have J : Hid (Just (ms.map Cm.cl) R) := just_iff2.2 ⟨ALL.out, fun j m hm => S.out.2 j (by have := (List.getElem?_eq_some_iff.1 hm).1; rw [H.out.1.len] at this; omega) m hm⟩
          have KE : Hid (Kept (fun _ => False) w wb) := S.out.1
          clear S
          go_wp2_with fail
          go_ret
          exact RetB.mk true rfl ⟨⟨fun _ => J.out, fun _ => rfl⟩, KE.out⟩
end Go.Proofs.Ytodmakcklacbfaa

namespace Go.Proofs.Ytodmakcklacbfaa
open Go.RowKit Go.Shelf Go.Lib Go.Sort

/-- Nobody stands ahead who had ended only behind. -/
def CkT (ms : List Cm) (Rn : List Nat) (x : Nat) (a : Cm) : Prop := ∀ y, y < x → ∀ j b, Rn[y]? = some j → ms[j]? = some b → ¬ (a.opn = false ∧ a.to < b.frm)
def CkX (ms : List Cm) (Rn : List Nat) (x : Nat) : Prop := ∀ i a, Rn[x]? = some i → ms[i]? = some a → CkT ms Rn x a ∧ ExD1 (ms.map Cm.cl) Rn x a.cl
theorem must_opn {m : Cm} (f : m.fit = true) (h : m.cl.must = true) : m.opn = false := by
  cases q : m.put
  · exact fit_get f q
  · exact must_put h q
theorem must_to {m : Cm} (f : m.fit = true) (h : m.cl.must = true) : 0 ≤ m.to := by
  have ho := must_opn f h
  cases q : m.put
  · have hp : m.cl.part = true := by unfold Cl.must at h; rw [Bool.and_eq_true] at h; exact h.1
    unfold Cl.part at hp
    have e0 : m.cl.put = m.put := rfl
    have e1 : m.cl.to = m.to := rfl
    rw [e0, e1, q] at hp
    simp at hp
    exact hp.1
  · unfold Cm.fit at f
    simp only [Bool.and_eq_true, Bool.or_eq_true, decide_eq_true_eq, beq_iff_eq] at f
    obtain ⟨⟨⟨f1, f2⟩, f3⟩, f4⟩ := f
    rw [ho] at f3
    have f3 := f3.symm
    unfold Cm.opb at f3
    rw [q, Bool.true_and, Bool.or_eq_false_iff] at f3
    have := of_decide_eq_false f3.1
    omega
theorem ckx_iff {ms : List Cm} {Rn : List Nat} (fit : FitL ms) (hA : ExA (ms.map Cm.cl) Rn Rn.length) (hB : ExB (ms.map Cm.cl) Rn (ms.map Cm.cl).length) : Expl ms (Rn.map fun r : Nat => (r : Int)) ↔ ∀ x, x < Rn.length → CkX ms Rn x := by
  have fitm : ∀ {i : Nat} {m : Cm}, ms[i]? = some m → m.fit = true := fun h => (fit _ (List.mem_of_getElem? h)).2
  have cl_at : ∀ {i : Nat} {m : Cm}, ms[i]? = some m → (ms.map Cm.cl)[i]? = some m.cl := fun h => by rw [List.getElem?_map, h]; rfl
  constructor
  · intro h x hx i a hi ha
    obtain ⟨_, _, hC, hD⟩ := (explain_iff fit.nb).1 (expl_run2 h)
    refine ⟨fun y hy j b hj hb hh => ?_, hD x hx i a.cl hi (cl_at ha)⟩
    obtain ⟨_, c, hc, hp⟩ := hA x hx i hi
    rw [cl_at ha] at hc
    rw [← Option.some.inj hc] at hp
    have hm : a.cl.must = true := by
      have := fit_part (fitm ha)
      rw [hh.1, Bool.false_or, hp] at this
      exact this
    have ah : a.cl.ahead b.cl = true := by
      unfold Cl.ahead
      have e1 : a.cl.to = a.to := rfl
      have e2 : b.cl.frm = b.frm := rfl
      rw [hm, e1, e2, decide_eq_true (must_to (fitm ha) hm), decide_eq_true hh.2]
      rfl
    have il : i < (ms.map Cm.cl).length := (List.getElem?_eq_some_iff.1 (cl_at ha)).1
    have jl : j < (ms.map Cm.cl).length := (List.getElem?_eq_some_iff.1 (cl_at hb)).1
    have := hC i il j jl a.cl b.cl (cl_at ha) (cl_at hb) ah y x hj hi
    omega
  · intro h
    refine ⟨Rn, rfl, (explain_iff fit.nb).2 ⟨hA, hB, fun i hi j hj a b ha hb hab x y hx hy => ?_, fun n hn r c hr hc => ?_⟩⟩
    · rw [List.getElem?_map] at ha hb
      obtain ⟨ma, hma, rfl⟩ := Option.map_eq_some_iff.1 ha
      obtain ⟨mb, hmb, rfl⟩ := Option.map_eq_some_iff.1 hb
      refine Nat.not_lt.1 (fun hlt => ?_)
      have hyl := (List.getElem?_eq_some_iff.1 hy).1
      unfold Cl.ahead at hab
      simp only [Bool.and_eq_true, decide_eq_true_eq] at hab
      exact (h y hyl i ma hy hma).1 x hlt j mb hx hmb ⟨must_opn (fitm hma) hab.1.1, hab.2⟩
    · rw [List.getElem?_map] at hc
      obtain ⟨m, hm, rfl⟩ := Option.map_eq_some_iff.1 hc
      exact (h n hn r m hr hm).2
end Go.Proofs.Ytodmakcklacbfaa
