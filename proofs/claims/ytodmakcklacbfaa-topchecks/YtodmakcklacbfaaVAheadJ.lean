import Derived.Test.YtodmakcklacbfaaPTagJ
import Derived.Test.YtodmakcklacbfaaPByJ
import Derived.Test.YtodmakcklacbfaaVSmall
import Derived.Test.YtodmakcklacbfaaLEnd
import Derived.Deep.RegionHeld3
namespace Go.Proofs.Ytodmakcklacbfaa
open Go.RowKit 

theorem tBefore (a b c d : Int) (w : World) : Calls Try.prog 26 #[.agg #[.int .i64 a, .int .i64 b], .agg #[.int .i64 c, .int .i64 d]] w fun o w' => o = .returned (.bool (decide (a < c ∨ (a = c ∧ b < d)))) ∧ Kept (fun _ => False) w w' := by
  have K : Hid (Kept (fun _ => False) w ((w.alloc (Obj.cells #[.int .i64 a, .int .i64 b] 35)).alloc (Obj.cells #[.int .i64 c, .int .i64 d] 35))) := ((Kept.refl _ _).alloc _).alloc _
  by_cases h1 : a < c
  · go_enter Try.func26, Try.ntmps26
    go_wp2_with fail
    go_ret
    exact ⟨by simp [h1], K.out⟩
  · by_cases h2 : a = c
    · subst h2
      by_cases h3 : b < d
      · go_enter Try.func26, Try.ntmps26
        go_wp2_with fail
        go_ret
        exact ⟨by first | (simp; done) | (simp; omega), K.out⟩
      · go_enter Try.func26, Try.ntmps26
        go_wp2_with fail
        go_ret
        exact ⟨by simp; omega, K.out⟩
    · have h4 : (a == c) = false := by simp [h2]
      go_enter Try.func26, Try.ntmps26
      go_wp2_with fail
      go_ret
      exact ⟨by simp; omega, K.out⟩
end Go.Proofs.Ytodmakcklacbfaa

namespace Go.Proofs.Ytodmakcklacbfaa
open Go.RowKit 

set_option maxRecDepth 100000 in
set_option maxHeartbeats 4000000 in
theorem tFits {w : World} {p0 : Option Addr} {n c0 : Nat} {ms : List Cm} (cr : CRd w p0 n c0 ms) {i : Nat} {m : Cm} (hm : ms[i]? = some m) (hp : m.cl.part = true) (last : Int) (hl : -1 ≤ last ∧ last < (n : Int)) : Calls Try.prog 59 #[.slice p0 n c0, .int .i64 last, .int .i64 (i : Int)] w (RetB fun v w' => (v = true ↔ (m.put = true ∨ m.cl.told = valOf' (ms.map Cm.cl) last)) ∧ Kept (fun _ => False) w w') := by
  have hin : i < n := by have := (List.getElem?_eq_some_iff.1 hm).1; rw [cr.len] at this; exact this
  have H : Hid (CRd w p0 n c0 ms ∧ ms[i]? = some m ∧ m.cl.part = true) := ⟨cr, hm, hp⟩
  have rm := cr.room
  have sm := cr.small
  unfold maxLen at sm
  have i1 : (i : Int) < (n : Int) := by omega
  obtain ⟨b9, off9, m', rfl, hm', y0, y1, y2, y3, y4, y5, y6, y7, y8, y9, y10, rd⟩ := cr.at hin
  have em : m' = m := by rw [hm] at hm'; exact (Option.some.inj hm').symm
  subst em
  obtain ⟨W, hW⟩ : ∃ W, W = w.alloc (.cells m'.cs 38) := ⟨_, rfl⟩
  obtain ⟨E, hE⟩ : ∃ E, E = w.heap.size := ⟨_, rfl⟩
  have T : Hid (W.heap[E]? = some (.cells m'.cs 38 (0, 0)) ∧ Kept (fun _ => False) w W ∧ Reads W m'.va m'.vn m'.vc m'.val) := ⟨by rw [hW, hE]; exact alloc_new _ _, by rw [hW]; exact (Kept.refl _ _).alloc _, by rw [hW]; exact Reads.kept ((Kept.refl (fun _ => False) w).alloc _) rd (fun _ _ z => z)⟩
  have EWH : Hid (W = w.alloc (.cells #[.int .i64 m'.client, .int .i64 m'.op, .bool m'.put, .string m'.key, .slice m'.va m'.vn m'.vc, .int .i64 m'.st, .int .i64 m'.frm, .int .i64 m'.to, .bool m'.opn, .int .i64 m'.tx, .int .i64 m'.ty] 38) ∧ E = w.heap.size) := ⟨hW, hE⟩
  clear cr hm hm' hp rd hW hE
  go_enter Try.func59, Try.ntmps59
  go_upto_region 2 with fail
  rw [← EWH.out.1, ← EWH.out.2]
  clear EWH y0 y1 y2 y3 y4 y5 y6 y7 y8 y9 y10
  have d2 := cell_blk T.out.1 2 (v := .bool m'.put) rfl
  have d5 := cell_blk T.out.1 5 (v := .int .i64 m'.st) rfl
  have d4 := cell_blk T.out.1 4 (v := .slice m'.va m'.vn m'.vc) rfl
  obtain ⟨pu, hpu⟩ : ∃ pu, m'.put = pu := ⟨_, rfl⟩
  rw [hpu] at d2
  have HPU : Hid (m'.put = pu) := hpu
  clear hpu
  cases pu
  · have NP : Hid (¬ m'.put = true) := by
      have := HPU.out
      show ¬ m'.put = true
      rw [this]
      simp
    by_cases h76 : m'.st = 76
    · have ht : m'.cl.told = none := by unfold Cl.told; rw [if_pos (show m'.cl.st = 76 from h76)]
      rw [h76] at d5
      go_wp2_with fail
      go_ret
      refine RetB.mk (decide (last < 0)) rfl ⟨?_, T.out.2.1⟩
      have hn := valOf'_none (cs := ms.map Cm.cl) (l := last) (by rw [List.length_map, H.out.1.len]; exact hl.2)
      rw [decide_eq_true_iff, ht]
      constructor
      · intro z
        exact .inr (hn.2 z).symm
      · rintro (z | z)
        · exact absurd z NP.out
        · exact hn.1 z.symm
    · have e76 : (m'.st == 76) = false := by simp [h76]
      have ht : m'.cl.told = some m'.val := by unfold Cl.told; rw [if_neg (show ¬ m'.cl.st = 76 from h76)]; rfl
      have HT : Hid (m'.cl.told = some m'.val) := ht
      clear ht
      by_cases hln : last < 0
      · have l1 : decide (0 ≤ last) = false := decide_eq_false (by omega)
        go_upto_region 6 with fail
        go_quiet (fail)
        go_wp2_with fail
        go_ret
        refine RetB.mk false rfl ⟨⟨fun z => (by cases z), fun z => ?_⟩, T.out.2.1.drewN _⟩
        rcases z with z | z
        · exact absurd z NP.out
        · rw [HT.out] at z
          unfold valOf' at z
          rw [if_pos hln] at z
          cases z
      · obtain ⟨ln, hle⟩ : ∃ ln : Nat, last = (ln : Int) := ⟨last.toNat, by omega⟩
        subst hle
        have ln1 : ln < n := by omega
        have ln2 : (ln : Int) < (n : Int) := by omega
        obtain ⟨b8, off8, ml, e8, hml, _, _, _, _, y4, _, _, _, _, _, _, rdl⟩ := (H.out.1.k0 T.out.2.1).at ln1
        have e8 : b9 = b8 ∧ off9 = off8 := by simpa using e8
        obtain ⟨rfl, rfl⟩ := e8
        obtain ⟨qq, hq⟩ : ∃ qq, qq = decide (ml.val = m'.val) := ⟨_, rfl⟩
        have HQ : Hid (qq = decide (ml.val = m'.val) ∧ valOf' (ms.map Cm.cl) (ln : Int) = some ml.val) := by
          refine ⟨hq, ?_⟩
          unfold valOf'
          rw [if_neg (by omega), Int.toNat_natCast, List.getElem?_map, hml]
          rfl
        have RS : Hid (∀ V, Kept (fun _ => False) W V → Calls Try.prog 84 #[.slice ml.va ml.vn ml.vc, .slice m'.va m'.vn m'.vc] V fun o w' => o = .returned (.bool qq) ∧ Kept (fun _ => False) V w') := fun V kv => by
          rw [hq]
          exact tSame (Reads.kept kv rdl (fun _ _ z => z)) (Reads.kept kv T.out.2.2 (fun _ _ z => z))
        have KP : Hid (∀ V, Kept (fun _ => False) W V → V.cell? ⟨b9, off9 + ln * 11 + 4, none⟩ = some (.slice ml.va ml.vn ml.vc) ∧ V.cell? ⟨E, 4, none⟩ = some (.slice m'.va m'.vn m'.vc)) := fun V kv => ⟨kv.cell y4 (fun z => z), kv.cell d4 (fun z => z)⟩
        have kd : Kept (fun _ => False) W W.drew := (Kept.refl _ _).drew
        clear hq hml rdl
        go_upto_region 6 with fail
        go_region_held3 (fun V => V.cell? ⟨b9, off9 + ln * 11 + 4, none⟩ = some (.slice ml.va ml.vn ml.vc) ∧ V.cell? ⟨E, 4, none⟩ = some (.slice m'.va m'.vn m'.vc) ∧ Kept (fun _ => False) W V) (go_keep)
          (first | (go_at_call 84; refine (RS.out _ (by assumption)).mono ?_; rintro o w5 ⟨rfl, K5'⟩; have K5 : Kept (fun _ => False) W w5 := Kept.trans (by assumption) K5' (fun _ _ z => z); obtain ⟨x1, x2⟩ := KP.out w5 K5; clear K5') | fail)
        go_wp2_with fail
        go_ret
        refine RetB.mk qq rfl ⟨?_, T.out.2.1.trans K5 (fun _ _ z => z)⟩
        rw [HT.out, HQ.out.2, HQ.out.1, decide_eq_true_iff]
        constructor
        · intro z
          rw [z]
          exact .inr rfl
        · rintro (z | z)
          · exact absurd z NP.out
          · injection z with z
            exact z.symm
  · go_wp2_with fail
    go_ret
    exact RetB.mk true rfl ⟨⟨fun _ => .inl HPU.out, fun _ => rfl⟩, T.out.2.1⟩
end Go.Proofs.Ytodmakcklacbfaa

namespace Go.Proofs.Ytodmakcklacbfaa
open Go.RowKit 

set_option maxRecDepth 100000 in
set_option maxHeartbeats 4000000 in
theorem tAhead {w : World} {p0 : Option Addr} {n c0 : Nat} {ms : List Cm} (cr : CRd w p0 n c0 ms) {i j : Nat} {a b : Cm} (ha : ms[i]? = some a) (hb : ms[j]? = some b) : Calls Try.prog 58 #[.slice p0 n c0, .int .i64 (i : Int), .int .i64 (j : Int)] w fun o w' => o = .returned (.bool (b.cl.part && a.cl.ahead b.cl)) ∧ Kept (fun _ => False) w w' := by
  have hin : i < n := by have := (List.getElem?_eq_some_iff.1 ha).1; rw [cr.len] at this; exact this
  have hjn : j < n := by have := (List.getElem?_eq_some_iff.1 hb).1; rw [cr.len] at this; exact this
  have rm := cr.room
  have sm := cr.small
  unfold maxLen at sm
  have i1 : (i : Int) < (n : Int) := by omega
  have j1 : (j : Int) < (n : Int) := by omega
  obtain ⟨b9, off9, a', rfl, ha', x0, x1, x2, x3, x4, x5, x6, x7, x8, x9, x10, _⟩ := cr.at hin
  have em : a' = a := by rw [ha] at ha'; exact (Option.some.inj ha').symm
  subst em
  obtain ⟨b8, off8, b', e8, hb', y0, y1, y2, y3, y4, y5, y6, y7, y8, y9, y10, _⟩ := cr.at hjn
  have em : b' = b := by rw [hb] at hb'; exact (Option.some.inj hb').symm
  subst em
  have e8 : b9 = b8 ∧ off9 = off8 := by simpa using e8
  obtain ⟨rfl, rfl⟩ := e8
  obtain ⟨v, hv⟩ : ∃ v, v = (b'.cl.part && a'.cl.ahead b'.cl) := ⟨_, rfl⟩
  rw [← hv]
  have HV : Hid (v = (b'.cl.part && a'.cl.ahead b'.cl)) := hv
  have lb : b9 < w.heap.size := World.block_lt_of_cell? w _ x0
  clear cr ha ha' hb hb' hv
  go_enter Try.func58, Try.ntmps58
  go_upto_region 1 with fail
  go_cut [7, 8] from 9 to 16 (fun u7 u8 wc => ∃ E D : Nat, u7 = .pointer (some ⟨E, 0, none⟩) ∧ u8 = .pointer (some ⟨D, 0, none⟩) ∧ Hid (wc.heap[E]? = some (.cells a'.cs 38 (0, 0)) ∧ wc.heap[D]? = some (.cells b'.cs 38 (0, 0)) ∧ Kept (fun _ => False) w wc))
  case first =>
    go_region
    · go_wp2_with fail
      go_meet
      case rel => exact ⟨w.heap.size, w.heap.size + 1, rfl, rfl, get_drew (alloc_old _ (alloc_new _ _)), get_drew (alloc_new2 _ _ _ _), ((((Kept.refl _ _).alloc _).alloc _).drew)⟩
    · go_wp2_with fail
      go_meet
      case rel => exact ⟨w.heap.size + 1, w.heap.size, rfl, rfl, get_drew (alloc_new2 _ _ _ _), get_drew (alloc_old _ (alloc_new _ _)), ((((Kept.refl _ _).alloc _).alloc _).drew)⟩
  case rest =>
  obtain ⟨E, D, rfl, rfl, T⟩ := hcut
  clear x0 x1 x2 x3 x4 x5 x6 x7 x8 x9 x10 y0 y1 y2 y3 y4 y5 y6 y7 y8 y9 y10
  have d0 := cell_blk T.out.1 0 (v := .int .i64 a'.client) rfl
  have d1 := cell_blk T.out.1 1 (v := .int .i64 a'.op) rfl
  have d2 := cell_blk T.out.1 2 (v := .bool a'.put) rfl
  have d3 := cell_blk T.out.1 3 (v := .string a'.key) rfl
  have d4 := cell_blk T.out.1 4 (v := .slice a'.va a'.vn a'.vc) rfl
  have d5 := cell_blk T.out.1 5 (v := .int .i64 a'.st) rfl
  have d6 := cell_blk T.out.1 6 (v := .int .i64 a'.frm) rfl
  have d7 := cell_blk T.out.1 7 (v := .int .i64 a'.to) rfl
  have d8 := cell_blk T.out.1 8 (v := .bool a'.opn) rfl
  have d9 := cell_blk T.out.1 9 (v := .int .i64 a'.tx) rfl
  have d10 := cell_blk T.out.1 10 (v := .int .i64 a'.ty) rfl
  obtain ⟨pa, hpa⟩ : ∃ pa, pa = a'.pn := ⟨_, rfl⟩
  obtain ⟨pb, hpb⟩ : ∃ pb, pb = b'.pn := ⟨_, rfl⟩
  have RA : Hid (∀ V, Calls Try.prog 25 #[a'.agg] V fun o w' => o = .returned (.int .i64 pa) ∧ Kept (fun _ => False) V w') := fun V => by rw [hpa]; exact tPart a' V
  have RB : Hid (∀ V, Calls Try.prog 25 #[b'.agg] V fun o w' => o = .returned (.int .i64 pb) ∧ Kept (fun _ => False) V w') := fun V => by rw [hpb]; exact tPart b' V
  have HA : Hid (0 < pa ↔ a'.cl.part = true) := by
    unfold Hid
    rw [hpa]
    unfold Cm.pn
    cases a'.cl.part <;> cases a'.cl.open_ <;> simp
  have HB : Hid (0 < pb ↔ b'.cl.part = true) := by
    unfold Hid
    rw [hpb]
    unfold Cm.pn
    cases b'.cl.part <;> cases b'.cl.open_ <;> simp
  clear hpa hpb
  unfold Cm.agg at RA RB
  go_wp2_with fail
  refine (RA.out _).mono ?_
  rintro o w2 ⟨rfl, K2⟩
  have T2 : Hid (w2.heap[E]? = some (.cells a'.cs 38 (0, 0)) ∧ w2.heap[D]? = some (.cells b'.cs 38 (0, 0)) ∧ Kept (fun _ => False) w w2) := ⟨K2.get T.out.1 (fun z => z), K2.get T.out.2.1 (fun z => z), T.out.2.2.trans K2 (fun _ _ z => z)⟩
  clear K2 RA T d0 d1 d2 d3 d4 d5 d6 d7 d8 d9 d10
  by_cases h1 : 0 < pa
  · have h1' : decide (0 < pa) = true := decide_eq_true h1
    have d0 := cell_blk T2.out.2.1 0 (v := .int .i64 b'.client) rfl
    have d1 := cell_blk T2.out.2.1 1 (v := .int .i64 b'.op) rfl
    have d2 := cell_blk T2.out.2.1 2 (v := .bool b'.put) rfl
    have d3 := cell_blk T2.out.2.1 3 (v := .string b'.key) rfl
    have d4 := cell_blk T2.out.2.1 4 (v := .slice b'.va b'.vn b'.vc) rfl
    have d5 := cell_blk T2.out.2.1 5 (v := .int .i64 b'.st) rfl
    have d6 := cell_blk T2.out.2.1 6 (v := .int .i64 b'.frm) rfl
    have d7 := cell_blk T2.out.2.1 7 (v := .int .i64 b'.to) rfl
    have d8 := cell_blk T2.out.2.1 8 (v := .bool b'.opn) rfl
    have d9 := cell_blk T2.out.2.1 9 (v := .int .i64 b'.tx) rfl
    have d10 := cell_blk T2.out.2.1 10 (v := .int .i64 b'.ty) rfl
    go_wp2_with fail
    refine (RB.out _).mono ?_
    rintro o w3 ⟨rfl, K3⟩
    have T3 : Hid (w3.heap[E]? = some (.cells a'.cs 38 (0, 0)) ∧ w3.heap[D]? = some (.cells b'.cs 38 (0, 0)) ∧ Kept (fun _ => False) w w3) := ⟨K3.get T2.out.1 (fun z => z), K3.get T2.out.2.1 (fun z => z), T2.out.2.2.trans K3 (fun _ _ z => z)⟩
    clear K3 RB T2 d0 d1 d2 d3 d4 d5 d6 d7 d8 d9 d10
    by_cases h2 : 0 < pb
    · have h2' : decide (0 < pb) = true := decide_eq_true h2
      have e2 := cell_blk T3.out.1 2 (v := .bool a'.put) rfl
      have e8 := cell_blk T3.out.1 8 (v := .bool a'.opn) rfl
      have e7 := cell_blk T3.out.1 7 (v := .int .i64 a'.to) rfl
      have g6 := cell_blk T3.out.2.1 6 (v := .int .i64 b'.frm) rfl
      obtain ⟨pu, hpu⟩ : ∃ pu, a'.put = pu := ⟨_, rfl⟩
      obtain ⟨on, hon⟩ : ∃ on, a'.opn = on := ⟨_, rfl⟩
      rw [hpu] at e2
      rw [hon] at e8
      have VE : Hid (v = (!(pu && on) && decide (0 ≤ a'.to) && decide (a'.to < b'.frm))) := by
        unfold Hid
        rw [HV.out, HB.out.1 h2]
        unfold Cl.ahead Cl.must Cl.open_
        rw [HA.out.1 h1]
        show (true && (true && !(a'.put && a'.opn) && decide (0 ≤ a'.to) && decide (a'.to < b'.frm))) = _
        rw [hpu, hon, Bool.true_and, Bool.true_and]
      clear hpu hon
      have go : ∀ r : Bool, v = r → (Hid (v = r)) := fun r h => h
      by_cases ht : 0 ≤ a'.to
      · have ht' : decide (0 ≤ a'.to) = true := decide_eq_true ht
        cases pu
        · go_wp2_with fail
          go_ret
          exact ⟨by rw [VE.out, ht']; first | rfl | simp, T3.out.2.2⟩
        · cases on
          · go_wp2_with fail
            go_ret
            exact ⟨by rw [VE.out, ht']; first | rfl | simp, T3.out.2.2⟩
          · have VF : v = false := by rw [VE.out]; rfl
            subst VF
            go_wp2_with fail
            go_ret
            exact ⟨by first | rfl | simp, T3.out.2.2⟩
      · have ht' : decide (0 ≤ a'.to) = false := decide_eq_false ht
        have VF : v = false := by rw [VE.out, ht']; simp
        subst VF
        cases pu
        · go_wp2_with fail
          go_ret
          exact ⟨by first | rfl | simp, T3.out.2.2⟩
        · cases on
          · go_wp2_with fail
            go_ret
            exact ⟨by first | rfl | simp, T3.out.2.2⟩
          · go_wp2_with fail
            go_ret
            exact ⟨by first | rfl | simp, T3.out.2.2⟩
    · have h2' : decide (0 < pb) = false := decide_eq_false h2
      have VF : v = false := by
        rw [HV.out]
        cases q : b'.cl.part
        · rfl
        · exact absurd (HB.out.2 q) h2
      subst VF
      go_wp2_with fail
      go_ret
      exact ⟨by first | rfl | simp, T3.out.2.2⟩
  · have h1' : decide (0 < pa) = false := decide_eq_false h1
    have VF : v = false := by
      rw [HV.out]
      have : a'.cl.ahead b'.cl = false := by
        unfold Cl.ahead Cl.must
        cases q : a'.cl.part
        · rfl
        · exact absurd (HA.out.2 q) h1
      rw [this, Bool.and_false]
    subst VF
    go_wp2_with fail
    go_ret
    exact ⟨by first | rfl | simp, T2.out.2.2⟩
end Go.Proofs.Ytodmakcklacbfaa
