import Derived.Test.YtodmakcklacbfaaPByJ
import Derived.Test.YtodmakcklacbfaaVSmallJ
import Derived.Test.YtodmakcklacbfaaLEnd
import Derived.Deep.RegionHeld3
import Derived.Test.YtodmakcklacbfaaNNew
namespace Go.Proofs.Ytodmakcklacbfaa
open Go.RowKit 

theorem tBefore (a b c d : Int) (w : World) : Calls Try.prog 26 #[.agg #[.int .i64 a, .int .i64 b], .agg #[.int .i64 c, .int .i64 d]] w fun o w' => o = .returned (.bool (decide (a < c ∨ (a = c ∧ b < d)))) ∧ Kept (fun _ => False) w w' := by
  have K : Hid (Kept (fun _ => False) w ((w.alloc (Obj.cells #[.int .i64 a, .int .i64 b] 35)).alloc (Obj.cells #[.int .i64 c, .int .i64 d] 35))) := ((Kept.refl _ _).alloc _).alloc _
  by_cases h1 : a < c
  · go_enter Try.func26, Try.ntmps26
    go_wp2_with fail
    go_ret
    exact ⟨by simp [h1], K.out⟩
  · by_cases h2 : a = c
    · subst h2
      by_cases h3 : b < d
      · go_enter Try.func26, Try.ntmps26
        go_wp2_with fail
        go_ret
        exact ⟨by first | (simp; done) | (simp; omega), K.out⟩
      · go_enter Try.func26, Try.ntmps26
        go_wp2_with fail
        go_ret
        exact ⟨by simp; omega, K.out⟩
    · have h4 : (a == c) = false := by simp [h2]
      go_enter Try.func26, Try.ntmps26
      go_wp2_with fail
      go_ret
      exact ⟨by simp; omega, K.out⟩
end Go.Proofs.Ytodmakcklacbfaa

namespace Go.Proofs.Ytodmakcklacbfaa
open Go.RowKit 

set_option maxRecDepth 100000 in
set_option maxHeartbeats 4000000 in
theorem tFits {w : World} {p0 : Option Addr} {n c0 : Nat} {ms : List Cm} (cr : CRd w p0 n c0 ms) {i : Nat} {m : Cm} (hm : ms[i]? = some m) (hp : m.cl.part = true) (last : Int) (hl : -1 ≤ last ∧ last < (n : Int)) : Calls Try.prog 59 #[.slice p0 n c0, .int .i64 last, .int .i64 (i : Int)] w (RetB fun v w' => (v = true ↔ (m.put = true ∨ m.cl.told = valOf' (ms.map Cm.cl) last)) ∧ Kept (fun _ => False) w w') := by
  have hin : i < n := by have := (List.getElem?_eq_some_iff.1 hm).1; rw [cr.len] at this; exact this
  have H : Hid (CRd w p0 n c0 ms ∧ ms[i]? = some m ∧ m.cl.part = true) := ⟨cr, hm, hp⟩
  have rm := cr.room
  have sm := cr.small
  unfold maxLen at sm
  have i1 : (i : Int) < (n : Int) := by omega
  obtain ⟨b9, off9, m', rfl, hm', y0, y1, y2, y3, y4, y5, y6, y7, y8, y9, y10, rd⟩ := cr.at hin
  have em : m' = m := by rw [hm] at hm'; exact (Option.some.inj hm').symm
  subst em
  obtain ⟨W, hW⟩ : ∃ W, W = w.alloc (.cells m'.cs 38) := ⟨_, rfl⟩
  obtain ⟨E, hE⟩ : ∃ E, E = w.heap.size := ⟨_, rfl⟩
  have T : Hid (W.heap[E]? = some (.cells m'.cs 38 (0, 0)) ∧ Kept (fun _ => False) w W ∧ Reads W m'.va m'.vn m'.vc m'.val) := ⟨by rw [hW, hE]; exact alloc_new _ _, by rw [hW]; exact (Kept.refl _ _).alloc _, by rw [hW]; exact Reads.kept ((Kept.refl (fun _ => False) w).alloc _) rd (fun _ _ z => z)⟩
  have EWH : Hid (W = w.alloc (.cells #[.int .i64 m'.client, .int .i64 m'.op, .bool m'.put, .string m'.key, .slice m'.va m'.vn m'.vc, .int .i64 m'.st, .int .i64 m'.frm, .int .i64 m'.to, .bool m'.opn, .int .i64 m'.tx, .int .i64 m'.ty] 38) ∧ E = w.heap.size) := ⟨hW, hE⟩
  clear cr hm hm' hp rd hW hE
  go_enter Try.func59, Try.ntmps59
  go_upto_region 2 with fail
  rw [← EWH.out.1, ← EWH.out.2]
  clear EWH y0 y1 y2 y3 y4 y5 y6 y7 y8 y9 y10
  have d2 := cell_blk T.out.1 2 (v := .bool m'.put) rfl
  have d5 := cell_blk T.out.1 5 (v := .int .i64 m'.st) rfl
  have d4 := cell_blk T.out.1 4 (v := .slice m'.va m'.vn m'.vc) rfl
  obtain ⟨pu, hpu⟩ : ∃ pu, m'.put = pu := ⟨_, rfl⟩
  rw [hpu] at d2
  have HPU : Hid (m'.put = pu) := hpu
  clear hpu
  cases pu
  · have NP : Hid (¬ m'.put = true) := by
      have := HPU.out
      show ¬ m'.put = true
      rw [this]
      simp
    by_cases h76 : m'.st = 76
    · have ht : m'.cl.told = none := by unfold Cl.told; rw [if_pos (show m'.cl.st = 76 from h76)]
      rw [h76] at d5
      go_wp2_with fail
      go_ret
      refine RetB.mk (decide (last < 0)) rfl ⟨?_, T.out.2.1⟩
      have hn := valOf'_none (cs := ms.map Cm.cl) (l := last) (by rw [List.length_map, H.out.1.len]; exact hl.2)
      rw [decide_eq_true_iff, ht]
      constructor
      · intro z
        exact .inr (hn.2 z).symm
      · rintro (z | z)
        · exact absurd z NP.out
        · exact hn.1 z.symm
    · have e76 : (m'.st == 76) = false := by simp [h76]
      have ht : m'.cl.told = some m'.val := by unfold Cl.told; rw [if_neg (show ¬ m'.cl.st = 76 from h76)]; rfl
      have HT : Hid (m'.cl.told = some m'.val) := ht
      clear ht
      by_cases hln : last < 0
      · have l1 : decide (0 ≤ last) = false := decide_eq_false (by omega)
        go_upto_region 6 with fail
        go_quiet (fail)
        go_wp2_with fail
        go_ret
        refine RetB.mk false rfl ⟨⟨fun z => (by cases z), fun z => ?_⟩, T.out.2.1.drewN _⟩
        rcases z with z | z
        · exact absurd z NP.out
        · rw [HT.out] at z
          unfold valOf' at z
          rw [if_pos hln] at z
          cases z
      · obtain ⟨ln, hle⟩ : ∃ ln : Nat, last = (ln : Int) := ⟨last.toNat, by omega⟩
        subst hle
        have ln1 : ln < n := by omega
        have ln2 : (ln : Int) < (n : Int) := by omega
        obtain ⟨b8, off8, ml, e8, hml, _, _, _, _, y4, _, _, _, _, _, _, rdl⟩ := (H.out.1.k0 T.out.2.1).at ln1
        have e8 : b9 = b8 ∧ off9 = off8 := by simpa using e8
        obtain ⟨rfl, rfl⟩ := e8
        obtain ⟨qq, hq⟩ : ∃ qq, qq = decide (ml.val = m'.val) := ⟨_, rfl⟩
        have HQ : Hid (qq = decide (ml.val = m'.val) ∧ valOf' (ms.map Cm.cl) (ln : Int) = some ml.val) := by
          refine ⟨hq, ?_⟩
          unfold valOf'
          rw [if_neg (by omega), Int.toNat_natCast, List.getElem?_map, hml]
          rfl
        have RS : Hid (∀ V, Kept (fun _ => False) W V → Calls Try.prog 84 #[.slice ml.va ml.vn ml.vc, .slice m'.va m'.vn m'.vc] V fun o w' => o = .returned (.bool qq) ∧ Kept (fun _ => False) V w') := fun V kv => by
          rw [hq]
          exact tSame (Reads.kept kv rdl (fun _ _ z => z)) (Reads.kept kv T.out.2.2 (fun _ _ z => z))
        have KP : Hid (∀ V, Kept (fun _ => False) W V → V.cell? ⟨b9, off9 + ln * 11 + 4, none⟩ = some (.slice ml.va ml.vn ml.vc) ∧ V.cell? ⟨E, 4, none⟩ = some (.slice m'.va m'.vn m'.vc)) := fun V kv => ⟨kv.cell y4 (fun z => z), kv.cell d4 (fun z => z)⟩
        have kd : Kept (fun _ => False) W W.drew := (Kept.refl _ _).drew
        clear hq hml rdl
        go_upto_region 6 with fail
        go_region_held3 (fun V => V.cell? ⟨b9, off9 + ln * 11 + 4, none⟩ = some (.slice ml.va ml.vn ml.vc) ∧ V.cell? ⟨E, 4, none⟩ = some (.slice m'.va m'.vn m'.vc) ∧ Kept (fun _ => False) W V) (go_keep)
          (first | (go_at_call 84; refine (RS.out _ (by assumption)).mono ?_; rintro o w5 ⟨rfl, K5'⟩; have K5 : Kept (fun _ => False) W w5 := Kept.trans (by assumption) K5' (fun _ _ z => z); obtain ⟨x1, x2⟩ := KP.out w5 K5; clear K5') | fail)
        go_wp2_with fail
        go_ret
        refine RetB.mk qq rfl ⟨?_, T.out.2.1.trans K5 (fun _ _ z => z)⟩
        rw [HT.out, HQ.out.2, HQ.out.1, decide_eq_true_iff]
        constructor
        · intro z
          rw [z]
          exact .inr rfl
        · rintro (z | z)
          · exact absurd z NP.out
          · injection z with z
            exact z.symm
  · go_wp2_with fail
    go_ret
    exact RetB.mk true rfl ⟨⟨fun _ => .inl HPU.out, fun _ => rfl⟩, T.out.2.1⟩
end Go.Proofs.Ytodmakcklacbfaa

namespace Go.Proofs.Ytodmakcklacbfaa
open Go.RowKit 

set_option maxRecDepth 100000 in
set_option maxHeartbeats 4000000 in
theorem tAhead {w : World} {p0 : Option Addr} {n c0 : Nat} {ms : List Cm} (cr : CRd w p0 n c0 ms) {i j : Nat} {a b : Cm} (ha : ms[i]? = some a) (hb : ms[j]? = some b) : Calls Try.prog 58 #[.slice p0 n c0, .int .i64 (i : Int), .int .i64 (j : Int)] w fun o w' => o = .returned (.bool (b.cl.part && a.cl.ahead b.cl)) ∧ Kept (fun _ => False) w w' := by
  have hin : i < n := by have := (List.getElem?_eq_some_iff.1 ha).1; rw [cr.len] at this; exact this
  have hjn : j < n := by have := (List.getElem?_eq_some_iff.1 hb).1; rw [cr.len] at this; exact this
  have rm := cr.room
  have sm := cr.small
  unfold maxLen at sm
  have i1 : (i : Int) < (n : Int) := by omega
  have j1 : (j : Int) < (n : Int) := by omega
  obtain ⟨b9, off9, a', rfl, ha', x0, x1, x2, x3, x4, x5, x6, x7, x8, x9, x10, _⟩ := cr.at hin
  have em : a' = a := by rw [ha] at ha'; exact (Option.some.inj ha').symm
  subst em
  obtain ⟨b8, off8, b', e8, hb', y0, y1, y2, y3, y4, y5, y6, y7, y8, y9, y10, _⟩ := cr.at hjn
  have em : b' = b := by rw [hb] at hb'; exact (Option.some.inj hb').symm
  subst em
  have e8 : b9 = b8 ∧ off9 = off8 := by simpa using e8
  obtain ⟨rfl, rfl⟩ := e8
  obtain ⟨v, hv⟩ : ∃ v, v = (b'.cl.part && a'.cl.ahead b'.cl) := ⟨_, rfl⟩
  rw [← hv]
  have HV : Hid (v = (b'.cl.part && a'.cl.ahead b'.cl)) := hv
  have lb : b9 < w.heap.size := World.block_lt_of_cell? w _ x0
  clear cr ha ha' hb hb' hv
  go_enter Try.func58, Try.ntmps58
  go_upto_region 1 with fail
  go_cut [7, 8] from 9 to 16 (fun u7 u8 wc => ∃ E D : Nat, u7 = .pointer (some ⟨E, 0, none⟩) ∧ u8 = .pointer (some ⟨D, 0, none⟩) ∧ Hid (wc.heap[E]? = some (.cells a'.cs 38 (0, 0)) ∧ wc.heap[D]? = some (.cells b'.cs 38 (0, 0)) ∧ Kept (fun _ => False) w wc))
  case first =>
    go_region
    · go_wp2_with fail
      go_meet
      case rel => exact ⟨w.heap.size, w.heap.size + 1, rfl, rfl, get_drew (alloc_old _ (alloc_new _ _)), get_drew (alloc_new2 _ _ _ _), ((((Kept.refl _ _).alloc _).alloc _).drew)⟩
    · go_wp2_with fail
      go_meet
      case rel => exact ⟨w.heap.size + 1, w.heap.size, rfl, rfl, get_drew (alloc_new2 _ _ _ _), get_drew (alloc_old _ (alloc_new _ _)), ((((Kept.refl _ _).alloc _).alloc _).drew)⟩
  case rest =>
  obtain ⟨E, D, rfl, rfl, T⟩ := hcut
  clear x0 x1 x2 x3 x4 x5 x6 x7 x8 x9 x10 y0 y1 y2 y3 y4 y5 y6 y7 y8 y9 y10
  have d0 := cell_blk T.out.1 0 (v := .int .i64 a'.client) rfl
  have d1 := cell_blk T.out.1 1 (v := .int .i64 a'.op) rfl
  have d2 := cell_blk T.out.1 2 (v := .bool a'.put) rfl
  have d3 := cell_blk T.out.1 3 (v := .string a'.key) rfl
  have d4 := cell_blk T.out.1 4 (v := .slice a'.va a'.vn a'.vc) rfl
  have d5 := cell_blk T.out.1 5 (v := .int .i64 a'.st) rfl
  have d6 := cell_blk T.out.1 6 (v := .int .i64 a'.frm) rfl
  have d7 := cell_blk T.out.1 7 (v := .int .i64 a'.to) rfl
  have d8 := cell_blk T.out.1 8 (v := .bool a'.opn) rfl
  have d9 := cell_blk T.out.1 9 (v := .int .i64 a'.tx) rfl
  have d10 := cell_blk T.out.1 10 (v := .int .i64 a'.ty) rfl
  obtain ⟨pa, hpa⟩ : ∃ pa, pa = a'.pn := ⟨_, rfl⟩
  obtain ⟨pb, hpb⟩ : ∃ pb, pb = b'.pn := ⟨_, rfl⟩
  have RA : Hid (∀ V, Calls Try.prog 25 #[a'.agg] V fun o w' => o = .returned (.int .i64 pa) ∧ Kept (fun _ => False) V w') := fun V => by rw [hpa]; exact tPart a' V
  have RB : Hid (∀ V, Calls Try.prog 25 #[b'.agg] V fun o w' => o = .returned (.int .i64 pb) ∧ Kept (fun _ => False) V w') := fun V => by rw [hpb]; exact tPart b' V
  have HA : Hid (0 < pa ↔ a'.cl.part = true) := by
    unfold Hid
    rw [hpa]
    unfold Cm.pn
    cases a'.cl.part <;> cases a'.cl.open_ <;> simp
  have HB : Hid (0 < pb ↔ b'.cl.part = true) := by
    unfold Hid
    rw [hpb]
    unfold Cm.pn
    cases b'.cl.part <;> cases b'.cl.open_ <;> simp
  clear hpa hpb
  unfold Cm.agg at RA RB
  go_wp2_with fail
  refine (RA.out _).mono ?_
  rintro o w2 ⟨rfl, K2⟩
  have T2 : Hid (w2.heap[E]? = some (.cells a'.cs 38 (0, 0)) ∧ w2.heap[D]? = some (.cells b'.cs 38 (0, 0)) ∧ Kept (fun _ => False) w w2) := ⟨K2.get T.out.1 (fun z => z), K2.get T.out.2.1 (fun z => z), T.out.2.2.trans K2 (fun _ _ z => z)⟩
  clear K2 RA T d0 d1 d2 d3 d4 d5 d6 d7 d8 d9 d10
  by_cases h1 : 0 < pa
  · have h1' : decide (0 < pa) = true := decide_eq_true h1
    have d0 := cell_blk T2.out.2.1 0 (v := .int .i64 b'.client) rfl
    have d1 := cell_blk T2.out.2.1 1 (v := .int .i64 b'.op) rfl
    have d2 := cell_blk T2.out.2.1 2 (v := .bool b'.put) rfl
    have d3 := cell_blk T2.out.2.1 3 (v := .string b'.key) rfl
    have d4 := cell_blk T2.out.2.1 4 (v := .slice b'.va b'.vn b'.vc) rfl
    have d5 := cell_blk T2.out.2.1 5 (v := .int .i64 b'.st) rfl
    have d6 := cell_blk T2.out.2.1 6 (v := .int .i64 b'.frm) rfl
    have d7 := cell_blk T2.out.2.1 7 (v := .int .i64 b'.to) rfl
    have d8 := cell_blk T2.out.2.1 8 (v := .bool b'.opn) rfl
    have d9 := cell_blk T2.out.2.1 9 (v := .int .i64 b'.tx) rfl
    have d10 := cell_blk T2.out.2.1 10 (v := .int .i64 b'.ty) rfl
    go_wp2_with fail
    refine (RB.out _).mono ?_
    rintro o w3 ⟨rfl, K3⟩
    have T3 : Hid (w3.heap[E]? = some (.cells a'.cs 38 (0, 0)) ∧ w3.heap[D]? = some (.cells b'.cs 38 (0, 0)) ∧ Kept (fun _ => False) w w3) := ⟨K3.get T2.out.1 (fun z => z), K3.get T2.out.2.1 (fun z => z), T2.out.2.2.trans K3 (fun _ _ z => z)⟩
    clear K3 RB T2 d0 d1 d2 d3 d4 d5 d6 d7 d8 d9 d10
    by_cases h2 : 0 < pb
    · have h2' : decide (0 < pb) = true := decide_eq_true h2
      have e2 := cell_blk T3.out.1 2 (v := .bool a'.put) rfl
      have e8 := cell_blk T3.out.1 8 (v := .bool a'.opn) rfl
      have e7 := cell_blk T3.out.1 7 (v := .int .i64 a'.to) rfl
      have g6 := cell_blk T3.out.2.1 6 (v := .int .i64 b'.frm) rfl
      obtain ⟨pu, hpu⟩ : ∃ pu, a'.put = pu := ⟨_, rfl⟩
      obtain ⟨on, hon⟩ : ∃ on, a'.opn = on := ⟨_, rfl⟩
      rw [hpu] at e2
      rw [hon] at e8
      have VE : Hid (v = (!(pu && on) && decide (0 ≤ a'.to) && decide (a'.to < b'.frm))) := by
        unfold Hid
        rw [HV.out, HB.out.1 h2]
        unfold Cl.ahead Cl.must Cl.open_
        rw [HA.out.1 h1]
        show (true && (true && !(a'.put && a'.opn) && decide (0 ≤ a'.to) && decide (a'.to < b'.frm))) = _
        rw [hpu, hon, Bool.true_and, Bool.true_and]
      clear hpu hon
      have go : ∀ r : Bool, v = r → (Hid (v = r)) := fun r h => h
      by_cases ht : 0 ≤ a'.to
      · have ht' : decide (0 ≤ a'.to) = true := decide_eq_true ht
        cases pu
        · go_wp2_with fail
          go_ret
          exact ⟨by rw [VE.out, ht']; first | rfl | simp, T3.out.2.2⟩
        · cases on
          · go_wp2_with fail
            go_ret
            exact ⟨by rw [VE.out, ht']; first | rfl | simp, T3.out.2.2⟩
          · have VF : v = false := by rw [VE.out]; rfl
            subst VF
            go_wp2_with fail
            go_ret
            exact ⟨by first | rfl | simp, T3.out.2.2⟩
      · have ht' : decide (0 ≤ a'.to) = false := decide_eq_false ht
        have VF : v = false := by rw [VE.out, ht']; simp
        subst VF
        cases pu
        · go_wp2_with fail
          go_ret
          exact ⟨by first | rfl | simp, T3.out.2.2⟩
        · cases on
          · go_wp2_with fail
            go_ret
            exact ⟨by first | rfl | simp, T3.out.2.2⟩
          · go_wp2_with fail
            go_ret
            exact ⟨by first | rfl | simp, T3.out.2.2⟩
    · have h2' : decide (0 < pb) = false := decide_eq_false h2
      have VF : v = false := by
        rw [HV.out]
        cases q : b'.cl.part
        · rfl
        · exact absurd (HB.out.2 q) h2
      subst VF
      go_wp2_with fail
      go_ret
      exact ⟨by first | rfl | simp, T3.out.2.2⟩
  · have h1' : decide (0 < pa) = false := decide_eq_false h1
    have VF : v = false := by
      rw [HV.out]
      have : a'.cl.ahead b'.cl = false := by
        unfold Cl.ahead Cl.must
        cases q : a'.cl.part
        · rfl
        · exact absurd (HA.out.2 q) h1
      rw [this, Bool.and_false]
    subst VF
    go_wp2_with fail
    go_ret
    exact ⟨by first | rfl | simp, T2.out.2.2⟩
end Go.Proofs.Ytodmakcklacbfaa

namespace Go.Proofs.Ytodmakcklacbfaa
open Go.RowKit 

/-- The place of a call in an order, from 1 on. -/
def posL (b : List Nat) (i : Nat) : Int := if i ∈ b then ((b.idxOf i : Nat) : Int) + 1 else 0
theorem posL_out {b : List Nat} {i : Nat} (h : i ∉ b) : posL b i = 0 := by unfold posL; rw [if_neg h]
theorem posL_in {b : List Nat} {i : Nat} (h : i ∈ b) : 0 < posL b i := by unfold posL; rw [if_pos h]; omega
theorem posL_add {b : List Nat} {r i : Nat} (hr : r ∉ b) : posL (b ++ [r]) i = if i = r then (b.length : Int) + 1 else posL b i := by
  unfold posL
  by_cases e : i = r
  · subst e
    rw [if_pos rfl, if_pos (by simp), List.idxOf_append, if_neg hr]
    simp
  · rw [if_neg e]
    by_cases h : i ∈ b
    · rw [if_pos (List.mem_append_left _ h), if_pos h, List.idxOf_append, if_pos h]
    · rw [if_neg h, if_neg]
      intro z
      rcases List.mem_append.1 z with z | z
      · exact h z
      · exact e (List.mem_singleton.1 z)
theorem posL_take {R : List Nat} {x i j : Nat} (hi : R[x]? = some i) (hn : i ∉ R.take x) (hj : j ∈ R.take x) : posL R j < posL R i := by
  obtain ⟨hx, he⟩ := List.getElem?_eq_some_iff.1 hi
  have e : R = R.take x ++ i :: R.drop (x + 1) := by
    conv => lhs; rw [← List.take_append_drop x R, List.drop_eq_getElem_cons hx, he]
  have hl : (R.take x).length = x := by rw [List.length_take]; omega
  unfold posL
  rw [if_pos (List.mem_of_mem_take hj), if_pos (List.mem_of_getElem? hi)]
  have h1 : R.idxOf i = x := by
    rw [e, List.idxOf_append, if_neg hn, hl]
    simp
  have h2 : R.idxOf j < x := by
    rw [e, List.idxOf_append, if_pos hj]
    have := List.idxOf_lt_length_of_mem hj
    omega
  omega
def posV (n : Nat) (b : List Nat) : List Value := (List.range n).map fun i => Value.int .i64 (posL b i)
theorem posV_get (n : Nat) (b : List Nat) (i : Nat) : (posV n b)[i]? = if i < n then some (.int .i64 (posL b i)) else none := by
  unfold posV
  rw [List.getElem?_map]
  by_cases h : i < n
  · rw [if_pos h, List.getElem?_range h]
    rfl
  · rw [if_neg h, List.getElem?_eq_none (by simp; omega)]
    rfl
theorem posV_set {n : Nat} {b : List Nat} {r : Nat} (hr : r ∉ b) : (posV n b).set r (.int .i64 ((b.length : Int) + 1)) = posV n (b ++ [r]) := by
  refine List.ext_getElem? fun j => ?_
  rw [List.getElem?_set, posV_get, posV_get]
  have hl : (posV n b).length = n := by simp [posV]
  by_cases e : r = j
  · subst e
    rw [if_pos rfl, hl]
    split
    · rw [posL_add hr, if_pos rfl]
    · rfl
  · have e2 : posL (b ++ [r]) j = posL b j := by rw [posL_add hr, if_neg (fun z => e z.symm)]
    rw [if_neg e, e2]
/-- The places, as they lie in memory. -/
structure AT (w0 wr : World) (g n : Nat) (b : List Nat) : Prop where
  row : wr.ownsRow w0.heap.size 3 1 (.slice (some ⟨g, 0, none⟩) n n) n (posV n b)
  kept : Kept (fun _ => False) w0 wr
theorem AT.k0 {w0 wr w' : World} {g n : Nat} {b : List Nat} (h : AT w0 wr g n b) (K : Kept (fun _ => False) wr w') : AT w0 w' g n b := ⟨K.owns h.row (fun _ _ z => z), h.kept.trans K (fun _ _ z => z)⟩
theorem AT.at {w0 wr : World} {g n : Nat} {b : List Nat} (h : AT w0 wr g n b) {i : Nat} (hi : i < n) : wr.cell? ⟨g, i, none⟩ = some (.int .i64 (posL b i)) ∧ wr.frozen? ⟨g, i, none⟩ = false := by
  obtain ⟨cs, hg⟩ := own_type h.row g rfl
  have hc := h.row.cells (g := g) rfl i (.int .i64 (posL b i)) (by rw [posV_get, if_pos hi])
  rw [Addr.add_none, Nat.zero_add] at hc
  exact ⟨hc, soft_blk hg i⟩
theorem AT.put {w0 wr : World} {g n : Nat} {b : List Nat} (h : AT w0 wr g n b) {r : Nat} (hr : r ∉ b) : AT w0 (wr.setCell ⟨g, r, none⟩ (.int .i64 ((b.length : Int) + 1))) g n (b ++ [r]) := by
  have hg := (own_lt h.row g rfl).1
  refine ⟨?_, kept_setv h.kept hg _ _⟩
  rw [← posV_set hr]
  exact owns_set h.row r _
theorem AT.start (w : World) (n : Nat) (hn : n ≤ maxLen) {C : Array Value} (hC : C.toList = posV n []) : AT w (w.alloc (.cells C 3)) w.heap.size n [] := by
  have hl : C.size = n := by rw [← Array.length_toList, hC]; simp [posV]
  refine ⟨⟨by simp [posV], .inr ⟨w.heap.size, n, C, rfl, Nat.le_refl _, alloc_new _ _, Nat.le_refl _, hn, by rw [hl, Nat.mul_one], ?_⟩⟩, (Kept.refl _ _).alloc _⟩
  rw [hC, List.take_of_length_le (by simp [posV])]
end Go.Proofs.Ytodmakcklacbfaa

namespace Go.Proofs.Ytodmakcklacbfaa
open Go.RowKit 

theorem lastF_succ {cs : List Cl} {R : List Nat} {x i : Nat} {c : Cl} (h : R[x]? = some i) (hc : cs[i]? = some c) : lastF cs (R.take (x + 1)) (-1) = if c.put = true then (i : Int) else lastF cs (R.take x) (-1) := by
  rw [List.take_add_one, h]
  show lastF cs (R.take x ++ [i]) (-1) = _
  rw [lastF_add, hc]
/-- What an order that explains has at each place. -/
theorem expl_at {ms : List Cm} {RI : List Int} {x : Nat} {z : Int} (fit : FitL ms) (h : Expl ms RI) (hz : RI[x]? = some z) : ∃ i : Nat, z = (i : Int) ∧ i < ms.length ∧ (∀ R : List Nat, RI.take x = R.map (fun r : Nat => (r : Int)) → i ∉ R) ∧ ∃ m, ms[i]? = some m ∧ m.cl.part = true := by
  obtain ⟨Rn, e, run⟩ := h
  obtain ⟨a, _⟩ := (explain_iff fit.nb).1 run
  rw [e, List.getElem?_map] at hz
  obtain ⟨i, hi, rfl⟩ := Option.map_eq_some_iff.1 hz
  have hx := (List.getElem?_eq_some_iff.1 hi).1
  obtain ⟨a1, c, a2, a3⟩ := a x hx i hi
  rw [List.getElem?_map] at a2
  obtain ⟨m, hm, rfl⟩ := Option.map_eq_some_iff.1 a2
  refine ⟨i, rfl, (List.getElem?_eq_some_iff.1 hm).1, fun R hR => ?_, m, hm, a3⟩
  rw [e, ← List.map_take] at hR
  rw [← map_inj hR]
  exact a1
/-- No call that must be ahead stands behind, of those at the first places. -/
def C2 (ms : List Cm) (R : List Nat) (x : Nat) : Prop := ∀ y i, y < x → R[y]? = some i → ∀ j d mi, ms[j]? = some d → ms[i]? = some mi → d.cl.must = true → d.cl.ahead mi.cl = true → ¬ posL R i < posL R j
theorem c2_exc {ms : List Cm} {R : List Nat} (a : ExA (ms.map Cm.cl) R R.length) (h : C2 ms R R.length) : ExC (ms.map Cm.cl) R (ms.map Cm.cl).length := by
  intro i hi j hj ca cb ha hb hh x y hx hy
  rw [List.getElem?_map] at ha hb
  obtain ⟨ma, hma, rfl⟩ := Option.map_eq_some_iff.1 ha
  obtain ⟨mb, hmb, rfl⟩ := Option.map_eq_some_iff.1 hb
  by_cases le : y ≤ x
  · exact le
  · have hxl := (List.getElem?_eq_some_iff.1 hx).1
    have hyl := (List.getElem?_eq_some_iff.1 hy).1
    have mu : ma.cl.must = true := by unfold Cl.ahead at hh; rw [Bool.and_eq_true, Bool.and_eq_true] at hh; exact hh.1.1
    refine absurd (posL_take hy (a y hyl i hy).1 ?_) (h x j hxl hx i ma mb hma hmb mu hh)
    exact List.mem_of_getElem? (i := x) (by rw [List.getElem?_take_of_lt (by omega)]; exact hx)
theorem exc_no {ms : List Cm} {R : List Nat} (a : ExA (ms.map Cm.cl) R R.length) (h : ExC (ms.map Cm.cl) R (ms.map Cm.cl).length) {x i j : Nat} {d mi : Cm} (hx : R[x]? = some i) (hd : ms[j]? = some d) (hm : ms[i]? = some mi) (hh : d.cl.ahead mi.cl = true) : ¬ posL R i < posL R j := by
  intro lt
  have hxl := (List.getElem?_eq_some_iff.1 hx).1
  have hjR : j ∈ R := by
    by_cases q : j ∈ R
    · exact q
    · rw [posL_out q] at lt
      have := posL_in (List.mem_of_getElem? hx)
      omega
  obtain ⟨y, hy, e⟩ := List.getElem_of_mem hjR
  have hy2 : R[y]? = some j := by rw [List.getElem?_eq_getElem hy, e]
  have le := h j (by rw [List.length_map]; exact (List.getElem?_eq_some_iff.1 hd).1) i (by rw [List.length_map]; exact (List.getElem?_eq_some_iff.1 hm).1) _ _ (by rw [List.getElem?_map, hd]; rfl) (by rw [List.getElem?_map, hm]; rfl) hh x y hx hy2
  by_cases eq : y = x
  · rw [eq, hx] at hy2
    have := Option.some.inj hy2
    rw [this] at lt
    omega
  · have := posL_take hx (a x hxl i hx).1 (List.mem_of_getElem? (i := y) (by rw [List.getElem?_take_of_lt (by omega)]; exact hy2))
    omega
theorem d1_iff {ms : List Cm} {R : List Nat} {x : Nat} {m : Cm} (hp : m.cl.part = true) (hl : lastF (ms.map Cm.cl) (R.take x) (-1) < ((ms.map Cm.cl).length : Int)) : (m.put = true ∨ m.cl.told = valOf' (ms.map Cm.cl) (lastF (ms.map Cm.cl) (R.take x) (-1))) ↔ ExD1 (ms.map Cm.cl) R x m.cl := by
  unfold ExD1 Cl.told
  have e1 : m.cl.put = m.put := rfl
  have e2 : m.cl.st = m.st := rfl
  rw [e1, e2]
  cases q : m.put
  · unfold Cl.part at hp
    rw [e1, e2, q] at hp
    have hs : m.st = 0 ∨ m.st = 76 := by simp at hp; exact hp.2
    rcases hs with s | s
    · rw [s]
      simp
      exact eq_comm
    · rw [s]
      have := valOf'_none hl
      simp
      rw [← this]
      exact eq_comm
  · simp
end Go.Proofs.Ytodmakcklacbfaa
