import Derived.Test.YtginpoofeliimabVSmall
import Derived.Test.YtginpoofeliimabLEnd
import Derived.Deep.RegionHeld3
namespace Go.Proofs.Ytginpoofeliimab
open Go.RowKit 

set_option maxRecDepth 100000 in
set_option maxHeartbeats 4000000 in
theorem tFits {w : World} {p0 : Option Addr} {n c0 : Nat} {ms : List Cm} (cr : CRd w p0 n c0 ms) {i : Nat} {m : Cm} (hm : ms[i]? = some m) (hp : m.cl.part = true) (last : Int) (hl : -1 ≤ last ∧ last < (n : Int)) : Calls Try.prog 17 #[.slice p0 n c0, .int .i64 last, .int .i64 (i : Int)] w (RetB fun v w' => (v = true ↔ (m.put = true ∨ m.cl.told = valOf' (ms.map Cm.cl) last)) ∧ Kept (fun _ => False) w w') := by
  have hin : i < n := by have := (List.getElem?_eq_some_iff.1 hm).1; rw [cr.len] at this; exact this
  have H : Hid (CRd w p0 n c0 ms ∧ ms[i]? = some m ∧ m.cl.part = true) := ⟨cr, hm, hp⟩
  have rm := cr.room
  have sm := cr.small
  unfold maxLen at sm
  have i1 : (i : Int) < (n : Int) := by omega
  obtain ⟨b9, off9, m', rfl, hm', y0, y1, y2, y3, y4, y5, y6, y7, y8, y9, y10, rd⟩ := cr.at hin
  have em : m' = m := by rw [hm] at hm'; exact (Option.some.inj hm').symm
  subst em
  obtain ⟨W, hW⟩ : ∃ W, W = w.alloc (.cells m'.cs 28) := ⟨_, rfl⟩
  obtain ⟨E, hE⟩ : ∃ E, E = w.heap.size := ⟨_, rfl⟩
  have T : Hid (W.heap[E]? = some (.cells m'.cs 28 (0, 0)) ∧ Kept (fun _ => False) w W ∧ Reads W m'.va m'.vn m'.vc m'.val) := ⟨by rw [hW, hE]; exact alloc_new _ _, by rw [hW]; exact (Kept.refl _ _).alloc _, by rw [hW]; exact Reads.kept ((Kept.refl (fun _ => False) w).alloc _) rd (fun _ _ z => z)⟩
  have EWH : Hid (W = w.alloc (.cells #[.int .i64 m'.client, .int .i64 m'.op, .bool m'.put, .string m'.key, .slice m'.va m'.vn m'.vc, .int .i64 m'.st, .int .i64 m'.frm, .int .i64 m'.to, .bool m'.opn, .int .i64 m'.tx, .int .i64 m'.ty] 28) ∧ E = w.heap.size) := ⟨hW, hE⟩
  clear cr hm hm' hp rd hW hE
  go_enter Try.func17, Try.ntmps17
  go_upto_region 2 with fail
  rw [← EWH.out.1, ← EWH.out.2]
  clear EWH y0 y1 y2 y3 y4 y5 y6 y7 y8 y9 y10
  have d2 := cell_blk T.out.1 2 (v := .bool m'.put) rfl
  have d5 := cell_blk T.out.1 5 (v := .int .i64 m'.st) rfl
  have d4 := cell_blk T.out.1 4 (v := .slice m'.va m'.vn m'.vc) rfl
  obtain ⟨pu, hpu⟩ : ∃ pu, m'.put = pu := ⟨_, rfl⟩
  rw [hpu] at d2
  have HPU : Hid (m'.put = pu) := hpu
  clear hpu
  cases pu
  · have NP : Hid (¬ m'.put = true) := by
      have := HPU.out
      show ¬ m'.put = true
      rw [this]
      simp
    by_cases h76 : m'.st = 76
    · have ht : m'.cl.told = none := by unfold Cl.told; rw [if_pos (show m'.cl.st = 76 from h76)]
      rw [h76] at d5
      go_wp2_with fail
      go_ret
      refine RetB.mk (decide (last < 0)) rfl ⟨?_, T.out.2.1⟩
      have hn := valOf'_none (cs := ms.map Cm.cl) (l := last) (by rw [List.length_map, H.out.1.len]; exact hl.2)
      rw [decide_eq_true_iff, ht]
      constructor
      · intro z
        exact .inr (hn.2 z).symm
      · rintro (z | z)
        · exact absurd z NP.out
        · exact hn.1 z.symm
    · have e76 : (m'.st == 76) = false := by simp [h76]
      have ht : m'.cl.told = some m'.val := by unfold Cl.told; rw [if_neg (show ¬ m'.cl.st = 76 from h76)]; rfl
      have HT : Hid (m'.cl.told = some m'.val) := ht
      clear ht
      by_cases hln : last < 0
      · have l1 : decide (0 ≤ last) = false := decide_eq_false (by omega)
        go_upto_region 6 with fail
        go_quiet (fail)
        go_wp2_with fail
        go_ret
        refine RetB.mk false rfl ⟨⟨fun z => (by cases z), fun z => ?_⟩, T.out.2.1.drewN _⟩
        rcases z with z | z
        · exact absurd z NP.out
        · rw [HT.out] at z
          unfold valOf' at z
          rw [if_pos hln] at z
          cases z
      · obtain ⟨ln, hle⟩ : ∃ ln : Nat, last = (ln : Int) := ⟨last.toNat, by omega⟩
        subst hle
        have ln1 : ln < n := by omega
        have ln2 : (ln : Int) < (n : Int) := by omega
        obtain ⟨b8, off8, ml, e8, hml, _, _, _, _, y4, _, _, _, _, _, _, rdl⟩ := (H.out.1.k0 T.out.2.1).at ln1
        have e8 : b9 = b8 ∧ off9 = off8 := by simpa using e8
        obtain ⟨rfl, rfl⟩ := e8
        obtain ⟨qq, hq⟩ : ∃ qq, qq = decide (ml.val = m'.val) := ⟨_, rfl⟩
        have HQ : Hid (qq = decide (ml.val = m'.val) ∧ valOf' (ms.map Cm.cl) (ln : Int) = some ml.val) := by
          refine ⟨hq, ?_⟩
          unfold valOf'
          rw [if_neg (by omega), Int.toNat_natCast, List.getElem?_map, hml]
          rfl
        have RS : Hid (∀ V, Kept (fun _ => False) W V → Calls Try.prog 25 #[.slice ml.va ml.vn ml.vc, .slice m'.va m'.vn m'.vc] V fun o w' => o = .returned (.bool qq) ∧ Kept (fun _ => False) V w') := fun V kv => by
          rw [hq]
          exact tSame (Reads.kept kv rdl (fun _ _ z => z)) (Reads.kept kv T.out.2.2 (fun _ _ z => z))
        have KP : Hid (∀ V, Kept (fun _ => False) W V → V.cell? ⟨b9, off9 + ln * 11 + 4, none⟩ = some (.slice ml.va ml.vn ml.vc) ∧ V.cell? ⟨E, 4, none⟩ = some (.slice m'.va m'.vn m'.vc)) := fun V kv => ⟨kv.cell y4 (fun z => z), kv.cell d4 (fun z => z)⟩
        have kd : Kept (fun _ => False) W W.drew := (Kept.refl _ _).drew
        clear hq hml rdl
        go_upto_region 6 with fail
        go_region_held3 (fun V => V.cell? ⟨b9, off9 + ln * 11 + 4, none⟩ = some (.slice ml.va ml.vn ml.vc) ∧ V.cell? ⟨E, 4, none⟩ = some (.slice m'.va m'.vn m'.vc) ∧ Kept (fun _ => False) W V) (go_keep)
          (first | (go_at_call 25; refine (RS.out _ (by assumption)).mono ?_; rintro o w5 ⟨rfl, K5'⟩; have K5 : Kept (fun _ => False) W w5 := Kept.trans (by assumption) K5' (fun _ _ z => z); obtain ⟨x1, x2⟩ := KP.out w5 K5; clear K5') | fail)
        go_wp2_with fail
        go_ret
        refine RetB.mk qq rfl ⟨?_, T.out.2.1.trans K5 (fun _ _ z => z)⟩
        rw [HT.out, HQ.out.2, HQ.out.1, decide_eq_true_iff]
        constructor
        · intro z
          rw [z]
          exact .inr rfl
        · rintro (z | z)
          · exact absurd z NP.out
          · injection z with z
            exact z.symm
  · go_wp2_with fail
    go_ret
    exact RetB.mk true rfl ⟨⟨fun _ => .inl HPU.out, fun _ => rfl⟩, T.out.2.1⟩
end Go.Proofs.Ytginpoofeliimab
