import Derived.Test.YtginpoofeliimaaQWrongM
import Derived.Test.YtginpoofeliimaaNOneW
namespace Go.Proofs.Ytginpoofeliimaa
open Go.RowKit 

set_option maxRecDepth 100000 in
set_option maxHeartbeats 8000000 in
theorem wrongC {w : World} {p0 : Option Addr} {n c0 : Nat} {ds : List Dr} (tr : DRd w p0 n c0 ds) (wh : Int) : Calls Try.prog 11 #[.slice p0 n c0, .int .i64 wh] w fun o w' => o = .returned (.bool true) ∧ Kept (fun _ => False) w w' := by
  have H : Hid (DRd w p0 n c0 ds) := tr
  clear tr
  go_enter Try.func11, Try.ntmps11
  go_wp2_with fail
  refine (drafted2 (M := 5) H.out (by omega)).mono ?_
  rintro o w1 ⟨p, k, c, rfl, Q⟩
  obtain ⟨ms, dv⟩ := Q.out.ok
  have hk5 : k ≤ 5 := by have := Q.out.le; omega
  have hkl : ms.length = k := dv.row.len
  have DX : Hid (∀ x ∈ ms, x.cl.bad = false ∧ (x.cl.val = [] ∨ x.cl.val = [97] ∨ x.cl.val = [98] ∨ x.cl.val = [99]) ∧ 0 ≤ x.frm ∧ x.frm < 12 ∧ -1 ≤ x.to ∧ x.to < 20) := by
    intro x hx
    have h1 : x.cl ∈ (ds.take k).map Dr.call := by rw [← dv.cl]; exact List.mem_map.2 ⟨x, hx, rfl⟩
    obtain ⟨d, _, e⟩ := List.mem_map.1 h1
    have hf : x.frm = d.from_ := by
      have : x.cl.frm = d.call.frm := by rw [e]
      rw [show x.frm = x.cl.frm from rfl, this]
      unfold Dr.call
      split <;> rfl
    have ht : x.to = d.to := by
      have : x.cl.to = d.call.to := by rw [e]
      rw [show x.to = x.cl.to from rfl, this]
      unfold Dr.call
      split <;> rfl
    refine ⟨by rw [← e]; exact draft_bad d, by rw [← e]; exact draft_val d, ?_⟩
    rw [hf, ht]
    unfold Dr.from_ Dr.to
    split <;> omega
  have S0 : Hid (QR w.heap.size w1 p k c (shN ms 0) ∧ Kept (fun _ => False) w w1) := ⟨⟨dv.row, dv.rd, dv.ty⟩, dv.kept⟩
  clear Q dv
  go_wp2_with fail
  go_loopw [6, 14] (fun _ u14 wr => ∃ i : Nat, u14 = .int .i64 (i : Int) ∧ i ≤ k ∧ Hid (QR w.heap.size wr p k c (shN ms i) ∧ Kept (fun _ => False) w wr)) (fun _ u14 _ => k - (intOf u14).toNat)
  case atStart => exact ⟨0, rfl, Nat.zero_le _, S0⟩
  case round =>
    obtain ⟨i, rfl, hi, S⟩ := hrel
    clear S0
    obtain ⟨wo, hwo⟩ : ∃ wo, wo = wr := ⟨_, rfl⟩
    rw [← hwo] at S ⊢
    clear hwo
    by_cases hlt : i < k
    · have i1 : (i : Int) < (k : Int) := by omega
      obtain ⟨g, rfl, hg, cur, hb⟩ := S.out.1.ptr (by omega)
      obtain ⟨m, hm⟩ : ∃ m, ms[i]? = some m := ⟨_, List.getElem?_eq_getElem (by omega)⟩
      have DM := DX.out m (List.mem_of_getElem? hm)
      have a6 := S.out.1.at (shN_get hm) 6 (v := .int .i64 m.frm) rfl
      have f6 := soft_blk hb (i * 11 + 6)
      have n6 : wrap64 (m.frm + 100) = m.frm + 100 := by unfold wrap64; omega
      have n7 : wrap64 (m.to + 100) = m.to + 100 := by unfold wrap64; omega
      obtain ⟨W6, hW6⟩ : ∃ W6, W6 = wo.setCell ⟨g, i * 11 + 6, none⟩ (.int .i64 (m.frm + 100)) := ⟨_, rfl⟩
      have Q6 := S.out.1.cell (m' := ⟨m.client, m.op, m.put, m.key, m.va, m.vn, m.vc, m.st, m.frm + 100, m.to, m.opn, m.tx, m.ty, m.val⟩) (shN_get hm) 6 (by omega) (.int .i64 (m.frm + 100)) rfl ⟨rfl, rfl, rfl, rfl⟩
      rw [← hW6] at Q6
      have b6 := set_heap hb (i * 11 + 6) (.int .i64 (m.frm + 100))
      rw [← hW6] at b6
      have hl6 : i < (shN ms i).length := by rw [shN_len]; omega
      have a7 := Q6.at (List.getElem?_set_self hl6) 7 (v := .int .i64 m.to) rfl
      have f7 := soft_blk b6 (i * 11 + 7)
      have J6 : Hid (QR w.heap.size W6 (some ⟨g, 0, none⟩) k c ((shN ms i).set i ⟨m.client, m.op, m.put, m.key, m.va, m.vn, m.vc, m.st, m.frm + 100, m.to, m.opn, m.tx, m.ty, m.val⟩) ∧ Kept (fun _ => False) w W6 ∧ ms[i]? = some m ∧ i < (shN ms i).length ∧ w.heap.size ≤ g ∧ -1 ≤ m.to) := ⟨Q6, by rw [hW6]; exact kept_set S.out.2 hg _ _, hm, hl6, hg, DM.2.2.2.2.1⟩
      have EH : Hid (W6 = wo.setCell ⟨g, i * 11 + 6, none⟩ (.int .i64 (m.frm + 100))) := hW6
      clear hW6 Q6 b6 hb hm DM hl6
      go_upto_region 6 with fail
      rw [← EH.out]
      clear EH
      by_cases z : 0 ≤ m.to
      · have z1 : decide (0 ≤ m.to) = true := decide_eq_true z
        go_wp2_with fail
        go_roundw
        case rel =>
          refine ⟨i + 1, by go_num, by omega, ?_, kept_set J6.out.2.1 J6.out.2.2.2.2.1 _ _⟩
          have q := J6.out.1.cell (m' := m.sh) (List.getElem?_set_self J6.out.2.2.2.1) 7 (by omega) (.int .i64 (m.to + 100)) (by unfold Cm.cs Cm.sh; simp only [if_pos z]; rfl) ⟨rfl, rfl, rfl, rfl⟩
          rw [List.set_set, shN_set J6.out.2.2.1] at q
          exact q
        case measure => simp [intOf] <;> omega
      · have z1 : decide (0 ≤ m.to) = false := decide_eq_false z
        go_wp2_with fail
        go_roundw
        case rel =>
          refine ⟨i + 1, by go_num, by omega, ?_, J6.out.2.1⟩
          have q := J6.out.1
          have e : (⟨m.client, m.op, m.put, m.key, m.va, m.vn, m.vc, m.st, m.frm + 100, m.to, m.opn, m.tx, m.ty, m.val⟩ : Cm) = m.sh := by unfold Cm.sh; rw [if_neg z]
          rw [e, shN_set J6.out.2.2.1] at q
          exact q
        case measure => simp [intOf] <;> omega
    · have i1 : ¬ (i : Int) < (k : Int) := by omega
      have ei : i = ms.length := by omega
      have S2 : Hid (QR w.heap.size wo p k c (ms.map Cm.sh) ∧ Kept (fun _ => False) w wo) := by
        have := S.out
        rw [ei, shN_all] at this
        exact this
      have SX : Hid (∀ x ∈ (ms.map Cm.sh).map Cm.cl, x.bad = false ∧ (x.val = [] ∨ x.val = [97] ∨ x.val = [98] ∨ x.val = [99])) := by
        intro x hx
        obtain ⟨y, hy, rfl⟩ := List.mem_map.1 hx
        obtain ⟨z, hz, rfl⟩ := List.mem_map.1 hy
        have := DX.out z hz
        exact ⟨sh_bad this.1, this.2.1⟩
      have SL : (ms.map Cm.sh).length = k := by rw [List.length_map]; exact hkl
      clear S DX ei
      obtain ⟨kk, hkk⟩ : ∃ kk, kk = wh % 3 := ⟨_, rfl⟩
      have M1 : Hid (∀ V : World, Calls Try.prog 10 #[.int .i64 wh, .int .i64 3] V fun o w' => o = .returned (.int .i64 kk) ∧ w' = V) := by
        intro V; rw [hkk]; exact modC _ 3 (by omega) (by omega) V
      have k3 : kk = 0 ∨ kk = 1 ∨ kk = 2 := by omega
      clear hkk
      go_wp2_with fail
      refine (M1.out _).mono ?_
      rintro o w2 ⟨rfl, rfl⟩
      clear M1
      rcases k3 with rfl | rfl | rfl
      · go_wp2_with fail
        refine (getC2 ⟨#[110, 111, 98, 111, 100, 121, 39, 115]⟩ 50 300 w2 (by decide) false (by kernel_rfl)).mono ?_
        rintro o v0 ⟨m0, e1, Q0⟩
        unfold Cm.agg at e1
        subst e1
        have L2 : Hid (QR w.heap.size v0 p k c (ms.map Cm.sh) ∧ Kept (fun _ => False) w v0) := ⟨S2.out.1.k0 ((Kept.refl (fun _ => False) w2).trans Q0.k (fun _ _ z => z)), S2.out.2.trans ((Kept.refl (fun _ => False) w2).trans Q0.k (fun _ _ z => z)) (fun _ _ z => z)⟩
        have NW : Hid ((∀ m ∈ ([m0] : List Cm), Reads v0 m.va m.vn m.vc m.val ∧ ∀ a, m.va = some a → ∃ C fr, v0.heap[a.block]? = some (.cells C 5 fr)) ∧ ([m0] : List Cm).map Cm.cl = news 0) := by
          refine ⟨fun m hm => ?_, ?_⟩
          · simp only [List.mem_cons, List.not_mem_nil, or_false] at hm
            subst hm
            exact ⟨Q0.rd, Q0.ty⟩
          · show [m0.cl] = _
            rw [Q0.cl]
            rfl
        clear Q0 S2
        have vb : Hid (k + 1 ≤ maxLen ∧ ((k + 1) + (k + 1) / 4 + 192) * 112 ≤ 281474976710656) := bl_few (by omega) (by omega)
        go_upto_region 15 with
          (first | (at_builtin; refine wpList_append_all _ rfl (.tmp 50) (.tmp 52) 23 33 23 _ 11 112 rfl Try.underlying23 Try.info33c rfl w.heap.size (.slice p k c) k (ccells (ms.map Cm.sh)) rfl ((L2.out.1.k0 ((Kept.refl (fun _ => False) v0).alloc _)).row.row) _ 1 (ccells [m0]) rfl (src_calls [m0] 1 rfl (heap_alloc_new v0 _)) vb.out.1 vb.out.2 (Nat.le_trans L2.out.2.size ((Kept.refl (fun _ => False) v0).alloc _).size) ?_; intro p9 c9 w9 ho hg hn) | fail)
        have G : Hid (QR w.heap.size w9 p9 (k + 1) c9 (ms.map Cm.sh ++ [m0]) ∧ Kept (fun _ => False) w w9) := by
          refine (L2.out.1.k0 ((Kept.refl (fun _ => False) v0).alloc _)).grow (news := [m0]) rfl (fun m hm => Reads.kept ((Kept.refl (fun _ => False) v0).alloc _) (NW.out.1 m hm).1 (fun _ _ z => z)) (fun m hm a ha => ?_) ho.out hg.out (L2.out.2.alloc _) (Nat.le_refl _)
          obtain ⟨C, fr, hC⟩ := (NW.out.1 m hm).2 a ha
          exact ⟨C, fr, ((Kept.refl (fun _ => False) v0).alloc _).get hC (fun z => z)⟩
        have EC : Hid ((ms.map Cm.sh ++ [m0]).map Cm.cl = (ms.map Cm.sh).map Cm.cl ++ news 0) := by unfold Hid; rw [List.map_append, NW.out.2]
        clear ho hg hn NW L2 vb
        go_wp2_with fail
        refine (one G.out.1.crd (by omega)).mono ?_
        rintro o w3 ⟨q3, k3, c3, ok, er, rfl, Q3⟩
        obtain ⟨R3, os, nr3⟩ := Q3.ans
        rw [EC.out] at os
        obtain ⟨rfl, x1, x2⟩ := os.xpl (fun x hx => by
          rcases List.mem_append.1 hx with z | z
          · exact (SX.out x z).1
          · exact news_bad _ x z) (by rw [List.length_append, List.length_map, SL]; have := news_few 0; omega)
        have eo : ok = false := by
          cases ok
          · rfl
          · exact absurd (x1.1 rfl) (wrong_all (fun x hx => (SX.out x hx).2) 0)
        subst eo
        have eR := x2 rfl
        subst eR
        have e3 : k3 = 0 := nr3.len.symm
        subst e3
        have K3 : Hid (Kept (fun _ => False) w w3) := G.out.2.trans Q3.k (fun _ _ z => z)
        clear Q3 nr3 os x1 x2
        go_wp2_with fail
        go_ret
        exact ⟨by first | rfl | simp, K3.out⟩
      · go_wp2_with fail
        refine (putC2 ⟨#[120]⟩ 0 1 w2 (by decide)).mono ?_
        rintro o v0 ⟨m0, e1, Q0⟩
        unfold Cm.agg at e1
        subst e1
        go_wp2_with fail
        refine (getC2 ⟨#[]⟩ 2 300 v0 (by decide) true (by kernel_rfl)).mono ?_
        rintro o v1 ⟨m1, e1, Q1⟩
        unfold Cm.agg at e1
        subst e1
        have L2 : Hid (QR w.heap.size v1 p k c (ms.map Cm.sh) ∧ Kept (fun _ => False) w v1) := ⟨S2.out.1.k0 (((Kept.refl (fun _ => False) w2).trans Q0.k (fun _ _ z => z)).trans Q1.k (fun _ _ z => z)), S2.out.2.trans (((Kept.refl (fun _ => False) w2).trans Q0.k (fun _ _ z => z)).trans Q1.k (fun _ _ z => z)) (fun _ _ z => z)⟩
        have NW : Hid ((∀ m ∈ ([m0, m1] : List Cm), Reads v1 m.va m.vn m.vc m.val ∧ ∀ a, m.va = some a → ∃ C fr, v1.heap[a.block]? = some (.cells C 5 fr)) ∧ ([m0, m1] : List Cm).map Cm.cl = news 1) := by
          refine ⟨fun m hm => ?_, ?_⟩
          · simp only [List.mem_cons, List.not_mem_nil, or_false] at hm
            rcases hm with rfl | rfl
            · refine ⟨Reads.kept ((Kept.refl (fun _ => False) v0).trans Q1.k (fun _ _ z => z)) Q0.rd (fun _ _ z => z), fun a ha => ?_⟩
              obtain ⟨C, fr, hC⟩ := Q0.ty a ha
              exact ⟨C, fr, ((Kept.refl (fun _ => False) v0).trans Q1.k (fun _ _ z => z)).get hC (fun z => z)⟩
            · refine ⟨Reads.kept (Kept.refl (fun _ => False) v1) Q1.rd (fun _ _ z => z), fun a ha => ?_⟩
              obtain ⟨C, fr, hC⟩ := Q1.ty a ha
              exact ⟨C, fr, (Kept.refl (fun _ => False) v1).get hC (fun z => z)⟩
          · show [m0.cl, m1.cl] = _
            rw [Q0.cl, Q1.cl]
            rfl
        clear Q0 Q1 S2
        have vb : Hid (k + 2 ≤ maxLen ∧ ((k + 2) + (k + 2) / 4 + 192) * 112 ≤ 281474976710656) := bl_few (by omega) (by omega)
        go_upto_region 15 with
          (first | (at_builtin; refine wpList_append_all _ rfl (.tmp 56) (.tmp 59) 23 33 23 _ 11 112 rfl Try.underlying23 Try.info33c rfl w.heap.size (.slice p k c) k (ccells (ms.map Cm.sh)) rfl ((L2.out.1.k0 ((Kept.refl (fun _ => False) v1).alloc _)).row.row) _ 2 (ccells [m0, m1]) rfl (src_calls [m0, m1] 2 rfl (heap_alloc_new v1 _)) vb.out.1 vb.out.2 (Nat.le_trans L2.out.2.size ((Kept.refl (fun _ => False) v1).alloc _).size) ?_; intro p9 c9 w9 ho hg hn) | fail)
        have G : Hid (QR w.heap.size w9 p9 (k + 2) c9 (ms.map Cm.sh ++ [m0, m1]) ∧ Kept (fun _ => False) w w9) := by
          refine (L2.out.1.k0 ((Kept.refl (fun _ => False) v1).alloc _)).grow (news := [m0, m1]) rfl (fun m hm => Reads.kept ((Kept.refl (fun _ => False) v1).alloc _) (NW.out.1 m hm).1 (fun _ _ z => z)) (fun m hm a ha => ?_) ho.out hg.out (L2.out.2.alloc _) (Nat.le_refl _)
          obtain ⟨C, fr, hC⟩ := (NW.out.1 m hm).2 a ha
          exact ⟨C, fr, ((Kept.refl (fun _ => False) v1).alloc _).get hC (fun z => z)⟩
        have EC : Hid ((ms.map Cm.sh ++ [m0, m1]).map Cm.cl = (ms.map Cm.sh).map Cm.cl ++ news 1) := by unfold Hid; rw [List.map_append, NW.out.2]
        clear ho hg hn NW L2 vb
        go_wp2_with fail
        refine (one G.out.1.crd (by omega)).mono ?_
        rintro o w3 ⟨q3, k3, c3, ok, er, rfl, Q3⟩
        obtain ⟨R3, os, nr3⟩ := Q3.ans
        rw [EC.out] at os
        obtain ⟨rfl, x1, x2⟩ := os.xpl (fun x hx => by
          rcases List.mem_append.1 hx with z | z
          · exact (SX.out x z).1
          · exact news_bad _ x z) (by rw [List.length_append, List.length_map, SL]; have := news_few 1; omega)
        have eo : ok = false := by
          cases ok
          · rfl
          · exact absurd (x1.1 rfl) (wrong_all (fun x hx => (SX.out x hx).2) 1)
        subst eo
        have eR := x2 rfl
        subst eR
        have e3 : k3 = 0 := nr3.len.symm
        subst e3
        have K3 : Hid (Kept (fun _ => False) w w3) := G.out.2.trans Q3.k (fun _ _ z => z)
        clear Q3 nr3 os x1 x2
        go_wp2_with fail
        go_ret
        exact ⟨by first | rfl | simp, K3.out⟩
      · go_wp2_with fail
        refine (putC2 ⟨#[120]⟩ 0 1 w2 (by decide)).mono ?_
        rintro o v0 ⟨m0, e1, Q0⟩
        unfold Cm.agg at e1
        subst e1
        go_wp2_with fail
        refine (putC2 ⟨#[121]⟩ 2 3 v0 (by decide)).mono ?_
        rintro o v1 ⟨m1, e1, Q1⟩
        unfold Cm.agg at e1
        subst e1
        go_wp2_with fail
        refine (getC2 ⟨#[120]⟩ 4 300 v1 (by decide) false (by kernel_rfl)).mono ?_
        rintro o v2 ⟨m2, e1, Q2⟩
        unfold Cm.agg at e1
        subst e1
        have L2 : Hid (QR w.heap.size v2 p k c (ms.map Cm.sh) ∧ Kept (fun _ => False) w v2) := ⟨S2.out.1.k0 ((((Kept.refl (fun _ => False) w2).trans Q0.k (fun _ _ z => z)).trans Q1.k (fun _ _ z => z)).trans Q2.k (fun _ _ z => z)), S2.out.2.trans ((((Kept.refl (fun _ => False) w2).trans Q0.k (fun _ _ z => z)).trans Q1.k (fun _ _ z => z)).trans Q2.k (fun _ _ z => z)) (fun _ _ z => z)⟩
        have NW : Hid ((∀ m ∈ ([m0, m1, m2] : List Cm), Reads v2 m.va m.vn m.vc m.val ∧ ∀ a, m.va = some a → ∃ C fr, v2.heap[a.block]? = some (.cells C 5 fr)) ∧ ([m0, m1, m2] : List Cm).map Cm.cl = news 2) := by
          refine ⟨fun m hm => ?_, ?_⟩
          · simp only [List.mem_cons, List.not_mem_nil, or_false] at hm
            rcases hm with rfl | rfl | rfl
            · refine ⟨Reads.kept (((Kept.refl (fun _ => False) v0).trans Q1.k (fun _ _ z => z)).trans Q2.k (fun _ _ z => z)) Q0.rd (fun _ _ z => z), fun a ha => ?_⟩
              obtain ⟨C, fr, hC⟩ := Q0.ty a ha
              exact ⟨C, fr, (((Kept.refl (fun _ => False) v0).trans Q1.k (fun _ _ z => z)).trans Q2.k (fun _ _ z => z)).get hC (fun z => z)⟩
            · refine ⟨Reads.kept ((Kept.refl (fun _ => False) v1).trans Q2.k (fun _ _ z => z)) Q1.rd (fun _ _ z => z), fun a ha => ?_⟩
              obtain ⟨C, fr, hC⟩ := Q1.ty a ha
              exact ⟨C, fr, ((Kept.refl (fun _ => False) v1).trans Q2.k (fun _ _ z => z)).get hC (fun z => z)⟩
            · refine ⟨Reads.kept (Kept.refl (fun _ => False) v2) Q2.rd (fun _ _ z => z), fun a ha => ?_⟩
              obtain ⟨C, fr, hC⟩ := Q2.ty a ha
              exact ⟨C, fr, (Kept.refl (fun _ => False) v2).get hC (fun z => z)⟩
          · show [m0.cl, m1.cl, m2.cl] = _
            rw [Q0.cl, Q1.cl, Q2.cl]
            rfl
        clear Q0 Q1 Q2 S2
        have vb : Hid (k + 3 ≤ maxLen ∧ ((k + 3) + (k + 3) / 4 + 192) * 112 ≤ 281474976710656) := bl_few (by omega) (by omega)
        go_upto_region 15 with
          (first | (at_builtin; refine wpList_append_all _ rfl (.tmp 42) (.tmp 46) 23 33 23 _ 11 112 rfl Try.underlying23 Try.info33c rfl w.heap.size (.slice p k c) k (ccells (ms.map Cm.sh)) rfl ((L2.out.1.k0 ((Kept.refl (fun _ => False) v2).alloc _)).row.row) _ 3 (ccells [m0, m1, m2]) rfl (src_calls [m0, m1, m2] 3 rfl (heap_alloc_new v2 _)) vb.out.1 vb.out.2 (Nat.le_trans L2.out.2.size ((Kept.refl (fun _ => False) v2).alloc _).size) ?_; intro p9 c9 w9 ho hg hn) | fail)
        have G : Hid (QR w.heap.size w9 p9 (k + 3) c9 (ms.map Cm.sh ++ [m0, m1, m2]) ∧ Kept (fun _ => False) w w9) := by
          refine (L2.out.1.k0 ((Kept.refl (fun _ => False) v2).alloc _)).grow (news := [m0, m1, m2]) rfl (fun m hm => Reads.kept ((Kept.refl (fun _ => False) v2).alloc _) (NW.out.1 m hm).1 (fun _ _ z => z)) (fun m hm a ha => ?_) ho.out hg.out (L2.out.2.alloc _) (Nat.le_refl _)
          obtain ⟨C, fr, hC⟩ := (NW.out.1 m hm).2 a ha
          exact ⟨C, fr, ((Kept.refl (fun _ => False) v2).alloc _).get hC (fun z => z)⟩
        have EC : Hid ((ms.map Cm.sh ++ [m0, m1, m2]).map Cm.cl = (ms.map Cm.sh).map Cm.cl ++ news 2) := by unfold Hid; rw [List.map_append, NW.out.2]
        clear ho hg hn NW L2 vb
        go_wp2_with fail
        refine (one G.out.1.crd (by omega)).mono ?_
        rintro o w3 ⟨q3, k3, c3, ok, er, rfl, Q3⟩
        obtain ⟨R3, os, nr3⟩ := Q3.ans
        rw [EC.out] at os
        obtain ⟨rfl, x1, x2⟩ := os.xpl (fun x hx => by
          rcases List.mem_append.1 hx with z | z
          · exact (SX.out x z).1
          · exact news_bad _ x z) (by rw [List.length_append, List.length_map, SL]; have := news_few 2; omega)
        have eo : ok = false := by
          cases ok
          · rfl
          · exact absurd (x1.1 rfl) (wrong_all (fun x hx => (SX.out x hx).2) 2)
        subst eo
        have eR := x2 rfl
        subst eR
        have e3 : k3 = 0 := nr3.len.symm
        subst e3
        have K3 : Hid (Kept (fun _ => False) w w3) := G.out.2.trans Q3.k (fun _ _ z => z)
        clear Q3 nr3 os x1 x2
        go_wp2_with fail
        go_ret
        exact ⟨by first | rfl | simp, K3.out⟩
end Go.Proofs.Ytginpoofeliimaa
