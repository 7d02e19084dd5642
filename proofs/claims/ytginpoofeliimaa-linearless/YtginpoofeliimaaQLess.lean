import Derived.Test.YtginpoofeliimaaQWrong
import Derived.Test.YtginpoofeliimaaHTake
namespace Go.Proofs.Ytginpoofeliimaa
open Go.RowKit 

theorem DV.facts {w wr : World} {ds : List Dr} {k : Nat} {p : Option Addr} {c : Nat} {ms : List Cm} (dv : DV w wr ds k p c ms) : ∀ x ∈ ms, x.cl.bad = false ∧ (x.cl.val = [] ∨ x.cl.val = [97] ∨ x.cl.val = [98] ∨ x.cl.val = [99]) ∧ 0 ≤ x.frm ∧ x.frm < 12 ∧ -1 ≤ x.to ∧ x.to < 20 := by
  intro x hx
  have h1 : x.cl ∈ (ds.take k).map Dr.call := by rw [← dv.cl]; exact List.mem_map.2 ⟨x, hx, rfl⟩
  obtain ⟨d, _, e⟩ := List.mem_map.1 h1
  have hf : x.frm = d.from_ := by
    have : x.cl.frm = d.call.frm := by rw [e]
    rw [show x.frm = x.cl.frm from rfl, this]
    unfold Dr.call
    split <;> rfl
  have ht : x.to = d.to := by
    have : x.cl.to = d.call.to := by rw [e]
    rw [show x.to = x.cl.to from rfl, this]
    unfold Dr.call
    split <;> rfl
  refine ⟨by rw [← e]; exact draft_bad d, by rw [← e]; exact draft_val d, ?_⟩
  rw [hf, ht]
  unfold Dr.from_ Dr.to
  split <;> omega
theorem sl2 (g k c j : Nat) (jk : j ≤ k) (W : World) : (Instr.slice 23 (.slice (some ⟨g, 0, none⟩) k c) (some (.int .i64 (j : Int))) none none).run Try.prog W = .ok (.slice (if c = j then some ⟨g, 0, none⟩ else some ⟨g, j * 11, none⟩ : Option Addr) (k - j) (c - j)) W := by
  simp [Instr.slice, Instr.sliceBounds, Instr.sliceBound, asIntOf, run_underlying Try.underlying23, go_sem, jk]
theorem told_val {c : Cl} {x : List Nat} (h : c.told = some x) : c.val = x := by
  unfold Cl.told at h
  split at h
  · cases h
  · injection h
set_option maxRecDepth 100000 in
set_option maxHeartbeats 8000000 in
theorem lessW {w : World} {a : Option Addr} {len cap : Nat} {ds : List Dr} (tr : DRd w a len cap ds) (ou la : Int) : Calls Try.prog 3 #[.slice a len cap, .int .i64 ou, .int .i64 la] w fun o w' => o = .returned (.bool true) ∧ Kept (fun _ => False) w w' := by
  have H : Hid (DRd w a len cap ds) := tr
  clear tr
  go_enter Try.func3, Try.ntmps3
  go_wp2_with fail
  refine (drafted2 (M := 7) H.out (by omega)).mono ?_
  rintro o w1 ⟨p, k, c, rfl, Q⟩
  obtain ⟨ms, dv⟩ := Q.out.ok
  have hk7 : k ≤ 7 := by have := Q.out.le; omega
  have hkl : ms.length = k := dv.row.len
  have DX : Hid (∀ x ∈ ms, x.cl.bad = false ∧ (x.cl.val = [] ∨ x.cl.val = [97] ∨ x.cl.val = [98] ∨ x.cl.val = [99]) ∧ 0 ≤ x.frm ∧ x.frm < 12 ∧ -1 ≤ x.to ∧ x.to < 20) := dv.facts
  have Q1 : Hid (QR w.heap.size w1 p k c ms ∧ Kept (fun _ => False) w w1) := ⟨⟨dv.row, dv.rd, dv.ty⟩, dv.kept⟩
  have NB : Hid (∀ x ∈ ms.map Cm.cl, x.bad = false) := fun x hx => by
    obtain ⟨y, hy, rfl⟩ := List.mem_map.1 hx
    exact (DX.out y hy).1
  clear Q dv
  go_wp2_with fail
  refine (one Q1.out.1.crd (by omega)).mono ?_
  rintro o w2 ⟨q2, k2, c2, ok, er, rfl, O2⟩
  obtain ⟨R2, os, nr⟩ := O2.ans
  obtain ⟨rfl, x1, _⟩ := os.xpl NB.out (by rw [List.length_map]; omega)
  have X : Hid (ok = true ↔ Xpl (ms.map Cm.cl)) := x1
  have Q2 : Hid (QR w.heap.size w2 p k c ms ∧ Kept (fun _ => False) w w2) := ⟨Q1.out.1.k0 O2.k, Q1.out.2.trans O2.k (fun _ _ z => z)⟩
  clear O2 os nr x1 Q1
  have va : Hid (0 + k ≤ maxLen ∧ ((0 + k) + (0 + k) / 4 + 192) * 112 ≤ 281474976710656) := bl_few (by omega) (by omega)
  have vb : Hid (k + 1 ≤ maxLen ∧ ((k + 1) + (k + 1) / 4 + 192) * 112 ≤ 281474976710656) := bl_few (by omega) (by omega)
  obtain ⟨l12, hl12⟩ : ∃ l12, l12 = la % 12 := ⟨_, rfl⟩
  have M12 : Hid (∀ V : World, Calls Try.prog 10 #[.int .i64 la, .int .i64 12] V fun o w' => o = .returned (.int .i64 l12) ∧ w' = V) := by
    intro V; rw [hl12]; exact modC _ 12 (by omega) (by omega) V
  have L12 : Hid (0 ≤ l12) := by show 0 ≤ l12; omega
  clear hl12
  go_wp2_with
    (first
      | (at_builtin; refine wpList_append_all _ rfl (.tmp 33) (.tmp 34) 23 33 23 _ 11 112 rfl Try.underlying23 Try.info33c rfl w2.heap.size (.slice (some ⟨w2.heap.size, 0, none⟩) 0 0) 0 [] rfl (own_empty33 w2) _ k (ccells ms) rfl (crd_src (Q2.out.1.k0 ((Kept.refl (fun _ => False) w2).alloc _)).crd) va.out.1 va.out.2 ((Kept.refl (fun _ => False) w2).alloc _).size ?_; intro p8 c8 w8 ho8 hg8 hn8)
      | fail)
  have G8 : Hid (QR w2.heap.size w8 p8 k c8 ms ∧ Kept (fun _ => False) w2 w8) := by
    have A := (Kept.refl (fun _ => False) w2).alloc (.cells #[] 33)
    have := (QR.empty w2).grow (news := ms) hkl (Q2.out.1.k0 A).rd (Q2.out.1.k0 A).ty ho8.out hg8.out A (Nat.le_refl _)
    simp only [Nat.zero_add, List.nil_append] at this
    exact this
  clear ho8 hg8 hn8
  refine (M12.out _).mono ?_
  rintro o w8' ⟨rfl, rfl⟩
  go_wp2_with fail
  refine (putC2 ⟨#[117, 110, 115, 101, 101, 110]⟩ l12 (-1) _ (by decide)).mono ?_
  rintro o w9 ⟨m, e1, P⟩
  unfold Cm.agg at e1
  subst e1
  have G9 : Hid (QR w2.heap.size w9 p8 k c8 ms ∧ Kept (fun _ => False) w2 w9 ∧ m.cl = ⟨true, true, l12, -1, 0, [117, 110, 115, 101, 101, 110]⟩ ∧ Reads w9 m.va m.vn m.vc m.val ∧ ∀ a, m.va = some a → ∃ C fr, w9.heap[a.block]? = some (.cells C 5 fr)) := ⟨G8.out.1.k0 P.k, G8.out.2.trans P.k (fun _ _ z => z), P.cl, P.rd, P.ty⟩
  clear P G8 M12
  go_upto_region 6 with
    (first
      | (at_builtin; refine wpList_append_all _ rfl (.tmp 35) (.tmp 39) 23 33 23 _ 11 112 rfl Try.underlying23 Try.info33c rfl w2.heap.size (.slice p8 k c8) k (ccells ms) rfl ((G9.out.1.k0 ((Kept.refl (fun _ => False) w9).alloc _)).row.row) _ 1 (ccells [m]) rfl (src_calls [m] 1 rfl (heap_alloc_new w9 _)) vb.out.1 vb.out.2 (Nat.le_trans G9.out.2.1.size ((Kept.refl (fun _ => False) w9).alloc _).size) ?_; intro p9 c9 wa ho hg hn)
      | fail)
  have GA : Hid (QR w2.heap.size wa p9 (k + 1) c9 (ms ++ [m]) ∧ Kept (fun _ => False) w2 wa) := by
    refine (G9.out.1.k0 ((Kept.refl (fun _ => False) w9).alloc _)).grow (news := [m]) rfl (fun y hy => ?_) (fun y hy a ha => ?_) ho.out hg.out (G9.out.2.1.alloc _) (Nat.le_refl _)
    · rw [List.mem_singleton.1 hy]
      exact Reads.kept ((Kept.refl (fun _ => False) w9).alloc _) G9.out.2.2.2.1 (fun _ _ z => z)
    · rw [List.mem_singleton.1 hy] at ha
      obtain ⟨C, fr, hC⟩ := G9.out.2.2.2.2 a ha
      exact ⟨C, fr, ((Kept.refl (fun _ => False) w9).alloc _).get hC (fun z => z)⟩
  clear ho hg hn
  go_wp2_with fail
  refine (one GA.out.1.crd (by omega)).mono ?_
  rintro o w3 ⟨q3, k3, c3, ok3, er3, rfl, O3⟩
  obtain ⟨R3, os, _⟩ := O3.ans
  rw [List.map_append] at os
  obtain ⟨rfl, x1, _⟩ := os.xpl (fun x hx => by
    rcases List.mem_append.1 hx with z | z
    · exact NB.out x z
    · rw [List.mem_singleton.1 z, G9.out.2.2.1]
      unfold Cl.bad
      rw [decide_eq_false (show ¬ l12 < 0 by have := L12.out; omega)]
      rfl) (by rw [List.length_append, List.length_map]; show ms.length + 1 ≤ 24; omega)
  have e3 : ok3 = ok := by
    have h := xpl_more (cs := ms.map Cm.cl) (u := m.cl) (by rw [G9.out.2.2.1]) (by rw [G9.out.2.2.1]) (fun x hx _ => by
      obtain ⟨y, hy, rfl⟩ := List.mem_map.1 hx
      intro z
      have z := told_val z
      rw [G9.out.2.2.1] at z
      rcases (DX.out y hy).2.1 with e | e | e | e <;> rw [e] at z <;> cases z)
    rw [Bool.eq_iff_iff, X.out]
    exact x1.trans h
  subst e3
  have K3 : Hid (Kept (fun _ => False) w w3) := (Q2.out.2.trans GA.out.2 (fun _ _ z => z)).trans O3.k (fun _ _ z => z)
  have Q3 : Hid (QR w.heap.size w3 p k c ms) := (Q2.out.1.k0 GA.out.2).k0 O3.k
  clear O3 os x1 GA G9 Q2 vb va
  go_wp2_with fail
  refine (wrongC (H.out.k0 K3.out) la).mono ?_
  rintro o w4 ⟨rfl, K4'⟩
  have K4 : Hid (Kept (fun _ => False) w w4 ∧ QR w.heap.size w4 p k c ms) := ⟨K3.out.trans K4' (fun _ _ z => z), Q3.out.k0 K4'⟩
  clear K4' K3 Q3
  by_cases h0 : k = 0
  · subst h0
    have em : ms = [] := List.length_eq_zero_iff.1 hkl
    have eo : ok3 = true := X.out.2 ⟨[], fun i c hc => by rw [em] at hc; simp at hc⟩
    subst eo
    go_wp2_with fail
    refine (taken w4).mono ?_
    rintro o w5 ⟨rfl, K5⟩
    have C5 : Hid (Kept (fun _ => False) w w5) := K4.out.1.trans K5 (fun _ _ z => z)
    clear K5
    go_wp2_with fail
    go_ret
    exact ⟨by first | rfl | simp, C5.out⟩
  · have e0 : ((k : Int) == 0) = false := by simp; omega
    have e0' : ¬ (k : Int) = 0 := by omega
    obtain ⟨i, hi⟩ : ∃ i : Nat, (i : Int) = ou % (k : Int) := ⟨(ou % (k : Int)).toNat, by have := Int.emod_nonneg ou (show (k : Int) ≠ 0 by omega); omega⟩
    have hik : i < k := by have := Int.emod_lt_of_pos ou (show (0 : Int) < k by omega); omega
    have MK : Hid (∀ V : World, Calls Try.prog 10 #[.int .i64 ou, .int .i64 (k : Int)] V fun o w' => o = .returned (.int .i64 (i : Int)) ∧ w' = V) := by
      intro V; rw [hi]; exact modC _ _ (by omega) (by omega) V
    clear hi
    go_wp2_with fail
    refine (MK.out _).mono ?_
    rintro o w5 ⟨rfl, rfl⟩
    clear MK
    obtain ⟨g, rfl, hg, cur, hb⟩ := K4.out.2.ptr (by omega)
    obtain ⟨x, hx⟩ : ∃ x, ms[i]? = some x := ⟨_, List.getElem?_eq_getElem (by omega)⟩
    obtain ⟨pu, hpu⟩ : ∃ pu, x.put = pu := ⟨_, rfl⟩
    have a2 := K4.out.2.at hx 2 (v := .bool pu) (by rw [← hpu]; rfl)
    have HX : Hid (ms[i]? = some x ∧ x.put = pu ∧ w.heap.size ≤ g) := ⟨hx, hpu, hg⟩
    have i1 : (i : Int) < (k : Int) := by omega
    clear hx hpu hb
    have rm := K4.out.2.crd.room
    have sm := K4.out.2.crd.small
    unfold maxLen at sm
    have vc : Hid (0 + i ≤ maxLen ∧ ((0 + i) + (0 + i) / 4 + 192) * 112 ≤ 281474976710656) := bl_few (by omega) (by omega)
    obtain ⟨j, hj⟩ : ∃ j, j = i + 1 := ⟨_, rfl⟩
    have vd : Hid (i + (k - j) ≤ maxLen ∧ ((i + (k - j)) + (i + (k - j)) / 4 + 192) * 112 ≤ 281474976710656) := bl_few (by omega) (by omega)
    have SR1 : Hid (∀ V, Kept (fun _ => False) w5 V → Src Try.prog 11 23 (.slice (some ⟨g, 0, none⟩) i c) i (ccells (ms.take i)) V) := fun V kv => crd_src (crd_take (K4.out.2.k0 kv).crd (by omega))
    have SR2 : Hid (∀ V, Kept (fun _ => False) w5 V → Src Try.prog 11 23 (.slice (if c = j then some ⟨g, 0, none⟩ else some ⟨g, j * 11, none⟩) (k - j) (c - j)) (k - j) (ccells (ms.drop j)) V) := fun V kv => by
      have h1 := crd_drop (K4.out.2.k0 kv).crd (i := j) (by omega)
      rw [Nat.zero_add] at h1
      by_cases cj : c = j
      · rw [if_pos cj]
        have kj : k - j = 0 := by omega
        rw [kj] at h1 ⊢
        have h2 : ms.drop j = [] := List.length_eq_zero_iff.1 h1.len
        rw [h2]
        exact crd_src ⟨rfl, Nat.zero_le _, h1.small, fun h => absurd h (by omega), fun _ h => absurd h (by simp)⟩
      · rw [if_neg cj]
        exact crd_src h1
    obtain ⟨pd, hpd⟩ : ∃ pd, pd = (if c = j then some ⟨g, 0, none⟩ else some ⟨g, j * 11, none⟩ : Option Addr) := ⟨_, rfl⟩
    have SL2 : ∀ W, (Instr.slice 23 (.slice (some ⟨g, 0, none⟩) k c) (some (.int .i64 (j : Int))) none none).run Try.prog W = .ok (.slice pd (k - j) (c - j)) W := fun W => by
      rw [hpd]
      exact sl2 g k c j (by omega) W
    rw [← hpd] at SR2
    clear hpd
    have HJ : Hid (j = i + 1) := hj
    have wi : IntKind.i64.wrap ((i : Int) + 1) = (j : Int) := by rw [IntKind.wrap_i64]; omega
    have jk : j ≤ k := by omega
    clear hj
    have ic : i ≤ c := by omega
    go_upto_if 74 with fail
    go_cut [16, 17, 18, 19] from 75 to 99 (fun _ _ _ _ wc => Hid (Kept (fun _ => False) w wc ∧ QR w.heap.size wc (some ⟨g, 0, none⟩) k c ms))
    case first =>
      cases pu
      case true =>
        go_wp2_with fail
        go_meet
        case rel => exact K4
      case false =>
        go_upto_region 15 with fail
        go_region_law
          (first
            | (refine step_append_all _ (by rfl) (.tmp 75) (.tmp 78) 23 33 23 _ 11 112 (by rfl) Try.underlying23 Try.info33c rfl w5.heap.size (.slice (some ⟨w5.heap.size, 0, none⟩) 0 0) 0 [] (by rfl) ((((Kept.refl (fun _ => False) (w5.alloc (.cells #[] 33)))).drew).owns (own_empty33 w5) (fun _ _ z => z)) _ i (ccells (ms.take i)) (by rfl) (SR1.out _ (((Kept.refl (fun _ => False) w5).alloc _).drew)) vc.out.1 vc.out.2 ((Kept.refl (fun _ => False) w5).alloc _).size ?_; intro p8 c8 w8 ho8 hg8 hn8
               have G8 : Hid (QR w5.heap.size w8 p8 i c8 (ms.take i) ∧ Kept (fun _ => False) w5 w8) := by
                 have A := ((Kept.refl (fun _ => False) w5).alloc (.cells #[] 33)).drew
                 have E := (QR.empty w5).k0 ((Kept.refl (fun _ => False) (w5.alloc (.cells #[] 33))).drew)
                 have := E.grow (news := ms.take i) (by rw [List.length_take]; omega) (fun m hm => (K4.out.2.k0 A).rd m (List.mem_of_mem_take hm)) (fun m hm => (K4.out.2.k0 A).ty m (List.mem_of_mem_take hm)) ho8.out hg8.out A (Nat.le_refl _)
                 simp only [Nat.zero_add, List.nil_append] at this
                 exact this
               clear ho8 hg8 hn8)
            | (refine step_append_all _ (by rfl) (.tmp 79) (.tmp 83) 23 33 23 _ 11 112 (by rfl) Try.underlying23 Try.info33c rfl w5.heap.size (.slice p8 i c8) i (ccells (ms.take i)) (by rfl) G8.out.1.row.row _ (k - j) (ccells (ms.drop j)) (by rfl) (SR2.out _ G8.out.2) vd.out.1 vd.out.2 G8.out.2.size ?_; intro p9 c9 w9 ho hg hn
               have G9 : Hid (QR w5.heap.size w9 p9 (i + (k - j)) c9 (ms.take i ++ ms.drop j) ∧ Kept (fun _ => False) w5 w9) := G8.out.1.grow (news := ms.drop j) (by rw [List.length_drop]; omega) (fun m hm => (K4.out.2.k0 G8.out.2).rd m (List.mem_of_mem_drop hm)) (fun m hm => (K4.out.2.k0 G8.out.2).ty m (List.mem_of_mem_drop hm)) ho.out hg.out G8.out.2 (Nat.le_refl _)
               clear ho hg hn)
            | fail)
        all_goals go_wp2_with fail
        refine (one G9.out.1.crd (by omega)).mono ?_
        rintro o w6 ⟨q6, k6, c6, ok6, er6, rfl, O6⟩
        obtain ⟨R6, os, _⟩ := O6.ans
        have EL : (ms.take i ++ ms.drop j).map Cm.cl = (ms.map Cm.cl).take i ++ (ms.map Cm.cl).drop (i + 1) := by rw [List.map_append, List.map_take, List.map_drop, HJ.out]
        rw [EL] at os
        obtain ⟨rfl, x1, _⟩ := os.xpl (fun y hy => by
          rcases List.mem_append.1 hy with z | z
          · exact NB.out y (List.mem_of_mem_take z)
          · exact NB.out y (List.mem_of_mem_drop z)) (by rw [List.length_append, List.length_take, List.length_drop, List.length_map]; omega)
        have y1 : ok3 = true → ok6 = true := fun z => x1.2 (xpl_less (c0 := x.cl) (by rw [List.getElem?_map, HX.out.1]; rfl) HX.out.2.1 (X.out.1 z))
        have K6 : Hid (Kept (fun _ => False) w w6 ∧ QR w.heap.size w6 (some ⟨g, 0, none⟩) k c ms) := ⟨(K4.out.1.trans G9.out.2 (fun _ _ z => z)).trans O6.k (fun _ _ z => z), (K4.out.2.k0 G9.out.2).k0 O6.k⟩
        clear O6 os x1 EL G9 G8
        cases ok3
        · clear y1
          go_wp2_with fail
          go_meet
          case rel => exact K6
        · have y2 := y1 rfl
          clear y1
          subst y2
          go_wp2_with fail
          go_meet
          case rel => exact K6
    case rest =>
      have K7 : Hid (Kept (fun _ => False) w wc ∧ QR w.heap.size wc (some ⟨g, 0, none⟩) k c ms) := hcut
      clear hcut K4 SR1 SR2 vc vd a2
      obtain ⟨g', eg, _, cur', hb'⟩ := K7.out.2.ptr (by omega)
      injection eg with eg
      injection eg with eg _
      subst eg
      have a7 := K7.out.2.at HX.out.1 7 (v := .int .i64 x.to) rfl
      have f7 := soft_blk hb' (i * 11 + 7)
      have DXx := DX.out x (List.mem_of_getElem? HX.out.1)
      obtain ⟨b1, _, b3, b4, b5, b6⟩ := DXx
      clear hb'
      by_cases z : 0 ≤ x.to
      · have z1 : decide (0 ≤ x.to) = true := decide_eq_true z
        obtain ⟨l20, hl⟩ : ∃ l20, l20 = la % 20 := ⟨_, rfl⟩
        have M20 : Hid (∀ V : World, Calls Try.prog 10 #[.int .i64 la, .int .i64 20] V fun o w' => o = .returned (.int .i64 l20) ∧ w' = V) := by
          intro V; rw [hl]; exact modC _ 20 (by omega) (by omega) V
        obtain ⟨t1, ht1⟩ : ∃ t1, t1 = 1 + l20 := ⟨_, rfl⟩
        obtain ⟨t2, ht2⟩ : ∃ t2, t2 = x.to + t1 := ⟨_, rfl⟩
        have n1 : wrap64 (1 + l20) = t1 := by rw [ht1]; unfold wrap64; omega
        have n2 : wrap64 (x.to + t1) = t2 := by rw [ht2]; unfold wrap64; omega
        have n1' : IntKind.i64.wrap (1 + l20) = t1 := by rw [ht1, IntKind.wrap_i64]; omega
        have n2' : IntKind.i64.wrap (x.to + t1) = t2 := by rw [ht2, IntKind.wrap_i64]; omega
        have T2 : Hid (x.to ≤ t2) := by show x.to ≤ t2; omega
        clear hl ht1 ht2
        go_upto_region 20 with fail
        go_region_with (first | (go_at_call 10; refine (M20.out _).mono ?_; rintro o w8 ⟨rfl, rfl⟩) | fail)
        all_goals
          have Q8 : Hid (QR w.heap.size ((wc.setCell ⟨g, i * 11 + 7, none⟩ (.int .i64 t2)).drew) (some ⟨g, 0, none⟩) k c (ms.set i ⟨x.client, x.op, x.put, x.key, x.va, x.vn, x.vc, x.st, x.frm, t2, x.opn, x.tx, x.ty, x.val⟩) ∧ Kept (fun _ => False) w ((wc.setCell ⟨g, i * 11 + 7, none⟩ (.int .i64 t2)).drew)) := ⟨(K7.out.2.cell (m' := ⟨x.client, x.op, x.put, x.key, x.va, x.vn, x.vc, x.st, x.frm, t2, x.opn, x.tx, x.ty, x.val⟩) HX.out.1 7 (by omega) (.int .i64 t2) rfl ⟨rfl, rfl, rfl, rfl⟩).k0 ((Kept.refl _ _).drew), (kept_set K7.out.1 HX.out.2.2 _ _).drew⟩
          go_wp2_with fail
          refine (one Q8.out.1.crd (by omega)).mono ?_
          rintro o w9 ⟨q9, k9, c9, ok9, er9, rfl, O9⟩
          obtain ⟨R9, os, _⟩ := O9.ans
          have EL : (ms.set i ⟨x.client, x.op, x.put, x.key, x.va, x.vn, x.vc, x.st, x.frm, t2, x.opn, x.tx, x.ty, x.val⟩).map Cm.cl = (ms.map Cm.cl).set i ⟨x.cl.put, x.cl.opn, x.cl.frm, t2, x.cl.st, x.cl.val⟩ := by rw [List.map_set]; rfl
          rw [EL] at os
          obtain ⟨rfl, x1, _⟩ := os.xpl (fun y hy => by
            rcases List.mem_or_eq_of_mem_set hy with q | q
            · exact NB.out y q
            · rw [q]
              have h1 : ¬ x.frm < 0 := by omega
              have h2 : x.frm < x.to := by
                unfold Cl.bad at b1
                rw [Bool.or_eq_false_iff] at b1
                have h3 := b1.2
                have h4 : ¬ x.to = -1 := by omega
                have h5 : (!decide (x.to = -1) && decide (x.to ≤ x.frm)) = false := h3
                rw [decide_eq_false h4] at h5
                simp at h5
                exact h5
              have h6 := T2.out
              unfold Cl.bad
              show (decide (x.frm < 0) || (!decide (t2 = -1) && decide (t2 ≤ x.frm))) = false
              rw [decide_eq_false h1, decide_eq_false (show ¬ t2 ≤ x.frm by omega), Bool.and_false, Bool.or_false]) (by rw [List.length_set, List.length_map]; omega)
          have y1 : ok3 = true → ok9 = true := fun q => x1.2 (xpl_late (c0 := x.cl) (by rw [List.getElem?_map, HX.out.1]; rfl) z T2.out (X.out.1 q))
          have K9 : Hid (Kept (fun _ => False) w w9) := Q8.out.2.trans O9.k (fun _ _ z => z)
          clear O9 os x1 EL Q8
          have y2 : (ok3 = false ∨ (ok3 = true ∧ ok9 = true)) := by
            cases ok3
            · exact .inl rfl
            · exact .inr ⟨rfl, y1 rfl⟩
          clear y1
          rcases y2 with rfl | ⟨rfl, rfl⟩
          all_goals
            go_wp2_with fail
            refine (taken _).mono ?_
            rintro o w5 ⟨rfl, K5⟩
            have C5 : Hid (Kept (fun _ => False) w w5) := K9.out.trans K5 (fun _ _ z => z)
            clear K5
            go_wp2_with fail
            go_ret
            exact ⟨by first | rfl | simp, C5.out⟩
      · have z1 : decide (0 ≤ x.to) = false := decide_eq_false z
        go_wp2_with fail
        refine (taken _).mono ?_
        rintro o w5 ⟨rfl, K5⟩
        have C5 : Hid (Kept (fun _ => False) w w5) := K7.out.1.trans K5 (fun _ _ z => z)
        clear K5
        go_wp2_with fail
        go_ret
        exact ⟨by first | rfl | simp, C5.out⟩
end Go.Proofs.Ytginpoofeliimaa
