import Derived.Test.YtojfnehdanhgiaaKeepC
import Derived.Deep.RegionHeldLaw
namespace Go.Proofs.Ytojfnehdanhgiaa
open Go.RowKit

set_option maxRecDepth 100000 in
set_option maxHeartbeats 4000000 in
theorem netKeeps (q : Option Addr) (n cap : Nat) (D : List Sli) (I : Int) (w : World) (hD : Datas w q n cap D) (hb : n + 300 ≤ Big) :
    Calls Try.prog 4 #[.slice q n cap, .int .i64 I] w fun x w' => x = .returned (.bool true) ∧ Kept (fun _ => False) w w' := by
  have HD : Hid (Datas w q n cap D ∧ n + 300 ≤ Big) := ⟨hD, hb⟩
  have hr := hD.room
  have hs := hD.small
  have hln := hD.length
  unfold maxLen at hs
  clear hD hb
  have nB : n ≤ Big ∧ n + 1 ≤ Big := by have := HD.out.2; omega
  have P0 : Hid ((w.alloc (.cells #[] 30)).ownsRow w.heap.size 30 1 (.slice (some ⟨w.heap.size, 0, none⟩) 0 0) 0 (dcells []) ∧ Src Try.prog 1 22 (.slice q n cap) n (dcells D) (w.alloc (.cells #[] 30)) ∧ Kept (fun _ => False) w (w.alloc (.cells #[] 30)) ∧ n ≤ Big ∧ n + 1 ≤ Big) :=
    ⟨World.ownsRow_made w #[] 0 (Nat.le_refl _) (by unfold maxLen; omega) rfl, (HD.out.1.kept0 (alloc_kept0 _ _)).src, alloc_kept0 _ _, nB⟩
  clear nB
  go_enter Try.func4, Try.ntmps4
  go_wp2_with
    (first
      | (at_builtin; refine wpList_append_all _ rfl (.tmp 17) (.tmp 19) 22 30 22 _ 1 24 rfl Try.underlying22 Try.info30 rfl w.heap.size (.slice p1 n c1) n (dcells D) rfl ((P1.out.2.1.alloc _).alloc _ |>.owns P1.out.1 (fun _ _ q => q)) (.slice (some ⟨w1.heap.size + 1, 0, none⟩) 1 1) 1 [.slice (some ⟨w1.heap.size, 0, none⟩) 2 2] rfl (keep_src1 _ _ _ rfl) (big_max P0.out.2.2.2.2) (big_wide24 P0.out.2.2.2.2) (((P1.out.2.2.alloc _).alloc _).size) ?_; intro p2 c2 w2 ho hg hn
         have P2 : Hid (Datas w2 p2 (n + 1) c2 (D ++ [⟨some ⟨w1.heap.size, 0, none⟩, 2, 2, [9, 8]⟩]) ∧ Kept (fun _ => False) w w2) := datas_more (l := [9, 8]) HD.out.1 (by decide) (by decide) P1.out.2.2 rfl P1.out.1 ho.out hg.out
         clear ho hg hn)
      | (at_builtin; refine wpList_append_all _ rfl (.tmp 15) (.tmp 16) 22 30 22 _ 1 24 rfl Try.underlying22 Try.info30 rfl w.heap.size (.slice (some ⟨w.heap.size, 0, none⟩) 0 0) 0 (dcells []) rfl P0.out.1 (.slice q n cap) n (dcells D) rfl P0.out.2.1 (by rw [Nat.zero_add]; exact big_max P0.out.2.2.2.1) (by rw [Nat.zero_add]; exact big_wide24 P0.out.2.2.2.1) P0.out.2.2.1.size ?_; intro p1 c1 w1 ho hg hn
         rw [Nat.zero_add] at ho ⊢
         have P1 : Hid (w1.ownsRow w.heap.size 30 1 (.slice p1 n c1) n (dcells D) ∧ Kept (fun _ => False) w1 w1 ∧ Kept (fun _ => False) w w1) := ⟨ho.out, Kept.refl _ _, P0.out.2.2.1.grown hg.out (fun j hj z => by simp [Value.ownBlock] at z; omega)⟩
         clear ho hg hn)
      | fail)
  obtain ⟨m, hm⟩ : ∃ m, n + 1 = m := ⟨_, rfl⟩
  obtain ⟨D', hD'⟩ : ∃ D', D' = D ++ [(⟨some ⟨w1.heap.size, 0, none⟩, 2, 2, [9, 8]⟩ : Sli)] := ⟨_, rfl⟩
  rw [hm] at P2 ⊢
  rw [← hD'] at P2
  have mB : Hid (m + 200 ≤ Big) := by have := HD.out.2; show m + 200 ≤ Big; omega
  clear hD' P0
  refine (flown p2 m c2 D' w2 P2.out.1 (Nat.le_trans (Nat.le_add_right _ _) mB.out)).mono ?_
  rintro x w3 ⟨C, g, p, c, R, rfl, F⟩
  obtain ⟨ps, hps⟩ : ∃ ps, ps = flownP D' := ⟨_, rfl⟩
  have pl : m = ps.length := by rw [hps, flownP_length, P2.out.1.length]
  rw [← hps] at F
  have S3 : Hid (US w2 w3 C g p c R ps ps ∧ m = ps.length ∧ Kept (fun _ => False) w w2) := ⟨F.us, pl, P2.out.2⟩
  have hmB : m ≤ 4611686018427387904 := by have := mB.out; unfold Big at this; omega
  have m0 : 0 < m := by omega
  clear F hps P2 pl HD
  have m1 : ¬ ((m : Int) = 0) := by omega
  obtain ⟨y, z, i, hy, hz, hq, hi⟩ := within I m m0 hmB
  have HI : Hid (i < ps.length ∧ m = ps.length) := ⟨by rw [← S3.out.2.1]; exact hi, S3.out.2.1⟩
  obtain ⟨e, he⟩ : ∃ e, ps[i]? = some e := ⟨_, List.getElem?_eq_getElem HI.out.1⟩
  have HE : Hid (ps[i]? = some e) := he
  clear he
  go_wp2_with fail
  clear hy hz hq
  refine (nDouble w2.heap.size C g ps i w3 S3.out.1.net S3.out.1.kept.size (by rw [← HI.out.2]; have := mB.out; omega)).mono ?_
  rintro x w4 ⟨v4, rfl, D4⟩
  rw [aDouble_at ps i e HE.out] at D4
  obtain ⟨rfl, g4, n4, m4⟩ := D4
  have S4 : Hid (US w2 w4 C g4 p c R ps (ps ++ [e]) ∧ Kept (fun _ => False) w w2) := ⟨S3.out.1.moved m4 n4, S3.out.2.2⟩
  obtain ⟨M, hM⟩ : ∃ M, m + 1 = M := ⟨_, rfl⟩
  have HQ : Hid (i < (ps ++ [e]).length ∧ (ps ++ [e]).length = M ∧ (ps ++ [e])[i]? = some e ∧ (ps ++ [e]).length ≤ Big ∧ m ≤ Big ∧ m + 1 ≤ Big) := by
    have h1 := HI.out.1
    have h2 := HI.out.2
    have h3 : (ps ++ [e]).length = m + 1 := by rw [List.length_append, ← h2]; rfl
    refine ⟨by rw [List.length_append]; omega, by rw [h3, hM], ?_, by rw [h3]; have := mB.out; omega, by have := mB.out; omega, by have := mB.out; omega⟩
    rw [List.getElem?_append_left h1]
    exact HE.out
  clear n4 m4 S3
  go_wp2_with fail
  refine (copy_apart w2.heap.size C g4 (ps ++ [e]) w4 S4.out.1.net HQ.out.2.2.2.1).mono ?_
  rintro x w5 ⟨C5, q5, c5, R5, rfl, hm5, n5, A5, K5⟩
  rw [HQ.out.2.1] at n5
  have S5 : Hid (IsNet 67 w4.heap.size w5 C5 q5 M c5 R5 ∧ R5.map Ent.p = ps ++ [e] ∧ Apart R5 ∧ Kept (fun _ => False) w4 w5) := ⟨n5, hm5, A5, K5⟩
  clear n5 hm5 A5 K5
  go_upto_region 7 with fail
  have S5L : Hid (IsL w2.heap.size w5 p m c R ∧ w2.heap.size ≤ w5.heap.size) := by
    have := S4.out.1.list.kept0 S5.out.2.2.2
    rw [← HI.out.2] at this
    exact ⟨this, Nat.le_trans S4.out.1.kept.size S5.out.2.2.2.size⟩
  obtain ⟨gp, ap, lp, cp, rfl, hRi, f0, f1, f2, f3, f4, f5, gr⟩ := S5L.out.1.at i hi e (by rw [S4.out.1.same]; exact HE.out)
  have GE : Hid (Good w2.heap.size w5 ⟨e, ap, lp, cp⟩ ∧ R[i]? = some ⟨e, ap, lp, cp⟩) := ⟨gr, hRi⟩
  have gpl : gp < w5.heap.size := (own_lt S5L.out.1.own gp rfl).2
  obtain ⟨hr3, hr4⟩ := own_room S5L.out.1.own
  unfold maxLen at hr4
  have im : (i : Int) < (m : Int) := by omega
  clear gr hRi
  go_cut [9] from 42 to 50 (fun s wc => ∃ pw cw, s = .slice pw M cw ∧ Hid (Kept (fun _ => False) w5 wc ∧ IsL w2.heap.size wc pw M cw (R ++ [⟨e, ap, lp, cp⟩]) ∧ ∀ k, blockOf pw = some k → w5.heap.size ≤ k))
  case first =>
    go_region_held_law (fun w' => w'.cell? ⟨gp, i * 6, none⟩ = some (.int .i64 e.fk) ∧ w'.cell? ⟨gp, i * 6 + 1, none⟩ = some (.int .i64 e.fi) ∧ w'.cell? ⟨gp, i * 6 + 2, none⟩ = some (.int .i64 e.tk) ∧ w'.cell? ⟨gp, i * 6 + 3, none⟩ = some (.int .i64 e.ti) ∧ w'.cell? ⟨gp, i * 6 + 4, none⟩ = some (.slice ap lp cp) ∧ w'.cell? ⟨gp, i * 6 + 5, none⟩ = some (.bool e.lost)) (first | go_keep)
      (first
        | (refine step_append_d _ (by rfl) 50 (by rfl) (.tmp 44) (.tmp 49) 27 39 27 _ 6 64 (by rfl) Try.underlying27 Try.info39 rfl w5.heap.size (.slice p19 m c19) m (rcells R) (by rfl) ((show Kept (fun _ => False) w19 _ from (by repeat (first | with_reducible exact Kept.refl _ _ | with_reducible exact H19.out | with_reducible refine Kept.drew ?_ | with_reducible refine Kept.alloc ?_ _))).owns HO19.out (fun _ _ z => z)) _ 1 (Ent.cells ⟨e, ap, lp, cp⟩) (by rfl) (src_pk (by repeat (first | with_reducible exact alloc_new _ _ | with_reducible exact alloc_new2 _ _ _ _ | with_reducible exact alloc_newD _ _ _ | with_reducible exact alloc_newD2 _ _ _ _ | with_reducible refine get_alloc ?_ | with_reducible refine get_drew ?_ | with_reducible refine HG19.out _ _ ?_ (by omega)))) (big_max HQ.out.2.2.2.2.2) (big_wide HQ.out.2.2.2.2.2) (show Kept (fun _ => False) w5 _ from (by repeat (first | with_reducible exact Kept.refl _ _ | with_reducible exact H19.out | with_reducible refine Kept.drew ?_ | with_reducible refine Kept.alloc ?_ _))).size ?_; intro p20 c20 w20 ho hg hn
           have H20a := after2 H19.out (by repeat (first | with_reducible exact Kept.refl _ _ | with_reducible exact H19.out | with_reducible refine Kept.drew ?_ | with_reducible refine Kept.alloc ?_ _)) HL19.out.1 HL19.out.2.1 HL19.out.2.2 GE.out.1 (owns_mono ho.out S5L.out.2) hg.out hn.out
           have H20 : Hid (Kept (fun _ => False) w5 w20) := H20a.1
           have HW : Hid (IsL w2.heap.size w20 p20 (m + 1) c20 (R ++ [⟨e, ap, lp, cp⟩]) ∧ ∀ k, blockOf p20 = some k → w5.heap.size ≤ k) := ⟨H20a.2.2, fun k hk => (own_lt ho.out k hk).1⟩
           have c20f0 := H20.out.cell f0 (fun q => q); have c20f1 := H20.out.cell f1 (fun q => q); have c20f2 := H20.out.cell f2 (fun q => q); have c20f3 := H20.out.cell f3 (fun q => q); have c20f4 := H20.out.cell f4 (fun q => q); have c20f5 := H20.out.cell f5 (fun q => q)
           clear ho hg hn H20a)
        | (refine step_append_d _ (by rfl) 44 (by rfl) (.tmp 42) (.tmp 43) 27 39 27 _ 6 64 (by rfl) Try.underlying27 Try.info39 rfl w5.heap.size _ 0 (rcells []) (by rfl) (own0 (by repeat (first | with_reducible exact alloc_new _ _ | with_reducible exact alloc_new2 _ _ _ _ | with_reducible exact alloc_newD _ _ _ | with_reducible exact alloc_newD2 _ _ _ _ | with_reducible refine get_alloc ?_ | with_reducible refine get_drew ?_)) (by omega)) (.slice (some ⟨gp, 0, none⟩) m c) m (rcells R) (by rfl) ((S5L.out.1.kept0 (by repeat (first | with_reducible exact Kept.refl _ _ | with_reducible exact H19.out | with_reducible refine Kept.drew ?_ | with_reducible refine Kept.alloc ?_ _))).src_all c) (by rw [Nat.zero_add]; exact big_max HQ.out.2.2.2.2.1) (by rw [Nat.zero_add]; exact big_wide HQ.out.2.2.2.2.1) (show Kept (fun _ => False) w5 _ from (by repeat (first | with_reducible exact Kept.refl _ _ | with_reducible exact H19.out | with_reducible refine Kept.drew ?_ | with_reducible refine Kept.alloc ?_ _))).size ?_; intro p19 c19 w19 ho hg hn
           rw [Nat.zero_add] at ho hn ⊢
           obtain ⟨H19, H19a, H19b, H19c, HG19⟩ := after1 S5L.out.2 S5L.out.1 (by repeat (first | with_reducible exact Kept.refl _ _ | with_reducible exact H19.out | with_reducible refine Kept.drew ?_ | with_reducible refine Kept.alloc ?_ _)) (by repeat (first | with_reducible exact Kept.refl _ _ | with_reducible exact H19.out | with_reducible refine Kept.drew ?_ | with_reducible refine Kept.alloc ?_ _)) S5L.out.1 (by repeat (first | with_reducible exact alloc_new _ _ | with_reducible exact alloc_new2 _ _ _ _ | with_reducible exact alloc_newD _ _ _ | with_reducible exact alloc_newD2 _ _ _ _ | with_reducible refine get_alloc ?_ | with_reducible refine get_drew ?_)) (by omega) (fun k hk => by simp [blockOf] at hk; omega) ho.out hg.out hn.out
           replace H19 : Hid (Kept (fun _ => False) w5 w19) := H19
           replace HG19 : Hid (∀ b o, _ → _ → w19.heap[b]? = some o) := HG19
           have HL19 : Hid (IsL _ w19 (some ⟨gp, 0, none⟩) m c R ∧ IsL w2.heap.size w19 p19 m c19 R ∧ (∀ k, blockOf p19 = some k → w5.heap.size ≤ k ∧ blockOf (some ⟨gp, 0, none⟩) ≠ some k)) := ⟨H19a, H19b, H19c⟩
           have HO19 : Hid (w19.ownsRow w5.heap.size 39 6 (.slice p19 m c19) m (rcells R)) := ho.out
           have c19f0 := H19.out.cell f0 (fun q => q); have c19f1 := H19.out.cell f1 (fun q => q); have c19f2 := H19.out.cell f2 (fun q => q); have c19f3 := H19.out.cell f3 (fun q => q); have c19f4 := H19.out.cell f4 (fun q => q); have c19f5 := H19.out.cell f5 (fun q => q)
           clear ho hg hn H19a H19b H19c)
        | fail)
    all_goals go_wp2_with fail
    all_goals go_meet
    all_goals exact ⟨_, _, rfl, H20.out, by have := HW.out; rw [hM] at this; exact this⟩
  case rest =>
  obtain ⟨pw, cw, rfl, S6⟩ := hcut
  obtain ⟨wf, hwf⟩ : ∃ wf, wf = wc := ⟨_, rfl⟩
  subst hwf
  clear f0 f1 f2 f3 f4 f5
  obtain ⟨Rw, hRw⟩ : ∃ Rw, Rw = R ++ [(⟨e, ap, lp, cp⟩ : Ent)] := ⟨_, rfl⟩
  rw [← hRw] at S6
  have HRw : Hid (Rw.map Ent.p = ps ++ [e] ∧ ∀ x ∈ Rw, ∀ k, blockOf x.a = some k → k < w4.heap.size) := by
    refine ⟨by rw [hRw]; exact map_snoc (e := ⟨e, ap, lp, cp⟩) S4.out.1.same, fun x hx k hk => ?_⟩
    rw [hRw] at hx
    have hxR : x ∈ R := by
      rcases List.mem_append.1 hx with z | z
      · exact z
      · rw [List.mem_singleton.1 z]; exact List.mem_of_getElem? GE.out.2
    exact ((S4.out.1.list.good x hxR).lt k hk).2
  clear hRw GE S5L gpl hr3 hr4
  go_wp2_with fail
  refine (flight_of w2.heap.size C g4 (ps ++ [e]) wf (S4.out.1.net.kept0 (S5.out.2.2.2.trans S6.out.1 (fun _ _ z => z))) HQ.out.2.2.2.1).mono ?_
  rintro x w7 ⟨p7, c7, R7, rfl, hm7, L7, A7, K7⟩
  rw [HQ.out.2.1] at L7 ⊢
  have S7 : Hid (IsL wf.heap.size w7 p7 M c7 R7 ∧ Apart R7 ∧ Kept (fun _ => False) wf w7) := ⟨L7, A7, K7⟩
  clear hm7 L7 A7 K7
  obtain ⟨⟨P5, a5, l5, k5⟩, h5⟩ : ∃ e5, R5[i]? = some e5 := ⟨_, List.getElem?_eq_getElem (by rw [S5.out.1.list.length]; omega)⟩
  have hP5 : P5 = e := by
    have h1 : (R5.map Ent.p)[i]? = some P5 := by rw [List.getElem?_map, h5]; rfl
    rw [S5.out.2.1, HQ.out.2.2.1] at h1
    exact (Option.some.inj h1).symm
  subst hP5
  have H5 : Hid (R5[i]? = some ⟨P5, a5, l5, k5⟩) := h5
  clear h5
  go_wp2_with fail
  refine (take_ok w4.heap.size C5 q5 M c5 R5 i (by omega) w7 (S5.out.1.kept0 (S6.out.1.trans S7.out.2.2 (fun _ _ z => z))) ⟨P5, a5, l5, k5⟩ H5.out).mono ?_
  rintro x w8 ⟨rfl, m8, mv8⟩
  obtain ⟨W8, hW8⟩ : ∃ W8, W8 = w8.alloc (.cells #[.int .i64 P5.fk, .int .i64 P5.fi, .int .i64 P5.tk, .int .i64 P5.ti, .slice a5 l5 k5, .bool P5.lost] 39) := ⟨_, rfl⟩
  have EW8 : Hid (W8 = w8.alloc (.cells #[.int .i64 P5.fk, .int .i64 P5.fi, .int .i64 P5.tk, .int .i64 P5.ti, .slice a5 l5 k5, .bool P5.lost] 39)) := hW8
  obtain ⟨qn, ln, cn, Rn, hn4, hqn, hRn⟩ := S4.out.1.net
  have K8 : Kept (fun _ => False) w8 W8 := by rw [hW8]; exact alloc_kept0 _ _
  obtain ⟨B8, G8, lo8, L8⟩ := BN.make hn4 S5.out.1 S5.out.2.2.1 H5.out S5.out.2.2.2 S6.out.1 S7.out.2.2 S6.out.2.1 S6.out.2.2 HRw.out.2 m8 mv8 K8
  have L8' := L8 S7.out.1
  obtain ⟨Rm, hRm⟩ : ∃ Rm, Rm = R5.take i ++ R5.drop (i + 1) := ⟨_, rfl⟩
  rw [← hRm] at B8
  have HM : Hid (Rm.map Ent.p = (ps ++ [P5]).take i ++ (ps ++ [P5]).drop (i + 1) ∧ Rn.map Ent.p = ps ++ [P5]) := ⟨by rw [hRm, List.map_append, List.map_take, List.map_drop, S5.out.2.1], hRn⟩
  have KW : Kept (fun _ => False) w W8 := by
    have k4 := S4.out.2.trans S4.out.1.kept (fun _ _ z => z)
    have k7 := ((k4.trans S5.out.2.2.2 (fun _ _ z => z)).trans S6.out.1 (fun _ _ z => z)).trans S7.out.2.2 (fun _ _ z => z)
    have k48 := k4.size
    have n5 := S5.out.1
    exact (k7.trans mv8.kept (fun k hk z => by
      rcases z with z | z
      · have := n5.low; omega
      · have := (own_lt n5.list.own k z).1; omega)).trans K8 (fun _ _ z => z)
  have bx : W8.heap[w8.heap.size]? = some (.cells #[.int .i64 P5.fk, .int .i64 P5.fi, .int .i64 P5.tk, .int .i64 P5.ti, .slice a5 l5 k5, .bool P5.lost] 39 (0, 0)) := by rw [hW8]; exact alloc_new _ _
  have T46 : w4.heap.size ≤ wf.heap.size := Nat.le_trans S5.out.2.2.2.size S6.out.1.size
  have T24 : w2.heap.size ≤ w4.heap.size := S4.out.1.kept.size
  have T68 : wf.heap.size ≤ W8.heap.size := Nat.le_trans S7.out.2.2.size (Nat.le_trans mv8.kept.size K8.size)
  have B : Hid (BN wf.heap.size a5 w2.heap.size w4.heap.size W8 C qn ln cn Rn C5 q5 (M - 1) c5 Rm pw M cw Rw ∧ Good w4.heap.size W8 ⟨P5, a5, l5, k5⟩ ∧ (∀ k, blockOf a5 = some k → k < wf.heap.size) ∧ IsL wf.heap.size W8 p7 M c7 R7 ∧ Apart R7 ∧ Kept (fun _ => False) w W8 ∧ w.heap.size ≤ wf.heap.size) := ⟨B8, G8, lo8, L8', S7.out.2.1, KW, Nat.le_trans (Nat.le_trans S4.out.2.size T24) T46⟩
  have M2B : Hid (M + 2 ≤ Big ∧ w2.heap.size ≤ w4.heap.size ∧ w4.heap.size ≤ wf.heap.size ∧ wf.heap.size ≤ W8.heap.size) := ⟨by have := mB.out; omega, T24, T46, T68⟩
  obtain ⟨x0, x1, x2, x3, x4, x5, _⟩ := cell6 _ _ _ _ _ _ _ _ bx
  obtain ⟨hr3, hr4⟩ := own_room L8'.own
  unfold maxLen at hr4
  have WS4 : Hid (w.heap.size ≤ w4.heap.size) := (S4.out.2.trans S4.out.1.kept (fun _ _ z => z)).size
  clear hW8 hn4 hqn hRn K8 B8 G8 lo8 L8 L8' hRm KW bx T46 T24 T68 m8 mv8 S4 S5 S6 S7 H5
  have M0 : 0 < M := by omega
  have M1 : (0 : Int) < (M : Int) := by omega
  go_upto_region 10 with fail
  rw [← EW8.out]
  go_cut [73] from 59 to 72 (fun s wd => s = .bool false ∧ Hid (BN wf.heap.size a5 w2.heap.size w4.heap.size wd C qn ln cn Rn C5 q5 (M - 1) c5 Rm pw M cw Rw ∧ Kept (fun _ => False) w wd ∧ w2.heap.size ≤ wd.heap.size))
  case first =>
    have KD : Hid (Kept (fun _ => False) W8 W8.drew) := (Kept.refl (fun _ => False) W8).drew
    go_region_law
      (first
        | (refine step_call_g _ (by rfl) 71 (by rfl) 17 [.tmp 70] _ (by rfl) [.slice p11 (M + 2) c11] (by rfl) (enter17 _ _) ((apart w2.heap.size p11 (M + 2) c11 _ w11 X11.out.1 X11.out.2.1 M2B.out.1 X11.out.2.2.2.2.1).mono ?_); rintro x w12 ⟨rfl, K12⟩; refine ⟨_, rfl, ?_⟩
           have X12 : Hid (BN wf.heap.size a5 w2.heap.size w4.heap.size w12 C qn ln cn Rn C5 q5 (M - 1) c5 Rm pw M cw Rw ∧ Kept (fun _ => False) w w12 ∧ w2.heap.size ≤ w12.heap.size) := by
             refine ⟨X11.out.2.2.1.off K12 X11.out.2.2.2.1, X11.out.2.2.2.2.2.trans K12 (fun k hk z => ?_), Nat.le_trans X11.out.2.2.2.2.1 K12.size⟩
             rcases X11.out.2.2.2.1 k z with h1 | h1
             · have := B.out.2.2.2.2.2.2; omega
             · have h2 := (B.out.2.1.lt k h1).1
               have h3 := WS4.out
               omega
           clear K12)
        | (refine step_append_g _ (by rfl) 70 (by rfl) (.tmp 62) (.tmp 69) 27 39 27 _ 6 64 (by rfl) Try.underlying27 Try.info39 rfl wf.heap.size (.slice p7 M c7) M (rcells R7) (by rfl) (B.out.2.2.2.1.kept0 (X10.out.2.1.alloc _)).own _ 2 (rcells [⟨P5, a5, l5, k5⟩, ⟨P0, a0, l0, k0⟩]) (by rfl) (src_two (e := ⟨P5, a5, l5, k5⟩) (f := ⟨P0, a0, l0, k0⟩) (alloc_new _ _)) (big_max M2B.out.1) (big_wide M2B.out.1) (Nat.le_trans M2B.out.2.2.2 (X10.out.2.1.alloc _).size) ?_; intro p11 c11 w11 ho hg hn
           have X11 : Hid (IsL w2.heap.size w11 p11 (M + 2) c11 (R7 ++ [⟨P5, a5, l5, k5⟩, ⟨P0, a0, l0, k0⟩]) ∧ Apart (R7 ++ [⟨P5, a5, l5, k5⟩, ⟨P0, a0, l0, k0⟩]) ∧ BN wf.heap.size a5 w2.heap.size w4.heap.size w11 C qn ln cn Rn C5 q5 (M - 1) c5 Rm pw M cw Rw ∧ (∀ k, DB (R7 ++ [⟨P5, a5, l5, k5⟩, ⟨P0, a0, l0, k0⟩]) k → wf.heap.size ≤ k ∨ blockOf a5 = some k) ∧ w2.heap.size ≤ w11.heap.size ∧ Kept (fun _ => False) w w11) := by
             have KY := X10.out.2.1.alloc (.cells #[.int .i64 P5.fk, .int .i64 P5.fi, .int .i64 P5.tk, .int .i64 P5.ti, .slice a5 l5 k5, .bool P5.lost, .int .i64 P0.fk, .int .i64 P0.fi, .int .i64 P0.tk, .int .i64 P0.ti, .slice a0 l0 k0, .bool P0.lost] 39)
             have L7 := B.out.2.2.2.1.kept0 KY
             have M8 := M2B.out
             have X0 := X10.out.2.2
             obtain ⟨r1, r2, r3, r4⟩ := apart_list (w10 := w9) L7 B.out.2.2.2.2.1 ((B.out.2.1.mono M8.2.1).kept0 KY) (X10.out.1.kept0 (alloc_kept0 _ _)) (by omega) B.out.2.2.1 (fun x hx k hk => by have := ((B.out.2.2.2.1.good x hx).lt k hk).2; omega) (by omega) ho.out hg.out
             have bn := (B.out.1.quiet KY).off r3 (fun k z => .inl (own_lt L7.own k z).1)
             have kw := (B.out.2.2.2.2.2.1.trans KY (fun _ _ z => z)).trans r3 (fun k hk z => by have h1 := (own_lt L7.own k z).1; have h2 := B.out.2.2.2.2.2.2; omega)
             exact ⟨r1, r2, bn, r4, by have := r3.size; have := KY.size; omega, kw⟩
           clear ho hg hn)
        | (refine step_call_g _ (by rfl) 66 (by rfl) 10 [.tmp 65] _ (by rfl) [.pointer (some ⟨C9, 0, none⟩)] (by rfl) (enter10 _ _) ((flight_of W8.drew.heap.size C9 g9 (ps ++ [P5]) w9 X9.out.1 HQ.out.2.2.2.1).mono ?_); rintro x w10 ⟨p10, c10, R10, rfl, hm10, L10, _, K10⟩; refine ⟨_, rfl, ?_⟩
           rw [HQ.out.2.1] at L10 ⊢
           obtain ⟨P0, hP0⟩ : ∃ P0, (R10.map Ent.p)[0]? = some P0 := ⟨_, List.getElem?_eq_getElem (by rw [List.length_map, L10.length]; omega)⟩
           obtain ⟨g10, a0, l0, k0, rfl, _, t0, t1, t2, t3, t4, t5, gf⟩ := L10.at 0 (by omega) P0 hP0
           simp only [Nat.zero_mul, Nat.zero_add] at t0 t1 t2 t3 t4 t5
           have K8T : Kept (fun _ => False) W8 w10 := X9.out.2.trans K10 (fun _ _ z => z)
           have X10 : Hid (Good w9.heap.size w10 ⟨P0, a0, l0, k0⟩ ∧ Kept (fun _ => False) W8 w10 ∧ W8.heap.size ≤ w9.heap.size) := ⟨gf, K8T, X9.out.2.size⟩
           have u0 := K8T.cell x0 (fun z => z); have u1 := K8T.cell x1 (fun z => z); have u2 := K8T.cell x2 (fun z => z); have u3 := K8T.cell x3 (fun z => z); have u4 := K8T.cell x4 (fun z => z); have u5 := K8T.cell x5 (fun z => z)
           obtain ⟨hd1, hd2⟩ := own_room L10.own
           unfold maxLen at hd2
           clear hm10 L10 K10 hP0 gf K8T)
        | (refine step_call_g _ (by rfl) 65 (by rfl) 11 [.tmp 64] _ (by rfl) [.pointer (some ⟨C, 0, none⟩)] (by rfl) (enter11 _ _) ((copy_of w2.heap.size C (blockOf qn) (ps ++ [P5]) W8.drew ⟨qn, ln, cn, Rn, (B.out.1.n.kept0 KD.out), rfl, HM.out.2⟩ HQ.out.2.2.2.1).mono ?_); rintro x w9 ⟨C9, g9, rfl, n9, K9⟩; refine ⟨_, rfl, ?_⟩
           have K89 : Kept (fun _ => False) W8 w9 := KD.out.trans K9 (fun _ _ z => z)
           have X9 : Hid (NetOf 67 W8.drew.heap.size w9 C9 g9 (ps ++ [P5]) ∧ Kept (fun _ => False) W8 w9) := ⟨n9, K89⟩
           have v0 := K89.cell x0 (fun z => z); have v1 := K89.cell x1 (fun z => z); have v2 := K89.cell x2 (fun z => z); have v3 := K89.cell x3 (fun z => z); have v4 := K89.cell x4 (fun z => z); have v5 := K89.cell x5 (fun z => z)
           clear n9 K9 K89)
        | fail)
    all_goals go_wp2_with fail
    all_goals go_meet
    all_goals exact ⟨rfl, X12.out⟩
  case rest =>
  clear B x0 x1 x2 x3 x4 x5
  obtain ⟨rfl, B⟩ := hcut
  obtain ⟨wd, hwd⟩ : ∃ wd, wd = wc := ⟨_, rfl⟩
  subst hwd
  obtain ⟨gl, al, nl, cl, rfl, _⟩ := B.out.1.l.at i (by omega) P5 (by rw [HRw.out.1]; exact HQ.out.2.2.1)
  obtain ⟨hr1, hr2⟩ := own_room B.out.1.l.own
  unfold maxLen at hr2
  obtain ⟨pt, ct, slt, hpt⟩ := slice27i gl M cw i (by omega) hr1
  have w1' : IntKind.i64.wrap ((i : Int) + 1) = (i : Int) + 1 := by rw [IntKind.wrap_i64]; omega
  have HPT : Hid (i + 1 < M → pt = ⟨gl, (i + 1) * 6, none⟩) := hpt
  have M4 : Hid (i ≤ Big ∧ i + (M - (i + 1)) ≤ Big ∧ w2.heap.size ≤ wd.heap.size) := ⟨by have := mB.out; omega, by have := mB.out; omega, B.out.2.2⟩
  have ic : i ≤ cw := by omega
  clear hpt
  go_upto_region 12 with fail
  go_cut [13] from 74 to 83 (fun s we => ∃ pl cl, s = .slice pl (M - 1) cl ∧ Hid (Kept (fun _ => False) wd we ∧ IsL w2.heap.size we pl (M - 1) cl (Rw.take i ++ Rw.drop (i + 1))))
  case first =>
    go_region_law
      (first
        | (refine step_append_d _ (by rfl) 83 (by rfl) (.tmp 78) (.tmp 82) 27 39 27 _ 6 64 (by rfl) Try.underlying27 Try.info39 rfl wd.heap.size (.slice p5 i c5') i (rcells (Rw.take i)) (by rfl) ((show Kept (fun _ => False) w19 _ from (by repeat (first | with_reducible exact Kept.refl _ _ | with_reducible exact H19.out | with_reducible refine Kept.drew ?_ | with_reducible refine Kept.alloc ?_ _))).owns O5.out (fun _ _ z => z)) (.slice (some pt) (M - (i + 1)) ct) (M - (i + 1)) (rcells (Rw.drop (i + 1))) (by rfl) ((B.out.1.l.kept0 (by repeat (first | with_reducible exact Kept.refl _ _ | with_reducible exact H19.out | with_reducible refine Kept.drew ?_ | with_reducible refine Kept.alloc ?_ _))).src_drop (i + 1) HPT.out ct) (big_max M4.out.2.1) (big_wide M4.out.2.1) (show Kept (fun _ => False) wd _ from (by repeat (first | with_reducible exact Kept.refl _ _ | with_reducible exact H19.out | with_reducible refine Kept.drew ?_ | with_reducible refine Kept.alloc ?_ _))).size ?_; intro p6 c6 w6 ho hg hn
           have L6 : Hid (Kept (fun _ => False) wd w6 ∧ IsL w2.heap.size w6 p6 (i + (M - (i + 1))) c6 (Rw.take i ++ Rw.drop (i + 1))) := by
             have K6 : Kept (fun _ => False) wd w6 := (show Kept (fun _ => False) wd _ from (by repeat (first | with_reducible exact Kept.refl _ _ | with_reducible exact H19.out | with_reducible refine Kept.drew ?_ | with_reducible refine Kept.alloc ?_ _))).grown hg.out (fun j hj z => by have := (O5.out.lt j z).1; omega)
             refine ⟨K6, B.out.1.l.parts (W := wd) K6 (by rw [rcells_append]; exact ho.out) (fun x hx => ?_) M4.out.2.2⟩
             rcases List.mem_append.1 hx with z | z
             · exact List.mem_of_mem_take z
             · exact List.mem_of_mem_drop z
           clear ho hg hn)
        | (refine step_append_d _ (by rfl) 78 (by rfl) (.tmp 74) (.tmp 77) 27 39 27 _ 6 64 (by rfl) Try.underlying27 Try.info39 rfl wd.heap.size _ 0 (rcells []) (by rfl) (own0 (by repeat (first | with_reducible exact alloc_new _ _ | with_reducible exact alloc_newD _ _ _ | with_reducible refine get_alloc ?_ | with_reducible refine get_drew ?_)) (by omega)) (.slice (some ⟨gl, 0, none⟩) i cw) i (rcells (Rw.take i)) (by rfl) ((B.out.1.l.kept0 (by repeat (first | with_reducible exact Kept.refl _ _ | with_reducible exact H19.out | with_reducible refine Kept.drew ?_ | with_reducible refine Kept.alloc ?_ _))).src_take i (by omega) cw) (by rw [Nat.zero_add]; exact big_max M4.out.1) (by rw [Nat.zero_add]; exact big_wide M4.out.1) (show Kept (fun _ => False) wd _ from (by repeat (first | with_reducible exact Kept.refl _ _ | with_reducible exact H19.out | with_reducible refine Kept.drew ?_ | with_reducible refine Kept.alloc ?_ _))).size ?_; intro p5 c5' w19 ho hg hn
           rw [Nat.zero_add] at ho ⊢
           have O5 : Hid (w19.ownsRow wd.heap.size 39 6 (.slice p5 i c5') i (rcells (Rw.take i))) := ho
           have H19 : Hid (Kept (fun _ => False) wd w19) := (show Kept (fun _ => False) wd _ from (by repeat (first | with_reducible exact Kept.refl _ _ | with_reducible exact H19.out | with_reducible refine Kept.drew ?_ | with_reducible refine Kept.alloc ?_ _))).grown hg.out (fun j hj z => by simp [Value.ownBlock] at z; omega)
           clear ho hg hn)
        | fail)
    all_goals go_wp2_with fail
    all_goals go_meet
    all_goals exact ⟨p6, c6, by rw [show i + (M - (i + 1)) = M - 1 by omega], by have := L6.out; rw [show i + (M - (i + 1)) = M - 1 by omega] at this; exact this⟩
  case rest =>
  obtain ⟨pl, cl, rfl, LF⟩ := hcut
  obtain ⟨we, hwe⟩ : ∃ we, we = wc := ⟨_, rfl⟩
  subst hwe
  obtain ⟨ps2, hps2⟩ : ∃ ps2, ps2 = (ps ++ [P5]).take i ++ (ps ++ [P5]).drop (i + 1) := ⟨_, rfl⟩
  have HP2 : Hid (ps2.length = M - 1 ∧ Rm.map Ent.p = ps2 ∧ (Rw.take i ++ Rw.drop (i + 1)).map Ent.p = ps2 ∧ ps2.length ≤ Big) := by
    have h1 : ps2.length = M - 1 := by
      rw [hps2, List.length_append, List.length_take, List.length_drop, HQ.out.2.1]
      omega
    refine ⟨h1, by rw [hps2]; exact HM.out.1, by rw [hps2, List.map_append, List.map_take, List.map_drop, HRw.out.1], by rw [h1]; have := mB.out; omega⟩
  have B2 : Hid (BN wf.heap.size a5 w2.heap.size w4.heap.size we C qn ln cn Rn C5 q5 (M - 1) c5 Rm (some ⟨gl, 0, none⟩) M cw Rw ∧ Kept (fun _ => False) w we) := ⟨B.out.1.quiet LF.out.1, B.out.2.1.trans LF.out.1 (fun _ _ z => z)⟩
  clear hps2 B
  go_wp2_with fail
  refine (flight_of w2.heap.size C (blockOf qn) (ps ++ [P5]) we ⟨qn, ln, cn, Rn, B2.out.1.n, rfl, HM.out.2⟩ HQ.out.2.2.2.1).mono ?_
  rintro x w13 ⟨p13, c13, R13, rfl, hm13, L13, _, K13⟩
  rw [HQ.out.2.1] at L13 ⊢
  have X13 : Hid (IsL _ w13 p13 M c13 R13 ∧ R13.map Ent.p = Rw.map Ent.p ∧ Kept (fun _ => False) we w13) := ⟨L13, hm13.trans HRw.out.1.symm, K13⟩
  clear hm13 L13 K13
  go_wp2_with fail
  refine (same _ _ p13 (some ⟨gl, 0, none⟩) M c13 cw R13 Rw w13 X13.out.1 (B2.out.1.l.kept0 X13.out.2.2) X13.out.2.1).mono ?_
  rintro x w14 ⟨rfl, K14⟩
  have X14 : Hid (Kept (fun _ => False) we w14) := X13.out.2.2.trans K14 (fun _ _ z => z)
  clear K14
  go_wp2_with fail
  refine (flight_of w4.heap.size C5 (blockOf q5) ps2 w14 ⟨q5, M - 1, c5, Rm, B2.out.1.m.kept0 X14.out, rfl, HP2.out.2.1⟩ HP2.out.2.2.2).mono ?_
  rintro x w15 ⟨p15, c15, R15, rfl, hm15, L15, _, K15⟩
  rw [HP2.out.1] at L15 ⊢
  have X15 : Hid (IsL _ w15 p15 (M - 1) c15 R15 ∧ R15.map Ent.p = (Rw.take i ++ Rw.drop (i + 1)).map Ent.p ∧ Kept (fun _ => False) we w15) := ⟨L15, hm15.trans HP2.out.2.2.1.symm, X14.out.trans K15 (fun _ _ z => z)⟩
  clear hm15 L15 K15
  go_wp2_with fail
  refine (same _ _ p15 pl (M - 1) c15 cl R15 (Rw.take i ++ Rw.drop (i + 1)) w15 X15.out.1 (LF.out.2.kept0 X15.out.2.2) X15.out.2.1).mono ?_
  rintro x w16 ⟨rfl, K16⟩
  have X16 : Hid (Kept (fun _ => False) we w16) := X15.out.2.2.trans K16 (fun _ _ z => z)
  clear K16
  go_wp2_with fail
  refine (taken _).mono ?_
  rintro x w17 ⟨rfl, K17⟩
  have KF : Hid (Kept (fun _ => False) w w17) := (B2.out.2.trans X16.out (fun _ _ z => z)).trans K17 (fun _ _ z => z)
  clear K17
  go_wp2_with fail
  go_ret
  exact ⟨by first | rfl | simp, KF.out⟩
end Go.Proofs.Ytojfnehdanhgiaa
