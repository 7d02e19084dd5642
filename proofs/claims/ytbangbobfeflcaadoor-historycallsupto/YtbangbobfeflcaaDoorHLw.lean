import Derived.Test.YtbangbobfeflcaaDoorHRt
import Derived.Test.YtbangbobfeflcaaDoorHTk
import Derived.Test.YtbangbobfeflcaaDoorHCl
import Derived.Test.YtbangbobfeflcaaDoorHSc
namespace Go.Proofs.YtbangbobfeflcaaDoor
open Go.RowKit 

theorem ecs_take (L : List Ev) (m : Nat) (hm : m ≤ L.length) : ecs (L.take m) = (ecs L).take (m * 9) := by
  have e : ecs L = ecs (L.take m) ++ ecs (L.drop m) := by rw [← ecs_append, List.take_append_drop]
  rw [e, List.take_left' (by rw [ecs_len, List.length_take, Nat.min_eq_left hm])]
theorem ecs_drop (L : List Ev) (m : Nat) (hm : m ≤ L.length) : ecs (L.drop m) = (ecs L).drop (m * 9) := by
  have e : ecs L = ecs (L.take m) ++ ecs (L.drop m) := by rw [← ecs_append, List.take_append_drop]
  rw [e, List.drop_left' (by rw [ecs_len, List.length_take, Nat.min_eq_left hm])]
theorem ecs_oneC (L : List Ev) : ∀ v ∈ ecs L, v.oneCell' = true := fun v hv => by
  unfold ecs at hv
  obtain ⟨e, _, he⟩ := List.mem_flatMap.1 hv
  exact ev_one e v he
/-- What a part of a list of events yields to an append. -/
theorem src_part {w : World} {p : Option Addr} {n c : Nat} {es : List Ev} (h : ERd w p n c es) (lo hi : Nat) (h1 : lo ≤ hi) (h2 : hi ≤ n) (q : Option Addr) (cq : Nat) (hq : lo < hi → ∀ b off, p = some ⟨b, off, none⟩ → q = some ⟨b, off + lo * 9, none⟩) : Src Tryd.prog 9 22 (.slice q (hi - lo) cq) (hi - lo) (ecs ((es.drop lo).take (hi - lo))) w := by
  have hl : ((es.drop lo).take (hi - lo)).length = hi - lo := by rw [List.length_take, List.length_drop, h.len]; omega
  by_cases h0 : lo < hi
  · obtain ⟨b, off, rfl, hc⟩ := h.cells (by omega)
    have hq := hq h0 b off rfl
    subst hq
    refine Src.ofSlice w Tryd.underlying22 ⟨b, off + lo * 9, none⟩ (hi - lo) cq _ (by rw [ecs_len, hl]) (fun j u hj => ?_) (ecs_oneC _)
    have jl := (List.getElem?_eq_some_iff.1 hj).1
    rw [ecs_len, hl] at jl
    obtain ⟨t, k, rfl, hk⟩ : ∃ t k, j = t * 9 + k ∧ k < 9 := ⟨j / 9, j % 9, by omega, by omega⟩
    have tl : t < hi - lo := by omega
    rw [ecs_get _ t (by rw [hl]; exact tl) k hk] at hj
    rw [List.getElem_take, List.getElem_drop] at hj
    have := hc (lo + t) (by rw [h.len]; omega) k u hj
    rw [Addr.add_none]
    rw [show off + lo * 9 + (t * 9 + k) = off + (lo + t) * 9 + k by omega]
    exact this
  · have e0 : hi - lo = 0 := by omega
    rw [e0]
    show Src Tryd.prog 9 22 (.slice q 0 cq) 0 [] w
    cases q with
    | none => exact Src.ofNil w Tryd.underlying22 cq
    | some a => exact Src.ofSlice w Tryd.underlying22 a 0 cq [] rfl (fun j u hj => by cases hj) (fun v hv => by cases hv)
theorem slice_ev {w : World} {p : Option Addr} {n c : Nat} {es : List Ev} (h : ERd w p n c es) (mn : Nat) (hm : mn ≤ n) (W : World) : (Instr.slice 22 (.slice p n c) none (some (.int .i64 (mn : Int))) none).run Tryd.prog W = .ok (.slice p mn c) W := by
  have h1 := h.room
  have h2 := h.small
  unfold maxLen at h2
  have h3 : mn ≤ c := by omega
  by_cases h0 : 0 < n
  · obtain ⟨b, off, rfl, _⟩ := h.cells h0
    simp [Instr.slice, Instr.sliceBounds, Instr.sliceBound, asIntOf, run_underlying Tryd.underlying22, h3]
    intro _
    rw [Addr.add_none, Nat.add_zero]
  · have : mn = 0 := by omega
    subst this
    cases p with
    | none => simp [Instr.slice, Instr.sliceBounds, Instr.sliceBound, asIntOf, run_underlying Tryd.underlying22]
    | some ad =>
      simp [Instr.slice, Instr.sliceBounds, Instr.sliceBound, asIntOf, run_underlying Tryd.underlying22]
      intro _
      obtain ⟨b, off, q⟩ := ad
      unfold Addr.add
      split <;> simp_all
theorem rs_ki {w wr : World} {nb kb n ec k cc : Nat} {ep cp : Option Addr} {es : List Ev} {cs : List Ca} {now : Nat → Bz} (h : RS w wr nb kb n ep ec cp k cc es cs now) : ∀ e ∈ es, KI e.client ∧ KI e.op := fun e he => by
  obtain ⟨c, h1, h2, h3⟩ := h.ri.mem e he
  have h4 := h.ri.op c h1
  have h5 := (fault_parts (chk_fault es _ _ h.ri.ck e he)).1
  unfold KI
  omega
theorem rs_erd {w wr : World} {nb kb n ec k cc : Nat} {ep cp : Option Addr} {es : List Ev} {cs : List Ca} {now : Nat → Bz} (h : RS w wr nb kb n ep ec cp k cc es cs now) : ERd wr ep n ec es := h.er.erd (fun e he => Reads.kept h.kept (h.ev e he).1 (fun _ _ z => z))
theorem rs_crd {w wr : World} {nb kb n ec k cc : Nat} {ep cp : Option Addr} {es : List Ev} {cs : List Ca} {now : Nat → Bz} (h : RS w wr nb kb n ep ec cp k cc es cs now) : CaRd wr cp k cc cs := h.cr.crd (fun e he => Reads.kept h.kept (h.cv e he) (fun _ _ z => z))
theorem cc_same {L cs : List Ca} {es : List Ev} (h1 : L.map (fun x => some x.cc) = callsE es) (h2 : (cs.map Ca.cc).map some = callsE es) : L.map Ca.cc = cs.map Ca.cc := by
  have e : (L.map Ca.cc).map some = (cs.map Ca.cc).map some := by
    rw [h2, ← h1, List.map_map]
    rfl
  exact List.map_inj_right (fun _ _ => Option.some.inj) |>.1 e
theorem slice_from {b off n c : Nat} (kk : Nat) (h1 : kk ≤ n) (W : World) : (Instr.slice 22 (.slice (some ⟨b, off, none⟩) n c) (some (.int .i64 (kk : Int))) none none).run Tryd.prog W = .ok (.slice (if c = kk then some ⟨b, off, none⟩ else some ⟨b, off + kk * 9, none⟩) (n - kk) (c - kk)) W := by
  by_cases h5 : c = kk
  · simp [Instr.slice, Instr.sliceBounds, Instr.sliceBound, asIntOf, run_underlying Tryd.underlying22, h1, h5]
  · simp [Instr.slice, Instr.sliceBounds, Instr.sliceBound, asIntOf, run_underlying Tryd.underlying22, h1, h5]
    rw [Addr.add_none]
theorem odd_more {w V w9 : World} {p p9 : Option Addr} {k c c9 m : Nat} {L M : List Ev} (h : EaR w.heap.size V p k c L) (K : Kept (fun _ => False) w V) (hm : M.length = m) (ho : w9.ownsRow w.heap.size 45 9 (.slice p9 (k + m) c9) (k + m) (ecs L ++ ecs M)) (hg : V.grownBy w9 (Value.slice p k c).ownBlock) : EaR w.heap.size w9 p9 (k + m) c9 (L ++ M) ∧ Kept (fun _ => False) w w9 := by
  obtain ⟨r, KG⟩ := h.more hm ho hg
  exact ⟨r, K.own KG (fun j z => (own_lt h.row j z).1)⟩
theorem ev_split {es : List Ev} {k : Nat} {e : Ev} (h : es[k]? = some e) : es = es.take k ++ e :: es.drop (k + 1) := by
  obtain ⟨hl, he⟩ := List.getElem?_eq_some_iff.1 h
  rw [← he, ← List.drop_eq_getElem_cons hl, List.take_append_drop]
set_option maxRecDepth 100000 in
set_option maxHeartbeats 8000000 in
theorem hLaw {w : World} {p0 : Option Addr} {n c0 : Nat} {ms : List Mv} (mr : MRd w p0 n c0 ms) (hn : n ≤ 1048576) (G : Glob w) (at_ : Int) (tw : Bool) : Calls Tryd.prog 4 #[.slice p0 n c0, .int .i64 at_, .bool tw] w fun o w' => o = .returned (.bool true) ∧ Kept (fun _ => False) w w' := by
  have C9 : Hid (Calls Tryd.prog 9 #[.slice p0 n c0] w (RetR w n)) := hRight mr hn
  have GL : Hid (Glob w) := G
  have HN : Hid (n ≤ 1048576) := hn
  clear mr G
  go_enter Tryd.func4, Tryd.ntmps4
  go_wp2_with fail
  refine C9.out.mono ?_
  rintro o w1 ⟨ep, ec, cp, k, cc, es, cs, nb, kb, now, rfl, R'⟩
  have R : Hid (RS w w1 nb kb n ep ec cp k cc es cs now) := R'
  have erm := (rs_erd R').room
  have esm := (rs_erd R').small
  unfold maxLen at esm
  clear R' C9
  have C10 : Hid (∀ V, Kept (fun _ => False) w1 V → Calls Tryd.prog 10 #[.slice ep n ec] V (RetI2 fun a b w' => (a, b) = chkE es noM 0 ∧ Kept (fun _ => False) V w')) := fun V K => hCheck ((rs_erd R.out).k0 K) (by have := HN.out; omega) (fun e he => (rs_ki R.out e he).1)
  go_wp2_with fail
  refine (C10.out _ (Kept.refl _ _)).mono ?_
  rintro o w2 ⟨a, b, rfl, hab, K2'⟩
  rw [R.out.ri.ck] at hab
  have ha : a = -1 := congrArg Prod.fst hab
  have hb : b = 0 := congrArg Prod.snd hab
  subst ha
  subst hb
  have K2 : Hid (Kept (fun _ => False) w1 w2) := K2'
  clear hab K2' C10
  have C11 : Hid (Calls Tryd.prog 11 #[.slice ep n ec] w2 (RetK (ClQ w2 es))) := hCalls ((rs_erd R.out).k0 K2.out) (by have := HN.out; omega) (rs_ki R.out) (fun x hx => by have := (R.out.ev x hx).2; omega)
  go_wp2_with fail
  refine C11.out.mono ?_
  rintro o w3 ⟨lp, lk, lc, f, rfl, Q⟩
  have K3 : Hid (Kept (fun _ => False) w1 w3) := K2.out.trans Q.kept (fun _ _ z => z)
  obtain ⟨L, KA, hL⟩ := Q.ans
  have f0 : f = 0 := by
    rcases hL with ⟨z, _, a, ha⟩ | ⟨z, _⟩
    · rw [R.out.ri.ck] at ha
      exact absurd (congrArg Prod.snd ha).symm z
    · exact z
  subst f0
  have hL2 : L.map (fun x => some x.cc) = callsE es := by
    rcases hL with ⟨z, _⟩ | ⟨_, _, z⟩
    · exact absurd rfl z
    · exact z
  have tb := told_bytes (rs_erd R.out) hL2
  have hcc := cc_same hL2 R.out.ri.cs
  have hlk : lk = k := by
    have q := congrArg List.length hcc
    rw [List.length_map, List.length_map, KA.len, R.out.cr.len] at q
    exact q
  subst hlk
  have LL : Hid (CaRd w3 lp lk lc L ∧ L.map Ca.cc = cs.map Ca.cc) := ⟨KA.crd tb, hcc⟩
  clear hcc tb hL2 hL KA Q C11
  have C5 : Hid (∀ V, Kept (fun _ => False) w1 V → Calls Tryd.prog 5 #[] V fun o w' => o = .returned (.bool true) ∧ Kept (fun _ => False) V w') := fun V K => hTaken V (GL.out.kept (R.out.kept.trans K (fun _ _ z => z)))
  go_wp2_with fail
  refine (C5.out _ K3.out).mono ?_
  rintro o w4 ⟨rfl, K4'⟩
  have K4 : Hid (Kept (fun _ => False) w1 w4) := K3.out.trans K4' (fun _ _ z => z)
  have C12 : Hid (Calls Tryd.prog 12 #[.slice lp lk lc, .slice cp lk cc] w4 fun o w' => o = .returned (.bool true) ∧ Kept (fun _ => False) w4 w') := hSameCalls (LL.out.1.k0 K4') ((rs_crd R.out).k0 K4.out) LL.out.2
  clear C5 K4'
  go_wp2_with fail
  refine C12.out.mono ?_
  rintro o w5 ⟨rfl, K5'⟩
  have K5 : Hid (Kept (fun _ => False) w1 w5) := K4.out.trans K5' (fun _ _ z => z)
  clear C12 K5' LL K2 K3 K4
  by_cases h0 : n = 0
  · have z0 : (n : Int) = 0 := by omega
    have z1 : ((n : Int) == 0) = true := by simp [h0]
    have F : Hid (Kept (fun _ => False) w w5) := R.out.kept.trans K5.out (fun _ _ z => z)
    clear K5 R
    go_wp2_with fail
    go_ret
    exact ⟨by first | rfl | simp, F.out⟩
  · have z1 : ((n : Int) == 0) = false := by simp [h0]
    obtain ⟨kk, hkk⟩ : ∃ r : Nat, (r : Int) = at_ % (n : Int) := ⟨(at_ % (n : Int)).toNat, by have := Int.emod_nonneg at_ (show (n : Int) ≠ 0 by omega); omega⟩
    have kn : kk < n := by have := Int.emod_lt_of_pos at_ (show (0 : Int) < (n : Int) by omega); omega
    have CM : Hid (∀ V, Calls Tryd.prog 13 #[.int .i64 at_, .int .i64 (n : Int)] V fun o w' => o = .returned (.int .i64 (kk : Int)) ∧ w' = V) := fun V => lModR at_ n (by omega) (by omega) hkk V
    clear hkk
    go_wp2_with fail
    refine (CM.out _).mono ?_
    rintro o w6 ⟨rfl, hw6⟩
    subst hw6
    clear CM
    have RD : Hid (ERd w6 ep n ec es) := (rs_erd R.out).k0 K5.out
    obtain ⟨be, oe, rfl, _⟩ := RD.out.cells (by omega)
    have kc : kk ≤ ec := by omega
    have OW0 : Hid (EaR w6.heap.size (w6.alloc (.cells #[] 45)) (some ⟨w6.heap.size, 0, none⟩) 0 0 []) := ⟨rfl, rfl, .inr ⟨w6.heap.size, 0, #[], rfl, Nat.le_refl _, alloc_new _ _, Nat.le_refl _, by unfold maxLen; omega, rfl, rfl⟩⟩
    have SR0 : Hid (Src Tryd.prog 9 22 (.slice (some ⟨be, oe, none⟩) kk ec) kk (ecs (es.take kk)) (w6.alloc (.cells #[] 45))) := by
      have q := src_part (RD.out.k0 ((Kept.refl (fun _ => False) w6).alloc (.cells #[] 45))) 0 kk (Nat.zero_le _) (by omega) (some ⟨be, oe, none⟩) ec (fun _ b off e => by rw [e, Nat.zero_mul, Nat.add_zero])
      rw [List.drop_zero, Nat.sub_zero] at q
      exact q
    have sl := slice_ev RD.out kk (by omega) (w6.alloc (.cells #[] 45))
    have LN : Hid (0 + kk ≤ maxLen ∧ ((0 + kk) + (0 + kk) / 4 + 192) * 96 ≤ 281474976710656 ∧ w6.heap.size ≤ (w6.alloc (.cells #[] 45)).heap.size) := by have := HN.out; unfold maxLen; exact ⟨by omega, by omega, by rw [alloc_size]; omega⟩
    go_upto_region 10 with
      (first
        | (at_builtin; refine wpList_append_all _ rfl (.tmp 59) (.tmp 62) 22 45 22 _ 9 96 rfl Tryd.underlying22 Tryd.info45c rfl w6.heap.size (.slice (some ⟨w6.heap.size, 0, none⟩) 0 0) 0 (ecs []) rfl OW0.out.row _ kk (ecs (es.take kk)) rfl SR0.out LN.out.1 LN.out.2.1 LN.out.2.2 ?_; intro p9 c9 w9 ho hg hn9)
        | fail)
    have O9 : Hid (EaR w6.heap.size w9 p9 kk c9 (es.take kk) ∧ Kept (fun _ => False) w6 w9) := by
      have q := odd_more (M := es.take kk) OW0.out ((Kept.refl _ _).alloc _) (by rw [List.length_take, RD.out.len]; omega) ho.out hg.out
      rw [Nat.zero_add] at q
      exact q
    clear ho hg hn9 SR0 OW0 LN sl
    obtain ⟨b8, off8, e, e8, he, a0, a1, a2, a3, a4, a5, a6, a7, a8, _⟩ := (RD.out.k0 O9.out.2).at kn
    simp at e8
    obtain ⟨rfl, rfl⟩ := e8
    have HE : Hid (es[kk]? = some e) := he
    clear he
    cases tw
    case false =>
      clear a0 a1 a2 a3 a4 a5 a6 a7 a8
      obtain ⟨k1, hk1⟩ : ∃ k1, k1 = kk + 1 := ⟨_, rfl⟩
      have k1e : (kk : Int) + 1 = (k1 : Int) := by omega
      obtain ⟨q0, hq0⟩ : ∃ q0 : Option Addr, q0 = (if ec = k1 then some ⟨be, oe, none⟩ else some ⟨be, oe + k1 * 9, none⟩) := ⟨_, rfl⟩
      have sl := slice_from (b := be) (off := oe) (n := n) (c := ec) k1 (by omega) w9
      rw [← hq0] at sl
      have SR : Hid (Src Tryd.prog 9 22 (.slice q0 (n - k1) (ec - k1)) (n - k1) (ecs (es.drop k1)) w9) := by
        have q := src_part (RD.out.k0 O9.out.2) k1 n (by omega) (Nat.le_refl _) q0 (ec - k1) (fun hl b off z => by simp at z; obtain ⟨rfl, rfl⟩ := z; rw [hq0, if_neg (by omega)])
        rw [List.take_of_length_le (by rw [List.length_drop, RD.out.len]; omega)] at q
        exact q
      have LN : Hid (kk + (n - k1) ≤ maxLen ∧ ((kk + (n - k1)) + (kk + (n - k1)) / 4 + 192) * 96 ≤ 281474976710656) := by have := HN.out; unfold maxLen; exact ⟨by omega, by omega⟩
      have K1 : Hid (k1 = kk + 1) := hk1
      clear hq0 hk1
      go_upto_region 14 with
        (first
          | (at_builtin; refine wpList_append_all _ rfl (.tmp 77) (.tmp 81) 22 45 22 _ 9 96 rfl Tryd.underlying22 Tryd.info45c rfl w6.heap.size (.slice p9 kk c9) kk (ecs (es.take kk)) rfl O9.out.1.row _ (n - k1) (ecs (es.drop k1)) rfl SR.out LN.out.1 LN.out.2 O9.out.2.size ?_; intro p11 c11 w11 ho hg hn9)
          | fail)
      have O12 : Hid (EaR w6.heap.size w11 p11 (kk + (n - k1)) c11 (es.take kk ++ es.drop k1) ∧ Kept (fun _ => False) w6 w11) := odd_more O9.out.1 O9.out.2 (by rw [List.length_drop, RD.out.len]) ho.out hg.out
      clear ho hg hn9 SR LN sl O9
      have MEM : Hid (∀ x ∈ (es.take kk ++ es.drop k1), x ∈ es) := fun x hx => by
        rcases List.mem_append.1 hx with z | z
        · exact List.mem_of_mem_take z
        · exact List.mem_of_mem_drop z
      have CL : Hid (chkE (es.take kk ++ es.drop k1) noM 0 = (-1, 0) ∨ ∃ j : Nat, kk ≤ j ∧ chkE (es.take kk ++ es.drop k1) noM 0 = ((j : Int), 80)) := by
        have q := R.out.ri.ck
        rw [ev_split HE.out] at q
        have q2 := chk_less q (fun x hx => chk_fault es _ _ R.out.ri.ck x (List.mem_of_mem_drop hx))
        rw [List.length_take, RD.out.len, Nat.min_eq_left (by omega), ← K1.out] at q2
        exact q2
      obtain ⟨nn, hnn⟩ : ∃ nn, nn = (kk + (n - k1)) := ⟨_, rfl⟩
      obtain ⟨odd, hodd⟩ : ∃ odd, odd = (es.take kk ++ es.drop k1) := ⟨_, rfl⟩
      rw [← hnn, ← hodd] at O12
      rw [← hodd] at MEM CL
      rw [← hnn]
      have NNL : Hid (nn ≤ 2000000) := by have := HN.out; show nn ≤ 2000000; omega
      clear hnn hodd
      have OR : Hid (ERd w11 p11 nn c11 odd ∧ Kept (fun _ => False) w w11) := by
        have KW : Kept (fun _ => False) w w11 := (R.out.kept.trans K5.out (fun _ _ z => z)).trans O12.out.2 (fun _ _ z => z)
        exact ⟨O12.out.1.erd (fun x hx => Reads.kept KW (R.out.ev x (MEM.out x hx)).1 (fun _ _ z => z)), KW⟩
      have orm := OR.out.1.room
      have osm := OR.out.1.small
      unfold maxLen at osm
      have KI2 : Hid (∀ x ∈ odd, (KI x.client ∧ KI x.op) ∧ x.vn + 1 ≤ 140737488355328) := fun x hx => ⟨rs_ki R.out x (MEM.out x hx), by have := (R.out.ev x (MEM.out x hx)).2; omega⟩
      clear R RD O12 MEM HE K5 erm esm
      have C10 : Hid (Calls Tryd.prog 10 #[.slice p11 nn c11] w11 (RetI2 fun a b w' => (a, b) = chkE odd noM 0 ∧ Kept (fun _ => False) w11 w')) := hCheck OR.out.1 (by have := NNL.out; omega) (fun x hx => (KI2.out x hx).1.1)
      go_wp2_with fail
      refine C10.out.mono ?_
      rintro o w12 ⟨a, b, rfl, hab, K12'⟩
      have K12 : Hid (Kept (fun _ => False) w11 w12) := K12'
      have HAB : Hid ((a, b) = chkE odd noM 0) := hab
      clear hab K12' C10
      have C11 : Hid (Calls Tryd.prog 11 #[.slice p11 nn c11] w12 (RetK (ClQ w12 odd))) := hCalls (OR.out.1.k0 K12.out) (by have := NNL.out; omega) (fun x hx => (KI2.out x hx).1) (fun x hx => (KI2.out x hx).2)
      go_wp2_with fail
      refine C11.out.mono ?_
      rintro o w13 ⟨lp2, lk2, lc2, f, rfl, Q⟩
      have F : Hid (Kept (fun _ => False) w w13) := (OR.out.2.trans K12.out (fun _ _ z => z)).trans Q.kept (fun _ _ z => z)
      have hf : f = b := by
        obtain ⟨L2, _, hL⟩ := Q.ans
        rcases hL with ⟨_, _, a2, ha⟩ | ⟨z, ha, _⟩
        · have q := HAB.out
          rw [ha] at q
          exact (congrArg Prod.snd q).symm
        · have q := HAB.out
          rw [ha] at q
          rw [z]
          exact (congrArg Prod.snd q).symm
      have hl0 : ¬ b = 0 → lk2 = 0 := fun hb => by
        obtain ⟨L2, KA, hL⟩ := Q.ans
        rcases hL with ⟨_, z, _⟩ | ⟨z, _⟩
        · rw [z] at KA
          exact KA.len.symm
        · exact absurd (hf ▸ z) hb
      subst hf
      clear Q C11 K12 OR KI2 NNL
      have cl := CL.out
      rw [← HAB.out] at cl
      clear CL HAB
      rcases cl with hab | ⟨j, hj, hab⟩
      · have ha : a = -1 := congrArg Prod.fst hab
        have hb : f = 0 := congrArg Prod.snd hab
        subst ha
        subst hb
        clear hab hl0
        go_wp2_with fail
        go_ret
        exact ⟨by first | rfl | simp, F.out⟩
      · have ha : a = (j : Int) := congrArg Prod.fst hab
        have hb : f = 80 := congrArg Prod.snd hab
        subst ha
        subst hb
        have hl1 := hl0 (by decide)
        subst hl1
        have hj2 : (kk : Int) ≤ (j : Int) := by omega
        clear hab hl0
        go_wp2_with fail
        go_ret
        exact ⟨by first | rfl | simp, F.out⟩
    case true =>
      have SR : Hid (Src Tryd.prog 9 22 (.slice (some ⟨w9.heap.size, 0, none⟩) 1 1) 1 (ecs [e]) (w9.alloc (.cells #[.int .i64 e.kind, .int .i64 e.client, .int .i64 e.op, .bool e.put, .string e.key, .slice e.va e.vn e.vc, .int .i64 e.st, .int .i64 e.tx, .int .i64 e.ty] 45))) := src_ev (alloc_new _ _)
      have KA : Hid (Kept (fun _ => False) w9 (w9.alloc (.cells #[.int .i64 e.kind, .int .i64 e.client, .int .i64 e.op, .bool e.put, .string e.key, .slice e.va e.vn e.vc, .int .i64 e.st, .int .i64 e.tx, .int .i64 e.ty] 45))) := (Kept.refl _ _).alloc _
      have O10 : Hid (EaR w6.heap.size (w9.alloc (.cells #[.int .i64 e.kind, .int .i64 e.client, .int .i64 e.op, .bool e.put, .string e.key, .slice e.va e.vn e.vc, .int .i64 e.st, .int .i64 e.tx, .int .i64 e.ty] 45)) p9 kk c9 (es.take kk) ∧ Kept (fun _ => False) w6 (w9.alloc (.cells #[.int .i64 e.kind, .int .i64 e.client, .int .i64 e.op, .bool e.put, .string e.key, .slice e.va e.vn e.vc, .int .i64 e.st, .int .i64 e.tx, .int .i64 e.ty] 45))) := ⟨O9.out.1.k0 KA.out, O9.out.2.trans KA.out (fun _ _ z => z)⟩
      have LN : Hid (kk + 1 ≤ maxLen ∧ ((kk + 1) + (kk + 1) / 4 + 192) * 96 ≤ 281474976710656) := by have := HN.out; unfold maxLen; exact ⟨by omega, by omega⟩
      have kc1 : (kk : Int) < (n : Int) := by omega
      go_upto_region 12 with
        (first
          | (at_builtin; refine wpList_append_all _ rfl (.tmp 65) (.tmp 70) 22 45 22 _ 9 96 rfl Tryd.underlying22 Tryd.info45c rfl w6.heap.size (.slice p9 kk c9) kk (ecs (es.take kk)) rfl O10.out.1.row _ 1 (ecs [e]) rfl SR.out LN.out.1 LN.out.2 O10.out.2.size ?_; intro p10 c10 w10 ho hg hn9)
          | fail)
      have O11 : Hid (EaR w6.heap.size w10 p10 (kk + 1) c10 (es.take kk ++ [e]) ∧ Kept (fun _ => False) w6 w10) := odd_more O10.out.1 O10.out.2 rfl ho.out hg.out
      clear ho hg hn9 SR KA O10 O9 LN a0 a1 a2 a3 a4 a5 a6 a7 a8
      have sl := slice_from (b := be) (off := oe) (n := n) (c := ec) kk (by omega) w10
      rw [if_neg (by omega)] at sl
      have SR : Hid (Src Tryd.prog 9 22 (.slice (some ⟨be, oe + kk * 9, none⟩) (n - kk) (ec - kk)) (n - kk) (ecs (es.drop kk)) w10) := by
        have q := src_part (RD.out.k0 O11.out.2) kk n (by omega) (Nat.le_refl _) (some ⟨be, oe + kk * 9, none⟩) (ec - kk) (fun _ b off z => by simp at z; obtain ⟨rfl, rfl⟩ := z; rfl)
        rw [List.take_of_length_le (by rw [List.length_drop, RD.out.len]; omega)] at q
        exact q
      have LN : Hid (kk + 1 + (n - kk) ≤ maxLen ∧ ((kk + 1 + (n - kk)) + (kk + 1 + (n - kk)) / 4 + 192) * 96 ≤ 281474976710656) := by have := HN.out; unfold maxLen; exact ⟨by omega, by omega⟩
      go_upto_region 14 with
        (first
          | (at_builtin; refine wpList_append_all _ rfl (.tmp 72) (.tmp 75) 22 45 22 _ 9 96 rfl Tryd.underlying22 Tryd.info45c rfl w6.heap.size (.slice p10 (kk + 1) c10) (kk + 1) (ecs (es.take kk ++ [e])) rfl O11.out.1.row _ (n - kk) (ecs (es.drop kk)) rfl SR.out LN.out.1 LN.out.2 O11.out.2.size ?_; intro p11 c11 w11 ho hg hn9)
          | fail)
      have O12 : Hid (EaR w6.heap.size w11 p11 (kk + 1 + (n - kk)) c11 (es.take kk ++ [e] ++ es.drop kk) ∧ Kept (fun _ => False) w6 w11) := odd_more O11.out.1 O11.out.2 (by rw [List.length_drop, RD.out.len]) ho.out hg.out
      clear ho hg hn9 SR O11 LN sl
      have CK : Hid (chkE (es.take kk ++ [e] ++ es.drop kk) noM 0 = ((kk : Int) + 1, 80)) := by
        have q := R.out.ri.ck
        rw [ev_split HE.out] at q
        have q2 := chk_twice q
        rw [List.length_take, RD.out.len, Nat.min_eq_left (by omega)] at q2
        have e1 : es.drop kk = e :: es.drop (kk + 1) := by
          obtain ⟨hl, he⟩ := List.getElem?_eq_some_iff.1 HE.out
          rw [List.drop_eq_getElem_cons hl, he]
        rw [e1, List.append_assoc]
        exact q2
      have MEM : Hid (∀ x ∈ (es.take kk ++ [e] ++ es.drop kk), x ∈ es) := fun x hx => by
        rcases List.mem_append.1 hx with z | z
        · rcases List.mem_append.1 z with z | z
          · exact List.mem_of_mem_take z
          · rw [List.mem_singleton] at z
            rw [z]
            exact List.mem_of_getElem? HE.out
        · exact List.mem_of_mem_drop z
      obtain ⟨nn, hnn⟩ : ∃ nn, nn = (kk + 1 + (n - kk)) := ⟨_, rfl⟩
      obtain ⟨odd, hodd⟩ : ∃ odd, odd = (es.take kk ++ [e] ++ es.drop kk) := ⟨_, rfl⟩
      rw [← hnn, ← hodd] at O12
      rw [← hodd] at MEM CK
      rw [← hnn]
      have NNL : Hid (nn ≤ 2000000) := by have := HN.out; show nn ≤ 2000000; omega
      clear hnn hodd
      have OR : Hid (ERd w11 p11 nn c11 odd ∧ Kept (fun _ => False) w w11) := by
        have KW : Kept (fun _ => False) w w11 := (R.out.kept.trans K5.out (fun _ _ z => z)).trans O12.out.2 (fun _ _ z => z)
        exact ⟨O12.out.1.erd (fun x hx => Reads.kept KW (R.out.ev x (MEM.out x hx)).1 (fun _ _ z => z)), KW⟩
      have orm := OR.out.1.room
      have osm := OR.out.1.small
      unfold maxLen at osm
      have KI2 : Hid (∀ x ∈ odd, (KI x.client ∧ KI x.op) ∧ x.vn + 1 ≤ 140737488355328) := fun x hx => ⟨rs_ki R.out x (MEM.out x hx), by have := (R.out.ev x (MEM.out x hx)).2; omega⟩
      clear R RD O12 MEM HE K5 erm esm
      have C10 : Hid (Calls Tryd.prog 10 #[.slice p11 nn c11] w11 (RetI2 fun a b w' => (a, b) = chkE odd noM 0 ∧ Kept (fun _ => False) w11 w')) := hCheck OR.out.1 (by have := NNL.out; omega) (fun x hx => (KI2.out x hx).1.1)
      go_wp2_with fail
      refine C10.out.mono ?_
      rintro o w12 ⟨a, b, rfl, hab, K12'⟩
      have K12 : Hid (Kept (fun _ => False) w11 w12) := K12'
      have HAB : Hid ((a, b) = chkE odd noM 0) := hab
      clear hab K12' C10
      have C11 : Hid (Calls Tryd.prog 11 #[.slice p11 nn c11] w12 (RetK (ClQ w12 odd))) := hCalls (OR.out.1.k0 K12.out) (by have := NNL.out; omega) (fun x hx => (KI2.out x hx).1) (fun x hx => (KI2.out x hx).2)
      go_wp2_with fail
      refine C11.out.mono ?_
      rintro o w13 ⟨lp2, lk2, lc2, f, rfl, Q⟩
      have F : Hid (Kept (fun _ => False) w w13) := (OR.out.2.trans K12.out (fun _ _ z => z)).trans Q.kept (fun _ _ z => z)
      have hf : f = b := by
        obtain ⟨L2, _, hL⟩ := Q.ans
        rcases hL with ⟨_, _, a2, ha⟩ | ⟨z, ha, _⟩
        · have q := HAB.out
          rw [ha] at q
          exact (congrArg Prod.snd q).symm
        · have q := HAB.out
          rw [ha] at q
          rw [z]
          exact (congrArg Prod.snd q).symm
      have hl0 : ¬ b = 0 → lk2 = 0 := fun hb => by
        obtain ⟨L2, KA, hL⟩ := Q.ans
        rcases hL with ⟨_, z, _⟩ | ⟨z, _⟩
        · rw [z] at KA
          exact KA.len.symm
        · exact absurd (hf ▸ z) hb
      subst hf
      clear Q C11 K12 OR KI2 NNL
      have hab := HAB.out
      rw [CK.out] at hab
      have ha : a = (kk : Int) + 1 := congrArg Prod.fst hab
      have hb : f = 80 := congrArg Prod.snd hab
      subst ha
      subst hb
      have hl1 := hl0 (by decide)
      subst hl1
      clear hab hl0 HAB CK
      go_wp2_with fail
      go_ret
      exact ⟨by first | rfl | simp, F.out⟩
end Go.Proofs.YtbangbobfeflcaaDoor
