import Derived.Test.YtbangbobfeflcaaGreatDoorROd
import Derived.Test.YtbangbobfeflcaaGreatDoorHScJ
import Derived.Deep.Cut
import Derived.BigQuiet
namespace Go.Proofs.YtbangbobfeflcaaGreatDoor
open Go.RowKit 

/-- The values of calls lie in blocks of their own. -/
def DsC (wr : World) (L : List Ca) : Prop := L.Pairwise (fun a b => ∀ x, blockOf a.va = some x → blockOf b.va ≠ some x) ∧ ∀ e ∈ L, ∀ x, blockOf e.va = some x → x < wr.heap.size
theorem DsC.mono {wr W : World} {L : List Ca} (h : DsC wr L) (hs : wr.heap.size ≤ W.heap.size) : DsC W L := ⟨h.1, fun e he x hx => by have := h.2 e he x hx; omega⟩
theorem DsC.more {wr W : World} {L : List Ca} {x : Ca} (h : DsC wr L) (hx : ∀ b, blockOf x.va = some b → wr.heap.size ≤ b ∧ b < W.heap.size) (hs : wr.heap.size ≤ W.heap.size) : DsC W (L ++ [x]) := by
  refine ⟨List.pairwise_append.2 ⟨h.1, List.pairwise_singleton _ _, fun a ha b hb z hz q => ?_⟩, fun e he z hz => ?_⟩
  · rw [List.mem_singleton.1 hb] at q
    have q1 := h.2 a ha z hz
    have q2 := hx z q
    omega
  · rcases List.mem_append.1 he with m | m
    · have := h.2 e m z hz
      omega
    · rw [List.mem_singleton.1 m] at hz
      exact (hx z hz).2
structure ClD (w : World) (es : List Ev) (q : Option Addr) (k c : Nat) (e : Int) (w' : World) : Prop where
  ans : ∃ L, KaR w.heap.size w' q k c L ∧ DsC w' L ∧ ((¬ e = 0 ∧ L = [] ∧ ∃ a, chkE es noM 0 = (a, e)) ∨ (e = 0 ∧ chkE es noM 0 = (-1, 0) ∧ L.map (fun x => some x.cc) = callsE es))
  kept : Kept (fun _ => False) w w'
set_option maxRecDepth 100000 in
set_option maxHeartbeats 8000000 in
theorem hCallsD {w : World} {p0 : Option Addr} {n c0 : Nat} {es : List Ev} (er : ERd w p0 n c0 es) (hb : n ≤ 1500000000000) (ck : ∀ e ∈ es, KI e.client ∧ KI e.op) (hv : ∀ x ∈ es, x.vn + 1 ≤ 140737488355328) : Calls Tryz.prog 21 #[.slice p0 n c0] w (RetK (ClD w es)) := by
  have rm := er.room
  have sm := er.small
  unfold maxLen at sm
  have C1 : Hid (Calls Tryz.prog 19 #[.slice p0 n c0] w (RetI2 fun a b w' => (a, b) = chkE es noM 0 ∧ Kept (fun _ => False) w w')) := hCheck er hb (fun e he => (ck e he).1)
  have H : Hid (ERd w p0 n c0 es ∧ n ≤ 1500000000000 ∧ (∀ e ∈ es, KI e.client ∧ KI e.op) ∧ ∀ x ∈ es, x.vn + 1 ≤ 140737488355328) := ⟨er, hb, ck, hv⟩
  clear er hb ck hv
  go_enter Tryz.func21, Tryz.ntmps21
  go_wp2_with fail
  refine C1.out.mono ?_
  rintro o w1 ⟨a, b, rfl, hab, K1'⟩
  have K1 : Hid (Kept (fun _ => False) w w1) := K1'
  have HAB : Hid ((a, b) = chkE es noM 0) := hab
  clear C1 K1' hab
  by_cases hb0 : b = 0
  · subst hb0
    have OK : Hid (chkE es noM 0 = (-1, 0)) := by
      have q := HAB.out.symm
      rw [chk_zero es noM 0 a q] at q
      exact q
    have C2 : Hid (Calls Tryz.prog 43 #[.slice p0 n c0, .func (.func 44) #[] #[]] w1 fun o w' => ∃ mb, o = .returned (.map (some mb)) ∧ Hid (GS w1 es mb n w')) := hGroup (H.out.1.k0 K1.out) H.out.2.1 H.out.2.2.1
    go_wp2_with fail
    refine C2.out.mono ?_
    rintro o w2 ⟨mb, rfl, G⟩
    clear C2
    obtain ⟨nm, Mp, tm, hnm, h1, h2, h3⟩ := G.out.ok
    have hes : es.take n = es := by rw [← H.out.1.len]; exact List.take_length
    rw [hes] at h1 h2
    have M : Hid (TM 78 opL opF Sl.v RSl w2 mb nm Mp ∧ (∀ k, Mp k = none → placesE es k = []) ∧ (∀ k s, Mp k = some s → w2.ownsRow w1.heap.size 3 1 (.slice s.p s.n s.c) s.n (intsN (placesE es k)) ∧ s.n = (placesE es k).length ∧ ¬ blockOf s.p = some mb ∧ 0 < s.n)) := ⟨tm, h1, h2⟩
    have K2 : Hid (Kept (fun _ => False) w w2) := K1.out.trans G.out.kept (fun _ _ z => z)
    have S0 : Hid (LS w2 w2 es 0 none 0 0 [] ∧ DsC w2 []) := ⟨⟨⟨rfl, ⟨rfl, .inl ⟨rfl, rfl⟩⟩, fun x h => absurd h (by simp)⟩, rfl, Kept.refl _ _⟩, List.Pairwise.nil, fun x h => absurd h (by simp)⟩
    clear tm hnm h1 h2 h3 hes G
    go_wp2_with fail
    go_loopw [6, 9, 22] (fun u6 _ u22 wr => ∃ (q : Option Addr) (k c i : Nat) (L : List Ca), u6 = .slice q k c ∧ u22 = .int .i64 (i : Int) ∧ i ≤ n ∧ k ≤ i ∧ Hid (LS w2 wr es i q k c L ∧ DsC wr L)) (fun _ _ u22 _ => n - (intOf u22).toNat)
    case atStart => exact ⟨none, 0, 0, 0, [], rfl, rfl, Nat.zero_le _, Nat.le_refl _, S0⟩
    case round =>
      obtain ⟨q, k, c, i, L, rfl, rfl, hi, hki, S⟩ := hrel
      clear S0
      obtain ⟨wo, hwo⟩ : ∃ wo, wo = wr := ⟨_, rfl⟩
      rw [← hwo] at S ⊢
      clear hwo
      have KO : Hid (Kept (fun _ => False) w wo) := K2.out.trans S.out.1.kept (fun _ _ z => z)
      by_cases hlt : i < n
      · have i1 : (i : Int) < (n : Int) := by omega
        obtain ⟨b8, off8, e, rfl, he, c0', c1, c2, c3, c4, c5, c6, c7, c8, rd⟩ := (H.out.1.k0 KO.out).at hlt
        obtain ⟨W, hW⟩ : ∃ W, W = wo.alloc (.cells #[.int .i64 e.kind, .int .i64 e.client, .int .i64 e.op, .bool e.put, .string e.key, .slice e.va e.vn e.vc, .int .i64 e.st, .int .i64 e.tx, .int .i64 e.ty] 39) := ⟨_, rfl⟩
        obtain ⟨B, hB⟩ : ∃ B, B = wo.heap.size := ⟨_, rfl⟩
        have J : Hid (W.heap[B]? = some (.cells #[.int .i64 e.kind, .int .i64 e.client, .int .i64 e.op, .bool e.put, .string e.key, .slice e.va e.vn e.vc, .int .i64 e.st, .int .i64 e.tx, .int .i64 e.ty] 39 (0, 0)) ∧ Kept (fun _ => False) wo W) := ⟨by rw [hW, hB]; exact alloc_new _ _, by rw [hW]; exact (Kept.refl _ _).alloc _⟩
        have EW : Hid (W = wo.alloc (.cells #[.int .i64 e.kind, .int .i64 e.client, .int .i64 e.op, .bool e.put, .string e.key, .slice e.va e.vn e.vc, .int .i64 e.st, .int .i64 e.tx, .int .i64 e.ty] 39) ∧ B = wo.heap.size) := ⟨hW, hB⟩
        have HE : Hid (es[i]? = some e) := he
        have CO3 : Hid (∀ V, Calls Tryz.prog 44 #[.agg #[.int .i64 e.kind, .int .i64 e.client, .int .i64 e.op, .bool e.put, .string e.key, .slice e.va e.vn e.vc, .int .i64 e.st, .int .i64 e.tx, .int .i64 e.ty]] V fun o w' => o = .returned (.agg #[.int .i64 e.client, .int .i64 e.op]) ∧ Kept (fun _ => False) V w') := fun V => hOper e V
        clear hW hB he rd
        go_upto_region 9 with fail
        rw [← EW.out.1, ← EW.out.2]
        clear c0' c1 c2 c3 c4 c5 c6 c7 c8 EW
        have c0 := cell_blk J.out.1 0 (v := .int .i64 e.kind) rfl
        have c1 := cell_blk J.out.1 1 (v := .int .i64 e.client) rfl
        have c2 := cell_blk J.out.1 2 (v := .int .i64 e.op) rfl
        have c3 := cell_blk J.out.1 3 (v := .bool e.put) rfl
        have c4 := cell_blk J.out.1 4 (v := .string e.key) rfl
        have c5 := cell_blk J.out.1 5 (v := .slice e.va e.vn e.vc) rfl
        have c6 := cell_blk J.out.1 6 (v := .int .i64 e.st) rfl
        have c7 := cell_blk J.out.1 7 (v := .int .i64 e.tx) rfl
        have c8 := cell_blk J.out.1 8 (v := .int .i64 e.ty) rfl
        by_cases hk : e.kind = 1
        · have q1 : (e.kind == 1) = true := by simp [hk]
          have HK : Hid (e.kind = 1) := hk
          clear hk
          go_wp2_with fail
          refine (CO3.out _).mono ?_
          rintro o w3 ⟨rfl, K3'⟩
          have K3 : Hid (Kept (fun _ => False) wo w3) := J.out.2.trans K3' (fun _ _ z => z)
          have KW3 : Hid (Kept (fun _ => False) w w3) := KO.out.trans K3.out (fun _ _ z => z)
          have K23 : Hid (Kept (fun _ => False) w2 w3) := S.out.1.kept.trans K3.out (fun _ _ z => z)
          clear K3' CO3 c0 c1 c2 c3 c4 c5 c6 c7 c8
          have ein := List.mem_of_getElem? HE.out
          have OPF : Hid (opF (keyE e)) := key_op (H.out.2.2.1 e ein).1 (H.out.2.2.1 e ein).2
          have inP : Hid (i ∈ placesE es (keyE e)) := by
            unfold placesE
            refine List.mem_filter.2 ⟨List.mem_range.2 (by rw [H.out.1.len]; exact hlt), ?_⟩
            unfold isAt
            rw [HE.out]
            exact decide_eq_true rfl
          obtain ⟨s, hs⟩ : ∃ s, Mp (keyE e) = some s := by
            cases hq : Mp (keyE e) with
            | none =>
              have := inP.out
              rw [M.out.2.1 _ hq] at this
              cases this
            | some s => exact ⟨s, rfl⟩
          obtain ⟨o1, o2, o3, o4⟩ := M.out.2.2 _ s hs
          have lk := (M.out.1.kept K23.out (fun z => z)).look opK OPF.out
          rw [hs] at lk
          have lk : (Instr.lookup 75 (.map (some mb)) (.agg #[.int .i64 e.client, .int .i64 e.op]) false).run Tryz.prog w3 = .ok (.slice s.p s.n s.c) w3 := lk
          obtain ⟨gq, hgq⟩ : ∃ gq, s.p = some ⟨gq, 0, none⟩ := by
            rcases o1.2 with ⟨_, z⟩ | ⟨g, cap, cur, z, _⟩
            · omega
            · have z : Value.slice s.p s.n s.c = .slice (some ⟨g, 0, none⟩) s.n cap := z
              injection z with z1 _ _
              exact ⟨g, z1⟩
          rw [hgq] at lk o1
          obtain ⟨pp, hpp⟩ : ∃ pp, (placesE es (keyE e))[0]? = some pp := ⟨_, List.getElem?_eq_getElem (by omega)⟩
          have ppl : pp < es.length := places_lt pp (List.mem_of_getElem? hpp)
          have ppe : es[pp]? = some es[pp] := List.getElem?_eq_getElem ppl
          have CF : Hid (Calls Tryz.prog 45 #[.slice (some ⟨b8, off8, none⟩) n c0, .slice (some ⟨gq, 0, none⟩) s.n s.c] w3 (RetCa fun c w' => some c.cc = callP es (placesE es (keyE e)) ∧ w'.ownsRow w3.heap.size 5 1 (.slice c.va c.vn c.vc) c.vn (cellsOf c.val) ∧ Kept (fun _ => False) w3 w')) := hCallOf (H.out.1.k0 KW3.out) (owns_mono (K23.out.owns o1 (fun _ _ z => z)) (Nat.zero_le _)) hpp ppe (fun r hr => by have := places_lt r hr; rw [H.out.1.len] at this; exact this) H.out.2.2.2
          clear o1 o2 o3 o4 hs hpp ppe ppl ein
          go_wp2_with fail
          refine CF.out.mono ?_
          rintro o w4 ⟨ca, rfl, hca, roa, K4'⟩
          unfold Ca.cs
          have K4 : Hid (Kept (fun _ => False) wo w4) := K3.out.trans K4' (fun _ _ z => z)
          have X4 : Hid (some ca.cc = callP es (placesE es (keyE e)) ∧ w4.ownsRow w2.heap.size 5 1 (.slice ca.va ca.vn ca.vc) ca.vn (cellsOf ca.val)) := ⟨hca, owns_mono roa K23.out.size⟩
          have FR : Hid (∀ x, blockOf ca.va = some x → wo.heap.size ≤ x ∧ x < w4.heap.size) := fun x hx => by
            have z1 := own_lt roa x hx
            have z2 := K3.out.size
            omega
          have LN : Hid (k + 1 ≤ maxLen ∧ ((k + 1) + (k + 1) / 4 + 192) * 112 ≤ 281474976710656) := by
            have q1 := H.out.2.1
            unfold maxLen
            exact ⟨by omega, by omega⟩
          have R4 : Hid (KaR w2.heap.size w4 q k c L) := S.out.1.row.k0 K4.out
          have KN4 : Hid (Kept (fun _ => False) w2 w4) := S.out.1.kept.trans K4.out (fun _ _ z => z)
          clear CF lk hca roa K4'
          go_upto_region 11 with
            (first
              | (at_builtin; refine wpList_append_all _ rfl (.tmp 29) (.tmp 36) 25 58 25 _ 11 112 rfl Tryz.underlying25 Tryz.info58c rfl w2.heap.size (.slice q k c) k (kcs L) rfl ((R4.out.k0 ((Kept.refl (fun _ => False) w4).alloc _)).row) _ 1 (kcs [ca]) rfl (src_ca (heap_alloc_new w4 _)) LN.out.1 LN.out.2 (Nat.le_trans KN4.out.size ((Kept.refl (fun _ => False) w4).alloc _).size) ?_; intro p9 c9 w9 ho hg hn9)
              | fail)
          have NX : Hid (LS w2 w9 es (i + 1) p9 (k + 1) c9 (L ++ [ca]) ∧ DsC w9 (L ++ [ca])) := by
            have KA : Kept (fun _ => False) w4 (w4.alloc (.cells ca.cs 58)) := (Kept.refl _ _).alloc _
            have Q := (R4.out.k0 KA).more (W0 := w2) (KA.owns X4.out.2 (fun _ _ z => z)) ho.out hg.out (KN4.out.trans KA (fun _ _ z => z)) (Nat.le_refl _)
            have z1 : (w4.alloc (.cells ca.cs 58)).heap.size ≤ w9.heap.size := (kgr hg.out).size
            have z2 := KA.size
            have z3 := K4.out.size
            refine ⟨⟨Q.1, ?_, Q.2⟩, S.out.2.more (fun b hb => ?_) (by omega)⟩
            rotate_left
            · have q := FR.out b hb
              omega
            rw [callsTo_add HE.out, if_pos HK.out, List.map_append, S.out.1.told, ← X4.out.1]
            rfl
          clear ho hg hn9 S X4 R4 KN4
          go_wp2_with fail
          go_roundw
          case rel => exact ⟨p9, k + 1, c9, i + 1, L ++ [ca], rfl, by go_num, by omega, by omega, NX⟩
          case measure => simp [intOf] <;> omega
        · have q1 : (e.kind == 1) = false := by simp [hk]
          have NX : Hid (LS w2 W es (i + 1) q k c L ∧ DsC W L) := by
            refine ⟨⟨S.out.1.row.k0 J.out.2, ?_, S.out.1.kept.trans J.out.2 (fun _ _ z => z)⟩, S.out.2.mono J.out.2.size⟩
            rw [callsTo_add HE.out, if_neg hk]
            exact S.out.1.told
          clear hk S CO3
          go_wp2_with fail
          go_roundw
          case rel => exact ⟨q, k, c, i + 1, L, rfl, by go_num, by omega, by omega, NX⟩
          case measure => simp [intOf] <;> omega
      · have i1 : ¬ (i : Int) < (n : Int) := by omega
        have F : Hid (ClD w es q k c 0 wo) := by
          have ei : i = es.length := by have := H.out.1.len; omega
          refine ⟨⟨L, S.out.1.row.mono K2.out.size, S.out.2, .inr ⟨rfl, OK.out, ?_⟩⟩, KO.out⟩
          have := S.out.1.told
          rw [ei, callsTo_all] at this
          exact this
        clear S
        go_wp2_with fail
        go_ret2
        exact RetK.mk q k c 0 rfl F.out
  · have q0 : (b != 0) = true := by simp [hb0]
    have F : Hid (ClD w es none 0 0 b w1) := ⟨⟨[], ⟨rfl, ⟨rfl, .inl ⟨rfl, rfl⟩⟩, fun x h => absurd h (by simp)⟩, ⟨List.Pairwise.nil, fun x h => absurd h (by simp)⟩, .inl ⟨hb0, rfl, a, HAB.out.symm⟩⟩, K1.out⟩
    go_wp2_with fail
    go_ret2
    exact RetK.mk none 0 0 b rfl F.out
end Go.Proofs.YtbangbobfeflcaaGreatDoor
