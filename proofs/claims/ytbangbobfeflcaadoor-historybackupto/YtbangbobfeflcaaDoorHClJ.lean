import Derived.Test.YtbangbobfeflcaaDoorHCo
import Derived.Deep.Cut
import Derived.BigQuiet
namespace Go.Proofs.YtbangbobfeflcaaDoor
open Go.RowKit 

def kcs (L : List Ca) : List Value := L.flatMap fun c => c.cs.toList
theorem kcs_append (a b : List Ca) : kcs (a ++ b) = kcs a ++ kcs b := by unfold kcs; rw [List.flatMap_append]
theorem Tryd.info48c : (Tryd.prog.info? 48).map (fun i => (i.zero, i.size, i.bytes)) = some (some (.agg zeroK), 11, 112) := by kernel_rfl
theorem src_ca {w : World} {b : Nat} {c : Ca} (h : w.heap[b]? = some (.cells c.cs 48 (0, 0))) : Src Tryd.prog 11 32 (.slice (some ⟨b, 0, none⟩) 1 1) 1 (kcs [c]) w :=
  Src.ofSlice w Tryd.underlying32 ⟨b, 0, none⟩ 1 1 (kcs [c]) rfl (fun j u hj => by
    rw [Addr.add_none, Nat.zero_add]
    refine cell_blk h j ?_
    have e : kcs [c] = c.cs.toList := by unfold kcs; simp
    rw [e] at hj
    rw [← hj, Array.getElem?_toList]) (fun v hv => by
    have e : kcs [c] = c.cs.toList := by unfold kcs; simp
    rw [e] at hv
    simp [Ca.cs] at hv
    rcases hv with rfl | rfl | rfl | rfl | rfl | rfl | rfl | rfl | rfl | rfl | rfl <;> rfl)
/-- A list of calls of one's own, whose bytes lie in rows of their own. -/
structure KaR (b0 : Nat) (w : World) (p : Option Addr) (k c : Nat) (L : List Ca) : Prop where
  len : L.length = k
  row : w.ownsRow b0 48 11 (.slice p k c) k (kcs L)
  val : ∀ x ∈ L, w.ownsRow b0 5 1 (.slice x.va x.vn x.vc) x.vn (cellsOf x.val)
theorem KaR.k0 {b0 : Nat} {w w' : World} {p : Option Addr} {k c : Nat} {L : List Ca} (h : KaR b0 w p k c L) (K : Kept (fun _ => False) w w') : KaR b0 w' p k c L := ⟨h.len, K.owns h.row (fun _ _ z => z), fun x hx => K.owns (h.val x hx) (fun _ _ z => z)⟩
theorem KaR.more {b0 : Nat} {w w9 W0 : World} {p p9 : Option Addr} {k c c9 : Nat} {L : List Ca} {x : Ca} (h : KaR b0 w p k c L) (hx : w.ownsRow b0 5 1 (.slice x.va x.vn x.vc) x.vn (cellsOf x.val)) (ho : w9.ownsRow b0 48 11 (.slice p9 (k + 1) c9) (k + 1) (kcs L ++ kcs [x])) (hg : w.grownBy w9 (Value.slice p k c).ownBlock) (K0 : Kept (fun _ => False) W0 w) (hb : W0.heap.size ≤ b0) : KaR b0 w9 p9 (k + 1) c9 (L ++ [x]) ∧ Kept (fun _ => False) W0 w9 := by
  have KG : Kept (fun j => blockOf p = some j) w w9 := (Kept.refl (fun j => blockOf p = some j) w).grown hg (fun j _ z => by rw [blockOf_own] at z; exact z)
  have ap : ∀ y : Ca, w.ownsRow b0 5 1 (.slice y.va y.vn y.vc) y.vn (cellsOf y.val) → w9.ownsRow b0 5 1 (.slice y.va y.vn y.vc) y.vn (cellsOf y.val) := fun y hy => KG.owns hy (fun j z q => by
    rw [blockOf_own] at z
    obtain ⟨c1, e1⟩ := own_type hy j z
    obtain ⟨c2, e2⟩ := own_type h.row j q
    rw [e1] at e2
    simp at e2)
  refine ⟨⟨by rw [List.length_append, h.len]; rfl, by rw [kcs_append]; exact ho, fun y hy => ?_⟩, Kept.own K0 KG (fun j z => by have := (own_lt h.row j z).1; omega)⟩
  rcases List.mem_append.1 hy with z | z
  · exact ap y (h.val y z)
  · rw [List.mem_singleton] at z
    rw [z]
    exact ap x hx
/-- The calls of the first events. -/
def callsTo (es : List Ev) (i : Nat) : List (Option Cc) := ((List.range i).filter (isInv es)).map fun j => callP es (placesE es (keyAt es j))
theorem callsTo_all (es : List Ev) : callsTo es es.length = callsE es := rfl
theorem callsTo_add {es : List Ev} {i : Nat} {e : Ev} (h : es[i]? = some e) : callsTo es (i + 1) = if e.kind = 1 then callsTo es i ++ [callP es (placesE es (keyE e))] else callsTo es i := by
  unfold callsTo
  rw [List.range_succ, List.filter_append, List.map_append]
  have e1 : isInv es i = decide (e.kind = 1) := by unfold isInv; rw [h]
  have e2 : keyAt es i = keyE e := by unfold keyAt; rw [h]
  by_cases k : e.kind = 1
  · rw [if_pos k, List.filter_cons_of_pos (by rw [e1, decide_eq_true k])]
    simp [e2]
  · rw [if_neg k, List.filter_cons_of_neg (by rw [e1, decide_eq_false k]; decide)]
    simp
theorem chk_zero : ∀ (es : List Ev) (M : Int → Option Ev) (i : Nat) (a : Int), chkE es M i = (a, 0) → a = -1
  | [], _, _, a, h => by
    have := congrArg Prod.fst h
    exact this.symm
  | e :: es, M, i, a, h => by
    rw [chk_cons] at h
    split at h
    · rename_i z
      have := congrArg Prod.snd h
      exact absurd this z
    · split at h
      · have := congrArg Prod.snd h
        simp at this
      · exact chk_zero es _ _ a h
/-- How Calls stands. -/
structure LS (w wr : World) (es : List Ev) (i : Nat) (q : Option Addr) (k c : Nat) (L : List Ca) : Prop where
  row : KaR w.heap.size wr q k c L
  told : L.map (fun x => some x.cc) = callsTo es i
  kept : Kept (fun _ => False) w wr
def RetK (Q : Option Addr → Nat → Nat → Int → World → Prop) (o : Ending) (w : World) : Prop := ∃ (q : Option Addr) (k c : Nat) (e : Int), o = .returned (.tuple #[.slice q k c, .int .i64 e]) ∧ Q q k c e w
theorem RetK.mk {Q : Option Addr → Nat → Nat → Int → World → Prop} {o : Ending} {w : World} (q : Option Addr) (k c : Nat) (e : Int) (h : o = .returned (.tuple #[.slice q k c, .int .i64 e])) (hq : Q q k c e w) : RetK Q o w := ⟨q, k, c, e, h, hq⟩
end Go.Proofs.YtbangbobfeflcaaDoor

namespace Go.Proofs.YtbangbobfeflcaaDoor
open Go.RowKit 

theorem KaR.mono {b0 b1 : Nat} {w : World} {p : Option Addr} {k c : Nat} {L : List Ca} (h : KaR b0 w p k c L) (hb : b1 ≤ b0) : KaR b1 w p k c L := ⟨h.len, owns_mono h.row hb, fun x hx => owns_mono (h.val x hx) hb⟩
structure ClQ (w : World) (es : List Ev) (q : Option Addr) (k c : Nat) (e : Int) (w' : World) : Prop where
  ans : ∃ L, KaR w.heap.size w' q k c L ∧ ((¬ e = 0 ∧ L = [] ∧ ∃ a, chkE es noM 0 = (a, e)) ∨ (e = 0 ∧ chkE es noM 0 = (-1, 0) ∧ L.map (fun x => some x.cc) = callsE es))
  kept : Kept (fun _ => False) w w'
set_option maxRecDepth 100000 in
set_option maxHeartbeats 8000000 in
theorem hCalls {w : World} {p0 : Option Addr} {n c0 : Nat} {es : List Ev} (er : ERd w p0 n c0 es) (hb : n ≤ 1500000000000) (ck : ∀ e ∈ es, KI e.client ∧ KI e.op) (hv : ∀ x ∈ es, x.vn + 1 ≤ 140737488355328) : Calls Tryd.prog 11 #[.slice p0 n c0] w (RetK (ClQ w es)) := by
  have rm := er.room
  have sm := er.small
  unfold maxLen at sm
  have C1 : Hid (Calls Tryd.prog 10 #[.slice p0 n c0] w (RetI2 fun a b w' => (a, b) = chkE es noM 0 ∧ Kept (fun _ => False) w w')) := hCheck er hb (fun e he => (ck e he).1)
  have H : Hid (ERd w p0 n c0 es ∧ n ≤ 1500000000000 ∧ (∀ e ∈ es, KI e.client ∧ KI e.op) ∧ ∀ x ∈ es, x.vn + 1 ≤ 140737488355328) := ⟨er, hb, ck, hv⟩
  clear er hb ck hv
  go_enter Tryd.func11, Tryd.ntmps11
  go_wp2_with fail
  refine C1.out.mono ?_
  rintro o w1 ⟨a, b, rfl, hab, K1'⟩
  have K1 : Hid (Kept (fun _ => False) w w1) := K1'
  have HAB : Hid ((a, b) = chkE es noM 0) := hab
  clear C1 K1' hab
  by_cases hb0 : b = 0
  · subst hb0
    have OK : Hid (chkE es noM 0 = (-1, 0)) := by
      have q := HAB.out.symm
      rw [chk_zero es noM 0 a q] at q
      exact q
    have C2 : Hid (Calls Tryd.prog 22 #[.slice p0 n c0, .func (.func 23) #[] #[]] w1 fun o w' => ∃ mb, o = .returned (.map (some mb)) ∧ Hid (GS w1 es mb n w')) := hGroup (H.out.1.k0 K1.out) H.out.2.1 H.out.2.2.1
    go_wp2_with fail
    refine C2.out.mono ?_
    rintro o w2 ⟨mb, rfl, G⟩
    clear C2
    obtain ⟨nm, Mp, tm, hnm, h1, h2, h3⟩ := G.out.ok
    have hes : es.take n = es := by rw [← H.out.1.len]; exact List.take_length
    rw [hes] at h1 h2
    have M : Hid (TM 74 opL opF Sl.v RSl w2 mb nm Mp ∧ (∀ k, Mp k = none → placesE es k = []) ∧ (∀ k s, Mp k = some s → w2.ownsRow w1.heap.size 3 1 (.slice s.p s.n s.c) s.n (intsN (placesE es k)) ∧ s.n = (placesE es k).length ∧ ¬ blockOf s.p = some mb ∧ 0 < s.n)) := ⟨tm, h1, h2⟩
    have K2 : Hid (Kept (fun _ => False) w w2) := K1.out.trans G.out.kept (fun _ _ z => z)
    have S0 : Hid (LS w2 w2 es 0 none 0 0 []) := ⟨⟨rfl, ⟨rfl, .inl ⟨rfl, rfl⟩⟩, fun x h => absurd h (by simp)⟩, rfl, Kept.refl _ _⟩
    clear tm hnm h1 h2 h3 hes G
    go_wp2_with fail
    go_loopw [6, 9, 22] (fun u6 _ u22 wr => ∃ (q : Option Addr) (k c i : Nat) (L : List Ca), u6 = .slice q k c ∧ u22 = .int .i64 (i : Int) ∧ i ≤ n ∧ k ≤ i ∧ Hid (LS w2 wr es i q k c L)) (fun _ _ u22 _ => n - (intOf u22).toNat)
    case atStart => exact ⟨none, 0, 0, 0, [], rfl, rfl, Nat.zero_le _, Nat.le_refl _, S0⟩
    case round =>
      obtain ⟨q, k, c, i, L, rfl, rfl, hi, hki, S⟩ := hrel
      clear S0
      obtain ⟨wo, hwo⟩ : ∃ wo, wo = wr := ⟨_, rfl⟩
      rw [← hwo] at S ⊢
      clear hwo
      have KO : Hid (Kept (fun _ => False) w wo) := K2.out.trans S.out.kept (fun _ _ z => z)
      by_cases hlt : i < n
      · have i1 : (i : Int) < (n : Int) := by omega
        obtain ⟨b8, off8, e, rfl, he, c0', c1, c2, c3, c4, c5, c6, c7, c8, rd⟩ := (H.out.1.k0 KO.out).at hlt
        obtain ⟨W, hW⟩ : ∃ W, W = wo.alloc (.cells #[.int .i64 e.kind, .int .i64 e.client, .int .i64 e.op, .bool e.put, .string e.key, .slice e.va e.vn e.vc, .int .i64 e.st, .int .i64 e.tx, .int .i64 e.ty] 45) := ⟨_, rfl⟩
        obtain ⟨B, hB⟩ : ∃ B, B = wo.heap.size := ⟨_, rfl⟩
        have J : Hid (W.heap[B]? = some (.cells #[.int .i64 e.kind, .int .i64 e.client, .int .i64 e.op, .bool e.put, .string e.key, .slice e.va e.vn e.vc, .int .i64 e.st, .int .i64 e.tx, .int .i64 e.ty] 45 (0, 0)) ∧ Kept (fun _ => False) wo W) := ⟨by rw [hW, hB]; exact alloc_new _ _, by rw [hW]; exact (Kept.refl _ _).alloc _⟩
        have EW : Hid (W = wo.alloc (.cells #[.int .i64 e.kind, .int .i64 e.client, .int .i64 e.op, .bool e.put, .string e.key, .slice e.va e.vn e.vc, .int .i64 e.st, .int .i64 e.tx, .int .i64 e.ty] 45) ∧ B = wo.heap.size) := ⟨hW, hB⟩
        have HE : Hid (es[i]? = some e) := he
        have CO3 : Hid (∀ V, Calls Tryd.prog 23 #[.agg #[.int .i64 e.kind, .int .i64 e.client, .int .i64 e.op, .bool e.put, .string e.key, .slice e.va e.vn e.vc, .int .i64 e.st, .int .i64 e.tx, .int .i64 e.ty]] V fun o w' => o = .returned (.agg #[.int .i64 e.client, .int .i64 e.op]) ∧ Kept (fun _ => False) V w') := fun V => hOper e V
        clear hW hB he rd
        go_upto_region 9 with fail
        rw [← EW.out.1, ← EW.out.2]
        clear c0' c1 c2 c3 c4 c5 c6 c7 c8 EW
        have c0 := cell_blk J.out.1 0 (v := .int .i64 e.kind) rfl
        have c1 := cell_blk J.out.1 1 (v := .int .i64 e.client) rfl
        have c2 := cell_blk J.out.1 2 (v := .int .i64 e.op) rfl
        have c3 := cell_blk J.out.1 3 (v := .bool e.put) rfl
        have c4 := cell_blk J.out.1 4 (v := .string e.key) rfl
        have c5 := cell_blk J.out.1 5 (v := .slice e.va e.vn e.vc) rfl
        have c6 := cell_blk J.out.1 6 (v := .int .i64 e.st) rfl
        have c7 := cell_blk J.out.1 7 (v := .int .i64 e.tx) rfl
        have c8 := cell_blk J.out.1 8 (v := .int .i64 e.ty) rfl
        by_cases hk : e.kind = 1
        · have q1 : (e.kind == 1) = true := by simp [hk]
          have HK : Hid (e.kind = 1) := hk
          clear hk
          go_wp2_with fail
          refine (CO3.out _).mono ?_
          rintro o w3 ⟨rfl, K3'⟩
          have K3 : Hid (Kept (fun _ => False) wo w3) := J.out.2.trans K3' (fun _ _ z => z)
          have KW3 : Hid (Kept (fun _ => False) w w3) := KO.out.trans K3.out (fun _ _ z => z)
          have K23 : Hid (Kept (fun _ => False) w2 w3) := S.out.kept.trans K3.out (fun _ _ z => z)
          clear K3' CO3 c0 c1 c2 c3 c4 c5 c6 c7 c8
          have ein := List.mem_of_getElem? HE.out
          have OPF : Hid (opF (keyE e)) := key_op (H.out.2.2.1 e ein).1 (H.out.2.2.1 e ein).2
          have inP : Hid (i ∈ placesE es (keyE e)) := by
            unfold placesE
            refine List.mem_filter.2 ⟨List.mem_range.2 (by rw [H.out.1.len]; exact hlt), ?_⟩
            unfold isAt
            rw [HE.out]
            exact decide_eq_true rfl
          obtain ⟨s, hs⟩ : ∃ s, Mp (keyE e) = some s := by
            cases hq : Mp (keyE e) with
            | none =>
              have := inP.out
              rw [M.out.2.1 _ hq] at this
              cases this
            | some s => exact ⟨s, rfl⟩
          obtain ⟨o1, o2, o3, o4⟩ := M.out.2.2 _ s hs
          have lk := (M.out.1.kept K23.out (fun z => z)).look opK OPF.out
          rw [hs] at lk
          have lk : (Instr.lookup 71 (.map (some mb)) (.agg #[.int .i64 e.client, .int .i64 e.op]) false).run Tryd.prog w3 = .ok (.slice s.p s.n s.c) w3 := lk
          obtain ⟨gq, hgq⟩ : ∃ gq, s.p = some ⟨gq, 0, none⟩ := by
            rcases o1.2 with ⟨_, z⟩ | ⟨g, cap, cur, z, _⟩
            · omega
            · have z : Value.slice s.p s.n s.c = .slice (some ⟨g, 0, none⟩) s.n cap := z
              injection z with z1 _ _
              exact ⟨g, z1⟩
          rw [hgq] at lk o1
          obtain ⟨pp, hpp⟩ : ∃ pp, (placesE es (keyE e))[0]? = some pp := ⟨_, List.getElem?_eq_getElem (by omega)⟩
          have ppl : pp < es.length := places_lt pp (List.mem_of_getElem? hpp)
          have ppe : es[pp]? = some es[pp] := List.getElem?_eq_getElem ppl
          have CF : Hid (Calls Tryd.prog 24 #[.slice (some ⟨b8, off8, none⟩) n c0, .slice (some ⟨gq, 0, none⟩) s.n s.c] w3 (RetCa fun c w' => some c.cc = callP es (placesE es (keyE e)) ∧ w'.ownsRow w3.heap.size 5 1 (.slice c.va c.vn c.vc) c.vn (cellsOf c.val) ∧ Kept (fun _ => False) w3 w')) := hCallOf (H.out.1.k0 KW3.out) (owns_mono (K23.out.owns o1 (fun _ _ z => z)) (Nat.zero_le _)) hpp ppe (fun r hr => by have := places_lt r hr; rw [H.out.1.len] at this; exact this) H.out.2.2.2
          clear o1 o2 o3 o4 hs hpp ppe ppl ein
          go_wp2_with fail
          refine CF.out.mono ?_
          rintro o w4 ⟨ca, rfl, hca, roa, K4'⟩
          unfold Ca.cs
          have K4 : Hid (Kept (fun _ => False) wo w4) := K3.out.trans K4' (fun _ _ z => z)
          have X4 : Hid (some ca.cc = callP es (placesE es (keyE e)) ∧ w4.ownsRow w2.heap.size 5 1 (.slice ca.va ca.vn ca.vc) ca.vn (cellsOf ca.val)) := ⟨hca, owns_mono roa K23.out.size⟩
          have LN : Hid (k + 1 ≤ maxLen ∧ ((k + 1) + (k + 1) / 4 + 192) * 112 ≤ 281474976710656) := by
            have q1 := H.out.2.1
            unfold maxLen
            exact ⟨by omega, by omega⟩
          have R4 : Hid (KaR w2.heap.size w4 q k c L) := S.out.row.k0 K4.out
          have KN4 : Hid (Kept (fun _ => False) w2 w4) := S.out.kept.trans K4.out (fun _ _ z => z)
          clear CF lk hca roa K4'
          go_upto_region 11 with
            (first
              | (at_builtin; refine wpList_append_all _ rfl (.tmp 29) (.tmp 36) 32 48 32 _ 11 112 rfl Tryd.underlying32 Tryd.info48c rfl w2.heap.size (.slice q k c) k (kcs L) rfl ((R4.out.k0 ((Kept.refl (fun _ => False) w4).alloc _)).row) _ 1 (kcs [ca]) rfl (src_ca (heap_alloc_new w4 _)) LN.out.1 LN.out.2 (Nat.le_trans KN4.out.size ((Kept.refl (fun _ => False) w4).alloc _).size) ?_; intro p9 c9 w9 ho hg hn9)
              | fail)
          have NX : Hid (LS w2 w9 es (i + 1) p9 (k + 1) c9 (L ++ [ca])) := by
            have KA : Kept (fun _ => False) w4 (w4.alloc (.cells ca.cs 48)) := (Kept.refl _ _).alloc _
            have Q := (R4.out.k0 KA).more (W0 := w2) (KA.owns X4.out.2 (fun _ _ z => z)) ho.out hg.out (KN4.out.trans KA (fun _ _ z => z)) (Nat.le_refl _)
            refine ⟨Q.1, ?_, Q.2⟩
            rw [callsTo_add HE.out, if_pos HK.out, List.map_append, S.out.told, ← X4.out.1]
            rfl
          clear ho hg hn9 S X4 R4 KN4
          go_wp2_with fail
          go_roundw
          case rel => exact ⟨p9, k + 1, c9, i + 1, L ++ [ca], rfl, by go_num, by omega, by omega, NX⟩
          case measure => simp [intOf] <;> omega
        · have q1 : (e.kind == 1) = false := by simp [hk]
          have NX : Hid (LS w2 W es (i + 1) q k c L) := by
            refine ⟨S.out.row.k0 J.out.2, ?_, S.out.kept.trans J.out.2 (fun _ _ z => z)⟩
            rw [callsTo_add HE.out, if_neg hk]
            exact S.out.told
          clear hk S CO3
          go_wp2_with fail
          go_roundw
          case rel => exact ⟨q, k, c, i + 1, L, rfl, by go_num, by omega, by omega, NX⟩
          case measure => simp [intOf] <;> omega
      · have i1 : ¬ (i : Int) < (n : Int) := by omega
        have F : Hid (ClQ w es q k c 0 wo) := by
          have ei : i = es.length := by have := H.out.1.len; omega
          refine ⟨⟨L, S.out.row.mono K2.out.size, .inr ⟨rfl, OK.out, ?_⟩⟩, KO.out⟩
          have := S.out.told
          rw [ei, callsTo_all] at this
          exact this
        clear S
        go_wp2_with fail
        go_ret2
        exact RetK.mk q k c 0 rfl F.out
  · have q0 : (b != 0) = true := by simp [hb0]
    have F : Hid (ClQ w es none 0 0 b w1) := ⟨⟨[], ⟨rfl, ⟨rfl, .inl ⟨rfl, rfl⟩⟩, fun x h => absurd h (by simp)⟩, .inl ⟨hb0, rfl, a, HAB.out.symm⟩⟩, K1.out⟩
    go_wp2_with fail
    go_ret2
    exact RetK.mk none 0 0 b rfl F.out
end Go.Proofs.YtbangbobfeflcaaDoor
