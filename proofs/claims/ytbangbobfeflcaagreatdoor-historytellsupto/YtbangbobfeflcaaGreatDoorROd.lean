import Derived.Test.YtbangbobfeflcaaGreatDoorRKw
import Derived.Test.YtbangbobfeflcaaGreatDoorKEqJ
import Derived.Test.YtbangbobfeflcaaGreatDoorRPoJ
import Derived.Deep.Cut
import Derived.BigQuiet
namespace Go.Proofs.YtbangbobfeflcaaGreatDoor
open Go.RowKit 

set_option maxRecDepth 100000 in
set_option maxHeartbeats 4000000 in
theorem hOfD {w : World} {p0 : Option Addr} {n0 c0 : Nat} {es : List Ev} {key : ByteArray} (er : ERd w p0 n0 c0 es) (hb : n0 ≤ 1500000000000) (ck : ∀ e ∈ es, strF e.key) (vb : ∀ e ∈ es, e.vn + 1 ≤ 140737488355328) (hk : strF key) : Calls Tryz.prog 16 #[.slice p0 n0 c0, .string key] w fun o w' => ∃ (p : Option Addr) (c : Nat) (L : List Ev), o = .returned (.slice p (placesS es key).length c) ∧ Hid (OF w w' es key p (placesS es key).length c L ∧ Dst w' L ∧ ∀ e ∈ L, ∀ x, blockOf e.va = some x → w.heap.size ≤ x) := by
  have H : Hid (ERd w p0 n0 c0 es ∧ n0 ≤ 1500000000000 ∧ (∀ e ∈ es, strF e.key) ∧ (∀ e ∈ es, e.vn + 1 ≤ 140737488355328) ∧ strF key) := ⟨er, hb, ck, vb, hk⟩
  have C38 : Hid (Calls Tryz.prog 38 #[.slice p0 n0 c0, .func (.func 39) #[] #[]] w fun o w' => ∃ mb, o = .returned (.map (some mb)) ∧ Hid (GT w es mb n0 w')) := hGrouS er hb ck
  clear er hb ck vb hk
  obtain ⟨k, hkk⟩ : ∃ k, (placesS es key).length = k := ⟨_, rfl⟩
  rw [hkk]
  have KK : Hid ((placesS es key).length = k ∧ k ≤ 1500000000000) := ⟨hkk, by have h1 := placesS_len es key; have h2 := H.out.1.len; have h3 := H.out.2.1; omega⟩
  clear hkk
  go_enter Tryz.func16, Tryz.ntmps16
  go_wp2_with fail
  refine C38.out.mono ?_
  rintro o w1 ⟨mb, rfl, G⟩
  clear C38
  obtain ⟨n, Mp, tm, hn, h1, h2, h3⟩ := G.out.ok
  have etk : es.take n0 = es := by rw [← H.out.1.len, List.take_length]
  rw [etk] at h1 h2
  have look := tm.look strK H.out.2.2.2.2
  obtain ⟨s, hs⟩ : ∃ s, s = (Mp key).getD ⟨none, 0, 0⟩ := ⟨_, rfl⟩
  rw [← hs] at look
  have OW : w1.ownsRow w.heap.size 3 1 (.slice s.p s.n s.c) s.n (intsN (placesS es key)) ∧ s.n = k := by
    cases hq : Mp key with
    | none =>
      rw [hq] at hs
      have e0 := h1 _ hq
      have e1 := KK.out.1
      rw [e0] at e1
      rw [hs, e0]
      exact ⟨⟨rfl, .inl ⟨rfl, rfl⟩⟩, e1⟩
    | some s' =>
      rw [hq] at hs
      have hs : s = s' := hs
      rw [hs]
      obtain ⟨r1, r2, _, _⟩ := h2 _ _ hq
      exact ⟨r1, by rw [r2]; exact KK.out.1⟩
  obtain ⟨sp, sn, sc⟩ := s
  have esn : sn = k := OW.2
  subst esn
  replace look : (Instr.lookup 69 (.map (some mb)) (.string key) false).run Tryz.prog w1 = .ok (.slice sp sn sc) w1 := look
  have OWN : Hid (w1.ownsRow w.heap.size 3 1 (.slice sp sn sc) sn (intsN (placesS es key))) := OW.1
  have K1 : Hid (Kept (fun _ => False) w w1) := G.out.kept
  have ksn : sn ≤ 1500000000000 := KK.out.2
  have E1 : Hid (ERd w1 p0 n0 c0 es) := H.out.1.k0 G.out.kept
  have S0 : Hid (OF w1 w1 es key none 0 0 [] ∧ Dst w1 []) := ⟨⟨⟨EaR.nil _ _, fun e he => (by cases he), Kept.refl _ _⟩, fun m q x e hx => (by cases hx)⟩, List.Pairwise.nil, fun e he => (by cases he)⟩
  clear G tm hn h1 h2 h3 hs OW etk
  go_wp2_with fail
  clear look
  go_loopw [5, 7, 8, 14] (fun u5 _ _ u14 wr => ∃ (i : Nat) (p : Option Addr) (c : Nat) (L : List Ev), u5 = .slice p i c ∧ u14 = .int .i64 (i : Int) ∧ i ≤ sn ∧ Hid (OF w1 wr es key p i c L ∧ Dst wr L)) (fun _ _ _ u14 _ => sn - (intOf u14).toNat)
  case atStart => exact ⟨0, none, 0, [], rfl, rfl, Nat.zero_le _, S0⟩
  case round =>
    clear S0
    obtain ⟨i, p, c, L, rfl, rfl, hi, S⟩ := hrel
    obtain ⟨wo, hwo⟩ : ∃ wo, wo = wr := ⟨_, rfl⟩
    rw [← hwo] at S ⊢
    clear hwo
    by_cases hlt : i < sn
    · have lti : (i : Int) < (sn : Int) := by omega
      obtain ⟨q, hq⟩ : ∃ q, (placesS es key)[i]? = some q := ⟨_, List.getElem?_eq_getElem (by rw [KK.out.1]; exact hlt)⟩
      have hql : q < n0 := by rw [← H.out.1.len]; exact places_ltS q (List.mem_of_getElem? hq)
      obtain ⟨g, eg, gc⟩ := int_cell (S.out.1.ps.kept.owns OWN.out (fun _ _ z => z)) (by omega)
      subst eg
      have m0 := gc i q hq
      obtain ⟨b, off, e, eb, he, c0', c1, c2, c3, c4, c5, c6, c7, c8, rd⟩ := (E1.out.k0 S.out.1.ps.kept).at hql
      subst eb
      have q0 : (0 : Int) ≤ (q : Int) := by omega
      have q1 : (q : Int) < (n0 : Int) := by omega
      have rm := H.out.1.room
      have HE : Hid (es[q]? = some e ∧ (placesS es key)[i]? = some q ∧ Reads wo e.va e.vn e.vc e.val) := ⟨he, hq, rd⟩
      obtain ⟨W, hW⟩ : ∃ W, W = wo.alloc (.cells #[.int .i64 e.kind, .int .i64 e.client, .int .i64 e.op, .bool e.put, .string e.key, .slice e.va e.vn e.vc, .int .i64 e.st, .int .i64 e.tx, .int .i64 e.ty] 39) := ⟨_, rfl⟩
      obtain ⟨B, hB⟩ : ∃ B, B = wo.heap.size := ⟨_, rfl⟩
      have J : Hid (W.heap[B]? = some (.cells #[.int .i64 e.kind, .int .i64 e.client, .int .i64 e.op, .bool e.put, .string e.key, .slice e.va e.vn e.vc, .int .i64 e.st, .int .i64 e.tx, .int .i64 e.ty] 39 (0, 0)) ∧ Kept (fun _ => False) wo W) := ⟨by rw [hW, hB]; exact alloc_new _ _, by rw [hW]; exact (Kept.refl _ _).alloc _⟩
      have EW : Hid (W = wo.alloc (.cells #[.int .i64 e.kind, .int .i64 e.client, .int .i64 e.op, .bool e.put, .string e.key, .slice e.va e.vn e.vc, .int .i64 e.st, .int .i64 e.tx, .int .i64 e.ty] 39) ∧ B = wo.heap.size) := ⟨hW, hB⟩
      clear hW hB he rd hq gc
      go_upto_region 6 with fail
      rw [← EW.out.1, ← EW.out.2]
      clear c0' c1 c2 c3 c4 c5 c6 c7 c8 m0
      have f5 := cell_blk J.out.1 5 (v := .slice e.va e.vn e.vc) rfl
      have CC : Hid (Calls Tryz.prog 40 #[.slice e.va e.vn e.vc] W (RetL (fun p c' w' => Cl5 W e.val p e.vn c' w') e.vn)) := hClone (Reads.kept J.out.2 HE.out.2.2 (fun _ _ z => z)) (H.out.2.2.2.1 e (List.mem_of_getElem? HE.out.1))
      go_wp2_with fail
      refine CC.out.mono ?_
      rintro o w2 ⟨p6, c6, rfl, X6⟩
      have G6 : Hid (Cl5 W e.val p6 e.vn c6 w2 ∧ w2.heap[B]? = some (.cells #[.int .i64 e.kind, .int .i64 e.client, .int .i64 e.op, .bool e.put, .string e.key, .slice e.va e.vn e.vc, .int .i64 e.st, .int .i64 e.tx, .int .i64 e.ty] 39 (0, 0))) := ⟨X6, X6.kept.get J.out.1 (fun z => z)⟩
      clear X6 CC f5
      have s5 := soft_blk G6.out.2 5
      have g5 := cell_blk G6.out.2 5 (v := .slice e.va e.vn e.vc) rfl
      go_upto_region 7 with fail
      obtain ⟨w3, hw3⟩ : ∃ w3, w3 = w2.setCell ⟨B, 5, none⟩ (.slice p6 e.vn c6) := ⟨_, rfl⟩
      rw [← hw3]
      clear s5 g5
      have J3 : Hid (w3.heap[B]? = some (.cells #[.int .i64 e.kind, .int .i64 e.client, .int .i64 e.op, .bool e.put, .string e.key, .slice p6 e.vn c6, .int .i64 e.st, .int .i64 e.tx, .int .i64 e.ty] 39 (0, 0)) ∧ OF w1 w3 es key p i c L ∧ w3.ownsRow w1.heap.size 5 1 (.slice p6 e.vn c6) e.vn (cellsOf e.val) ∧ Dst wo L ∧ wo.heap.size ≤ w3.heap.size ∧ ∀ x, blockOf p6 = some x → wo.heap.size ≤ x ∧ x < w3.heap.size) := by
        have hh := set_heap G6.out.2 5 (.slice p6 e.vn c6)
        have KW : Kept (fun _ => False) wo w2 := J.out.2.trans G6.out.1.kept (fun _ _ z => z)
        have K3 : Kept (fun _ => False) wo w3 := by
          rw [hw3]
          exact KW.setCell (p := ⟨B, 5, none⟩) (fun z => by
            have z : B < wo.heap.size := z
            have := EW.out.2
            omega) _
        have KB : Kept (fun j => j = B) w2 w3 := by
          rw [hw3]
          exact (Kept.refl (fun j => j = B) w2).setCell (p := ⟨B, 5, none⟩) (fun _ => rfl) _
        have sz : w1.heap.size ≤ W.heap.size := Nat.le_trans S.out.1.ps.kept.size J.out.2.size
        refine ⟨by rw [hw3]; exact hh, ⟨S.out.1.ps.k0 K3, S.out.1.at_⟩, KB.owns (owns_mono G6.out.1.row sz) (fun j z y => ?_), S.out.2, K3.size, fun x hx => ?_⟩
        rotate_left
        · have z1 := own_lt G6.out.1.row x hx
          have z2 := J.out.2.size
          have z3 := KB.size
          omega
        rw [blockOf_own] at z
        obtain ⟨cs, ty⟩ := own_type G6.out.1.row j z
        have y : j = B := y
        subst y
        rw [G6.out.2] at ty
        simp at ty
      clear hw3 S J EW G6
      have f0 := cell_blk J3.out.1 0 (v := .int .i64 e.kind) rfl
      have f1 := cell_blk J3.out.1 1 (v := .int .i64 e.client) rfl
      have f2 := cell_blk J3.out.1 2 (v := .int .i64 e.op) rfl
      have f3 := cell_blk J3.out.1 3 (v := .bool e.put) rfl
      have f4 := cell_blk J3.out.1 4 (v := .string e.key) rfl
      have f5 := cell_blk J3.out.1 5 (v := .slice p6 e.vn c6) rfl
      have f6 := cell_blk J3.out.1 6 (v := .int .i64 e.st) rfl
      have f7 := cell_blk J3.out.1 7 (v := .int .i64 e.tx) rfl
      have f8 := cell_blk J3.out.1 8 (v := .int .i64 e.ty) rfl
      have KA : Hid (Kept (fun _ => False) w3 (w3.alloc (.cells #[.int .i64 e.kind, .int .i64 e.client, .int .i64 e.op, .bool e.put, .string e.key, .slice p6 e.vn c6, .int .i64 e.st, .int .i64 e.tx, .int .i64 e.ty] 39))) := (Kept.refl _ _).alloc _
      have S5 : Hid (PS w1 (w3.alloc (.cells #[.int .i64 e.kind, .int .i64 e.client, .int .i64 e.op, .bool e.put, .string e.key, .slice p6 e.vn c6, .int .i64 e.st, .int .i64 e.tx, .int .i64 e.ty] 39)) p i c L) := J3.out.2.1.ps.k0 KA.out
      have R5 : Hid ((w3.alloc (.cells #[.int .i64 e.kind, .int .i64 e.client, .int .i64 e.op, .bool e.put, .string e.key, .slice p6 e.vn c6, .int .i64 e.st, .int .i64 e.tx, .int .i64 e.ty] 39)).ownsRow w1.heap.size 5 1 (.slice p6 e.vn c6) e.vn (cellsOf e.val)) := KA.out.owns J3.out.2.2.1 (fun _ _ z => z)
      have SR : Hid (Src Tryz.prog 9 22 (.slice (some ⟨w3.heap.size, 0, none⟩) 1 1) 1 (ecs [⟨e.kind, e.client, e.op, e.put, e.key, p6, e.vn, c6, e.st, e.tx, e.ty, e.val⟩]) (w3.alloc (.cells #[.int .i64 e.kind, .int .i64 e.client, .int .i64 e.op, .bool e.put, .string e.key, .slice p6 e.vn c6, .int .i64 e.st, .int .i64 e.tx, .int .i64 e.ty] 39))) := src_ev (alloc_new _ _)
      have LN : Hid (i + 1 ≤ maxLen ∧ ((i + 1) + (i + 1) / 4 + 192) * 96 ≤ 281474976710656) := by
        have := KK.out.2
        unfold maxLen
        exact ⟨by omega, by omega⟩
      go_upto_region 8 with
        (first
          | (at_builtin; refine wpList_append_all _ rfl (.tmp 26) (.tmp 28) 22 39 22 _ 9 96 rfl Tryz.underlying22 Tryz.info39c rfl w1.heap.size (.slice p i c) i (ecs L) rfl S5.out.row.row _ 1 (ecs [⟨e.kind, e.client, e.op, e.put, e.key, p6, e.vn, c6, e.st, e.tx, e.ty, e.val⟩]) rfl SR.out LN.out.1 LN.out.2 S5.out.kept.size ?_; intro p9 c9 w9 ho hg hn9)
          | fail)
      have N0 : Hid (OF w1 w9 es key p9 (i + 1) c9 (L ++ [⟨e.kind, e.client, e.op, e.put, e.key, p6, e.vn, c6, e.st, e.tx, e.ty, e.val⟩])) := ⟨S5.out.more (x := ⟨e.kind, e.client, e.op, e.put, e.key, p6, e.vn, c6, e.st, e.tx, e.ty, e.val⟩) R5.out ho.out hg.out, fun m r x y hx hr hy => by
        have hl := S5.out.row.len
        by_cases hm : m < L.length
        · rw [List.getElem?_append_left hm] at hx
          exact J3.out.2.1.at_ m r x y hx hr hy
        · have hm2 := (List.getElem?_eq_some_iff.1 hx).1
          rw [List.length_append, List.length_singleton] at hm2
          obtain rfl : m = i := by omega
          rw [List.getElem?_append_right (by omega), hl, Nat.sub_self] at hx
          have hx := (Option.some.inj hx).symm
          have er : q = r := Option.some.inj (HE.out.2.1.symm.trans hr)
          subst er
          have ey : e = y := Option.some.inj (HE.out.1.symm.trans hy)
          subst ey
          subst hx
          exact ⟨rfl, rfl, rfl, rfl, rfl, rfl, rfl, rfl, rfl, rfl⟩⟩
      have N : Hid (OF w1 w9 es key p9 (i + 1) c9 (L ++ [⟨e.kind, e.client, e.op, e.put, e.key, p6, e.vn, c6, e.st, e.tx, e.ty, e.val⟩]) ∧ Dst w9 (L ++ [⟨e.kind, e.client, e.op, e.put, e.key, p6, e.vn, c6, e.st, e.tx, e.ty, e.val⟩])) := by
        have z1 := (kgr hg.out).size
        have z2 := KA.out.size
        have z3 := J3.out.2.2.2.2.1
        refine ⟨N0.out, J3.out.2.2.2.1.more (fun b hb => ?_) (by omega)⟩
        have q := J3.out.2.2.2.2.2 b hb
        omega
      clear N0
      clear ho hg hn9 S5 R5 SR KA J3 LN f0 f1 f2 f3 f4 f5 f6 f7 f8
      go_wp2_with fail
      go_roundw
      case rel => exact ⟨i + 1, p9, c9, _, rfl, by go_num, by omega, N⟩
      case measure => simp [intOf] <;> omega
    · have lti : ¬ (i : Int) < (sn : Int) := by omega
      obtain rfl : i = sn := by omega
      have N : Hid (OF w wo es key p i c L ∧ Dst wo L ∧ ∀ e ∈ L, ∀ x, blockOf e.va = some x → w.heap.size ≤ x) := ⟨⟨S.out.1.ps.base K1.out, S.out.1.at_⟩, S.out.2, fun e he x hx => (own_lt ((S.out.1.ps.base K1.out).val e he) x hx).1⟩
      clear S
      go_wp2_with fail
      go_ret
      first | exact ⟨p, c, L, rfl, N⟩ | exact ⟨p, c, rfl, L, N⟩
end Go.Proofs.YtbangbobfeflcaaGreatDoor
