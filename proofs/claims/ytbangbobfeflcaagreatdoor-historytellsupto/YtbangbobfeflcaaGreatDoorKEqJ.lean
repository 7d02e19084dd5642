import Derived.Test.YtbangbobfeflcaaGreatDoorKStJ
import Derived.Deep.Cut
import Derived.BigQuiet
namespace Go.Proofs.YtbangbobfeflcaaGreatDoor
open Go.RowKit 

set_option maxRecDepth 100000 in
set_option maxHeartbeats 4000000 in
theorem hGrouS {w : World} {p0 : Option Addr} {n0 c0 : Nat} {es : List Ev} (er : ERd w p0 n0 c0 es) (hb : n0 ≤ 1500000000000) (ck : ∀ e ∈ es, strF e.key) : Calls Tryz.prog 38 #[.slice p0 n0 c0, .func (.func 39) #[] #[]] w fun o w' => ∃ mb, o = .returned (.map (some mb)) ∧ Hid (GT w es mb n0 w') := by
  have rm := er.room
  have sm := er.small
  unfold maxLen at sm
  have H : Hid (ERd w p0 n0 c0 es ∧ n0 ≤ 1500000000000 ∧ ∀ e ∈ es, strF e.key) := ⟨er, hb, ck⟩
  obtain ⟨mb, hmb⟩ : ∃ mb, mb = w.heap.size := ⟨_, rfl⟩
  obtain ⟨W0, hW0⟩ : ∃ W0, W0 = w.alloc (.map #[] 0) := ⟨_, rfl⟩
  have S0 : Hid (GT w es mb 0 W0) := by
    refine ⟨⟨0, fun _ => none, ?_, Nat.le_refl _, fun k _ => rfl, fun k s h => (by cases h), fun k k' s s' j h => (by cases h)⟩, by rw [hW0]; exact (Kept.refl _ _).alloc _, by omega, by rw [hW0, alloc_size]; omega⟩
    rw [hW0, hmb]
    exact TM.made w
  have E0 : Hid (mb = w.heap.size ∧ W0 = w.alloc (.map #[] 0)) := ⟨hmb, hW0⟩
  clear er hb ck hmb hW0
  have mk := run_makeMap (P := Tryz.prog) 69 w
  go_enter Tryz.func38, Tryz.ntmps38
  go_wp2_with fail
  rw [← E0.out.2, ← E0.out.1]
  go_loopw [6, 7, 8, 12] (fun _ _ _ u12 wr => ∃ i : Nat, u12 = .int .i64 (i : Int) ∧ i ≤ n0 ∧ Hid (GT w es mb i wr)) (fun _ _ _ u12 _ => n0 - (intOf u12).toNat)
  case atStart => exact ⟨0, rfl, Nat.zero_le _, S0⟩
  case round =>
    obtain ⟨i, rfl, hi, S⟩ := hrel
    clear S0
    obtain ⟨wo, hwo⟩ : ∃ wo, wo = wr := ⟨_, rfl⟩
    rw [← hwo] at S ⊢
    clear hwo
    by_cases hlt : i < n0
    · have i1 : (i : Int) < (n0 : Int) := by omega
      obtain ⟨b, off, e, rfl, he, c0', c1, c2, c3, c4, c5, c6, c7, c8, rd⟩ := (H.out.1.k0 S.out.kept).at hlt
      obtain ⟨W, hW⟩ : ∃ W, W = wo.alloc (.cells #[.int .i64 e.kind, .int .i64 e.client, .int .i64 e.op, .bool e.put, .string e.key, .slice e.va e.vn e.vc, .int .i64 e.st, .int .i64 e.tx, .int .i64 e.ty] 39) := ⟨_, rfl⟩
      obtain ⟨B, hB⟩ : ∃ B, B = wo.heap.size := ⟨_, rfl⟩
      have J : Hid (W.heap[B]? = some (.cells #[.int .i64 e.kind, .int .i64 e.client, .int .i64 e.op, .bool e.put, .string e.key, .slice e.va e.vn e.vc, .int .i64 e.st, .int .i64 e.tx, .int .i64 e.ty] 39 (0, 0)) ∧ Kept (fun _ => False) wo W) := ⟨by rw [hW, hB]; exact alloc_new _ _, by rw [hW]; exact (Kept.refl _ _).alloc _⟩
      have EW : Hid (W = wo.alloc (.cells #[.int .i64 e.kind, .int .i64 e.client, .int .i64 e.op, .bool e.put, .string e.key, .slice e.va e.vn e.vc, .int .i64 e.st, .int .i64 e.tx, .int .i64 e.ty] 39) ∧ B = wo.heap.size) := ⟨hW, hB⟩
      have HE : Hid (es[i]? = some e) := he
      have CO : Hid (∀ V, Calls Tryz.prog 39 #[.agg #[.int .i64 e.kind, .int .i64 e.client, .int .i64 e.op, .bool e.put, .string e.key, .slice e.va e.vn e.vc, .int .i64 e.st, .int .i64 e.tx, .int .i64 e.ty]] V fun o w' => o = .returned (.string e.key) ∧ Kept (fun _ => False) V w') := fun V => hEKey e V
      clear hW hB he rd
      go_upto_region 5 with fail
      rw [← EW.out.1, ← EW.out.2]
      clear c0' c1 c2 c3 c4 c5 c6 c7 c8 EW
      have c0 := cell_blk J.out.1 0 (v := .int .i64 e.kind) rfl
      have c1 := cell_blk J.out.1 1 (v := .int .i64 e.client) rfl
      have c2 := cell_blk J.out.1 2 (v := .int .i64 e.op) rfl
      have c3 := cell_blk J.out.1 3 (v := .bool e.put) rfl
      have c4 := cell_blk J.out.1 4 (v := .string e.key) rfl
      have c5 := cell_blk J.out.1 5 (v := .slice e.va e.vn e.vc) rfl
      have c6 := cell_blk J.out.1 6 (v := .int .i64 e.st) rfl
      have c7 := cell_blk J.out.1 7 (v := .int .i64 e.tx) rfl
      have c8 := cell_blk J.out.1 8 (v := .int .i64 e.ty) rfl
      go_wp2_with fail
      refine (CO.out _).mono ?_
      rintro o w2 ⟨rfl, K2'⟩
      have K2 : Hid (Kept (fun _ => False) wo w2) := J.out.2.trans K2' (fun _ _ z => z)
      clear K2' CO c0 c1 c2 c3 c4 c5 c6 c7 c8
      obtain ⟨n, Mp, tm, hn, h1, h2, h3⟩ := S.out.ok
      obtain ⟨key, hkey⟩ : ∃ key, e.key = key := ⟨_, rfl⟩
      obtain ⟨s, hs⟩ : ∃ s, s = (Mp key).getD ⟨none, 0, 0⟩ := ⟨_, rfl⟩
      have HS : Hid (s = (Mp e.key).getD ⟨none, 0, 0⟩ ∧ e.key = key) := ⟨by rw [hkey]; exact hs, hkey⟩
      have F : Hid (n ≤ i ∧ (∀ k, Mp k = none → placesS (es.take i) k = []) ∧ (∀ k s, Mp k = some s → wo.ownsRow w.heap.size 3 1 (.slice s.p s.n s.c) s.n (intsN (placesS (es.take i) k)) ∧ s.n = (placesS (es.take i) k).length ∧ ¬ blockOf s.p = some mb ∧ 0 < s.n) ∧ (∀ k k' s s' j, Mp k = some s → Mp k' = some s' → k ≠ k' → blockOf s.p = some j → ¬ blockOf s'.p = some j) ∧ Kept (fun _ => False) w wo ∧ w.heap.size ≤ mb ∧ mb < wo.heap.size) := ⟨hn, h1, h2, h3, S.out.kept, S.out.mb⟩
      have OPF : Hid (strF key) := by rw [← hkey]; exact H.out.2.2 e (List.mem_of_getElem? HE.out)
      obtain ⟨Y, hY⟩ : ∃ Y, Y = w2.alloc (.cells #[.int .i64 (i : Int)] 3) := ⟨_, rfl⟩
      have KY : Hid (Kept (fun _ => False) wo Y) := by rw [hY]; exact K2.out.alloc _
      have OW0 : wo.ownsRow w.heap.size 3 1 (.slice s.p s.n s.c) s.n (intsN (placesS (es.take i) key)) ∧ (s.n ≤ i) ∧ ¬ blockOf s.p = some mb := by
        have hil := (List.getElem?_eq_some_iff.1 HE.out).1
        have pl : (placesS (es.take i) key).length ≤ i := by
          refine Nat.le_trans (List.length_filter_le _ _) ?_
          rw [List.length_range, List.length_take]
          omega
        cases hq : Mp key with
        | none =>
          rw [hq] at hs
          rw [hs, h1 _ hq]
          exact ⟨⟨rfl, .inl ⟨rfl, rfl⟩⟩, Nat.zero_le _, fun z => (by cases z)⟩
        | some s' =>
          rw [hq] at hs
          have hs : s = s' := hs
          rw [hs]
          obtain ⟨r1, r2, r3, _⟩ := h2 _ _ hq
          exact ⟨r1, by rw [r2]; exact pl, r3⟩
      have OWN : Hid (Y.ownsRow w.heap.size 3 1 (.slice s.p s.n s.c) s.n (intsN (placesS (es.take i) key))) := KY.out.owns OW0.1 (fun _ _ z => z)
      have SRC : Hid (Src Tryz.prog 1 70 (.slice (some ⟨w2.heap.size, 0, none⟩) 1 1) 1 (intsN [i]) Y) := by
        rw [hY]
        exact src_one (alloc_new w2 _)
      have LN : Hid (s.n + 1 ≤ maxLen ∧ ((s.n + 1) + (s.n + 1) / 4 + 192) * 8 ≤ 281474976710656) := by
        have q1 := OW0.2.1
        have q2 := H.out.2.1
        unfold maxLen
        exact ⟨by omega, by omega⟩
      have LB : Hid (w.heap.size ≤ Y.heap.size) := Nat.le_trans S.out.kept.size KY.out.size
      have TMK : Hid (∀ w9, Y.grownBy w9 (Value.slice s.p s.n s.c).ownBlock → TM 9 strL strF Sl.v RSl w9 mb n Mp ∧ n < maxLen) := by
        intro w9 hg
        have KG : Kept (fun j => blockOf s.p = some j) Y w9 := (Kept.refl _ Y).grown hg (fun j _ z => by rw [blockOf_own] at z; exact z)
        refine ⟨(tm.kept KY.out (fun z => z)).kept KG OW0.2.2, ?_⟩
        have q2 := H.out.2.1
        unfold maxLen
        omega
      have lk := (tm.kept K2.out (fun z => z)).look strK OPF.out
      rw [← hs] at lk
      have lk : (Instr.lookup 69 (.map (some mb)) (.string key) false).run Tryz.prog w2 = .ok (.slice s.p s.n s.c) w2 := lk
      obtain ⟨sp, sn, sc⟩ := s
      have lk : (Instr.lookup 69 (.map (some mb)) (.string key) false).run Tryz.prog w2 = .ok (.slice sp sn sc) w2 := lk
      have OWN : Hid (Y.ownsRow w.heap.size 3 1 (.slice sp sn sc) sn (intsN (placesS (es.take i) key))) := OWN
      have LN : Hid (sn + 1 ≤ maxLen ∧ ((sn + 1) + (sn + 1) / 4 + 192) * 8 ≤ 281474976710656) := LN
      have YE : Hid (w2.alloc (.cells #[.int .i64 (i : Int)] 3) = Y) := hY.symm
      clear tm hn h1 h2 h3 hs OW0 S hY
      rw [hkey]
      clear hkey
      go_upto_region 6 with fail
      go_wp2_with
        (first
          | (at_builtin; rw [YE.out]; refine wpList_append_all _ rfl (.tmp 24) (.tmp 26) 70 3 70 _ 1 8 rfl Tryz.underlying70 Tryz.info3c rfl w.heap.size (.slice sp sn sc) sn (intsN (placesS (es.take i) key)) rfl OWN.out _ 1 (intsN [i]) rfl SRC.out LN.out.1 LN.out.2 LB.out ?_; intro p9 c9 w9 ho hg hn9)
          | (refine wpList_put strK _ rfl (.tmp 20) (.tmp 21) (.tmp 27) rfl mb n Mp rfl (TMK.out _ hg.out).1 (TMK.out _ hg.out).2 key OPF.out ⟨p9, sn + 1, c9⟩ rfl rfl ?_; intro w10 tm KT)
          | fail)
      have N : Hid (GT w es mb (i + 1) w10) := GT.step F.out.1 F.out.2.1 F.out.2.2.1 F.out.2.2.2.1 F.out.2.2.2.2.1 F.out.2.2.2.2.2 KY.out HE.out HS.out.1 (by rw [HS.out.2]; exact ho.out) hg.out hn9.out (by rw [HS.out.2]; exact tm.out) KT.out
      clear ho hg hn9 tm KT
      go_roundw
      case rel => exact ⟨i + 1, by go_num, by omega, N⟩
      case measure => simp [intOf] <;> omega
    · have i1 : ¬ (i : Int) < (n0 : Int) := by omega
      obtain rfl : i = n0 := by omega
      go_wp2_with fail
      go_ret
      exact ⟨mb, rfl, S⟩
end Go.Proofs.YtbangbobfeflcaaGreatDoor

namespace Go.Proofs.YtbangbobfeflcaaGreatDoor
open Go.RowKit 

/-- An event but for where its value lies. -/
def lk (x e : Ev) : Prop := x.kind = e.kind ∧ x.client = e.client ∧ x.op = e.op ∧ x.put = e.put ∧ x.key = e.key ∧ x.vn = e.vn ∧ x.st = e.st ∧ x.tx = e.tx ∧ x.ty = e.ty ∧ x.val = e.val
theorem places_takeS {es : List Ev} {e : Ev} {i : Nat} (k : ByteArray) (he : es[i]? = some e) : placesS (es.take (i + 1)) k = if e.key = k then placesS (es.take i) k ++ [i] else placesS (es.take i) k := by
  have hil := (List.getElem?_eq_some_iff.1 he).1
  have et : es.take (i + 1) = es.take i ++ [e] := by rw [List.take_add_one, he]; rfl
  have tl : (es.take i).length = i := by rw [List.length_take]; omega
  rw [et, places_snocS, tl]
theorem places_preS (es : List Ev) (k : ByteArray) (i : Nat) : ∀ d, i + d ≤ es.length → ∃ r, placesS (es.take (i + d)) k = placesS (es.take i) k ++ r
  | 0, _ => ⟨[], by rw [List.append_nil]; rfl⟩
  | d + 1, h => by
    obtain ⟨r, hr⟩ := places_preS es k i d (by omega)
    obtain ⟨e, he⟩ : ∃ e, es[i + d]? = some e := ⟨_, List.getElem?_eq_getElem (by omega)⟩
    have q := places_takeS k he
    show ∃ r, placesS (es.take (i + d + 1)) k = _
    rw [q]
    split
    · exact ⟨r ++ [i + d], by rw [hr, List.append_assoc]⟩
    · exact ⟨r, hr⟩
theorem places_allS {es : List Ev} (k : ByteArray) {i : Nat} (h : i ≤ es.length) : ∃ r, placesS es k = placesS (es.take i) k ++ r := by
  obtain ⟨r, hr⟩ := places_preS es k i (es.length - i) (by omega)
  rw [show i + (es.length - i) = es.length by omega, List.take_length] at hr
  exact ⟨r, hr⟩
/-- Where an event stands among those of its key. -/
theorem places_atS {es : List Ev} {e : Ev} {i : Nat} {k : ByteArray} (he : es[i]? = some e) (hk : e.key = k) : (placesS es k)[(placesS (es.take i) k).length]? = some i := by
  have hil := (List.getElem?_eq_some_iff.1 he).1
  obtain ⟨r, hr⟩ := places_allS k (es := es) (i := i + 1) (by omega)
  rw [hr, places_takeS k he, if_pos hk, List.append_assoc, List.getElem?_append_right (Nat.le_refl _), Nat.sub_self]
  rfl
theorem places_ltS {es : List Ev} {k : ByteArray} : ∀ p ∈ placesS es k, p < es.length := fun _ hp => List.mem_range.1 (List.mem_filter.1 hp).1
theorem placesS_len (es : List Ev) (k : ByteArray) : (placesS es k).length ≤ es.length := by
  refine Nat.le_trans (List.length_filter_le _ _) ?_
  rw [List.length_range]
  exact Nat.le_refl _
/-- The events of a key, in memory of one's own. -/
structure OF (w wr : World) (es : List Ev) (k : ByteArray) (p : Option Addr) (n c : Nat) (L : List Ev) : Prop where
  ps : PS w wr p n c L
  at_ : ∀ (m q : Nat) (x e : Ev), L[m]? = some x → (placesS es k)[m]? = some q → es[q]? = some e → lk x e
theorem PS.base {w wc wr : World} {p : Option Addr} {k c : Nat} {L : List Ev} (h : PS wc wr p k c L) (K : Kept (fun _ => False) w wc) : PS w wr p k c L := ⟨⟨h.row.len, owns_mono h.row.row K.size⟩, fun e he => owns_mono (h.val e he) K.size, K.trans h.kept (fun _ _ z => z)⟩
theorem int_cell {w : World} {base n c : Nat} {p : Option Addr} {R : List Nat} (h : w.ownsRow base 3 1 (.slice p n c) n (intsN R)) (h0 : 0 < n) : ∃ g, p = some ⟨g, 0, none⟩ ∧ ∀ (j q : Nat), R[j]? = some q → w.cell? ⟨g, j, none⟩ = some (.int .i64 (q : Int)) := by
  rcases h.2 with ⟨_, hn⟩ | ⟨g, cap, cur, z, _, hg, _⟩
  · omega
  · have z : Value.slice p n c = .slice (some ⟨g, 0, none⟩) n cap := z
    injection z with z1 _ z3
    subst z1
    have hc := h.cells (g := g) rfl
    refine ⟨g, rfl, fun j q hv => ?_⟩
    have := hc j (.int .i64 (q : Int)) (by unfold intsN; rw [List.getElem?_map, hv]; rfl)
    rw [Addr.add_none, Nat.zero_add] at this
    exact this
end Go.Proofs.YtbangbobfeflcaaGreatDoor

namespace Go.Proofs.YtbangbobfeflcaaGreatDoor
open Go.RowKit 

set_option maxRecDepth 100000 in
set_option maxHeartbeats 2000000 in
theorem hEqual {w : World} {kind client op st tx ty : Int} {put : Bool} {key : ByteArray} {va va' : Option Addr} {vn vc vc' : Nat} {val : List Nat} (R1 : Reads w va vn vc val) (R2 : Reads w va' vn vc' val) : Calls Tryz.prog 17 #[.agg #[.int .i64 kind, .int .i64 client, .int .i64 op, .bool put, .string key, .slice va vn vc, .int .i64 st, .int .i64 tx, .int .i64 ty], .agg #[.int .i64 kind, .int .i64 client, .int .i64 op, .bool put, .string key, .slice va' vn vc', .int .i64 st, .int .i64 tx, .int .i64 ty]] w fun o w' => o = .returned (.bool true) ∧ Kept (fun _ => False) w w' := by
  have C28 : Hid (∀ V, Kept (fun _ => False) w V → Calls Tryz.prog 28 #[.slice va vn vc, .slice va' vn vc'] V fun o w' => o = .returned (.bool true) ∧ Kept (fun _ => False) V w') := fun V K => by
    have q := hSame (Reads.kept K R1 (fun _ _ z => z)) (Reads.kept K R2 (fun _ _ z => z))
    rw [decide_eq_true rfl] at q
    exact q
  clear R1 R2
  have HA : Hid (Kept (fun _ => False) w ((w.alloc (.cells #[.int .i64 kind, .int .i64 client, .int .i64 op, .bool put, .string key, .slice va vn vc, .int .i64 st, .int .i64 tx, .int .i64 ty] 39)).alloc (.cells #[.int .i64 kind, .int .i64 client, .int .i64 op, .bool put, .string key, .slice va' vn vc', .int .i64 st, .int .i64 tx, .int .i64 ty] 39)) ∧ ((w.alloc (.cells #[.int .i64 kind, .int .i64 client, .int .i64 op, .bool put, .string key, .slice va vn vc, .int .i64 st, .int .i64 tx, .int .i64 ty] 39)).alloc (.cells #[.int .i64 kind, .int .i64 client, .int .i64 op, .bool put, .string key, .slice va' vn vc', .int .i64 st, .int .i64 tx, .int .i64 ty] 39)).heap[w.heap.size]? = some (.cells #[.int .i64 kind, .int .i64 client, .int .i64 op, .bool put, .string key, .slice va vn vc, .int .i64 st, .int .i64 tx, .int .i64 ty] 39 (0, 0)) ∧ ((w.alloc (.cells #[.int .i64 kind, .int .i64 client, .int .i64 op, .bool put, .string key, .slice va vn vc, .int .i64 st, .int .i64 tx, .int .i64 ty] 39)).alloc (.cells #[.int .i64 kind, .int .i64 client, .int .i64 op, .bool put, .string key, .slice va' vn vc', .int .i64 st, .int .i64 tx, .int .i64 ty] 39)).heap[w.heap.size + 1]? = some (.cells #[.int .i64 kind, .int .i64 client, .int .i64 op, .bool put, .string key, .slice va' vn vc', .int .i64 st, .int .i64 tx, .int .i64 ty] 39 (0, 0))) := ⟨((Kept.refl _ _).alloc _).alloc _, alloc_old _ (alloc_new _ _), by
    have q := alloc_new (w.alloc (.cells #[.int .i64 kind, .int .i64 client, .int .i64 op, .bool put, .string key, .slice va vn vc, .int .i64 st, .int .i64 tx, .int .i64 ty] 39)) (.cells #[.int .i64 kind, .int .i64 client, .int .i64 op, .bool put, .string key, .slice va' vn vc', .int .i64 st, .int .i64 tx, .int .i64 ty] 39)
    rw [alloc_size] at q
    exact q⟩
  go_enter Tryz.func17, Tryz.ntmps17
  go_wp2_with fail
  refine (C28.out _ HA.out.1).mono ?_
  rintro o w3 ⟨rfl, K3⟩
  have HB : Hid (Kept (fun _ => False) w w3) := HA.out.1.trans K3 (fun _ _ z => z)
  have b1 := K3.get HA.out.2.1 (fun z => z)
  have b2 := K3.get HA.out.2.2 (fun z => z)
  have c1 := cell_blk b1 6 (v := .int .i64 st) rfl
  have c2 := cell_blk b1 7 (v := .int .i64 tx) rfl
  have c3 := cell_blk b1 8 (v := .int .i64 ty) rfl
  have d1 := cell_blk b2 6 (v := .int .i64 st) rfl
  have d2 := cell_blk b2 7 (v := .int .i64 tx) rfl
  have d3 := cell_blk b2 8 (v := .int .i64 ty) rfl
  clear K3 HA C28 b1 b2
  go_wp2_with fail
  go_ret
  exact ⟨rfl, HB.out⟩
end Go.Proofs.YtbangbobfeflcaaGreatDoor
