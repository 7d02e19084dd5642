import Derived.Test.YtojepeefphbekaaGreatTCopyJ
import Derived.Test.YtojepeefphbekaaGreatUpdsJ
import Derived.Test.YtojepeefphbekaaGreatUniqJ
namespace Go.Proofs.YtojepeefphbekaaGreat
open Go.RowKit 

/-- A second table with the same entries. -/
structure CopyOf (w w' : World) (n : Nat) (t c : TK) : Prop where
  tab : IsT w' n c
  delta : c.delta = t.delta
  none : ∀ k, c.R k = none ↔ t.R k = none
  row : ∀ k r', c.R k = some r' → ∃ r, t.R k = some r ∧ r'.S = r.S ∧ r'.M = r.M ∧ r'.len = r.len
  kept : Kept (fun _ => False) w w'
  fresh : ∀ b, c.Uses b → w.heap.size ≤ b
  ftb : w.heap.size ≤ c.tb
theorem CI.copy {w wr w' : World} {rb nb rr n cnt0 : Nat} {d : Int} {t : TK} {R' : ByteArray → Option RK} {L : ByteArray → Prop} {m cnt tb : Nat} (h : CI w wr rb nb rr n cnt0 t R' L m cnt) (ht : IsT w n t) (hd : t.delta = d) (hc : cnt0 ≤ n) (no : ∀ k r, t.R k = some r → ¬ L k) (h1 : w.heap.size ≤ nb)
    (K : Kept (fun _ => False) wr w') (hb : w'.heap[tb]? = some (.cells #[.int .i64 d, .map (some nb)] 85 (0, 0))) (h2 : wr.heap.size ≤ tb) : CopyOf w w' n t ⟨tb, nb, d, R'⟩ := by
  have rn : ∀ k, R' k = none ↔ t.R k = none := by
    intro k
    constructor
    · intro z
      cases hr : t.R k with
      | none => rfl
      | some r =>
        rcases h.all k r hr with q | q
        · exact absurd q (no k r hr)
        · exact absurd z q
    · intro z
      cases hr : R' k with
      | none => rfl
      | some r' =>
        obtain ⟨_, r, hr2, _⟩ := h.row k r' hr
        rw [z] at hr2
        cases hr2
  have few := h.few
  have K0 := h.kept.and0 K
  refine ⟨⟨hb, (h.tm.kept K (fun z => z)).mono (by omega), fun k r' hr => (h.row k r' hr).1.k0 K, fun k r' hr => ?_, h.apart, fun k r' hr => ⟨fun z => (h.fresh k r' hr _ z).2.1 rfl, fun z => ?_⟩⟩, hd.symm, rn, fun k r' hr => (h.row k r' hr).2, K0, fun b hbb => ?_, ?_⟩
  · obtain ⟨_, r, hr2, _, _, q⟩ := h.row k r' hr
    rw [q]
    exact ht.len k r hr2
  · have := (h.row k r' hr).1.lt z
    have h2 : wr.heap.size ≤ tb := h2
    have this : tb < wr.heap.size := this
    omega
  · rcases hbb with z | ⟨k, r', hr, z⟩
    · have z : b = nb := z
      omega
    · exact (h.fresh k r' hr b z).1
  · have := h.kept.size
    show w.heap.size ≤ tb
    omega
set_option maxRecDepth 100000 in
set_option maxHeartbeats 4000000 in
/-- Copy. -/
theorem cCopy {wr0 : World} {d : Int} {t : TK} {n : Nat} {tb : Nat} (h : IsT wr0 n t) (pp : ∀ k r, t.R k = some r → ∀ g ∈ r.S, isProper g.1 g.2 = true) (ed : t.delta = d) (et : t.tb = tb) (hl : n ≤ 4398046511104) : Calls Tryz.prog 10 #[.pointer (some ⟨tb, 0, none⟩)] wr0 fun o w' => ∃ nb, o = .returned (.pointer (some ⟨nb, 0, none⟩)) ∧ Hid (∃ c, CopyOf wr0 w' n t c ∧ c.tb = nb) := by
  obtain ⟨rb, hrb⟩ : ∃ rb, rb = t.rb := ⟨_, rfl⟩
  have rows : TM 9 (fun s : ByteArray => Lit.string s.data.toList) (fun s : ByteArray => s.size ≤ maxLen) RV.val RR wr0 rb n t.rv := by rw [hrb]; exact h.rows
  have rows0 := rows
  obtain ⟨D, hM, sM⟩ := rows0
  have ln : ∀ ty, (Builtin.len_ #[83] ty #[.map (some rb)]).run Tryz.prog wr0 = .ok (.int .i64 (Maps.size D : Int)) wr0 := fun ty => hM.len Tryz.underlying83 ty
  obtain ⟨cp, hcp⟩ : ∃ cp : Int, cp = (Maps.size D : Int) := ⟨_, rfl⟩
  rw [← hcp] at ln
  have blk : wr0.heap[tb]? = some (.cells #[.int .i64 d, .map (some rb)] 85 (0, 0)) := by
    have := h.blk
    rw [et, ed, ← hrb] at this
    exact this
  have mk := run_makeMap_hint 83 9 89 Tryz.underlying83 cp wr0
  obtain ⟨W, hW⟩ : ∃ W, W = wr0.alloc (.map #[] 0) := ⟨_, rfl⟩
  obtain ⟨nb, hnb⟩ : ∃ nb, nb = wr0.heap.size := ⟨_, rfl⟩
  rw [← hW, ← hnb] at mk
  have KW : Kept (fun _ => False) wr0 W := by rw [hW]; exact k0_alloc _ _
  have H : Hid (IsT wr0 n t ∧ t.tb = tb ∧ n ≤ 4398046511104 ∧ t.delta = d ∧ rb = t.rb ∧ rb < wr0.heap.size ∧ ∀ k r, t.R k = some r → ∀ g ∈ r.S, isProper g.1 g.2 = true) := ⟨h, et, hl, ed, hrb, rows.lt, pp⟩
  have HW : Hid (W.heap[tb]? = some (.cells #[.int .i64 d, .map (some rb)] 85 (0, 0)) ∧ TM 9 (fun s : ByteArray => Lit.string s.data.toList) (fun s : ByteArray => s.size ≤ maxLen) RV.val RR W rb n t.rv ∧ TM 9 (fun s : ByteArray => Lit.string s.data.toList) (fun s : ByteArray => s.size ≤ maxLen) RV.val RR W nb 0 (fun _ => (none : Option RV)) ∧ Kept (fun _ => False) wr0 W ∧ W.heap.size = nb + 1 ∧ nb = wr0.heap.size) := ⟨KW.get blk (fun z => z), rows.kept KW (fun z => z), by rw [hW, hnb]; exact TM.made wr0, KW, by rw [hW, hnb]; simp, hnb⟩
  have c1 := cell_blk blk 1 (v := .map (some rb)) rfl
  have d1 := cell_blk HW.out.1 1 (v := .map (some rb)) rfl
  clear h et hl ed pp hrb rows hM sM blk hcp KW hW hnb
  go_enter Tryz.func10, Tryz.ntmps10
  go_wp2_with
    (first
      | (at_range; refine wpList_rng rowsK _ rfl _ rfl rb n t.rv rfl HW.out.2.1 ?_; intro w4 hrg0 hk0 hs0)
      | fail)
  obtain ⟨rr, hrr⟩ : ∃ rr, rr = W.heap.size := ⟨_, rfl⟩
  rw [← hrr]
  have I0 : Hid (∃ cnt0, cnt0 ≤ n ∧ CI wr0 w4 rb nb rr n cnt0 t (fun _ => none) (fun k => t.rv k ≠ none) 0 cnt0) := by
    obtain ⟨cnt, g⟩ := hrg0.out
    rw [← hrr] at g
    refine ⟨cnt, g.cnt_le, g, ?_, fun k r' hr => (by cases hr), fun k r hr => .inl (fun z => ?_), fun _ _ => rfl, fun k r' hr => (by cases hr), fun k k' r r' hr => (by cases hr), HW.out.2.2.2.1.and0 hk0.out, by omega⟩
    · exact HW.out.2.2.1.kept hk0.out (fun z => z)
    · rw [rv_none, hr] at z
      cases z
  obtain ⟨cnt0, hc0, hI0⟩ := I0.out
  have C0 : Hid (cnt0 ≤ n ∧ CI wr0 w4 rb nb rr n cnt0 t (fun _ => none) (fun k => t.rv k ≠ none) 0 cnt0 ∧ nb + 1 = rr ∧ nb = wr0.heap.size ∧ rb < wr0.heap.size ∧ rr < w4.heap.size) := ⟨hc0, hI0, by rw [hrr]; exact HW.out.2.2.2.2.1.symm, HW.out.2.2.2.2.2, H.out.2.2.2.2.2.1, hI0.rg.lt.1⟩
  clear hrg0 hk0 hs0 hrr I0 hc0 hI0 c1 d1 mk ln
  (try go_frame)
  go_loopw [4, 5] (fun _ _ wr => ∃ cnt R' L m, Hid (CI wr0 wr rb nb rr n cnt0 t R' L m cnt ∧ w4.heap.size ≤ wr.heap.size)) (fun _ _ wr => wr.rangeLeft rb rr)
  case atStart => exact ⟨cnt0, _, _, _, C0.out.2.1, Nat.le_refl _⟩
  case round =>
    obtain ⟨cnt, R', L, m, I⟩ := hrel
    obtain ⟨wq, rfl⟩ : ∃ wq : World, wq = wr := ⟨_, rfl⟩
    go_wp2_with
      (first
        | (at_next; refine wpList_nxt rowsK _ rfl _ rfl rb rr n t.rv L cnt rfl I.out.1.rg ?_ ?_)
        | fail)
    · intro hdn
      have BQ : Hid (wq.heap[tb]? = some (.cells #[.int .i64 d, .map (some rb)] 85 (0, 0))) := by
        have := H.out.1.blk
        rw [H.out.2.1, H.out.2.2.2.1, ← H.out.2.2.2.2.1] at this
        exact I.out.1.kept.get this (fun z => z)
      have e0 := cell_blk BQ.out 0 (v := .int .i64 d) rfl
      go_wp2_with fail
      go_ret
      refine ⟨wq.heap.size, rfl, ⟨wq.heap.size, nb, d, R'⟩, ?_, rfl⟩
      refine I.out.1.copy H.out.1 H.out.2.2.2.1 C0.out.1 (fun k r hr hL => ?_) (by have := C0.out.2.2.2.1; omega) (k0_alloc _ _) (heap_alloc_new _ _) (Nat.le_refl _)
      have hf : k.size ≤ maxLen := by
        obtain ⟨D', _, sD⟩ := I.out.1.rg.tm
        exact sD.2 k _ (by unfold TK.rv; rw [hr]; rfl)
      exact hdn.out k hf hL
    · intro key rv w5 cnt5 hk hrg hlt hK hen
      obtain ⟨r, hr, rfl⟩ := rv_some hk.out.2.2
      obtain ⟨mb, hmb⟩ : ∃ mb, mb = r.mb := ⟨_, rfl⟩
      obtain ⟨sb, hsb⟩ : ∃ sb, sb = r.sb := ⟨_, rfl⟩
      replace hen : (Instr.entry (.pointer (some ⟨rr, 0, none⟩))).run Tryz.prog w5 = .ok (.tuple #[.string key, .agg #[.map (some mb), .pointer (some ⟨sb, 0, none⟩)]]) w5 := by rw [hmb, hsb]; exact hen
      have ev : RV.val ⟨some r.mb, some r.sb⟩ = .agg #[.map (some mb), .pointer (some ⟨sb, 0, none⟩)] := by rw [hmb, hsb]; rfl
      rw [ev]
      obtain ⟨W6, hW6⟩ : ∃ W6, W6 = w5.alloc (.cells #[.map (some mb), .pointer (some ⟨sb, 0, none⟩)] 89) := ⟨_, rfl⟩
      obtain ⟨b6, hb6⟩ : ∃ b6, b6 = w5.heap.size := ⟨_, rfl⟩
      have J6 : Hid (W6.heap[b6]? = some (.cells #[.map (some mb), .pointer (some ⟨sb, 0, none⟩)] 89 (0, 0)) ∧ Kept (fun _ => False) w5 W6 ∧ IsRow W6 n r ∧ (∀ g ∈ r.S, isProper g.1 g.2 = true) ∧ (r.len + 1) * 16 ≤ 211106232532992 ∧ t.R key = some r ∧ mb = r.mb ∧ sb = r.sb ∧ key.size ≤ maxLen ∧ m < maxLen) := by
        have K56 : Kept (fun _ => False) w5 W6 := by rw [hW6]; exact k0_alloc _ _
        have Kw5 : Kept (fun _ => False) wr0 w5 := I.out.1.kept.trans hK.out (fun j hj z => by have z : j = rr := z; have := C0.out.2.2.1; have := C0.out.2.2.2.1; omega)
        refine ⟨by rw [hW6, hb6]; exact heap_alloc_new _ _, K56, ?_, H.out.2.2.2.2.2.2 key r hr, H.out.1.len key r hr, hr, hmb, hsb, hk.out.1, ?_⟩
        · exact (H.out.1.row key r hr).k0 (Kw5.and0 K56)
        · have := I.out.1.few
          have := C0.out.1
          have := H.out.2.2.1
          unfold maxLen
          omega
      have EW6 : Hid (W6 = w5.alloc (.cells #[.map (some mb), .pointer (some ⟨sb, 0, none⟩)] 89) ∧ b6 = w5.heap.size) := ⟨hW6, hb6⟩
      clear hW6 hb6 hr hmb hsb ev
      go_upto_region 7 with fail
      rw [← EW6.out.1, ← EW6.out.2]
      have u0 := cell_blk J6.out.1 0 (v := .map (some mb)) rfl
      have u1 := cell_blk J6.out.1 1 (v := .pointer (some ⟨sb, 0, none⟩)) rfl
      have RC : Hid (Calls Tryz.prog 34 #[.agg #[.map (some mb), .pointer (some ⟨sb, 0, none⟩)]] W6 fun o w' => ∃ mb sb, o = .returned (.agg #[.map (some mb), .pointer (some ⟨sb, 0, none⟩)]) ∧ Hid (∃ r' : RK, r'.mb = mb ∧ r'.sb = sb ∧ IsRow w' n r' ∧ r'.S = r.S ∧ r'.M = r.M ∧ r'.len = r.len ∧ (∀ k, r'.Uses k → W6.heap.size ≤ k) ∧ Kept (fun _ => False) W6 w')) := by
        rw [J6.out.2.2.2.2.2.2.1, J6.out.2.2.2.2.2.2.2.1]
        exact rowCopy n r W6 J6.out.2.2.1 J6.out.2.2.2.1 J6.out.2.2.2.2.1
      clear hen
      go_wp2_with fail
      refine RC.out.mono ?_
      rintro o w7 ⟨mb', sb', rfl, Q7⟩
      obtain ⟨r', hm', hs', i7, q1, q2, q3, q4, K7⟩ := Q7.out
      have J7 : Hid (r'.mb = mb' ∧ r'.sb = sb' ∧ IsRow w7 n r' ∧ r'.S = r.S ∧ r'.M = r.M ∧ r'.len = r.len ∧ (∀ k, r'.Uses k → w5.heap.size ≤ k) ∧ Kept (fun _ => False) w5 w7) := ⟨hm', hs', i7, q1, q2, q3, fun k hk => Nat.le_trans J6.out.2.1.size (q4 k hk), J6.out.2.1.and0 K7⟩
      have T7 : Hid (TM 9 (fun s : ByteArray => Lit.string s.data.toList) (fun s : ByteArray => s.size ≤ maxLen) RV.val RR w7 nb m (fun k => (R' k).map fun r => (⟨some r.mb, some r.sb⟩ : RV))) := (I.out.1.tm.kept hK.out (fun z => by have z : nb = rr := z; have := C0.out.2.2.1; omega)).kept J7.out.2.2.2.2.2.2.2 (fun z => z)
      clear hm' hs' i7 q1 q2 q3 q4 K7 Q7 RC u0 u1
      go_wp2_with
        (first
          | (at_mapUpdate; refine wpList_put rowsK _ rfl _ _ _ rfl nb m _ rfl T7.out J6.out.2.2.2.2.2.2.2.2.2 key J6.out.2.2.2.2.2.2.2.2.1 ⟨some mb', some sb'⟩ rfl rfl ?_; intro w8 tm8 k8; go_frame)
          | fail)
      go_roundw
      case rel =>
        refine ⟨cnt5, upd R' key r', _, m + 1, I.out.1.step ⟨hk.out.2.1, J6.out.2.2.2.2.2.1⟩ hrg.out hlt.out hK.out ?_ J7.out.2.2.2.2.2.2.2 J7.out.2.2.1 J7.out.2.2.2.1 J7.out.2.2.2.2.1 J7.out.2.2.2.2.2.1 J7.out.2.2.2.2.2.2.1 ?_ k8.out, ?_⟩
        · have a1 := C0.out.2.2.1
          have a2 := C0.out.2.2.2.1
          have a3 := C0.out.2.2.2.2.1
          have a4 := C0.out.2.2.2.2.2
          have a5 := I.out.2
          exact ⟨by omega, by omega, by omega, by omega, by omega, by omega⟩
        · have := tm8.out
          rw [← J7.out.1, ← J7.out.2.1] at this
          exact this
        · have b1 := I.out.2
          have b2 := hK.out.size
          have b3 := J7.out.2.2.2.2.2.2.2.size
          have b4 := k8.out.size
          omega
      case measure =>
        have R9 : RG 9 (fun s : ByteArray => Lit.string s.data.toList) (fun s : ByteArray => s.size ≤ maxLen) RV.val RR w8 rb rr n t.rv (fun j => L j ∧ j ≠ key) cnt5 := (hrg.out.kept J7.out.2.2.2.2.2.2.2 (fun z => z) (fun z => z)).kept k8.out (fun z => by have z : rb = nb := z; have := C0.out.2.2.2.1; have := C0.out.2.2.2.2.1; omega) (fun z => by have z : rr = nb := z; have := C0.out.2.2.1; omega)
        rw [R9.left_eq, I.out.1.rg.left_eq]
        exact hlt.out
end Go.Proofs.YtojepeefphbekaaGreat

namespace Go.Proofs.YtojepeefphbekaaGreat
open Go.RowKit 

set_option maxRecDepth 100000 in
set_option maxHeartbeats 4000000 in
/-- Updates. -/
theorem gUpdates {wr0 : World} {t : TK} {nn : Nat} {dat : ByteArray → Int × Int → List Nat} {tb : Nat} (h : IsT wr0 nn t) (hd : DatAll wr0 t dat) (hf : ∀ vs, AllOf t dat vs → (flat vs).length ≤ 1099511627776) (et : t.tb = tb) (hl : nn ≤ 4398046511104) : Calls Tryz.prog 12 #[.pointer (some ⟨tb, 0, none⟩)] wr0 fun o w' => ∃ p n c, o = .returned (.slice p n c) ∧ ∃ vs, Hid (UpRd 0 w' p n c (flat vs) ∧ AllOf t dat vs ∧ Kept (fun _ => False) wr0 w') := by
  have TA : Hid (Calls Tryz.prog 11 #[.pointer (some ⟨tb, 0, none⟩)] wr0 fun o w' => ∃ p n c vs, o = .returned (.slice p n c) ∧ Hid (AllRd w' p n c vs ∧ AllOf t dat vs ∧ Kept (fun _ => False) wr0 w')) := by rw [← et]; exact tAll nn t dat wr0 h hd hl
  have H : Hid (∀ vs, AllOf t dat vs → (flat vs).length ≤ 1099511627776) := hf
  clear h et hl hd hf
  go_enter Tryz.func12, Tryz.ntmps12
  go_wp2_with fail
  refine TA.out.mono ?_
  rintro o w1 ⟨p1, n1, c1, vs, rfl, A1⟩
  have F : Hid ((flat vs).length ≤ 1099511627776) := H.out vs A1.out.2.1
  have room := A1.out.1.small
  unfold maxLen at room
  have U0 : Hid (UpRd w1.heap.size w1 none 0 0 (flat (vs.take 0)) ∧ Kept (fun _ => False) w1 w1) := ⟨⟨rfl, [], ⟨rfl, .inl ⟨rfl, rfl⟩⟩, Along.nil _⟩, Kept.refl _ _⟩
  go_wp2_with fail
  go_loopw [3, 5, 7, 11] (fun u3 _ _ u11 wr => ∃ (i n c : Nat) (p : Option Addr), u3 = .slice p n c ∧ u11 = .int .i64 (i : Int) ∧ i ≤ n1 ∧ Hid (UpRd w1.heap.size wr p n c (flat (vs.take i)) ∧ Kept (fun _ => False) w1 wr)) (fun _ _ _ u11 _ => n1 - (intOf u11).toNat)
  case atStart => exact ⟨0, 0, 0, none, rfl, rfl, Nat.zero_le _, U0⟩
  case round =>
    obtain ⟨i, n, c, p, rfl, rfl, hi, S⟩ := hrel
    obtain ⟨wo, hwo⟩ : ∃ wo, wo = wr := ⟨_, rfl⟩
    rw [← hwo] at S ⊢
    clear hwo U0
    by_cases hlt : i < n1
    · have i1 : (i : Int) < (n1 : Int) := by omega
      obtain ⟨b1, k1, es, a1, m1, q1, rfl, hv, d0', d1', er⟩ := A1.out.1.at hlt
      have d0 := S.out.2.cell d0' (fun z => z)
      have d1 := S.out.2.cell d1' (fun z => z)
      have HV : Hid (vs[i]? = some (k1, es) ∧ EntRd w1 a1 m1 q1 es ∧ es.length = m1) := ⟨hv, er, er.len⟩
      have es60 := er.small
      unfold maxLen at es60
      clear hv er d0' d1'
      go_upto_region 5 with fail
      obtain ⟨W, hW⟩ : ∃ W, W = wo.alloc (.cells #[.string k1, .slice a1 m1 q1] 35) := ⟨_, rfl⟩
      obtain ⟨HB, hHB⟩ : ∃ B, B = wo.heap.size := ⟨_, rfl⟩
      have B0 : Hid (W.heap[HB]? = some (.cells #[.string k1, .slice a1 m1 q1] 35 (0, 0)) ∧ Kept (fun _ => False) wo W) := by
        rw [hW, hHB]
        exact ⟨heap_alloc_new _ _, k0_alloc _ _⟩
      rw [← hW, ← hHB]
      clear hW hHB d0 d1
      have g0 := cell_blk B0.out.1 0 (v := .string k1) rfl
      have g1 := cell_blk B0.out.1 1 (v := .slice a1 m1 q1) rfl
      have V0 : Hid (UpRd w1.heap.size W p n c (flat (vs.take i) ++ (es.take 0).map (fun e => (k1, e))) ∧ Kept (fun _ => False) w1 W ∧ W.heap[HB]? = some (.cells #[.string k1, .slice a1 m1 q1] 35 (0, 0))) := by
        refine ⟨?_, S.out.2.and0 B0.out.2, B0.out.1⟩
        have := S.out.1.k0 B0.out.2
        rw [List.take_zero, List.map_nil, List.append_nil]
        exact this
      go_wp2_with fail
      go_loopw [3, 7, 18] (fun u3 _ u18 wr => ∃ (j n c : Nat) (p : Option Addr), u3 = .slice p n c ∧ u18 = .int .i64 (j : Int) ∧ j ≤ m1 ∧ Hid (UpRd w1.heap.size wr p n c (flat (vs.take i) ++ (es.take j).map (fun e => (k1, e))) ∧ Kept (fun _ => False) w1 wr ∧ wr.heap[HB]? = some (.cells #[.string k1, .slice a1 m1 q1] 35 (0, 0)))) (fun _ _ u18 _ => m1 - (intOf u18).toNat)
      case atStart => exact ⟨0, n, c, p, rfl, rfl, Nat.zero_le _, V0⟩
      case round =>
        obtain ⟨j, n2, c2, p2, rfl, rfl, hj, T⟩ := hrel
        clear V0
        by_cases hjl : j < m1
        · have j1 : (j : Int) < (m1 : Int) := by omega
          obtain ⟨b2, x, y, f, g, ea, en, ec, v, rfl, hv2, e0, e1, e2, e3, e4, ev⟩ := (HV.out.2.1.k0 T.out.2.1).ev hjl
          have q0 := cell_blk T.out.2.2 0 (v := .string k1) rfl
          obtain ⟨L, ow0, al0⟩ := T.out.1.row
          have N180 : n2 ≤ 1099511627776 := by
            have h1 : (flat (vs.take i) ++ (es.take j).map (fun e => (k1, e))).length ≤ (flat vs).length := by
              have hd : flat vs = flat (vs.take i) ++ (es.map (fun e => (k1, e)) ++ flat (vs.drop (i + 1))) := by
                have hil : i < vs.length := (List.getElem?_eq_some_iff.1 HV.out.1).1
                have e5 : vs[i] = (k1, es) := (List.getElem?_eq_some_iff.1 HV.out.1).2
                conv => lhs; rw [← List.take_append_drop i vs, List.drop_eq_getElem_cons hil, e5]
                simp [flat]
              rw [hd, List.length_append, List.length_append, List.length_append, List.length_map, List.length_map, List.length_take]
              omega
            have := F.out
            rw [T.out.1.len] at h1
            omega
          have AR : Hid (wr.ownsRow w1.heap.size 44 7 (.slice p2 n2 c2) n2 (ucells L) ∧ Along (UvRd wr) L (flat (vs.take i) ++ (es.take j).map (fun e => (k1, e))) ∧ EvRd wr ((x, y), f, g, ea, en, ec) v ∧ es[j]? = some v ∧ Kept (fun _ => False) w1 wr) := ⟨ow0, al0, ev, hv2, T.out.2.1⟩
          have BL : Hid (n2 + 1 ≤ maxLen ∧ ((n2 + 1) + (n2 + 1) / 4 + 192) * 72 ≤ 281474976710656) := by
            unfold maxLen
            exact ⟨by omega, by omega⟩
          clear ow0 al0 ev hv2
          go_upto_region 8 with fail
          obtain ⟨W2, hW2⟩ : ∃ W2, W2 = wr.alloc (.cells #[.int .i64 x, .int .i64 y, .bool f, .bool g, .slice ea en ec] 40) := ⟨_, rfl⟩
          obtain ⟨EB, hEB⟩ : ∃ B, B = wr.heap.size := ⟨_, rfl⟩
          have H2 : Hid (W2.heap[EB]? = some (.cells #[.int .i64 x, .int .i64 y, .bool f, .bool g, .slice ea en ec] 40 (0, 0)) ∧ Kept (fun _ => False) wr W2) := by
            rw [hW2, hEB]
            exact ⟨heap_alloc_new _ _, k0_alloc _ _⟩
          rw [← hW2, ← hEB]
          clear hW2 hEB e0 e1 e2 e3 e4 q0
          have e0 := cell_blk H2.out.1 0 (v := .int .i64 x) rfl
          have e1 := cell_blk H2.out.1 1 (v := .int .i64 y) rfl
          have e2 := cell_blk H2.out.1 2 (v := .bool f) rfl
          have e3 := cell_blk H2.out.1 3 (v := .bool g) rfl
          have e4 := cell_blk H2.out.1 4 (v := .slice ea en ec) rfl
          have q0 := cell_blk (H2.out.2.get T.out.2.2 (fun z => z)) 0 (v := .string k1) rfl
          go_wp2_with
            (first
              | (at_builtin; refine wpList_append_all _ rfl (.tmp 22) (.tmp 27) 41 44 41 _ 7 72 rfl Tryz.underlying41 Tryz.info44c rfl w1.heap.size (.slice p2 n2 c2) n2 (ucells L) rfl ((k0_alloc W2 _).owns (H2.out.2.owns AR.out.1 (fun _ _ z => z)) (fun _ _ z => z)) _ 1 (encU (k1, (x, y), f, g, ea, en, ec)) rfl (src_upd (heap_alloc_new W2 _)) BL.out.1 BL.out.2 (Nat.le_trans (AR.out.2.2.2.2.and0 H2.out.2).size (k0_alloc W2 _).size) ?_; intro p9 c9 w9 ho hg hn)
              | fail)
          have T9 : Hid (UpRd w1.heap.size w9 p9 (n2 + 1) c9 (flat (vs.take i) ++ (es.take (j + 1)).map (fun e => (k1, e))) ∧ Kept (fun _ => False) w1 w9 ∧ w9.heap[HB]? = some (.cells #[.string k1, .slice (some ⟨b2, 0, none⟩) m1 q1] 35 (0, 0))) := by
            have K2 := H2.out.2
            have := up_more (K2.owns AR.out.1 (fun _ _ z => z)) (AR.out.2.1.imp (fun a b q => ⟨q.key, q.ent.off K2 (fun _ _ _ _ z => z)⟩)) T.out.1.len (AR.out.2.2.2.2.and0 K2) (e := (k1, (x, y), f, g, ea, en, ec)) (v := (k1, v)) ⟨rfl, AR.out.2.2.1.off K2 (fun _ _ _ _ z => z)⟩ ho.out hg.out
            have e5 : flat (vs.take i) ++ (es.take (j + 1)).map (fun e => (k1, e)) = flat (vs.take i) ++ (es.take j).map (fun e => (k1, e)) ++ [(k1, v)] := by
              rw [List.take_add_one, AR.out.2.2.2.1, List.map_append, List.append_assoc]
              rfl
            rw [e5]
            refine ⟨this.1, this.2, ?_⟩
            have KG : Kept (fun k => blockOf p2 = some k) W2 w9 := ((Kept.refl (fun k => blockOf p2 = some k) W2).alloc _).grown hg.out (fun k _ z => by rw [blockOf_own] at z; exact z)
            have hb := K2.get T.out.2.2 (fun z => z)
            refine KG.get hb (fun z => ?_)
            obtain ⟨c3, h3⟩ := own_type (K2.owns AR.out.1 (fun _ _ z => z)) HB z
            rw [h3] at hb
            simp at hb
          clear ho hg hn
          go_roundw
          case rel => exact ⟨j + 1, n2 + 1, c9, p9, rfl, by go_num, by omega, T9⟩
          case measure => simp [intOf] <;> omega
        · have j1 : ¬ (j : Int) < (m1 : Int) := by omega
          have G : Hid (UpRd w1.heap.size wr p2 n2 c2 (flat (vs.take (i + 1))) ∧ Kept (fun _ => False) w1 wr) := by
            have := T.out.1
            rw [List.take_of_length_le (l := es) (i := j) (by rw [HV.out.2.2]; omega)] at this
            refine ⟨?_, T.out.2.1⟩
            rw [List.take_add_one, HV.out.1]
            show UpRd _ _ _ _ _ (flat (_ ++ [(k1, es)]))
            rw [flat_snoc]
            exact this
          clear T
          go_wp2_with fail
          go_roundw
          case rel => exact ⟨i + 1, n2, c2, p2, rfl, by go_num, by omega, G⟩
          case measure => simp [intOf] <;> omega
    · have i1 : ¬ (i : Int) < (n1 : Int) := by omega
      have G : Hid (UpRd 0 wo p n c (flat vs) ∧ AllOf t dat vs ∧ Kept (fun _ => False) wr0 wo) := by
        obtain ⟨L, ow, al⟩ := S.out.1.row
        have ev : vs.take i = vs := List.take_of_length_le (by rw [A1.out.1.len]; omega)
        rw [ev] at al
        have ln := S.out.1.len
        rw [ev] at ln
        exact ⟨⟨ln, L, owns_mono ow (Nat.zero_le _), al⟩, A1.out.2.1, A1.out.2.2.and0 S.out.2⟩
      clear S
      go_wp2_with fail
      go_ret
      exact ⟨p, n, c, rfl, vs, G⟩
end Go.Proofs.YtojepeefphbekaaGreat
