import Derived.Test.YtojepeefphbekaaGreatEnts
import Derived.Test.YtojepeefphbekaaGreatAsk
namespace Go.Proofs.YtojepeefphbekaaGreat
open Go.RowKit 

set_option maxRecDepth 100000 in
set_option maxHeartbeats 2000000 in
theorem entriesN (pp : Option Addr) (w : World) : Calls Tryz.prog 36 #[.agg #[.map none, .pointer pp]] w fun o w' => ∃ (p : Option Addr) (cp : Nat), o = .returned (.slice p 0 cp) ∧ w'.ownsRow w.heap.size 40 5 (.slice p 0 cp) 0 (ecells []) ∧ Kept (fun _ => False) w w' := by
  obtain ⟨W, hW⟩ : ∃ W, W = w.alloc (.cells #[.map none, .pointer pp] 89) := ⟨_, rfl⟩
  have KZ : Kept (fun _ => False) w W := by rw [hW]; exact k0_alloc _ _
  have bW : W.heap[w.heap.size]? = some (.cells #[.map none, .pointer pp] 89 (0, 0)) := by rw [hW]; exact heap_alloc_new _ _
  have ln : ∀ ty, (Builtin.len_ #[86] ty #[.map none]).run Tryz.prog W = .ok (.int .i64 0) W := fun ty => Maps.len_nil Tryz.underlying86 ty
  obtain ⟨i0, hi, hz0, hz1, hz2⟩ := info_parts Tryz.info40c
  obtain ⟨w3, mk, ow, gr⟩ := run_make_own (P := Tryz.prog) W w.heap.size 33 40 i0 _ 5 Tryz.underlying33 hi hz0 hz1 .i64 .i64 0 (by omega) (by unfold maxLen; omega) KZ.size
  have K3 : Kept (fun _ => False) W w3 := (Kept.refl _ W).grown gr (fun k _ z => by cases z)
  obtain ⟨g0, hg0⟩ : ∃ g0, g0 = W.heap.size := ⟨_, rfl⟩
  rw [← hg0] at mk ow
  have mk : (Instr.makeSlice 33 (.int .i64 0) (.int .i64 0)).run Tryz.prog W = .ok (.slice (some ⟨g0, 0, none⟩) 0 0) w3 := mk
  have rn := run_range_nilMap (P := Tryz.prog) w3 86 37 94 Tryz.underlying86
  have nx : ∀ ty, (Instr.next (.pointer (some ⟨w3.heap.size, 0, none⟩)) false ty).run Tryz.prog (w3.alloc (.mapIter none 0 #[] 0)) = .ok (.tuple #[.bool false]) (w3.alloc (.mapIter none 0 #[] 0)) := fun ty => run_next_nilMap w3 ty 0 0 #[]
  have H : Hid (w3.ownsRow w.heap.size 40 5 (.slice (some ⟨g0, 0, none⟩) 0 0) 0 [] ∧ Kept (fun _ => False) w w3 ∧ w3.heap[w.heap.size]? = some (.cells #[.map none, .pointer pp] 89 (0, 0))) := ⟨ow, KZ.and0 K3, K3.get bW (fun z => z)⟩
  have EW : Hid (W = w.alloc (.cells #[.map none, .pointer pp] 89)) := hW
  have c0 := cell_blk bW 0 (v := .map none) rfl
  have d0 := cell_blk H.out.2.2 0 (v := .map none) rfl
  clear KZ bW hi hz0 hz1 hz2 ow gr K3 hg0 hW
  go_enter Tryz.func36, Tryz.ntmps36
  go_upto_region 1 with fail
  rw [← EW.out]
  go_wp2_with fail
  refine wp_loop_rounds 1 ?_
  rw [rounds_succ]
  go_wp2_with fail
  refine (sortE g0 0 0 w.heap.size [] _ ((k0_alloc w3 _).owns H.out.1 (fun _ _ z => z)) (by omega)).mono ?_
  rintro o w8 ⟨rfl, L', P, _, ow', K8⟩
  have F : Hid (w8.ownsRow w.heap.size 40 5 (.slice (some ⟨g0, 0, none⟩) 0 0) 0 (ecells []) ∧ Kept (fun _ => False) w w8) := by
    have e : L' = [] := List.Perm.eq_nil P
    rw [e] at ow'
    refine ⟨ow', (H.out.2.1.alloc _).trans K8 (fun j hj z => ?_)⟩
    have z : j = g0 := z
    have := (own_lt H.out.1 g0 rfl).1
    omega
  clear P ow' K8
  go_wp2_with fail
  go_ret
  exact ⟨some ⟨g0, 0, none⟩, 0, rfl, F.out.1, F.out.2⟩
set_option maxRecDepth 100000 in
set_option maxHeartbeats 2000000 in
theorem tEntries (nn : Nat) (t : TK) (key : ByteArray) (dat : Int × Int → List Nat) (w : World) (h : IsT w nn t) (hk : key.size ≤ maxLen) (hd : ∀ r, t.R key = some r → DataAt w r.M dat) (hn : nn ≤ 4398046511104) : Calls Tryz.prog 14 #[.pointer (some ⟨t.tb, 0, none⟩), .string key] w fun o w' => ∃ (p : Option Addr) (cp : Nat) (L : List ((Int × Int) × Bool × Bool × Option Addr × Nat × Nat)), o = .returned (.slice p L.length cp) ∧ GE (TMp t key) (fun _ => False) L ∧ (L.Pairwise fun x y => ¬ tc y.1 x.1 < 0) ∧ w'.ownsRow w.heap.size 40 5 (.slice p L.length cp) L.length (ecells L) ∧ Kept (fun _ => False) w w' ∧ EOK w' L dat := by
  obtain ⟨tb, rb, delta, R⟩ := t
  have lk := h.rows.look rowsK hk
  have e1 : w.cell? ⟨tb, 1, none⟩ = some (.map (some rb)) := cell_blk h.blk 1 rfl
  have HR : Hid (∀ r, R key = some r → IsRow w nn r ∧ DataAt w r.M dat ∧ nn ≤ 4398046511104) := fun r hr => ⟨h.row key r hr, hd r hr, hn⟩
  dsimp only at lk ⊢
  cases hr : R key with
  | none =>
    have e2 : TMp ⟨tb, rb, delta, R⟩ key = fun _ => none := by
      unfold TMp
      dsimp only
      rw [hr]
      rfl
    have e3 : RV.val ((TK.rv ⟨tb, rb, delta, R⟩ key).getD RV.zero) = .agg #[.map none, .pointer none] := by
      unfold TK.rv
      dsimp only
      rw [hr]
      rfl
    rw [e3] at lk
    rw [e2]
    clear h hk hd hn e2 e3 hr HR
    go_enter Tryz.func14, Tryz.ntmps14
    go_wp2_with fail
    refine (entriesN none w).mono ?_
    rintro o w2 ⟨p, cp, rfl, ow, K2⟩
    have F : Hid (w2.ownsRow w.heap.size 40 5 (.slice p 0 cp) 0 (ecells []) ∧ Kept (fun _ => False) w w2) := ⟨ow, K2⟩
    clear ow K2
    go_wp2_with fail
    go_ret
    exact ⟨p, cp, [], rfl, ⟨fun t k hm => (by cases hm), fun e he => (by cases he), by simp⟩, List.Pairwise.nil, F.out.1, F.out.2, fun e he => (by cases he)⟩
  | some r =>
    have e2 : TMp ⟨tb, rb, delta, R⟩ key = r.M := by
      unfold TMp
      dsimp only
      rw [hr]
      rfl
    have e3 : RV.val ((TK.rv ⟨tb, rb, delta, R⟩ key).getD RV.zero) = .agg #[.map (some r.mb), .pointer (some ⟨r.sb, 0, none⟩)] := by
      unfold TK.rv
      dsimp only
      rw [hr]
      rfl
    rw [e3] at lk
    rw [e2]
    obtain ⟨i1, i2, i3⟩ := HR.out r hr
    have HI : Hid (IsRow w nn r ∧ DataAt w r.M dat ∧ nn ≤ 4398046511104) := ⟨i1, i2, i3⟩
    clear h hk hd hn e2 e3 hr HR i1 i2 i3
    go_enter Tryz.func14, Tryz.ntmps14
    go_wp2_with fail
    refine (entriesB nn r dat w HI.out.1 HI.out.2.1 HI.out.2.2).mono ?_
    rintro o w2 ⟨p, cp, L, rfl, ge, srt, ow, K2, eo⟩
    have F : Hid (GE r.M (fun _ => False) L ∧ (L.Pairwise fun x y => ¬ tc y.1 x.1 < 0) ∧ w2.ownsRow w.heap.size 40 5 (.slice p L.length cp) L.length (ecells L) ∧ Kept (fun _ => False) w w2 ∧ EOK w2 L dat) := ⟨ge, srt, ow, K2, eo⟩
    clear ge srt ow K2 eo
    go_wp2_with fail
    go_ret
    exact ⟨p, cp, L, rfl, F.out.1, F.out.2.1, F.out.2.2.1, F.out.2.2.2.1, F.out.2.2.2.2⟩
end Go.Proofs.YtojepeefphbekaaGreat

namespace Go.Proofs.YtojepeefphbekaaGreat
open Go.RowKit

/-- How many have a fragment. -/
def hasN (L : List ((Int × Int) × Bool × Bool × Option Addr × Nat × Nat)) : Nat := (L.filter fun e => e.2.2.1).length
theorem hasN_snoc (L : List ((Int × Int) × Bool × Bool × Option Addr × Nat × Nat)) (e : (Int × Int) × Bool × Bool × Option Addr × Nat × Nat) : hasN (L ++ [e]) = hasN L + (if e.2.2.1 = true then 1 else 0) := by
  unfold hasN
  rw [List.filter_append, List.length_append]
  by_cases h : e.2.2.1 = true
  · simp [h]
  · simp [h]
theorem hasN_le (L : List ((Int × Int) × Bool × Bool × Option Addr × Nat × Nat)) : hasN L ≤ L.length := List.length_filter_le _ _
def FI (w : World) (mb rr n cnt0 : Nat) (M : Int × Int → Option Hd) (v : Value) (wr : World) (cnt : Nat) : Prop :=
  ∃ (L : List ((Int × Int) × Bool × Bool × Option Addr × Nat × Nat)) (Lf : Int × Int → Prop), v = .int .i64 (hasN L : Int) ∧ RG 37 tl TFit Hd.val RH wr mb rr n M Lf cnt ∧ GE M Lf L ∧ Kept (fun _ => False) w wr ∧ L.length + cnt ≤ cnt0
set_option maxRecDepth 100000 in
set_option maxHeartbeats 2000000 in
theorem fragmentsB (n : Nat) (r : RK) (w : World) (h : IsRow w n r) (hn : n ≤ 4398046511104) : Calls Tryz.prog 67 #[.agg #[.map (some r.mb), .pointer (some ⟨r.sb, 0, none⟩)]] w fun o w' => ∃ (L : List ((Int × Int) × Bool × Bool × Option Addr × Nat × Nat)), o = .returned (.int .i64 (hasN L : Int)) ∧ GE r.M (fun _ => False) L ∧ Kept (fun _ => False) w w' := by
  obtain ⟨mb, sb, q, len, cap, S, M⟩ := r
  have h : IsRow w n ⟨mb, sb, q, len, cap, S, M⟩ := h
  obtain ⟨W, hW⟩ : ∃ W, W = w.alloc (.cells #[.map (some mb), .pointer (some ⟨sb, 0, none⟩)] 89) := ⟨_, rfl⟩
  have KZ : Kept (fun _ => False) w W := by rw [hW]; exact k0_alloc _ _
  have bW : W.heap[w.heap.size]? = some (.cells #[.map (some mb), .pointer (some ⟨sb, 0, none⟩)] 89 (0, 0)) := by rw [hW]; exact heap_alloc_new _ _
  have H : Hid (TM 37 tl TFit Hd.val RH W mb n M ∧ Kept (fun _ => False) w W ∧ mb < w.heap.size ∧ n ≤ 4398046511104) := ⟨h.tm.kept KZ (fun z => z), KZ, h.lt (.inl rfl), hn⟩
  have EW : Hid (W = w.alloc (.cells #[.map (some mb), .pointer (some ⟨sb, 0, none⟩)] 89)) := hW
  have c0 := cell_blk bW 0 (v := .map (some mb)) rfl
  clear h hn KZ bW hW
  dsimp only
  go_enter Tryz.func67, Tryz.ntmps67
  go_upto_region 1 with fail
  rw [← EW.out]
  go_wp2_with
    (first
      | (at_range; refine wpList_rng tagsK _ rfl _ rfl mb n M rfl H.out.1 ?_; intro w4 hrg0 hk0 hs0)
      | fail)
  obtain ⟨rr, hrr⟩ : ∃ rr, rr = W.heap.size := ⟨_, rfl⟩
  rw [← hrr]
  have I0 : Hid (∃ cnt0, cnt0 ≤ n ∧ FI w mb rr n cnt0 M (.int .i64 0) w4 cnt0 ∧ w.heap.size ≤ rr) := by
    obtain ⟨cnt, g⟩ := hrg0.out
    rw [← hrr] at g
    refine ⟨cnt, g.cnt_le, ⟨[], _, rfl, g, ⟨fun t k hm => .inl (by rw [hm]; simp), fun e he => (by cases he), by simp⟩, H.out.2.1.and0 hk0.out, by simp⟩, ?_⟩
    have := H.out.2.1.size
    omega
  obtain ⟨cnt0, hc0, hI0, hrl⟩ := I0.out
  have C0 : Hid (cnt0 ≤ n ∧ FI w mb rr n cnt0 M (.int .i64 0) w4 cnt0 ∧ w.heap.size ≤ rr) := ⟨hc0, hI0, hrl⟩
  clear hrg0 hk0 hs0 hrr I0 hc0 hI0 hrl c0
  (try go_frame)
  go_loopw [3] (fun v wr => ∃ cnt, Hid (FI w mb rr n cnt0 M v wr cnt)) (fun _ wr => wr.rangeLeft mb rr)
  case atStart => exact ⟨cnt0, C0.out.2.1⟩
  case round =>
    obtain ⟨cnt, I⟩ := hrel
    obtain ⟨wq, rfl⟩ : ∃ wq : World, wq = wr := ⟨_, rfl⟩
    obtain ⟨L, Lf, ev, rg, ge, Kq, hb⟩ := I.out
    subst ev
    have J : Hid (RG 37 tl TFit Hd.val RH wq mb rr n M Lf cnt ∧ GE M Lf L ∧ Kept (fun _ => False) w wq ∧ L.length + cnt ≤ cnt0) := ⟨rg, ge, Kq, hb⟩
    clear rg ge Kq hb
    obtain ⟨kk, hkk⟩ : ∃ kk : Nat, kk = hasN L := ⟨_, rfl⟩
    have HK : Hid (kk = hasN L) := hkk
    rw [← hkk]
    clear hkk
    go_wp2_with
      (first
        | (at_next; refine wpList_nxt tagsK _ rfl _ rfl mb rr n M Lf cnt rfl J.out.1 ?_ ?_)
        | fail)
    · intro hdn
      have F8 : Hid (GE M (fun _ => False) L) := by
        obtain ⟨D', _, sD⟩ := J.out.1.tm
        exact J.out.2.1.done (List.Perm.refl _) sD.2 (fun t ht => hdn.out t.1 t.2 ht)
      go_wp2_with fail
      go_ret
      exact ⟨L, by rw [← HK.out]; rfl, F8.out, J.out.2.2.1⟩
    · intro ta tb hd w5 cnt5 hk hrg hlt hK hen
      obtain ⟨df, dh, da, dn, dc⟩ := hd
      replace hen : (Instr.entry (.pointer (some ⟨rr, 0, none⟩))).run Tryz.prog w5 = .ok (.tuple #[.agg #[.int .i64 ta, .int .i64 tb], .agg #[.bool df, .bool dh, .slice da dn dc]]) w5 := hen
      dsimp only [tv, Hd.val]
      have BL : Hid (kk + 1 < 9223372036854775807 ∧ L.length + 1 + cnt5 ≤ cnt0) := by
        have h1 := J.out.2.2.2
        have h2 := C0.out.1
        have h3 := H.out.2.2.2
        have h4 := hlt.out
        have h5 := hasN_le L
        have h6 := HK.out
        exact ⟨by omega, by omega⟩
      have J6 : Hid (RG 37 tl TFit Hd.val RH (w5.alloc (.cells #[.bool df, .bool dh, .slice da dn dc] 94)) mb rr n M (fun j => Lf j ∧ j ≠ (ta, tb)) cnt5 ∧ Kept (fun _ => False) w (w5.alloc (.cells #[.bool df, .bool dh, .slice da dn dc] 94))) := by
        have K5 : Kept (fun _ => False) w w5 := J.out.2.2.1.trans hK.out (fun j hj z => by have z : j = rr := z; have := C0.out.2.2; omega)
        exact ⟨hrg.out.kept (k0_alloc _ _) (fun z => z) (fun z => z), K5.alloc _⟩
      have wk : wrap64 ((kk : Int) + 1) = (kk : Int) + 1 := by have := BL.out.1; unfold wrap64; omega
      cases dh
      · go_wp2_with fail
        go_roundw
        case rel =>
          refine ⟨cnt5, L ++ [((ta, tb), df, false, none, dn, 0)], _, ?_, J6.out.1, J.out.2.1.more (h := ⟨df, false, da, dn, dc⟩) hk.out.2.1 hk.out.2.2 none 0, J6.out.2, by rw [List.length_append]; exact BL.out.2⟩
          rw [hasN_snoc, HK.out]
          simp
        case measure =>
          rw [J6.out.1.left_eq, J.out.1.left_eq]
          exact hlt.out
      · go_wp2_with fail
        go_roundw
        case rel =>
          refine ⟨cnt5, L ++ [((ta, tb), df, true, none, dn, 0)], _, ?_, J6.out.1, J.out.2.1.more (h := ⟨df, true, da, dn, dc⟩) hk.out.2.1 hk.out.2.2 none 0, J6.out.2, by rw [List.length_append]; exact BL.out.2⟩
          rw [hasN_snoc, ← HK.out]
          simp [wk]
        case measure =>
          rw [J6.out.1.left_eq, J.out.1.left_eq]
          exact hlt.out
end Go.Proofs.YtojepeefphbekaaGreat
