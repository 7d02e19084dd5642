import Derived.Test.YtojepeefphbekaaGreatEntsNJ
namespace Go.Proofs.YtojepeefphbekaaGreat
open Go.RowKit

/-- How many have a fragment. -/
def hasN (L : List ((Int × Int) × Bool × Bool × Option Addr × Nat × Nat)) : Nat := (L.filter fun e => e.2.2.1).length
theorem hasN_snoc (L : List ((Int × Int) × Bool × Bool × Option Addr × Nat × Nat)) (e : (Int × Int) × Bool × Bool × Option Addr × Nat × Nat) : hasN (L ++ [e]) = hasN L + (if e.2.2.1 = true then 1 else 0) := by
  unfold hasN
  rw [List.filter_append, List.length_append]
  by_cases h : e.2.2.1 = true
  · simp [h]
  · simp [h]
theorem hasN_le (L : List ((Int × Int) × Bool × Bool × Option Addr × Nat × Nat)) : hasN L ≤ L.length := List.length_filter_le _ _
def FI (w : World) (mb rr n cnt0 : Nat) (M : Int × Int → Option Hd) (v : Value) (wr : World) (cnt : Nat) : Prop :=
  ∃ (L : List ((Int × Int) × Bool × Bool × Option Addr × Nat × Nat)) (Lf : Int × Int → Prop), v = .int .i64 (hasN L : Int) ∧ RG 37 tl TFit Hd.val RH wr mb rr n M Lf cnt ∧ GE M Lf L ∧ Kept (fun _ => False) w wr ∧ L.length + cnt ≤ cnt0
set_option maxRecDepth 100000 in
set_option maxHeartbeats 2000000 in
theorem fragmentsB (n : Nat) (r : RK) (w : World) (h : IsRow w n r) (hn : n ≤ 4398046511104) : Calls Tryz.prog 67 #[.agg #[.map (some r.mb), .pointer (some ⟨r.sb, 0, none⟩)]] w fun o w' => ∃ (L : List ((Int × Int) × Bool × Bool × Option Addr × Nat × Nat)), o = .returned (.int .i64 (hasN L : Int)) ∧ GE r.M (fun _ => False) L ∧ Kept (fun _ => False) w w' := by
  obtain ⟨mb, sb, q, len, cap, S, M⟩ := r
  have h : IsRow w n ⟨mb, sb, q, len, cap, S, M⟩ := h
  obtain ⟨W, hW⟩ : ∃ W, W = w.alloc (.cells #[.map (some mb), .pointer (some ⟨sb, 0, none⟩)] 89) := ⟨_, rfl⟩
  have KZ : Kept (fun _ => False) w W := by rw [hW]; exact k0_alloc _ _
  have bW : W.heap[w.heap.size]? = some (.cells #[.map (some mb), .pointer (some ⟨sb, 0, none⟩)] 89 (0, 0)) := by rw [hW]; exact heap_alloc_new _ _
  have H : Hid (TM 37 tl TFit Hd.val RH W mb n M ∧ Kept (fun _ => False) w W ∧ mb < w.heap.size ∧ n ≤ 4398046511104) := ⟨h.tm.kept KZ (fun z => z), KZ, h.lt (.inl rfl), hn⟩
  have EW : Hid (W = w.alloc (.cells #[.map (some mb), .pointer (some ⟨sb, 0, none⟩)] 89)) := hW
  have c0 := cell_blk bW 0 (v := .map (some mb)) rfl
  clear h hn KZ bW hW
  dsimp only
  go_enter Tryz.func67, Tryz.ntmps67
  go_upto_region 1 with fail
  rw [← EW.out]
  go_wp2_with
    (first
      | (at_range; refine wpList_rng tagsK _ rfl _ rfl mb n M rfl H.out.1 ?_; intro w4 hrg0 hk0 hs0)
      | fail)
  obtain ⟨rr, hrr⟩ : ∃ rr, rr = W.heap.size := ⟨_, rfl⟩
  rw [← hrr]
  have I0 : Hid (∃ cnt0, cnt0 ≤ n ∧ FI w mb rr n cnt0 M (.int .i64 0) w4 cnt0 ∧ w.heap.size ≤ rr) := by
    obtain ⟨cnt, g⟩ := hrg0.out
    rw [← hrr] at g
    refine ⟨cnt, g.cnt_le, ⟨[], _, rfl, g, ⟨fun t k hm => .inl (by rw [hm]; simp), fun e he => (by cases he), by simp⟩, H.out.2.1.and0 hk0.out, by simp⟩, ?_⟩
    have := H.out.2.1.size
    omega
  obtain ⟨cnt0, hc0, hI0, hrl⟩ := I0.out
  have C0 : Hid (cnt0 ≤ n ∧ FI w mb rr n cnt0 M (.int .i64 0) w4 cnt0 ∧ w.heap.size ≤ rr) := ⟨hc0, hI0, hrl⟩
  clear hrg0 hk0 hs0 hrr I0 hc0 hI0 hrl c0
  (try go_frame)
  go_loopw [3] (fun v wr => ∃ cnt, Hid (FI w mb rr n cnt0 M v wr cnt)) (fun _ wr => wr.rangeLeft mb rr)
  case atStart => exact ⟨cnt0, C0.out.2.1⟩
  case round =>
    obtain ⟨cnt, I⟩ := hrel
    obtain ⟨wq, rfl⟩ : ∃ wq : World, wq = wr := ⟨_, rfl⟩
    obtain ⟨L, Lf, ev, rg, ge, Kq, hb⟩ := I.out
    subst ev
    have J : Hid (RG 37 tl TFit Hd.val RH wq mb rr n M Lf cnt ∧ GE M Lf L ∧ Kept (fun _ => False) w wq ∧ L.length + cnt ≤ cnt0) := ⟨rg, ge, Kq, hb⟩
    clear rg ge Kq hb
    obtain ⟨kk, hkk⟩ : ∃ kk : Nat, kk = hasN L := ⟨_, rfl⟩
    have HK : Hid (kk = hasN L) := hkk
    rw [← hkk]
    clear hkk
    go_wp2_with
      (first
        | (at_next; refine wpList_nxt tagsK _ rfl _ rfl mb rr n M Lf cnt rfl J.out.1 ?_ ?_)
        | fail)
    · intro hdn
      have F8 : Hid (GE M (fun _ => False) L) := by
        obtain ⟨D', _, sD⟩ := J.out.1.tm
        exact J.out.2.1.done (List.Perm.refl _) sD.2 (fun t ht => hdn.out t.1 t.2 ht)
      go_wp2_with fail
      go_ret
      exact ⟨L, by rw [← HK.out]; rfl, F8.out, J.out.2.2.1⟩
    · intro ta tb hd w5 cnt5 hk hrg hlt hK hen
      obtain ⟨df, dh, da, dn, dc⟩ := hd
      replace hen : (Instr.entry (.pointer (some ⟨rr, 0, none⟩))).run Tryz.prog w5 = .ok (.tuple #[.agg #[.int .i64 ta, .int .i64 tb], .agg #[.bool df, .bool dh, .slice da dn dc]]) w5 := hen
      dsimp only [tv, Hd.val]
      have BL : Hid (kk + 1 < 9223372036854775807 ∧ L.length + 1 + cnt5 ≤ cnt0) := by
        have h1 := J.out.2.2.2
        have h2 := C0.out.1
        have h3 := H.out.2.2.2
        have h4 := hlt.out
        have h5 := hasN_le L
        have h6 := HK.out
        exact ⟨by omega, by omega⟩
      have J6 : Hid (RG 37 tl TFit Hd.val RH (w5.alloc (.cells #[.bool df, .bool dh, .slice da dn dc] 94)) mb rr n M (fun j => Lf j ∧ j ≠ (ta, tb)) cnt5 ∧ Kept (fun _ => False) w (w5.alloc (.cells #[.bool df, .bool dh, .slice da dn dc] 94))) := by
        have K5 : Kept (fun _ => False) w w5 := J.out.2.2.1.trans hK.out (fun j hj z => by have z : j = rr := z; have := C0.out.2.2; omega)
        exact ⟨hrg.out.kept (k0_alloc _ _) (fun z => z) (fun z => z), K5.alloc _⟩
      have wk : wrap64 ((kk : Int) + 1) = (kk : Int) + 1 := by have := BL.out.1; unfold wrap64; omega
      cases dh
      · go_wp2_with fail
        go_roundw
        case rel =>
          refine ⟨cnt5, L ++ [((ta, tb), df, false, none, dn, 0)], _, ?_, J6.out.1, J.out.2.1.more (h := ⟨df, false, da, dn, dc⟩) hk.out.2.1 hk.out.2.2 none 0, J6.out.2, by rw [List.length_append]; exact BL.out.2⟩
          rw [hasN_snoc, HK.out]
          simp
        case measure =>
          rw [J6.out.1.left_eq, J.out.1.left_eq]
          exact hlt.out
      · go_wp2_with fail
        go_roundw
        case rel =>
          refine ⟨cnt5, L ++ [((ta, tb), df, true, none, dn, 0)], _, ?_, J6.out.1, J.out.2.1.more (h := ⟨df, true, da, dn, dc⟩) hk.out.2.1 hk.out.2.2 none 0, J6.out.2, by rw [List.length_append]; exact BL.out.2⟩
          rw [hasN_snoc, ← HK.out]
          simp [wk]
        case measure =>
          rw [J6.out.1.left_eq, J.out.1.left_eq]
          exact hlt.out
end Go.Proofs.YtojepeefphbekaaGreat
