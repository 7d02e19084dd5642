import Derived.Test.YtojepeefphbekaaEnts
import Derived.Test.YtojepeefphbekaaAsk
namespace Go.Proofs.Ytojepeefphbekaa
open Go.RowKit

set_option maxRecDepth 100000 in
set_option maxHeartbeats 2000000 in
theorem entriesN (pp : Option Addr) (w : World) : Calls Try.prog 19 #[.agg #[.map none, .pointer pp]] w fun o w' => ∃ (p : Option Addr) (cp : Nat), o = .returned (.slice p 0 cp) ∧ w'.ownsRow w.heap.size 37 5 (.slice p 0 cp) 0 (ecells []) ∧ Kept (fun _ => False) w w' := by
  obtain ⟨W, hW⟩ : ∃ W, W = w.alloc (.cells #[.map none, .pointer pp] 54) := ⟨_, rfl⟩
  have KZ : Kept (fun _ => False) w W := by rw [hW]; exact k0_alloc _ _
  have bW : W.heap[w.heap.size]? = some (.cells #[.map none, .pointer pp] 54 (0, 0)) := by rw [hW]; exact heap_alloc_new _ _
  have ln : ∀ ty, (Builtin.len_ #[51] ty #[.map none]).run Try.prog W = .ok (.int .i64 0) W := fun ty => Maps.len_nil Try.underlying51 ty
  obtain ⟨i0, hi, hz0, hz1, hz2⟩ := info_parts Try.info37c
  obtain ⟨w3, mk, ow, gr⟩ := run_make_own (P := Try.prog) W w.heap.size 42 37 i0 _ 5 Try.underlying42 hi hz0 hz1 .i64 .i64 0 (by omega) (by unfold maxLen; omega) KZ.size
  have K3 : Kept (fun _ => False) W w3 := (Kept.refl _ W).grown gr (fun k _ z => by cases z)
  obtain ⟨g0, hg0⟩ : ∃ g0, g0 = W.heap.size := ⟨_, rfl⟩
  rw [← hg0] at mk ow
  have mk : (Instr.makeSlice 42 (.int .i64 0) (.int .i64 0)).run Try.prog W = .ok (.slice (some ⟨g0, 0, none⟩) 0 0) w3 := mk
  have rn := run_range_nilMap (P := Try.prog) w3 51 29 76 Try.underlying51
  have nx : ∀ ty, (Instr.next (.pointer (some ⟨w3.heap.size, 0, none⟩)) false ty).run Try.prog (w3.alloc (.mapIter none 0 #[] 0)) = .ok (.tuple #[.bool false]) (w3.alloc (.mapIter none 0 #[] 0)) := fun ty => run_next_nilMap w3 ty 0 0 #[]
  have H : Hid (w3.ownsRow w.heap.size 37 5 (.slice (some ⟨g0, 0, none⟩) 0 0) 0 [] ∧ Kept (fun _ => False) w w3 ∧ w3.heap[w.heap.size]? = some (.cells #[.map none, .pointer pp] 54 (0, 0))) := ⟨ow, KZ.and0 K3, K3.get bW (fun z => z)⟩
  have EW : Hid (W = w.alloc (.cells #[.map none, .pointer pp] 54)) := hW
  have c0 := cell_blk bW 0 (v := .map none) rfl
  have d0 := cell_blk H.out.2.2 0 (v := .map none) rfl
  clear KZ bW hi hz0 hz1 hz2 ow gr K3 hg0 hW
  go_enter Try.func19, Try.ntmps19
  go_upto_region 1 with fail
  rw [← EW.out]
  go_wp2_with fail
  refine wp_loop_rounds 1 ?_
  rw [rounds_succ]
  go_wp2_with fail
  refine (sortE g0 0 0 w.heap.size [] _ ((k0_alloc w3 _).owns H.out.1 (fun _ _ z => z)) (by omega)).mono ?_
  rintro o w8 ⟨rfl, L', P, _, ow', K8⟩
  have F : Hid (w8.ownsRow w.heap.size 37 5 (.slice (some ⟨g0, 0, none⟩) 0 0) 0 (ecells []) ∧ Kept (fun _ => False) w w8) := by
    have e : L' = [] := List.Perm.eq_nil P
    rw [e] at ow'
    refine ⟨ow', (H.out.2.1.alloc _).trans K8 (fun j hj z => ?_)⟩
    have z : j = g0 := z
    have := (own_lt H.out.1 g0 rfl).1
    omega
  clear P ow' K8
  go_wp2_with fail
  go_ret
  exact ⟨some ⟨g0, 0, none⟩, 0, rfl, F.out.1, F.out.2⟩
set_option maxRecDepth 100000 in
set_option maxHeartbeats 2000000 in
theorem tEntries (nn : Nat) (t : TK) (key : ByteArray) (w : World) (h : IsT w nn t) (hk : key.size ≤ maxLen) (hd : ∀ r, t.R key = some r → DataOK w r.M) (hn : nn ≤ 4398046511104) : Calls Try.prog 9 #[.pointer (some ⟨t.tb, 0, none⟩), .string key] w fun o w' => ∃ (p : Option Addr) (cp : Nat) (L : List ((Int × Int) × Bool × Bool × Option Addr × Nat × Nat)), o = .returned (.slice p L.length cp) ∧ GE (TMp t key) (fun _ => False) L ∧ (L.Pairwise fun x y => ¬ tc y.1 x.1 < 0) ∧ w'.ownsRow w.heap.size 37 5 (.slice p L.length cp) L.length (ecells L) ∧ Kept (fun _ => False) w w' := by
  obtain ⟨tb, rb, delta, R⟩ := t
  have lk := h.rows.look rowsK hk
  have e1 : w.cell? ⟨tb, 1, none⟩ = some (.map (some rb)) := cell_blk h.blk 1 rfl
  have HR : Hid (∀ r, R key = some r → IsRow w nn r ∧ DataOK w r.M ∧ nn ≤ 4398046511104) := fun r hr => ⟨h.row key r hr, hd r hr, hn⟩
  dsimp only at lk ⊢
  cases hr : R key with
  | none =>
    have e2 : TMp ⟨tb, rb, delta, R⟩ key = fun _ => none := by
      unfold TMp
      dsimp only
      rw [hr]
      rfl
    have e3 : RV.val ((TK.rv ⟨tb, rb, delta, R⟩ key).getD RV.zero) = .agg #[.map none, .pointer none] := by
      unfold TK.rv
      dsimp only
      rw [hr]
      rfl
    rw [e3] at lk
    rw [e2]
    clear h hk hd hn e2 e3 hr HR
    go_enter Try.func9, Try.ntmps9
    go_wp2_with fail
    refine (entriesN none w).mono ?_
    rintro o w2 ⟨p, cp, rfl, ow, K2⟩
    have F : Hid (w2.ownsRow w.heap.size 37 5 (.slice p 0 cp) 0 (ecells []) ∧ Kept (fun _ => False) w w2) := ⟨ow, K2⟩
    clear ow K2
    go_wp2_with fail
    go_ret
    exact ⟨p, cp, [], rfl, ⟨fun t k hm => (by cases hm), fun e he => (by cases he), by simp⟩, List.Pairwise.nil, F.out.1, F.out.2⟩
  | some r =>
    have e2 : TMp ⟨tb, rb, delta, R⟩ key = r.M := by
      unfold TMp
      dsimp only
      rw [hr]
      rfl
    have e3 : RV.val ((TK.rv ⟨tb, rb, delta, R⟩ key).getD RV.zero) = .agg #[.map (some r.mb), .pointer (some ⟨r.sb, 0, none⟩)] := by
      unfold TK.rv
      dsimp only
      rw [hr]
      rfl
    rw [e3] at lk
    rw [e2]
    obtain ⟨i1, i2, i3⟩ := HR.out r hr
    have HI : Hid (IsRow w nn r ∧ DataOK w r.M ∧ nn ≤ 4398046511104) := ⟨i1, i2, i3⟩
    clear h hk hd hn e2 e3 hr HR i1 i2 i3
    go_enter Try.func9, Try.ntmps9
    go_wp2_with fail
    refine (entriesB nn r w HI.out.1 HI.out.2.1 HI.out.2.2).mono ?_
    rintro o w2 ⟨p, cp, L, rfl, ge, srt, ow, K2⟩
    have F : Hid (GE r.M (fun _ => False) L ∧ (L.Pairwise fun x y => ¬ tc y.1 x.1 < 0) ∧ w2.ownsRow w.heap.size 37 5 (.slice p L.length cp) L.length (ecells L) ∧ Kept (fun _ => False) w w2) := ⟨ge, srt, ow, K2⟩
    clear ge srt ow K2
    go_wp2_with fail
    go_ret
    exact ⟨p, cp, L, rfl, F.out.1, F.out.2.1, F.out.2.2.1, F.out.2.2.2⟩
end Go.Proofs.Ytojepeefphbekaa
