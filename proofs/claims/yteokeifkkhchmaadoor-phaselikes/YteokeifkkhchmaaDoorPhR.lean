import Derived.Test.YteokeifkkhchmaaDoorMapG
import Derived.Deep.DeepCutAuto
import Derived.Deep.RegionLaw
import Derived.Deep.CutRange
import Derived.Deep.RegionHeldLaw
namespace Go.Proofs.YteokeifkkhchmaaDoor
open Go.RowKit 

/-- A reply: a number and a text. -/
def rpv (e : Int × ByteArray) : Value := .agg #[.int .i64 e.1, .string e.2]
def RR (v : Value) : Option (DataW Value × List MemPlace) :=
  match v with
  | .agg cs => (match cs.toList with | [.int .i64 _, .string _] => some (.held v, []) | _ => none)
  | _ => none
theorem repsK : MK 61 3 36 (Value.int .i64) (Lit.int .i64) KF rpv (0, ByteArray.mk #[]) RR where
  law := Maps.int_keyed Tryd.underlying3
  und := Tryd.underlying61
  key k h := Maps.keyOf_int_mk Tryd.underlying3 ((wf_i64 k).2 h)
  inv v l h := by
    obtain ⟨x, rfl, rfl, h3⟩ := Maps.keyOf_int_inv Tryd.underlying3 h
    exact ⟨x, rfl, (wf_i64 x).1 h3, rfl⟩
  inj k k' _ _ h := by simpa using h
  kvi k k' h := by simpa using h
  rd _ := rfl
  rdi v y h := by
    unfold RR at h
    split at h
    · rename_i cs
      split at h
      · rename_i a s he
        have hc : cs = #[.int .i64 a, .string s] := Array.toList_inj.1 he
        exact ⟨⟨(a, s), by rw [hc]; rfl⟩, (Option.some.inj h).symm⟩
      · cases h
    · cases h
  evi e e' h := by
    unfold rpv at h
    simp at h
    exact Prod.ext h.1 h.2
  zero w := Tryd.zeroValue36 w
theorem newR_ok (N K D : Int) (w : World) (h : okC N K D) : Calls Tryd.prog 6 #[.agg #[.int .i64 N, .int .i64 K, .int .i64 D]] w fun x w' => ∃ pb mb, w.heap.size ≤ pb ∧ w.heap.size ≤ mb ∧ x = .returned (.tuple #[.pointer (some ⟨pb, 0, none⟩), .int .i64 0]) ∧ IsP 63 rpv RR w' pb mb N (quo N K) (fun _ => none) ∧ Kept (fun _ => False) w w' := by
  have B1 : Hid (Below w.heap.size w (w.alloc (Obj.cells #[.int .i64 N, .int .i64 K, .int .i64 D] 23))) := (Below.refl _ _).alloc (Nat.le_refl _) _
  have HO : Hid (okC N K D) := h
  go_enter Tryd.func6, Tryd.ntmps6
  go_wp2_with fail
  refine (size_ok N K D _ h).mono ?_
  rintro e w1 ⟨rfl, b1⟩
  have c0 : w1.cell? ⟨w.heap.size, 0, none⟩ = some (.int .i64 N) := (b1.cell (by simp)).trans (by simp)
  have BB : Hid (Below w.heap.size w w1) := B1.out.trans (b1.mono (by simp))
  have mk := run_makeMap (P := Tryd.prog) 61 w1
  clear b1 B1 h
  go_wp2_with fail
  go_ret2
  have K1 : Kept (fun _ => False) (w1.alloc (.map #[] 0)) ((w1.alloc (.map #[] 0)).alloc (.cells #[.int .i64 N, .int .i64 (quo N K), .map (some w1.heap.size)] 63)) := k0_alloc _ _
  have t0 : TM 3 (Lit.int .i64) KF rpv RR (w1.alloc (.map #[] 0)) w1.heap.size 0 (fun _ => none) := TM.made w1
  have sz := BB.out.size
  refine ⟨w1.heap.size + 1, w1.heap.size, by omega, sz, rfl, ⟨two1 _ _ _, ?_, fun _ _ q => by simp at q, by have := HO.out.1; have := HO.out.2.1; omega, HO.out.2.2.1⟩, ((Kept.ofB BB.out).alloc _).alloc _⟩
  rw [cntM_none]
  exact t0.kept K1 (fun z => z)
theorem newR_not (N K D : Int) (w : World) (h : ¬ okC N K D) : Calls Tryd.prog 6 #[.agg #[.int .i64 N, .int .i64 K, .int .i64 D]] w fun x w' => x = .returned (.tuple #[.pointer none, .int .i64 40]) ∧ Kept (fun _ => False) w w' := by
  have B1 : Hid (Below w.heap.size w (w.alloc (Obj.cells #[.int .i64 N, .int .i64 K, .int .i64 D] 23))) := (Below.refl _ _).alloc (Nat.le_refl _) _
  go_enter Tryd.func6, Tryd.ntmps6
  go_wp2_with fail
  refine (size_not N K D _ h).mono ?_
  rintro e w1 ⟨rfl, b1⟩
  go_wp2_with fail
  go_ret2
  exact ⟨rfl, Kept.ofB (B1.out.trans (b1.mono (by simp)))⟩
theorem TM.put_run {κ ε : Type} [DecidableEq κ] {T K E : TypeId} {kv : κ → Value} {kl : κ → Lit} {KF : κ → Prop} {ev : ε → Value} {z : ε} {RD : Value → Option (DataW Value × List MemPlace)} (X : MK T K E kv kl KF ev z RD) {w : World} {b n : Nat} {M : κ → Option ε} (h : TM K kl KF ev RD w b n M) (hn : n < maxLen) {k : κ} (hk : KF k) (e : ε) : ∃ w', (Instr.mapUpdate T (.map (some b)) (kv k) (ev e)).run Tryd.prog w = .ok () w' ∧ TM K kl KF ev RD w' b (nput n M k) (upd M k e) ∧ Kept (fun j => j = b) w w' := by
  obtain ⟨D, h, s, e0⟩ := h
  obtain ⟨w', hrun, r1, r2⟩ := h.update X.law X.und hn (X.key k hk) (X.rd e)
  exact ⟨w', hrun, TM.put X h s e0 hk e r1, (Kept.refl _ w).grown r2 (fun j _ q => by simp at q; exact q.symm)⟩
theorem answerR_off {pb mb : Nat} {N Q : Int} {M : Int → Option (Int × ByteArray)} (s v : Int) (t : ByteArray) (w : World) (h : IsP 63 rpv RR w pb mb N Q M) (hs : s < 0 ∨ N ≤ s) : Calls Tryd.prog 10 #[.pointer (some ⟨pb, 0, none⟩), .int .i64 s, .agg #[.int .i64 v, .string t]] w fun x w' => x = .returned (.tuple #[.bool false, .int .i64 51]) ∧ Kept (fun _ => False) w w' := by
  have K1 : Kept (fun _ => False) w (w.alloc (.cells #[.int .i64 v, .string t] 36)) := k0_alloc _ _
  have c0 := cell_blk (h.k0 K1).blk 0 (v := .int .i64 N) rfl
  have KH : Hid (Kept (fun _ => False) w (w.alloc (.cells #[.int .i64 v, .string t] 36))) := K1
  clear h K1
  by_cases h1 : s < 0
  · go_enter Tryd.func10, Tryd.ntmps10
    go_wp2_with fail
    go_ret2
    exact ⟨rfl, KH.out⟩
  · have h2 : N ≤ s := by omega
    go_enter Tryd.func10, Tryd.ntmps10
    go_wp2_with fail
    go_ret2
    exact ⟨rfl, KH.out⟩
set_option maxRecDepth 100000 in
set_option maxHeartbeats 1000000 in
theorem answerR_in {pb mb : Nat} {N Q : Int} {M : Int → Option (Int × ByteArray)} (s v : Int) (t : ByteArray) (w : World) (h : IsP 63 rpv RR w pb mb N Q M) (h0 : 0 ≤ s) (h1 : s < N) : Calls Tryd.prog 10 #[.pointer (some ⟨pb, 0, none⟩), .int .i64 s, .agg #[.int .i64 v, .string t]] w fun x w' => x = .returned (.tuple #[.bool (!(M s).isSome), .int .i64 0]) ∧ IsP 63 rpv RR w' pb mb N Q (upd M s (v, t)) ∧ Kept (fun j => j = mb) w w' := by
  have kf : KF s := by have := h.ok; unfold KF; omega
  obtain ⟨W, hW⟩ : ∃ W, W = w.alloc (.cells #[.int .i64 v, .string t] 36) := ⟨_, rfl⟩
  have K1 : Kept (fun _ => False) w W := by rw [hW]; exact k0_alloc _ _
  have B1 : W.heap[w.heap.size]? = some (.cells #[.int .i64 v, .string t] 36 (0, 0)) := by rw [hW]; exact heap_alloc_new _ _
  have c0 := cell_blk (h.k0 K1).blk 0 (v := .int .i64 N) rfl
  have c2 := cell_blk (h.k0 K1).blk 2 (v := .map (some mb)) rfl
  have lk := (h.k0 K1).tm.look2 repsK kf
  obtain ⟨⟨a1, a2⟩, ha⟩ : ∃ a, a = (M s).getD (0, ByteArray.mk #[]) := ⟨_, rfl⟩
  obtain ⟨b, hb⟩ : ∃ b, b = (M s).isSome := ⟨_, rfl⟩
  rw [← ha, ← hb] at lk
  replace lk : (Instr.lookup 61 (.map (some mb)) (.int .i64 s) true).run Tryd.prog W = .ok (.tuple #[.agg #[.int .i64 a1, .string a2], .bool b]) W := lk
  rw [← hb]
  have CN : cntM M N.toNat < maxLen := by
    have := cntM_le M N.toNat
    have := h.ok
    unfold maxLen
    omega
  obtain ⟨W2, hW2⟩ : ∃ W2, W2 = W.alloc (.cells #[.int .i64 a1, .string a2] 36) := ⟨_, rfl⟩
  have K2 : Kept (fun _ => False) w W2 := by rw [hW2]; exact K1.alloc _
  have B2 : W2.heap[w.heap.size]? = some (.cells #[.int .i64 v, .string t] 36 (0, 0)) := by rw [hW2]; exact (k0_alloc W _).get B1 (fun z => z)
  have K2d : Kept (fun _ => False) w W2.drew := K2.drew
  obtain ⟨w3, mu, tm3, k3⟩ := TM.put_run repsK (h.k0 K2d).tm CN kf (v, t)
  replace mu : (Instr.mapUpdate 61 (.map (some mb)) (.int .i64 s) (.agg #[.int .i64 v, .string t])).run Tryd.prog W2.drew = .ok () w3 := mu
  have F : Hid (IsP 63 rpv RR w3 pb mb N Q (upd M s (v, t)) ∧ Kept (fun j => j = mb) w w3) := ⟨(h.k0 K2d).put s (v, t) h0 h1 tm3 k3, (K2d.mono (fun _ _ z => z.elim)).trans k3 (fun _ _ z => z)⟩
  have d2 := cell_blk (h.k0 K2).blk 2 (v := .map (some mb)) rfl
  have e0 := cell_blk B2 0 (v := .int .i64 v) rfl
  have e1 := cell_blk B2 1 (v := .string t) rfl
  have f2 := cell_blk (F.out.1).blk 2 (v := .map (some mb)) rfl
  have B3 := k3.get (show W2.drew.heap[w.heap.size]? = _ from B2) (fun z => by have := h.lt.2; have z : w.heap.size = mb := z; omega)
  have g0 := cell_blk B3 0 (v := .int .i64 v) rfl
  have g1 := cell_blk B3 1 (v := .string t) rfl
  have h0' : ¬ s < 0 := by omega
  have h1' : ¬ N ≤ s := by omega
  have EW : Hid (W = w.alloc (.cells #[.int .i64 v, .string t] 36) ∧ W2 = W.alloc (.cells #[.int .i64 a1, .string a2] 36)) := ⟨hW, hW2⟩
  clear h kf ha hb h0 h1 hW K1 B1 CN hW2 K2 B2 K2d tm3 k3 B3
  go_enter Tryd.func10, Tryd.ntmps10
  go_upto_region 1 with fail
  rw [← EW.out.1]
  go_upto_region 6 with fail
  rw [← EW.out.2]
  go_region_held3 (fun w' => w'.cell? ⟨pb, 2, none⟩ = some (.map (some mb)) ∧ w'.cell? ⟨w.heap.size, 0, none⟩ = some (.int .i64 v) ∧ w'.cell? ⟨w.heap.size, 1, none⟩ = some (.string t)) (first | exact ⟨d2, e0, e1⟩ | exact ⟨f2, g0, g1⟩ | go_keep) (fail)
  all_goals go_wp2_with fail
  all_goals go_ret2
  all_goals exact ⟨rfl, F.out.1, F.out.2⟩
theorem Tryd.info36r : (Tryd.prog.info? 36).map (fun i => i.size) = some 2 := by kernel_rfl
theorem results_reply {fn : Func} {p u : Tmp} (h : fn.results = #[.cell p 36, .tmp u]) (tmps : Array Value) (w : World) (b : Nat) (x : Int) (y : ByteArray) (hp : tmps.getD p undef = .pointer (some ⟨b, 0, none⟩)) (T : w.heap[b]? = some (.cells #[.int .i64 x, .string y] 36 (0, 0))) :
    (results fn tmps).run Tryd.prog w = .ok (.tuple #[.agg #[.int .i64 x, .string y], tmps.getD u undef]) w := by
  rw [results_cell_tmp h, hp]
  simp [asAddr, run_loadVar_row w b 36 36 _ (0, 0) _ T Tryd.underlying36 rfl Tryd.info36r]
set_option maxRecDepth 100000 in
set_option maxHeartbeats 1000000 in
theorem getR {pb mb : Nat} {N Q : Int} {M : Int → Option (Int × ByteArray)} (s : Int) (w : World) (h : IsP 63 rpv RR w pb mb N Q M) (kf : KF s) : Calls Tryd.prog 18 #[.pointer (some ⟨pb, 0, none⟩), .int .i64 s] w fun x w' => x = .returned (.tuple #[rpv ((M s).getD (0, ByteArray.mk #[])), .bool (M s).isSome]) ∧ Kept (fun _ => False) w w' := by
  obtain ⟨W, hW⟩ : ∃ W, W = w.alloc (.cells #[.int .i64 0, .string (ByteArray.mk #[])] 36) := ⟨_, rfl⟩
  have K1 : Kept (fun _ => False) w W := by rw [hW]; exact k0_alloc _ _
  have B1 : W.heap[w.heap.size]? = some (.cells #[.int .i64 0, .string (ByteArray.mk #[])] 36 (0, 0)) := by rw [hW]; exact heap_alloc_new _ _
  have c2 := cell_blk (h.k0 K1).blk 2 (v := .map (some mb)) rfl
  have lk := (h.k0 K1).tm.look2 repsK kf
  obtain ⟨⟨a1, a2⟩, ha⟩ : ∃ a, a = (M s).getD (0, ByteArray.mk #[]) := ⟨_, rfl⟩
  obtain ⟨b, hb⟩ : ∃ b, b = (M s).isSome := ⟨_, rfl⟩
  rw [← ha, ← hb] at lk
  replace lk : (Instr.lookup 61 (.map (some mb)) (.int .i64 s) true).run Tryd.prog W = .ok (.tuple #[.agg #[.int .i64 a1, .string a2], .bool b]) W := lk
  rw [← ha, ← hb]
  unfold rpv
  dsimp only
  have EW : Hid (W = w.alloc (.cells #[.int .i64 0, .string (ByteArray.mk #[])] 36) ∧ Kept (fun _ => False) w W ∧ W.heap[w.heap.size]? = some (.cells #[.int .i64 0, .string (ByteArray.mk #[])] 36 (0, 0))) := ⟨hW, K1, B1⟩
  have B2 : (W.alloc (.cells #[.int .i64 a1, .string a2] 36)).heap[w.heap.size]? = some (.cells #[.int .i64 0, .string (ByteArray.mk #[])] 36 (0, 0)) := (k0_alloc W _).get B1 (fun z => z)
  have e0 := cell_blk B2 0 (v := .int .i64 0) rfl
  have e1 := cell_blk B2 1 (v := .string (ByteArray.mk #[])) rfl
  have s0 := soft_blk B2 0
  have s1 := soft_blk B2 1
  have KS : Hid (∀ V, Kept (fun _ => False) w V → Kept (fun _ => False) w ((V.setCell ⟨w.heap.size, 0, none⟩ (.int .i64 a1)).setCell ⟨w.heap.size, 1, none⟩ (.string a2))) := fun V k => (k.setCell (p := ⟨w.heap.size, 0, none⟩) (fun z => by have z : w.heap.size < w.heap.size := z; omega) _).setCell (p := ⟨w.heap.size, 1, none⟩) (fun z => by have z : w.heap.size < w.heap.size := z; omega) _
  have HB2 : Hid ((((W.alloc (.cells #[.int .i64 a1, .string a2] 36)).setCell ⟨w.heap.size, 0, none⟩ (.int .i64 a1)).setCell ⟨w.heap.size, 1, none⟩ (.string a2)).heap[w.heap.size]? = some (.cells #[.int .i64 a1, .string a2] 36 (0, 0))) := by
    show _ = _
    rw [heap_set (heap_set B2 0 _) 1]; rfl
  clear h kf ha hb hW K1 B1 B2
  go_enter Tryd.func18, Tryd.ntmps18
  go_upto_region 1 with fail
  rw [← EW.out.1]
  go_wp2_with fail
  exact bodyPost_ret (results_reply rfl _ _ _ a1 a2 rfl HB2.out) rfl ⟨rfl, KS.out _ (EW.out.2.1.alloc _)⟩
theorem metR_nil (w : World) : Calls Tryd.prog 14 #[.pointer none] w fun x w' => x = .returned (.bool false) ∧ ∃ k, w' = w.drewN k := by
  go_enter Tryd.func14, Tryd.ntmps14
  go_upto_region 1 with fail
  go_quiet (fail)
  go_wp2_with fail
  go_ret
  exact ⟨rfl, nq, rfl⟩
theorem metR {pb mb : Nat} {N Q : Int} {M : Int → Option (Int × ByteArray)} (w : World) (h : IsP 63 rpv RR w pb mb N Q M) : Calls Tryd.prog 14 #[.pointer (some ⟨pb, 0, none⟩)] w fun x w' => x = .returned (.bool (decide (Q ≤ (cntM M N.toNat : Int)))) ∧ ∃ k, w' = w.drewN k := by
  obtain ⟨c, hc⟩ : ∃ c, c = cntM M N.toNat := ⟨_, rfl⟩
  have LN : Hid (∀ W : World, W.heap = w.heap → ∀ ty, (Builtin.len_ #[61] ty #[.map (some mb)]).run Tryd.prog W = .ok (.int .i64 (c : Int)) W) := by
    intro W hW ty
    rw [hc]
    exact TM.len repsK (by obtain ⟨D, ⟨es, clock, hb, r⟩, s⟩ := h.tm; exact ⟨D, ⟨es, clock, by rw [hW]; exact hb, r⟩, s⟩) ty
  have c1 := cell_blk h.blk 1 (v := .int .i64 Q) rfl
  have c2 := cell_blk h.blk 2 (v := .map (some mb)) rfl
  rw [← hc]
  have l1 := LN.out w rfl
  have l2 := LN.out w.drew rfl
  clear h hc
  go_enter Tryd.func14, Tryd.ntmps14
  go_upto_region 1 with fail
  go_region_held3 (fun w' => w'.cell? ⟨pb, 1, none⟩ = some (.int .i64 Q) ∧ w'.cell? ⟨pb, 2, none⟩ = some (.map (some mb)) ∧ ∀ ty, (Builtin.len_ #[61] ty #[.map (some mb)]).run Tryd.prog w' = .ok (.int .i64 (c : Int)) w') (first | exact ⟨c1, c2, l2⟩ | go_keep) (fail)
  all_goals go_wp2_with fail
  all_goals go_ret
  all_goals exact ⟨rfl, 1, rfl⟩
theorem misR_nil (w : World) : Calls Tryd.prog 15 #[.pointer none] w fun x w' => x = .returned (.slice none 0 0) ∧ w' = w := by
  go_enter Tryd.func15, Tryd.ntmps15
  go_wp2_with fail
  go_ret
  exact ⟨rfl, rfl⟩
/-- Where Missing stands. -/
structure MsR (w wr : World) (pb mb : Nat) (N Q : Int) (M : Int → Option (Int × ByteArray)) (q : Option Addr) (n c : Nat) (t : List Int) : Prop where
  ph : IsP 63 rpv RR wr pb mb N Q M
  row : Row wr 3 q n c (ints t)
  far : ∀ g, blockOf q = some g → w.heap.size ≤ g
  kept : Kept (fun _ => False) w wr
set_option maxRecDepth 100000 in
set_option maxHeartbeats 2000000 in
theorem misR {pb mb : Nat} {N Q : Int} {M : Int → Option (Int × ByteArray)} (w : World) (h : IsP 63 rpv RR w pb mb N Q M) : Calls Tryd.prog 15 #[.pointer (some ⟨pb, 0, none⟩)] w fun o w' => ∃ q n c, o = .returned (.slice q n c) ∧ Hid (Row w' 3 q n c (ints (pick M false N.toNat)) ∧ (∀ g, blockOf q = some g → w.heap.size ≤ g) ∧ Kept (fun _ => False) w w') := by
  have nb := h.ok
  have LT : Hid (pb < w.heap.size ∧ mb < w.heap.size) := h.lt
  have H : Hid (IsP 63 rpv RR w pb mb N Q M) := h
  obtain ⟨c, hc⟩ : ∃ c, c = cntM M N.toNat := ⟨_, rfl⟩
  have cN : (c : Int) ≤ N := by have := cntM_le M N.toNat; omega
  have l2 : ∀ ty, (Builtin.len_ #[61] ty #[.map (some mb)]).run Tryd.prog w.drew = .ok (.int .i64 (c : Int)) w.drew := fun ty => by
    rw [hc]
    exact TM.len repsK (h.tm.kept ((Kept.refl (fun _ => False) w).drew) (fun z => z)) ty
  have c0 := cell_blk h.blk 0 (v := .int .i64 N) rfl
  have c2 := cell_blk h.blk 2 (v := .map (some mb)) rfl
  obtain ⟨cp, hcp⟩ : ∃ cp : Nat, (cp : Int) = N - (c : Int) := ⟨(N - c).toNat, by omega⟩
  have wr1 : IntKind.i64.wrap (N - (c : Int)) = (cp : Int) := by rw [IntKind.wrap_i64]; omega
  obtain ⟨i0, hi, hz0, hz1, hz2⟩ := info_parts int_info
  obtain ⟨w3, mk, ow, gr⟩ := run_make_own (P := Tryd.prog) w.drew w.heap.size 24 3 i0 _ 1 Tryd.underlying24 hi hz0 hz1 .i64 .i64 cp (by rw [hz2]; omega) (by unfold maxLen; omega) (Nat.le_refl _)
  have K3 : Kept (fun _ => False) w w3 := ((Kept.refl _ w).drew).grown gr (fun k _ z => by cases z)
  obtain ⟨a0, cap0, e0, r0, f0⟩ := Row.of_owns ow (fun _ z => by cases z)
  simp at e0
  obtain ⟨rfl, rfl⟩ := e0
  have F0 : Hid (MsR w w3 pb mb N Q M (some ⟨w.drew.heap.size, 0, none⟩) 0 cp (pick M false 0)) := ⟨h.k0 K3, r0, f0, K3⟩
  have d0 := cell_blk (h.k0 K3).blk 0 (v := .int .i64 N) rfl
  have d2 := cell_blk (h.k0 K3).blk 2 (v := .map (some mb)) rfl
  have l3 : ∀ ty, (Builtin.len_ #[61] ty #[.map (some mb)]).run Tryd.prog w3 = .ok (.int .i64 (c : Int)) w3 := fun ty => by
    rw [hc]
    exact TM.len repsK (h.k0 K3).tm ty
  clear h hc hi hz0 hz1 hz2 ow gr K3 r0 f0 hcp
  go_enter Tryd.func15, Tryd.ntmps15
  go_upto_region 3 with fail
  go_region_held3 (fun w' => w'.cell? ⟨pb, 0, none⟩ = some (.int .i64 N) ∧ w'.cell? ⟨pb, 2, none⟩ = some (.map (some mb)) ∧ ∀ ty, (Builtin.len_ #[61] ty #[.map (some mb)]).run Tryd.prog w' = .ok (.int .i64 (c : Int)) w') (first | exact ⟨c0, c2, l2⟩ | exact ⟨d0, d2, l3⟩ | go_keep) (fail)
  all_goals go_wp2_with fail
  clear c0 c2 l2 d0 d2 l3 mk wr1
  (try go_frame)
  go_loopw [3, 24] (fun y z wr => ∃ (i n c : Nat) (q : Option Addr), z = .int .i64 (i : Int) ∧ y = .slice q n c ∧ (i : Int) ≤ N ∧ n ≤ i ∧ Hid (MsR w wr pb mb N Q M q n c (pick M false i))) (fun _ z _ => N.toNat - (intOf z).toNat)
  case atStart => exact ⟨0, 0, cp, _, rfl, rfl, by omega, Nat.le_refl _, F0⟩
  case round =>
    obtain ⟨i, n, c3, q, rfl, rfl, hi, hn, F⟩ := hrel
    clear F0
    have c0 := cell_blk F.out.ph.blk 0 (v := .int .i64 N) rfl
    have c2 := cell_blk F.out.ph.blk 2 (v := .map (some mb)) rfl
    have cm := F.out.row.room
    have cs := F.out.row.small
    unfold maxLen at cs
    by_cases hlt : (i : Int) < N
    · have lk := F.out.ph.tm.look2 repsK (k := (i : Int)) (by unfold KF; omega)
      obtain ⟨⟨a1, a2⟩, ha⟩ : ∃ a, a = (M (i : Int)).getD (0, ByteArray.mk #[]) := ⟨_, rfl⟩
      rw [← ha] at lk
      obtain ⟨W1, hW1⟩ : ∃ W1, W1 = wr.alloc (.cells #[.int .i64 a1, .string a2] 36) := ⟨_, rfl⟩
      have KW : Hid (Kept (fun _ => False) wr W1 ∧ W1 = wr.alloc (.cells #[.int .i64 a1, .string a2] 36)) := ⟨by rw [hW1]; exact k0_alloc _ _, hW1⟩
      clear hW1
      cases hb : (M (i : Int)).isSome
      · have HP : Hid (pick M false (i + 1) = pick M false i ++ [(i : Int)]) := pick_hit _ _ _ hb
        rw [hb] at lk
        replace lk : (Instr.lookup 61 (.map (some mb)) (.int .i64 (i : Int)) true).run Tryd.prog wr = .ok (.tuple #[.agg #[.int .i64 a1, .string a2], .bool false]) wr := lk
        clear ha hb
        go_upto_region 8 with fail
        rw [← KW.out.2]
        go_wp2_with (first | (at_builtin; refine wpList_append_row _ rfl (.tmp 38) (.tmp 40) 24 3 (.int .i64 0) rfl Tryd.underlying24 int_info rfl q n c3 1 (ints (pick M false i)) [.int .i64 (i : Int)] rfl (F.out.row.kept (KW.out.1.alloc _) (fun _ _ z => z)) W1.heap.size rfl (by omega) (fun u hu => by rw [List.mem_singleton] at hu; subst hu; rfl) rfl (one_src (by simp)) (by omega) ?_; intro q' c' w3 hr hg hq; have c5 := hr.out.room) | fail)
        have F2 : Hid (MsR w w3 pb mb N Q M q' (n + 1) c' (pick M false (i + 1))) := by
          have kk : Kept (fun k => w.heap.size ≤ k) wr w3 := ((KW.out.1.mono (fun _ _ z => z.elim)).alloc _).grown hg.out (fun k _ e => F.out.far k e)
          have hr' := hr.out
          have e1 : ints (pick M false i) ++ [.int .i64 (i : Int)] = ints (pick M false (i + 1)) := by rw [HP.out]; exact ints_app _ [(i : Int)]
          rw [e1] at hr'
          have hB := F.out.kept.size
          have hB2 := KW.out.1.size
          refine ⟨F.out.ph.kept kk (by have := LT.out.1; omega) (by have := LT.out.2; omega), hr', fun g e => ?_, F.out.kept.trans kk (fun j hj z => by have z : w.heap.size ≤ j := z; omega)⟩
          rcases hq.out with h | h
          · rw [h] at e; exact F.out.far g e
          · rw [h, blockOf_some] at e
            simp at e
            omega
        clear hr hg hq F c5
        go_roundw
        case rel => exact ⟨i + 1, n + 1, c', q', by go_num, rfl, by omega, by omega, F2⟩
        case measure => simp [intOf]; omega
      · have HP : Hid (pick M false (i + 1) = pick M false i) := pick_miss _ _ _ (by rw [hb]; decide)
        have F2 : Hid (MsR w W1 pb mb N Q M q n c3 (pick M false (i + 1))) := by
          show MsR w W1 pb mb N Q M q n c3 (pick M false (i + 1))
          rw [HP.out]; exact ⟨F.out.ph.k0 KW.out.1, F.out.row.kept KW.out.1 (fun _ _ z => z), F.out.far, F.out.kept.and0 KW.out.1⟩
        rw [hb] at lk
        replace lk : (Instr.lookup 61 (.map (some mb)) (.int .i64 (i : Int)) true).run Tryd.prog wr = .ok (.tuple #[.agg #[.int .i64 a1, .string a2], .bool true]) wr := lk
        clear ha hb
        go_upto_region 8 with fail
        rw [← KW.out.2]
        go_wp2_with fail
        go_roundw
        case rel => exact ⟨i + 1, n, c3, q, by go_num, rfl, by omega, by omega, F2⟩
        case measure => simp [intOf]; omega
    · have F2 : Hid (Row wr 3 q n c3 (ints (pick M false N.toNat)) ∧ (∀ g, blockOf q = some g → w.heap.size ≤ g) ∧ Kept (fun _ => False) w wr) := by
        have e : N.toNat = i := by omega
        rw [e]; exact ⟨F.out.row, F.out.far, F.out.kept⟩
      clear F
      go_wp2_with fail
      go_ret
      exact ⟨q, n, c3, rfl, F2⟩
end Go.Proofs.YteokeifkkhchmaaDoor
