import Derived.Test.YtojepeefphbekaaGreatPFinW
import Derived.Test.YtojepeefphbekaaGreatPMayJ
import Derived.Test.YtojepeefphbekaaGreatPCopyR
import Derived.Test.YtojepeefphbekaaGreatAllsJ
import Derived.Test.YtojepeefphbekaaGreatUpdsJ
import Derived.BigQuiet
import Derived.Test.YtojepeefphbekaaGreatUniqJ
namespace Go.Proofs.YtojepeefphbekaaGreat
open Go.RowKit 

theorem preV_len (fl : Int × Int) (vs : List Uv) (k : ByteArray) (g : Int × Int) (l : List Nat) : (preV fl vs k g l).2.length ≤ vs.length + 1 := by
  unfold preV
  split
  · exact Nat.le_succ _
  · split
    · rw [List.length_append]; exact Nat.le_refl _
    · split
      · split
        · exact Nat.le_succ _
        · rw [List.length_set]; exact Nat.le_succ _
      · exact Nat.le_succ _
theorem RMv.trans {b0 : Nat} {w w1 w2 : World} {tb : Nat} {delta : Int} {p p1 : Option Addr} {L L1 : List Ut} {vs2 : List Uv} (K1 : Kept (fun k => k = tb ∨ blockOf p = some k) w w1) (f1 : ∀ k, blockOf p1 = some k → blockOf p = some k ∨ w.heap.size ≤ k) (g1 : FreshL w L L1) (h : RMv b0 w1 w2 tb delta p1 L1 vs2) : RMv b0 w w2 tb delta p L vs2 := by
  obtain ⟨⟨p2, n2, c2, L2, t2, f2, g2⟩, K2⟩ := h
  refine ⟨⟨p2, n2, c2, L2, t2, fun k hk => ?_, fun u hu k hk => ?_⟩, K1.trans K2 (fun k hk z => ?_)⟩
  · rcases f2 k hk with q | q
    · exact f1 k q
    · exact .inr (Nat.le_trans K1.size q)
  · rcases g2 u hu k hk with ⟨v, hv, e⟩ | q
    · exact g1 v hv k e
    · exact .inr (Nat.le_trans K1.size q)
  · rcases z with z | z
    · exact .inl z
    · rcases f1 k z with q | q
      · exact .inr q
      · omega
def ApAns (o : Ending) (R : Bool × Int × List Uv) (P : List Uv → Prop) : Prop := o = .returned (.tuple #[.bool R.1, .int .i64 R.2.1]) ∧ P R.2.2
theorem ApAns.mk {R : Bool × Int × List Uv} {P : List Uv → Prop} {b : Bool} {i : Int} {v : List Uv} (e : R = (b, i, v)) (h : P v) : ApAns (.returned (.tuple #[.bool b, .int .i64 i])) R P := by
  subst e
  exact ⟨rfl, h⟩
theorem may_kind {kd : Int} {key : ByteArray} {x y : Int} {fin has : Bool} {a : Option Addr} {n c : Nat} (h : Upd.may ⟨kd, key, x, y, fin, has, a, n, c⟩ = true) : (kd = 1 ∧ fin = false ∧ has = false) ∨ (kd = 2 ∧ fin = false ∧ has = false) ∨ kd = 3 := by
  unfold Upd.may Upd.fits at h
  have h := (Bool.and_eq_true_iff.1 h).2
  split at h
  · rename_i e
    left
    cases fin <;> cases has <;> simp at h ⊢ <;> exact e
  · split at h
    · rename_i e
      right
      left
      cases fin <;> cases has <;> simp at h ⊢ <;> exact e
    · split at h
      · rename_i e
        exact .inr (.inr e)
      · cases h
/-- Behind the first half. -/
structure AM (b0 : Nat) (w w1 : World) (tb : Nat) (delta : Int) (p : Option Addr) (L : List Ut) (vs1 : List Uv) (n : Nat) : Prop where
  mv : RMv b0 w w1 tb delta p L vs1
  few : vs1.length ≤ n + 1
theorem AM.fin {b0 : Nat} {w w1 : World} {tb : Nat} {delta : Int} {p : Option Addr} {L : List Ut} {vs1 : List Uv} {n : Nat} (h : AM b0 w w1 tb delta p L vs1 n) (hn : n < 1099511627775) (h0 : 0 ≤ delta) (hb : b0 ≤ w.heap.size) (key : ByteArray) (x y : Int) :
    Calls Tryz.prog 110 #[.pointer (some ⟨tb, 0, none⟩), .string key, .agg #[.int .i64 x, .int .i64 y]] w1 fun o w' => FinAns o (fun b => b = (finV delta vs1 key (x, y)).1 ∧ RMv b0 w w' tb delta p L (finV delta vs1 key (x, y)).2) := by
  obtain ⟨⟨p1, n1, c1, L1, t1, f1, g1⟩, K1⟩ := h.mv
  have := t1.vlen
  have := h.few
  refine (rFin b0 tb delta p1 n1 c1 L1 vs1 key x y w1 t1 (by omega) h0 (Nat.le_trans hb K1.size)).mono ?_
  rintro o w' ⟨b, rfl, q1, q2⟩
  exact FinAns.mk b ⟨q1, RMv.trans K1 f1 g1 q2⟩
set_option maxRecDepth 100000 in
set_option maxHeartbeats 8000000 in
/-- Apply of the document's table. -/
theorem rApply (b0 tb : Nat) (delta : Int) (p : Option Addr) (n c : Nat) (L : List Ut) (vs : List Uv) (kd : Int) (key : ByteArray) (x y : Int) (fin has : Bool) (a : Option Addr) (m e : Nat) (l : List Nat) (w : World) (h : RTab b0 w tb delta p n c L vs) (hn : n < 1099511627775) (h0 : 0 ≤ delta) (hb : b0 ≤ w.heap.size) (r : Reads w a m e l) (hm : m ≤ 140737488355328) :
    Calls Tryz.prog 74 #[.pointer (some ⟨tb, 0, none⟩), .agg #[.int .i64 kd, .string key, .int .i64 x, .int .i64 y, .bool fin, .bool has, .slice a m e]] w fun o w' => ApAns o (docA delta vs ⟨kd, key, x, y, fin, has, a, m, e⟩ l) (RMv b0 w w' tb delta p L) := by
  obtain ⟨W, hW⟩ : ∃ W, W = w.alloc (.cells #[.int .i64 kd, .string key, .int .i64 x, .int .i64 y, .bool fin, .bool has, .slice a m e] 44) := ⟨_, rfl⟩
  have KZ : Kept (fun _ => False) w W := by rw [hW]; exact k0_alloc _ _
  have H : Hid (RTab b0 w tb delta p n c L vs ∧ W.heap[w.heap.size]? = some (.cells #[.int .i64 kd, .string key, .int .i64 x, .int .i64 y, .bool fin, .bool has, .slice a m e] 44 (0, 0)) ∧ Kept (fun _ => False) w W ∧ n < 1099511627775 ∧ 0 ≤ delta ∧ b0 ≤ w.heap.size ∧ Reads w a m e l ∧ m ≤ 140737488355328 ∧ vs.length = n) := ⟨h, by rw [hW]; exact heap_alloc_new _ _, KZ, hn, h0, hb, r, hm, h.vlen⟩
  have EW : Hid (W = w.alloc (.cells #[.int .i64 kd, .string key, .int .i64 x, .int .i64 y, .bool fin, .bool has, .slice a m e] 44)) := hW
  obtain ⟨my, hmy⟩ : ∃ my, my = Upd.may ⟨kd, key, x, y, fin, has, a, m, e⟩ := ⟨_, rfl⟩
  have RY : Hid (Calls Tryz.prog 108 #[.agg #[.int .i64 kd, .string key, .int .i64 x, .int .i64 y, .bool fin, .bool has, .slice a m e]] W fun o w' => o = .returned (.bool my) ∧ Kept (fun _ => False) W w') := by rw [hmy]; exact rMay kd key x y fin has a m e W
  have HY : Hid (my = Upd.may ⟨kd, key, x, y, fin, has, a, m, e⟩) := hmy
  have RPRE : Hid (∀ V, Kept (fun _ => False) w V → Calls Tryz.prog 109 #[.pointer (some ⟨tb, 0, none⟩), .string key, .agg #[.int .i64 x, .int .i64 y], .slice a m e] V fun o w' => FinAns o (fun b => b = (preV (nth (finF key vs) delta) vs key (x, y) l).1 ∧ AM b0 w w' tb delta p L (preV (nth (finF key vs) delta) vs key (x, y) l).2 n ∧ Kept (fun k => k = tb ∨ blockOf p = some k) V w')) := by
    intro V K
    refine (rPre b0 tb delta p n c L vs key x y a m e l V (h.k0 K) (by omega) h0 (Nat.le_trans hb K.size) (r.kept K (fun _ _ z => z)) hm).mono ?_
    rintro o w' ⟨b, rfl, F, q1, q2, q3, q4⟩
    rw [← finF_eq q1 q2] at q3 q4
    refine FinAns.mk b ⟨q3, ⟨RMv.trans (K.mono (fun _ _ z => z.elim)) (fun _ z => .inl z) (FreshL.refl _ _) q4, ?_⟩, q4.kept⟩
    have := preV_len (nth (finF key vs) delta) vs key (x, y) l
    have := h.vlen
    omega
  have nbx : Hid (¬ w.heap.size = tb ∧ ¬ blockOf p = some w.heap.size) := by
    refine ⟨fun z => ?_, fun z => ?_⟩
    · have := block_lt h.blk
      omega
    · have := (own_lt h.row _ z).2
      omega
  clear h KZ hW hn h0 hb r hm hmy
  go_enter Tryz.func74, Tryz.ntmps74
  go_upto_region 3 with fail
  rw [← EW.out]
  have t0 := cell_blk H.out.2.1 0 (v := .int .i64 kd) rfl
  have t1 := cell_blk H.out.2.1 1 (v := .string key) rfl
  have t2 := cell_blk H.out.2.1 2 (v := .int .i64 x) rfl
  have t3 := cell_blk H.out.2.1 3 (v := .int .i64 y) rfl
  have t4 := cell_blk H.out.2.1 4 (v := .bool fin) rfl
  have t5 := cell_blk H.out.2.1 5 (v := .bool has) rfl
  have t6 := cell_blk H.out.2.1 6 (v := .slice a m e) rfl
  go_wp2_with fail
  refine RY.out.mono ?_
  rintro o w1 ⟨rfl, K1'⟩
  have P1 : Hid (Kept (fun _ => False) w w1 ∧ w1.heap[w.heap.size]? = some (.cells #[.int .i64 kd, .string key, .int .i64 x, .int .i64 y, .bool fin, .bool has, .slice a m e] 44 (0, 0))) := ⟨H.out.2.2.1.and0 K1', K1'.get H.out.2.1 (fun z => z)⟩
  clear K1' t0 t1 t2 t3 t4 t5 t6 RY
  have CELLS : Hid (∀ V, Kept (fun k => k = tb ∨ blockOf p = some k) w1 V → V.cell? ⟨w.heap.size, 0, none⟩ = some (.int .i64 kd) ∧ V.cell? ⟨w.heap.size, 1, none⟩ = some (.string key) ∧ V.cell? ⟨w.heap.size, 2, none⟩ = some (.int .i64 x) ∧ V.cell? ⟨w.heap.size, 3, none⟩ = some (.int .i64 y) ∧ V.cell? ⟨w.heap.size, 4, none⟩ = some (.bool fin) ∧ V.cell? ⟨w.heap.size, 5, none⟩ = some (.bool has) ∧ V.cell? ⟨w.heap.size, 6, none⟩ = some (.slice a m e)) := by
    intro V K
    have q := K.get P1.out.2 (fun z => z.elim nbx.out.1 nbx.out.2)
    exact ⟨cell_blk q 0 rfl, cell_blk q 1 rfl, cell_blk q 2 rfl, cell_blk q 3 rfl, cell_blk q 4 rfl, cell_blk q 5 rfl, cell_blk q 6 rfl⟩
  cases my
  · have E : Hid (docA delta vs ⟨kd, key, x, y, fin, has, a, m, e⟩ l = (false, 1, vs)) := show docA delta vs ⟨kd, key, x, y, fin, has, a, m, e⟩ l = (false, 1, vs) from by
      unfold docA
      rw [if_neg (by rw [← HY.out]; decide)]
    go_wp2_with fail
    go_ret2
    exact ApAns.mk E.out (RMv.same H.out.1 P1.out.1)
  · have E0 : Hid (∀ br fi, Upd.brings ⟨kd, key, x, y, fin, has, a, m, e⟩ = br → Upd.final ⟨kd, key, x, y, fin, has, a, m, e⟩ = fi → docA delta vs ⟨kd, key, x, y, fin, has, a, m, e⟩ l = ((applyV delta vs key (x, y) l br fi).1, 0, (applyV delta vs key (x, y) l br fi).2)) := by
      intro br fi h1 h2
      unfold docA
      rw [if_pos HY.out.symm, h1, h2]
    have SZ : Hid (w.heap.size ≤ w1.heap.size) := P1.out.1.size
    obtain ⟨t0, t1, t2, t3, t4, t5, t6⟩ := CELLS.out w1 (Kept.refl _ _)
    have LEN : Hid (AM b0 w w1 tb delta p L vs n) := ⟨RMv.same H.out.1 P1.out.1, by have := H.out.2.2.2.2.2.2.2.2; omega⟩
    rcases may_kind HY.out.symm with ⟨rfl, rfl, rfl⟩ | ⟨rfl, rfl, rfl⟩ | rfl
    · have E := E0.out true false rfl rfl
      have E1 : Hid (docA delta vs ⟨1, key, x, y, false, false, a, m, e⟩ l = ((preV (nth (finF key vs) delta) vs key (x, y) l).1, 0, (preV (nth (finF key vs) delta) vs key (x, y) l).2)) := show docA delta vs ⟨1, key, x, y, false, false, a, m, e⟩ l = ((preV (nth (finF key vs) delta) vs key (x, y) l).1, 0, (preV (nth (finF key vs) delta) vs key (x, y) l).2) from by
        rw [E]
        unfold applyV finW preW
        simp
      clear E
      go_wp2_with fail
      refine (RPRE.out w1 P1.out.1).mono ?_
      rintro o w2 ⟨b1, rfl, q1, q2, q3⟩
      have P2 : Hid (b1 = (preV (nth (finF key vs) delta) vs key (x, y) l).1 ∧ AM b0 w w2 tb delta p L (preV (nth (finF key vs) delta) vs key (x, y) l).2 n) := ⟨q1, q2⟩
      clear t0 t1 t2 t3 t4 t5 t6
      obtain ⟨t0, t1, t2, t3, t4, t5, t6⟩ := CELLS.out w2 q3
      clear q1 q2 q3
      go_wp2_with fail
      go_ret2
      exact ApAns.mk (by rw [E1.out, ← P2.out.1]) P2.out.2.mv
    · have E := E0.out false true rfl rfl
      have E1 : Hid (docA delta vs ⟨2, key, x, y, false, false, a, m, e⟩ l = ((finV delta vs key (x, y)).1, 0, (finV delta vs key (x, y)).2)) := show docA delta vs ⟨2, key, x, y, false, false, a, m, e⟩ l = ((finV delta vs key (x, y)).1, 0, (finV delta vs key (x, y)).2) from by
        rw [E]
        unfold applyV finW preW
        simp
      clear E
      go_wp2_with fail
      refine (LEN.out.fin H.out.2.2.2.1 H.out.2.2.2.2.1 H.out.2.2.2.2.2.1 key x y).mono ?_
      rintro o w3 ⟨b2, rfl, q1, q2⟩
      have P3 : Hid (b2 = (finV delta vs key (x, y)).1 ∧ RMv b0 w w3 tb delta p L (finV delta vs key (x, y)).2) := ⟨q1, q2⟩
      clear q1 q2 t0 t1 t2 t3 t4 t5 t6
      go_wp2_with fail
      go_ret2
      exact ApAns.mk (by rw [E1.out, ← P3.out.1]) P3.out.2
    · cases fin <;> cases has
      · have E := E0.out false false rfl rfl
        have E1 : Hid (docA delta vs ⟨3, key, x, y, false, false, a, m, e⟩ l = (false, 0, vs)) := show docA delta vs ⟨3, key, x, y, false, false, a, m, e⟩ l = (false, 0, vs) from by
          rw [E]
          unfold applyV finW preW
          simp
        clear E
        go_wp2_with fail
        go_ret2
        exact ApAns.mk E1.out LEN.out.mv
      · have E := E0.out true false rfl rfl
        have E1 : Hid (docA delta vs ⟨3, key, x, y, false, true, a, m, e⟩ l = ((preV (nth (finF key vs) delta) vs key (x, y) l).1, 0, (preV (nth (finF key vs) delta) vs key (x, y) l).2)) := show docA delta vs ⟨3, key, x, y, false, true, a, m, e⟩ l = ((preV (nth (finF key vs) delta) vs key (x, y) l).1, 0, (preV (nth (finF key vs) delta) vs key (x, y) l).2) from by
          rw [E]
          unfold applyV finW preW
          simp
        clear E
        go_wp2_with fail
        refine (RPRE.out w1 P1.out.1).mono ?_
        rintro o w2 ⟨b1, rfl, q1, q2, q3⟩
        have P2 : Hid (b1 = (preV (nth (finF key vs) delta) vs key (x, y) l).1 ∧ AM b0 w w2 tb delta p L (preV (nth (finF key vs) delta) vs key (x, y) l).2 n) := ⟨q1, q2⟩
        clear t0 t1 t2 t3 t4 t5 t6
        obtain ⟨t0, t1, t2, t3, t4, t5, t6⟩ := CELLS.out w2 q3
        clear q1 q2 q3
        go_wp2_with fail
        go_ret2
        exact ApAns.mk (by rw [E1.out, ← P2.out.1]) P2.out.2.mv
      · have E := E0.out false true rfl rfl
        have E1 : Hid (docA delta vs ⟨3, key, x, y, true, false, a, m, e⟩ l = ((finV delta vs key (x, y)).1, 0, (finV delta vs key (x, y)).2)) := show docA delta vs ⟨3, key, x, y, true, false, a, m, e⟩ l = ((finV delta vs key (x, y)).1, 0, (finV delta vs key (x, y)).2) from by
          rw [E]
          unfold applyV finW preW
          simp
        clear E
        go_wp2_with fail
        refine (LEN.out.fin H.out.2.2.2.1 H.out.2.2.2.2.1 H.out.2.2.2.2.2.1 key x y).mono ?_
        rintro o w3 ⟨b2, rfl, q1, q2⟩
        have P3 : Hid (b2 = (finV delta vs key (x, y)).1 ∧ RMv b0 w w3 tb delta p L (finV delta vs key (x, y)).2) := ⟨q1, q2⟩
        clear q1 q2 t0 t1 t2 t3 t4 t5 t6
        go_wp2_with fail
        go_ret2
        exact ApAns.mk (by rw [E1.out, ← P3.out.1]) P3.out.2
      · have E := E0.out true true rfl rfl
        have E1 : Hid (docA delta vs ⟨3, key, x, y, true, true, a, m, e⟩ l = ((preV (nth (finF key vs) delta) vs key (x, y) l).1 || (finV delta (preV (nth (finF key vs) delta) vs key (x, y) l).2 key (x, y)).1, 0, (finV delta (preV (nth (finF key vs) delta) vs key (x, y) l).2 key (x, y)).2)) := show docA delta vs ⟨3, key, x, y, true, true, a, m, e⟩ l = ((preV (nth (finF key vs) delta) vs key (x, y) l).1 || (finV delta (preV (nth (finF key vs) delta) vs key (x, y) l).2 key (x, y)).1, 0, (finV delta (preV (nth (finF key vs) delta) vs key (x, y) l).2 key (x, y)).2) from by
          rw [E]
          unfold applyV finW preW
          simp
        clear E
        go_wp2_with fail
        refine (RPRE.out w1 P1.out.1).mono ?_
        rintro o w2 ⟨b1, rfl, q1, q2, q3⟩
        have P2 : Hid (b1 = (preV (nth (finF key vs) delta) vs key (x, y) l).1 ∧ AM b0 w w2 tb delta p L (preV (nth (finF key vs) delta) vs key (x, y) l).2 n) := ⟨q1, q2⟩
        clear t0 t1 t2 t3 t4 t5 t6
        obtain ⟨t0, t1, t2, t3, t4, t5, t6⟩ := CELLS.out w2 q3
        clear q1 q2 q3
        go_wp2_with fail
        refine (P2.out.2.fin H.out.2.2.2.1 H.out.2.2.2.2.1 H.out.2.2.2.2.2.1 key x y).mono ?_
        rintro o w3 ⟨b2, rfl, q1, q2⟩
        have P3 : Hid (b2 = (finV delta (preV (nth (finF key vs) delta) vs key (x, y) l).2 key (x, y)).1 ∧ RMv b0 w w3 tb delta p L (finV delta (preV (nth (finF key vs) delta) vs key (x, y) l).2 key (x, y)).2) := ⟨q1, q2⟩
        clear q1 q2 t0 t1 t2 t3 t4 t5 t6
        cases b1
        · go_wp2_with fail
          go_ret2
          exact ApAns.mk (by rw [E1.out, ← P2.out.1, ← P3.out.1]; rfl) P3.out.2
        · go_wp2_with fail
          go_ret2
          exact ApAns.mk (by rw [E1.out, ← P2.out.1]; rfl) P3.out.2
end Go.Proofs.YtojepeefphbekaaGreat

namespace Go.Proofs.YtojepeefphbekaaGreat
open Go.RowKit 

theorem own_str {w : World} {b0 : Nat} {p : Option Addr} {n c : Nat} {ks : List ByteArray} (ow : w.ownsRow b0 9 1 (.slice p n c) n (strs ks)) (hl : ks.length = n) {i : Nat} (hi : i < n) : ∃ b, p = some ⟨b, 0, none⟩ ∧ w.cell? ⟨b, i, none⟩ = some (.string (ks[i]'(by omega))) := by
  rcases ow.2 with ⟨_, hn⟩ | ⟨b, cap, cur, z, _⟩
  · omega
  · have z : Value.slice p n c = .slice (some ⟨b, 0, none⟩) n cap := z
    injection z with z1 _ z3
    subst z1
    subst z3
    have hc := ow.cells (g := b) rfl i (.string (ks[i]'(by omega))) (by unfold strs; rw [List.getElem?_map, List.getElem?_eq_getElem (by omega)]; rfl)
    rw [Addr.add_none, Nat.zero_add] at hc
    exact ⟨b, rfl, hc⟩
set_option maxRecDepth 100000 in
set_option maxHeartbeats 4000000 in
/-- Two lists of keys that are alike. -/
theorem sameKeysE (b1 b2 : Nat) (p1 p2 : Option Addr) (m c1 c2 : Nat) (ks : List ByteArray) (w : World) (h1 : w.ownsRow b1 9 1 (.slice p1 m c1) m (strs ks)) (h2 : w.ownsRow b2 9 1 (.slice p2 m c2) m (strs ks)) (hl : ks.length = m) :
    Calls Tryz.prog 18 #[.slice p1 m c1, .slice p2 m c2] w fun o w' => o = .returned (.bool true) ∧ Kept (fun _ => False) w w' := by
  have H : Hid (w.ownsRow b1 9 1 (.slice p1 m c1) m (strs ks) ∧ w.ownsRow b2 9 1 (.slice p2 m c2) m (strs ks) ∧ ks.length = m) := ⟨h1, h2, hl⟩
  have r1 := own_room h1
  unfold maxLen at r1
  obtain ⟨ra, rb⟩ := r1
  clear h1 h2 hl
  go_enter Tryz.func18, Tryz.ntmps18
  go_wp2_with fail
  go_loopw [5, 13] (fun _ x wr => ∃ (i : Nat), x = .int .i64 (i : Int) ∧ i ≤ m ∧ Hid (Kept (fun _ => False) w wr)) (fun _ x _ => m - (intOf x).toNat)
  case atStart => exact ⟨0, rfl, Nat.zero_le _, Kept.refl _ _⟩
  case round =>
    obtain ⟨i, rfl, hi, S⟩ := hrel
    by_cases hlt : i < m
    · have i1 : (i : Int) < (m : Int) := by omega
      obtain ⟨g1, rfl, d1⟩ := own_str (S.out.owns H.out.1 (fun _ _ z => z)) H.out.2.2 hlt
      obtain ⟨g2, rfl, d2⟩ := own_str (S.out.owns H.out.2.1 (fun _ _ z => z)) H.out.2.2 hlt
      obtain ⟨k, hk⟩ : ∃ k, k = ks[i]'(by have := H.out.2.2; omega) := ⟨_, rfl⟩
      rw [← hk] at d1 d2
      clear hk
      go_upto_region 6 with fail
      go_quiet (fail)
      have KQ : Hid (Kept (fun _ => False) w (wr.drewN nq)) := S.out.and0 (k0_of (below_dN (Below.refl _ _) nq))
      go_wp2_with fail
      go_roundw
      case rel => exact ⟨i + 1, by go_num, by omega, KQ⟩
      case measure => simp [intOf] <;> omega
    · have i1 : ¬ (i : Int) < (m : Int) := by omega
      go_wp2_with fail
      go_ret
      exact ⟨rfl, S.out⟩
end Go.Proofs.YtojepeefphbekaaGreat

namespace Go.Proofs.YtojepeefphbekaaGreat
open Go.RowKit 

/-- The round's state. -/
structure RAS (w wr : World) (p : Option Addr) (i c : Nat) (vs0 : List Uv) (ks : List ByteArray) (vs : List Av) : Prop where
  row : ∃ L : List Hl, L.length = i ∧ wr.ownsRow w.heap.size 35 2 (.slice p i c) i (hcells L) ∧ Along (HRd wr) L vs
  keys : vs.map (fun v => v.1) = ks.take i
  ents : ∀ v ∈ vs, REnts vs0 v.1 v.2
  kept : Kept (fun _ => False) w wr
theorem RKeys.few {vs : List Uv} {ks : List ByteArray} (h : RKeys vs ks) : ks.length ≤ vs.length := by
  have := nodup_leG ks (vs.map fun v => v.1) h.one (fun k hk => by
    obtain ⟨v, hv, e⟩ := (h.mem k).1 hk
    exact List.mem_map.2 ⟨v, hv, e⟩)
  rw [List.length_map] at this
  exact this
set_option maxRecDepth 100000 in
set_option maxHeartbeats 2000000 in
/-- All of the document's table. -/
theorem rAllG (Q : Value) (vs0 : List Uv) (w : World) (hn : vs0.length ≤ 1099511627776)
    (RK : Hid (Calls Tryz.prog 53 #[Q] w fun o w' => ∃ p n c, o = .returned (.slice p n c) ∧ ∃ ks, Hid (ks.length = n ∧ w'.ownsRow w.heap.size 9 1 (.slice p n c) n (strs ks) ∧ RKeys vs0 ks ∧ Kept (fun _ => False) w w')))
    (RE : Hid (∀ V key, Kept (fun _ => False) w V → Calls Tryz.prog 52 #[Q, .string key] V fun o w' => ∃ p n c, o = .returned (.slice p n c) ∧ ∃ es, Hid (EntRd w' p n c es ∧ REnts vs0 key es ∧ Kept (fun _ => False) V w'))) :
    Calls Tryz.prog 54 #[Q] w fun o w' => ∃ p n c vs, o = .returned (.slice p n c) ∧ Hid (AllRd w' p n c vs ∧ RAlls vs0 vs ∧ Kept (fun _ => False) w w') := by
  go_enter Tryz.func54, Tryz.ntmps54
  go_wp2_with fail
  refine RK.out.mono ?_
  rintro o w1 ⟨kp, m, cp, rfl, ks, R⟩
  have mb : m ≤ 1099511627776 := by have := R.out.2.2.1.few; have := R.out.1; omega
  have A0 : Hid (RAS w1 w1 none 0 0 vs0 ks []) := ⟨⟨[], rfl, ⟨rfl, .inl ⟨rfl, rfl⟩⟩, Along.nil _⟩, rfl, (fun _ h => by cases h), Kept.refl _ _⟩
  have cr := own_room R.out.2.1
  unfold maxLen at cr
  obtain ⟨cr1, cr2⟩ := cr
  clear hn RK
  go_wp2_with fail
  (try go_frame)
  go_loopw [3, 9] (fun y z wr => ∃ (i c : Nat) (p : Option Addr) (vs : List Av), z = .int .i64 (i : Int) ∧ y = .slice p i c ∧ i ≤ m ∧ Hid (RAS w1 wr p i c vs0 ks vs)) (fun _ z _ => m - (intOf z).toNat)
  case atStart => exact ⟨0, 0, none, [], rfl, rfl, Nat.zero_le _, A0⟩
  case round =>
    obtain ⟨i, c, p, vs, rfl, rfl, hi, A⟩ := hrel
    clear A0
    by_cases hlt : i < m
    · obtain ⟨g, rfl, d0'⟩ := own_str R.out.2.1 R.out.1 hlt
      obtain ⟨key, hk⟩ : ∃ key, ks[i]'(by rw [R.out.1]; exact hlt) = key := ⟨_, rfl⟩
      rw [hk] at d0'
      have d0 := A.out.kept.cell d0' (fun z => z)
      have hlt' : (i : Int) < (m : Int) := by omega
      have KM : Hid (ks[i]? = some key) := by rw [List.getElem?_eq_getElem (by rw [R.out.1]; exact hlt), hk]; exact rfl
      clear hk d0'
      go_wp2_with fail
      refine (RE.out wr key (R.out.2.2.2.and0 A.out.kept)).mono ?_
      rintro o w2 ⟨pe, nL, ce, rfl, es, E2⟩
      obtain ⟨Lh, hl0, ow0, al0⟩ := A.out.row
      have AR : Hid (Lh.length = i ∧ w2.ownsRow w1.heap.size 35 2 (.slice p i c) i (hcells Lh) ∧ Along (HRd w2) Lh vs) := ⟨hl0, E2.out.2.2.owns ow0 (fun _ _ z => z), al0.imp (fun a b q => q.off E2.out.2.2 (fun _ _ _ _ _ _ z => z))⟩
      have BL : Hid (i + 1 ≤ maxLen ∧ ((i + 1) + (i + 1) / 4 + 192) * 40 ≤ 281474976710656) := by
        unfold maxLen
        exact ⟨by omega, by omega⟩
      have K12 : Hid (Kept (fun _ => False) w1 w2) := A.out.kept.and0 E2.out.2.2
      clear hl0 ow0 al0 d0
      go_wp2_with
        (first
          | (at_builtin; refine wpList_append_all _ rfl (.tmp 13) (.tmp 19) 31 35 31 _ 2 40 rfl Tryz.underlying31 Tryz.info35c rfl w1.heap.size (.slice p i c) i (hcells Lh) rfl ((k0_alloc w2 _).owns AR.out.2.1 (fun _ _ z => z)) _ 1 (encH (key, pe, nL, ce)) rfl (src_held (heap_alloc_new w2 _)) BL.out.1 BL.out.2 (Nat.le_trans K12.out.size (k0_alloc w2 _).size) ?_; intro p9 c9 w9 ho hg hn)
          | fail)
      have A9 : Hid (RAS w1 w9 p9 (i + 1) c9 vs0 ks (vs ++ [(key, es)])) := by
        have KG : Kept (fun k => blockOf p = some k) w2 w9 := ((Kept.refl (fun k => blockOf p = some k) w2).alloc _).grown hg.out (fun k _ z => by rw [blockOf_own] at z; exact z)
        have ng : ∀ k cs t fr, (t = 5 ∨ t = 40) → w2.heap[k]? = some (.cells cs t fr) → ¬ blockOf p = some k := fun k cs t fr ht hc z => by
          obtain ⟨c2, h2⟩ := own_type AR.out.2.1 k z
          rcases ht with rfl | rfl <;> (rw [h2] at hc; simp at hc)
        refine ⟨⟨Lh ++ [(key, pe, nL, ce)], by rw [List.length_append, AR.out.1]; rfl, ?_, (AR.out.2.2.imp (fun a b q => q.off KG ng)).snoc ⟨rfl, E2.out.1.off KG ng⟩⟩, ?_, fun v hv => ?_, K12.out.trans KG (fun j hj z => ?_)⟩
        · rw [hcells_append]
          have e : hcells [(key, pe, nL, ce)] = encH (key, pe, nL, ce) := by simp [hcells]
          rw [e]
          exact ho.out
        · rw [List.map_append, A.out.keys, List.take_add_one, KM.out]
          rfl
        · rcases List.mem_append.1 hv with z | z
          · exact A.out.ents v z
          · rw [List.mem_singleton] at z
            subst z
            exact E2.out.2.1
        · have := (own_lt AR.out.2.1 j z).1
          omega
      clear ho hg hn A AR
      go_roundw
      case rel => exact ⟨i + 1, c9, p9, _, by go_num, rfl, by omega, A9⟩
      case measure => simp [intOf]; omega
    · have G : Hid (AllRd wr p i c vs ∧ RAlls vs0 vs ∧ Kept (fun _ => False) w wr) := by
        obtain ⟨Lh, hl0, ow0, al0⟩ := A.out.row
        have ek : vs.map (fun v => v.1) = ks := by
          rw [A.out.keys]
          exact List.take_of_length_le (by rw [R.out.1]; omega)
        refine ⟨⟨by rw [← al0.1, hl0], Lh, owns_mono ow0 (Nat.zero_le _), al0⟩, ⟨by rw [ek]; exact R.out.2.2.1, A.out.ents⟩, R.out.2.2.2.and0 A.out.kept⟩
      clear A
      go_wp2_with fail
      go_ret
      exact ⟨p, i, c, vs, rfl, G⟩
end Go.Proofs.YtojepeefphbekaaGreat

namespace Go.Proofs.YtojepeefphbekaaGreat
open Go.RowKit 

set_option maxRecDepth 100000 in
set_option maxHeartbeats 4000000 in
/-- Updates. -/
theorem rUpdG {wr0 : World} {vs0 : List Uv} {Q : Value} (TA : Hid (Calls Tryz.prog 54 #[Q] wr0 fun o w' => ∃ p n c vs, o = .returned (.slice p n c) ∧ Hid (AllRd w' p n c vs ∧ RAlls vs0 vs ∧ Kept (fun _ => False) wr0 w'))) (hf : ∀ vs, RAlls vs0 vs → (flat vs).length ≤ 1099511627776) : Calls Tryz.prog 55 #[Q] wr0 fun o w' => ∃ p n c, o = .returned (.slice p n c) ∧ ∃ vs, Hid (UpRd 0 w' p n c (flat vs) ∧ RAlls vs0 vs ∧ Kept (fun _ => False) wr0 w') := by
  have H : Hid (∀ vs, RAlls vs0 vs → (flat vs).length ≤ 1099511627776) := hf
  clear hf
  go_enter Tryz.func55, Tryz.ntmps55
  go_wp2_with fail
  refine TA.out.mono ?_
  rintro o w1 ⟨p1, n1, c1, vs, rfl, A1⟩
  have F : Hid ((flat vs).length ≤ 1099511627776) := H.out vs A1.out.2.1
  have room := A1.out.1.small
  unfold maxLen at room
  have U0 : Hid (UpRd w1.heap.size w1 none 0 0 (flat (vs.take 0)) ∧ Kept (fun _ => False) w1 w1) := ⟨⟨rfl, [], ⟨rfl, .inl ⟨rfl, rfl⟩⟩, Along.nil _⟩, Kept.refl _ _⟩
  go_wp2_with fail
  go_loopw [3, 5, 7, 11] (fun u3 _ _ u11 wr => ∃ (i n c : Nat) (p : Option Addr), u3 = .slice p n c ∧ u11 = .int .i64 (i : Int) ∧ i ≤ n1 ∧ Hid (UpRd w1.heap.size wr p n c (flat (vs.take i)) ∧ Kept (fun _ => False) w1 wr)) (fun _ _ _ u11 _ => n1 - (intOf u11).toNat)
  case atStart => exact ⟨0, 0, 0, none, rfl, rfl, Nat.zero_le _, U0⟩
  case round =>
    obtain ⟨i, n, c, p, rfl, rfl, hi, S⟩ := hrel
    obtain ⟨wo, hwo⟩ : ∃ wo, wo = wr := ⟨_, rfl⟩
    rw [← hwo] at S ⊢
    clear hwo U0
    by_cases hlt : i < n1
    · have i1 : (i : Int) < (n1 : Int) := by omega
      obtain ⟨b1, k1, es, a1, m1, q1, rfl, hv, d0', d1', er⟩ := A1.out.1.at hlt
      have d0 := S.out.2.cell d0' (fun z => z)
      have d1 := S.out.2.cell d1' (fun z => z)
      have HV : Hid (vs[i]? = some (k1, es) ∧ EntRd w1 a1 m1 q1 es ∧ es.length = m1) := ⟨hv, er, er.len⟩
      have es60 := er.small
      unfold maxLen at es60
      clear hv er d0' d1'
      go_upto_region 5 with fail
      obtain ⟨W, hW⟩ : ∃ W, W = wo.alloc (.cells #[.string k1, .slice a1 m1 q1] 35) := ⟨_, rfl⟩
      obtain ⟨HB, hHB⟩ : ∃ B, B = wo.heap.size := ⟨_, rfl⟩
      have B0 : Hid (W.heap[HB]? = some (.cells #[.string k1, .slice a1 m1 q1] 35 (0, 0)) ∧ Kept (fun _ => False) wo W) := by
        rw [hW, hHB]
        exact ⟨heap_alloc_new _ _, k0_alloc _ _⟩
      rw [← hW, ← hHB]
      clear hW hHB d0 d1
      have g0 := cell_blk B0.out.1 0 (v := .string k1) rfl
      have g1 := cell_blk B0.out.1 1 (v := .slice a1 m1 q1) rfl
      have V0 : Hid (UpRd w1.heap.size W p n c (flat (vs.take i) ++ (es.take 0).map (fun e => (k1, e))) ∧ Kept (fun _ => False) w1 W ∧ W.heap[HB]? = some (.cells #[.string k1, .slice a1 m1 q1] 35 (0, 0))) := by
        refine ⟨?_, S.out.2.and0 B0.out.2, B0.out.1⟩
        have := S.out.1.k0 B0.out.2
        rw [List.take_zero, List.map_nil, List.append_nil]
        exact this
      go_wp2_with fail
      go_loopw [3, 7, 18] (fun u3 _ u18 wr => ∃ (j n c : Nat) (p : Option Addr), u3 = .slice p n c ∧ u18 = .int .i64 (j : Int) ∧ j ≤ m1 ∧ Hid (UpRd w1.heap.size wr p n c (flat (vs.take i) ++ (es.take j).map (fun e => (k1, e))) ∧ Kept (fun _ => False) w1 wr ∧ wr.heap[HB]? = some (.cells #[.string k1, .slice a1 m1 q1] 35 (0, 0)))) (fun _ _ u18 _ => m1 - (intOf u18).toNat)
      case atStart => exact ⟨0, n, c, p, rfl, rfl, Nat.zero_le _, V0⟩
      case round =>
        obtain ⟨j, n2, c2, p2, rfl, rfl, hj, T⟩ := hrel
        clear V0
        by_cases hjl : j < m1
        · have j1 : (j : Int) < (m1 : Int) := by omega
          obtain ⟨b2, x, y, f, g, ea, en, ec, v, rfl, hv2, e0, e1, e2, e3, e4, ev⟩ := (HV.out.2.1.k0 T.out.2.1).ev hjl
          have q0 := cell_blk T.out.2.2 0 (v := .string k1) rfl
          obtain ⟨L, ow0, al0⟩ := T.out.1.row
          have N180 : n2 ≤ 1099511627776 := by
            have h1 : (flat (vs.take i) ++ (es.take j).map (fun e => (k1, e))).length ≤ (flat vs).length := by
              have hd : flat vs = flat (vs.take i) ++ (es.map (fun e => (k1, e)) ++ flat (vs.drop (i + 1))) := by
                have hil : i < vs.length := (List.getElem?_eq_some_iff.1 HV.out.1).1
                have e5 : vs[i] = (k1, es) := (List.getElem?_eq_some_iff.1 HV.out.1).2
                conv => lhs; rw [← List.take_append_drop i vs, List.drop_eq_getElem_cons hil, e5]
                simp [flat]
              rw [hd, List.length_append, List.length_append, List.length_append, List.length_map, List.length_map, List.length_take]
              omega
            have := F.out
            rw [T.out.1.len] at h1
            omega
          have AR : Hid (wr.ownsRow w1.heap.size 44 7 (.slice p2 n2 c2) n2 (ucells L) ∧ Along (UvRd wr) L (flat (vs.take i) ++ (es.take j).map (fun e => (k1, e))) ∧ EvRd wr ((x, y), f, g, ea, en, ec) v ∧ es[j]? = some v ∧ Kept (fun _ => False) w1 wr) := ⟨ow0, al0, ev, hv2, T.out.2.1⟩
          have BL : Hid (n2 + 1 ≤ maxLen ∧ ((n2 + 1) + (n2 + 1) / 4 + 192) * 72 ≤ 281474976710656) := by
            unfold maxLen
            exact ⟨by omega, by omega⟩
          clear ow0 al0 ev hv2
          go_upto_region 8 with fail
          obtain ⟨W2, hW2⟩ : ∃ W2, W2 = wr.alloc (.cells #[.int .i64 x, .int .i64 y, .bool f, .bool g, .slice ea en ec] 40) := ⟨_, rfl⟩
          obtain ⟨EB, hEB⟩ : ∃ B, B = wr.heap.size := ⟨_, rfl⟩
          have H2 : Hid (W2.heap[EB]? = some (.cells #[.int .i64 x, .int .i64 y, .bool f, .bool g, .slice ea en ec] 40 (0, 0)) ∧ Kept (fun _ => False) wr W2) := by
            rw [hW2, hEB]
            exact ⟨heap_alloc_new _ _, k0_alloc _ _⟩
          rw [← hW2, ← hEB]
          clear hW2 hEB e0 e1 e2 e3 e4 q0
          have e0 := cell_blk H2.out.1 0 (v := .int .i64 x) rfl
          have e1 := cell_blk H2.out.1 1 (v := .int .i64 y) rfl
          have e2 := cell_blk H2.out.1 2 (v := .bool f) rfl
          have e3 := cell_blk H2.out.1 3 (v := .bool g) rfl
          have e4 := cell_blk H2.out.1 4 (v := .slice ea en ec) rfl
          have q0 := cell_blk (H2.out.2.get T.out.2.2 (fun z => z)) 0 (v := .string k1) rfl
          go_wp2_with
            (first
              | (at_builtin; refine wpList_append_all _ rfl (.tmp 22) (.tmp 27) 41 44 41 _ 7 72 rfl Tryz.underlying41 Tryz.info44c rfl w1.heap.size (.slice p2 n2 c2) n2 (ucells L) rfl ((k0_alloc W2 _).owns (H2.out.2.owns AR.out.1 (fun _ _ z => z)) (fun _ _ z => z)) _ 1 (encU (k1, (x, y), f, g, ea, en, ec)) rfl (src_upd (heap_alloc_new W2 _)) BL.out.1 BL.out.2 (Nat.le_trans (AR.out.2.2.2.2.and0 H2.out.2).size (k0_alloc W2 _).size) ?_; intro p9 c9 w9 ho hg hn)
              | fail)
          have T9 : Hid (UpRd w1.heap.size w9 p9 (n2 + 1) c9 (flat (vs.take i) ++ (es.take (j + 1)).map (fun e => (k1, e))) ∧ Kept (fun _ => False) w1 w9 ∧ w9.heap[HB]? = some (.cells #[.string k1, .slice (some ⟨b2, 0, none⟩) m1 q1] 35 (0, 0))) := by
            have K2 := H2.out.2
            have := up_more (K2.owns AR.out.1 (fun _ _ z => z)) (AR.out.2.1.imp (fun a b q => ⟨q.key, q.ent.off K2 (fun _ _ _ _ z => z)⟩)) T.out.1.len (AR.out.2.2.2.2.and0 K2) (e := (k1, (x, y), f, g, ea, en, ec)) (v := (k1, v)) ⟨rfl, AR.out.2.2.1.off K2 (fun _ _ _ _ z => z)⟩ ho.out hg.out
            have e5 : flat (vs.take i) ++ (es.take (j + 1)).map (fun e => (k1, e)) = flat (vs.take i) ++ (es.take j).map (fun e => (k1, e)) ++ [(k1, v)] := by
              rw [List.take_add_one, AR.out.2.2.2.1, List.map_append, List.append_assoc]
              rfl
            rw [e5]
            refine ⟨this.1, this.2, ?_⟩
            have KG : Kept (fun k => blockOf p2 = some k) W2 w9 := ((Kept.refl (fun k => blockOf p2 = some k) W2).alloc _).grown hg.out (fun k _ z => by rw [blockOf_own] at z; exact z)
            have hb := K2.get T.out.2.2 (fun z => z)
            refine KG.get hb (fun z => ?_)
            obtain ⟨c3, h3⟩ := own_type (K2.owns AR.out.1 (fun _ _ z => z)) HB z
            rw [h3] at hb
            simp at hb
          clear ho hg hn
          go_roundw
          case rel => exact ⟨j + 1, n2 + 1, c9, p9, rfl, by go_num, by omega, T9⟩
          case measure => simp [intOf] <;> omega
        · have j1 : ¬ (j : Int) < (m1 : Int) := by omega
          have G : Hid (UpRd w1.heap.size wr p2 n2 c2 (flat (vs.take (i + 1))) ∧ Kept (fun _ => False) w1 wr) := by
            have := T.out.1
            rw [List.take_of_length_le (l := es) (i := j) (by rw [HV.out.2.2]; omega)] at this
            refine ⟨?_, T.out.2.1⟩
            rw [List.take_add_one, HV.out.1]
            show UpRd _ _ _ _ _ (flat (_ ++ [(k1, es)]))
            rw [flat_snoc]
            exact this
          clear T
          go_wp2_with fail
          go_roundw
          case rel => exact ⟨i + 1, n2, c2, p2, rfl, by go_num, by omega, G⟩
          case measure => simp [intOf] <;> omega
    · have i1 : ¬ (i : Int) < (n1 : Int) := by omega
      have G : Hid (UpRd 0 wo p n c (flat vs) ∧ RAlls vs0 vs ∧ Kept (fun _ => False) wr0 wo) := by
        obtain ⟨L, ow, al⟩ := S.out.1.row
        have ev : vs.take i = vs := List.take_of_length_le (by rw [A1.out.1.len]; omega)
        rw [ev] at al
        have ln := S.out.1.len
        rw [ev] at ln
        exact ⟨⟨ln, L, owns_mono ow (Nat.zero_le _), al⟩, A1.out.2.1, A1.out.2.2.and0 S.out.2⟩
      clear S
      go_wp2_with fail
      go_ret
      exact ⟨p, n, c, rfl, vs, G⟩
end Go.Proofs.YtojepeefphbekaaGreat

namespace Go.Proofs.YtojepeefphbekaaGreat
open Go.RowKit 

/-- How many have a fragment. -/
def hasE (es : List Ev) : Nat := (es.filter fun e => e.2.2.1).length
theorem hasE_snoc (es : List Ev) (e : Ev) : hasE (es ++ [e]) = hasE es + (if e.2.2.1 = true then 1 else 0) := by
  unfold hasE
  rw [List.filter_append, List.length_append]
  cases h : e.2.2.1 <;> simp [h]
theorem hasE_le (es : List Ev) : hasE es ≤ es.length := List.length_filter_le _ _
set_option maxRecDepth 100000 in
set_option maxHeartbeats 2000000 in
/-- Fragments of the document's table. -/
theorem rFragG (Q : Value) (key : ByteArray) (es : List Ev) (w : World)
    (RE : Hid (Calls Tryz.prog 52 #[Q, .string key] w fun o w' => ∃ p n c, o = .returned (.slice p n c) ∧ Hid (EntRd w' p n c es ∧ Kept (fun _ => False) w w'))) :
    Calls Tryz.prog 51 #[Q, .string key] w fun o w' => o = .returned (.int .i64 (hasE es : Int)) ∧ Kept (fun _ => False) w w' := by
  go_enter Tryz.func51, Tryz.ntmps51
  go_wp2_with fail
  refine RE.out.mono ?_
  rintro o w1 ⟨p, m, c, rfl, E⟩
  have cr := E.out.1.small
  unfold maxLen at cr
  obtain ⟨cr1, cr2⟩ := cr
  clear RE
  have A0 : Hid (Kept (fun _ => False) w1 w1) := Kept.refl _ _
  go_wp2_with fail
  (try go_frame)
  go_loopw [5, 7, 12] (fun x _ z wr => ∃ (i n : Nat), z = .int .i64 (i : Int) ∧ x = .int .i64 (n : Int) ∧ i ≤ m ∧ n ≤ i ∧ Hid (n = hasE (es.take i) ∧ Kept (fun _ => False) w1 wr)) (fun _ _ z _ => m - (intOf z).toNat)
  case atStart => exact ⟨0, 0, rfl, rfl, Nat.zero_le _, Nat.le_refl _, rfl, A0.out⟩
  case round =>
    obtain ⟨i, n, rfl, rfl, hi, hni, A⟩ := hrel
    clear A0
    by_cases hlt : i < m
    · obtain ⟨b, x, y, f, g, l, a, mm, cc, rfl, hv, e0', e1', e2', e3', e4', _⟩ := E.out.1.at hlt
      have e0 := A.out.2.cell e0' (fun z => z)
      have e1 := A.out.2.cell e1' (fun z => z)
      have e2 := A.out.2.cell e2' (fun z => z)
      have e3 := A.out.2.cell e3' (fun z => z)
      have e4 := A.out.2.cell e4' (fun z => z)
      have hlt' : (i : Int) < (m : Int) := by omega
      have NX : Hid (hasE (es.take (i + 1)) = hasE (es.take i) + (if g = true then 1 else 0)) := by
        rw [List.take_add_one, hv]
        exact hasE_snoc _ _
      clear e0' e1' e2' e3' e4' hv
      go_upto_region 5 with fail
      obtain ⟨W, hW⟩ : ∃ W, W = wr.alloc (.cells #[.int .i64 x, .int .i64 y, .bool f, .bool g, .slice a mm cc] 40) := ⟨_, rfl⟩
      obtain ⟨X, hX⟩ : ∃ X, X = wr.heap.size := ⟨_, rfl⟩
      have J : Hid (W.heap[X]? = some (.cells #[.int .i64 x, .int .i64 y, .bool f, .bool g, .slice a mm cc] 40 (0, 0)) ∧ Kept (fun _ => False) w1 W) := by
        rw [hW, hX]
        exact ⟨heap_alloc_new _ _, A.out.2.alloc _⟩
      rw [← hW, ← hX]
      clear hW hX e0 e1 e2 e3 e4
      have g3 := cell_blk J.out.1 3 (v := .bool g) rfl
      cases g
      · have A2 : Hid (n = hasE (es.take (i + 1)) ∧ Kept (fun _ => False) w1 W) := ⟨by rw [NX.out]; exact A.out.1, J.out.2⟩
        go_wp2_with fail
        go_roundw
        case rel => exact ⟨i + 1, n, by go_num, rfl, by omega, by omega, A2⟩
        case measure => simp [intOf]; omega
      · have A2 : Hid (n + 1 = hasE (es.take (i + 1)) ∧ Kept (fun _ => False) w1 W) := ⟨by rw [NX.out, ← A.out.1]; rfl, J.out.2⟩
        go_wp2_with fail
        go_roundw
        case rel => exact ⟨i + 1, n + 1, by go_num, by go_num, by omega, by omega, A2⟩
        case measure => simp [intOf]; omega
    · have G : Hid (n = hasE es ∧ Kept (fun _ => False) w wr) := by
        refine ⟨?_, E.out.2.and0 A.out.2⟩
        rw [A.out.1, List.take_of_length_le (by rw [E.out.1.len]; omega)]
      clear A
      go_wp2_with fail
      go_ret
      exact ⟨congrArg (fun z : Nat => Ending.returned (Value.int IntKind.i64 (z : Int))) G.out.1, G.out.2⟩
end Go.Proofs.YtojepeefphbekaaGreat
