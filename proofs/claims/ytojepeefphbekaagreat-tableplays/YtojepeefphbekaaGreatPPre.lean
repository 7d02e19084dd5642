import Derived.Test.YtojepeefphbekaaGreatPCopiedJ
import Derived.Deep.CutRange
namespace Go.Proofs.YtojepeefphbekaaGreat
open Go.RowKit 

/-- What 'pre' makes of the rows. -/
def preV (fl : Int × Int) (vs : List Uv) (key : ByteArray) (g : Int × Int) (l : List Nat) : Bool × List Uv :=
  if tc g fl < 0 then (false, vs) else
  if plc vs key g 0 < 0 then (true, vs ++ [(key, g, false, true, l)]) else
  match vs[(plc vs key g 0).toNat]? with
  | some v => if v.2.2.2.1 = true then (false, vs) else (true, vs.set (plc vs key g 0).toNat (key, g, v.2.2.1, true, l))
  | none => (false, vs)
/-- Fragments of rows lie where they lay, or in new memory. -/
def FreshL (w : World) (L L' : List Ut) : Prop := ∀ u ∈ L', ∀ k, blockOf u.2.2.2.2.1 = some k → (∃ v ∈ L, blockOf v.2.2.2.2.1 = some k) ∨ w.heap.size ≤ k
theorem FreshL.refl (w : World) (L : List Ut) : FreshL w L L := fun u hu _ hk => .inl ⟨u, hu, hk⟩
/-- The table behind a call that may write into its block and its rows. -/
structure RMv (b0 : Nat) (w w' : World) (tb : Nat) (delta : Int) (p : Option Addr) (L : List Ut) (vs' : List Uv) : Prop where
  tab : ∃ p' n' c' L', RTab b0 w' tb delta p' n' c' L' vs' ∧ (∀ k, blockOf p' = some k → blockOf p = some k ∨ w.heap.size ≤ k) ∧ FreshL w L L'
  kept : Kept (fun k => k = tb ∨ blockOf p = some k) w w'
theorem RMv.same {b0 : Nat} {w w' : World} {tb : Nat} {delta : Int} {p : Option Addr} {n c : Nat} {L : List Ut} {vs : List Uv} (h : RTab b0 w tb delta p n c L vs) (K : Kept (fun _ => False) w w') : RMv b0 w w' tb delta p L vs := ⟨⟨p, n, c, L, h.k0 K, fun _ hk => .inl hk, FreshL.refl w L⟩, K.mono (fun _ _ z => z.elim)⟩
theorem own_ty {w : World} {b0 ty st : Nat} {p : Option Addr} {n c : Nat} {xs : List Value} (h : w.ownsRow b0 ty st (.slice p n c) n xs) {k : Nat} (hk : blockOf p = some k) : ∃ cs, w.heap[k]? = some (.cells cs ty (0, 0)) := own_type h k hk
theorem UvRd.off {S : Nat → Prop} {w w' : World} {u : Ut} {v : Uv} (h : UvRd w u v) (K : Kept S w w') (hn : ∀ k cs fr, w.heap[k]? = some (.cells cs 5 fr) → ¬ S k) : UvRd w' u v := ⟨h.key, h.ent.off K hn⟩
/-- One row more. -/
theorem RTab.push {b0 : Nat} {wi w8 : World} {tb : Nat} {delta : Int} {p p9 : Option Addr} {n c c9 : Nat} {L : List Ut} {vs : List Uv} {u : Ut} {v : Uv} (h : RTab b0 wi tb delta p n c L vs) (uv : UvRd wi u v)
    (ho : w8.ownsRow b0 109 6 (.slice p9 (n + 1) c9) (n + 1) (rcells L ++ encR u)) (hg : wi.grownBy w8 (Value.slice p n c).ownBlock) (hn : (Value.slice p9 (n + 1) c9).ownBlock = (Value.slice p n c).ownBlock ∨ ((Value.slice p9 (n + 1) c9).ownBlock = some wi.heap.size ∧ wi.grownBy w8 none)) :
    w8.heap[tb]? = some (.cells #[.int .i64 delta, .slice p n c] 107 (0, 0)) ∧ RTab b0 (w8.setCell ⟨tb, 1, none⟩ (.slice p9 (n + 1) c9)) tb delta p9 (n + 1) c9 (L ++ [u]) (vs ++ [v]) ∧ Kept (fun k => k = tb ∨ blockOf p = some k) wi (w8.setCell ⟨tb, 1, none⟩ (.slice p9 (n + 1) c9)) ∧ ∀ k, blockOf p9 = some k → blockOf p = some k ∨ wi.heap.size ≤ k := by
  have K8 : Kept (fun k => blockOf p = some k) wi w8 := (Kept.refl (fun k => blockOf p = some k) wi).grown hg (fun k _ z => by rw [blockOf_own] at z; exact z)
  have nt : ¬ blockOf p = some tb := fun z => by
    obtain ⟨c2, h2⟩ := own_ty h.row z
    rw [h.blk] at h2
    simp at h2
  have n5 : ∀ k cs fr, wi.heap[k]? = some (.cells cs 5 fr) → ¬ blockOf p = some k := fun k cs fr hc z => by
    obtain ⟨c2, h2⟩ := own_ty h.row z
    rw [h2] at hc
    simp at hc
  have b8 := K8.get h.blk nt
  have K9 : Kept (fun k => k = tb) w8 (w8.setCell ⟨tb, 1, none⟩ (.slice p9 (n + 1) c9)) := (Kept.refl (fun k => k = tb) w8).setCell (p := ⟨tb, 1, none⟩) (fun _ => rfl) _
  have n6 : ∀ k cs fr, w8.heap[k]? = some (.cells cs 5 fr) → ¬ k = tb := fun k cs fr hc z => by
    rw [z, b8] at hc
    simp at hc
  refine ⟨b8, ⟨heap_set b8 1 _, by rw [List.length_append, h.len]; rfl, ?_, ?_⟩, (K8.mono (fun _ _ z => .inr z)).trans K9 (fun _ _ z => .inl z), fun k hk => ?_⟩
  · rw [rcells_append]
    have e0 : rcells [u] = encR u := by simp [rcells]
    rw [e0]
    refine K9.owns ho (fun k hk z => ?_)
    have z : k = tb := z
    obtain ⟨c2, h2⟩ := own_ty ho (k := k) (by rw [← blockOf_own]; exact hk)
    rw [z, b8] at h2
    simp at h2
  · exact ((h.rd.imp (fun _ _ q => (q.off K8 n5).off K9 n6))).snoc ((uv.off K8 n5).off K9 n6)
  · rcases hn with z | ⟨z, _⟩
    · rw [blockOf_own, blockOf_own, hk] at z
      exact .inl z.symm
    · rw [blockOf_own, hk] at z
      have z := Option.some.inj z
      exact .inr (by omega)
theorem plc_spec : ∀ (vs : List Uv) (k : ByteArray) (g : Int × Int) (s : Nat), ¬ plc vs k g s < 0 → ∃ i, ∃ h : i < vs.length, plc vs k g s = ((s + i : Nat) : Int) ∧ isAt k g vs[i] = true
  | [], _, _, _, h => absurd (show (-1 : Int) < 0 by decide) h
  | v :: vs, k, g, s, h => by
    by_cases e : isAt k g v = true
    · refine ⟨0, by simp, ?_, e⟩
      show (if isAt k g v = true then (s : Int) else plc vs k g (s + 1)) = _
      rw [if_pos e]
      rfl
    · have e2 : plc (v :: vs) k g s = plc vs k g (s + 1) := by
        show (if isAt k g v = true then (s : Int) else plc vs k g (s + 1)) = _
        rw [if_neg e]
      rw [e2] at h ⊢
      obtain ⟨i, hi, h1, h2⟩ := plc_spec vs k g (s + 1) h
      exact ⟨i + 1, by simpa using hi, by rw [h1]; omega, h2⟩
theorem rcells_set : ∀ (L : List Ut) (j : Nat) (_ : j < L.length) (e : Ut), (∀ (h : j < L.length), L[j].1 = e.1) → rcells (L.set j e) = (((((rcells L).set (j * 6 + 1) (.int .i64 e.2.1.1)).set (j * 6 + 2) (.int .i64 e.2.1.2)).set (j * 6 + 3) (.bool e.2.2.1)).set (j * 6 + 4) (.bool e.2.2.2.1)).set (j * 6 + 5) (.slice e.2.2.2.2.1 e.2.2.2.2.2.1 e.2.2.2.2.2.2)
  | [], j, h, e, _ => by simp at h
  | a :: L, 0, _, e, hk => by
    have hk := hk (by simp)
    have hk : a.1 = e.1 := hk
    rw [List.set_cons_zero, rcells_cons, rcells_cons]
    obtain ⟨a1, a2⟩ := a
    obtain ⟨e1, e2⟩ := e
    have hk : a1 = e1 := hk
    subst hk
    rfl
  | a :: L, j + 1, h, e, hk => by
    rw [List.set_cons_succ, rcells_cons, rcells_set L j (by simpa using h) e (fun h2 => hk (by simpa using h2)), rcells_cons]
    have e' : ∀ i, (j + 1) * 6 + i = j * 6 + i + 6 := fun i => by omega
    rw [e' 1, e' 2, e' 3, e' 4, e' 5]
    rfl
theorem Along.set {α β : Type} {R : α → β → Prop} {L : List α} {vs : List β} (h : Along R L vs) {i : Nat} {u : α} {v : β} (hr : R u v) : Along R (L.set i u) (vs.set i v) := by
  refine ⟨by rw [List.length_set, List.length_set]; exact h.1, fun j h1 h2 => ?_⟩
  rw [List.getElem_set, List.getElem_set]
  by_cases e : i = j
  · rw [if_pos e, if_pos e]
    exact hr
  · rw [if_neg e, if_neg e]
    rw [List.length_set] at h1 h2
    exact h.2 j h1 h2
theorem preV_has {fl : Int × Int} {vs : List Uv} {key : ByteArray} {g : Int × Int} {l : List Nat} {i : Nat} (hi : i < vs.length) (h1 : ¬ tc g fl < 0) (h2 : plc vs key g 0 = (i : Int)) : preV fl vs key g l = if vs[i].2.2.2.1 = true then (false, vs) else (true, vs.set i (key, g, vs[i].2.2.1, true, l)) := by
  unfold preV
  rw [if_neg h1, if_neg (by rw [h2]; omega), h2, Int.toNat_natCast, List.getElem?_eq_getElem hi]
/-- A row is written anew. -/
theorem RTab.put {b0 : Nat} {wi : World} {tb : Nat} {delta : Int} {g n c : Nat} {L : List Ut} {vs : List Uv} {u : Ut} {v : Uv} {i : Nat} (h : RTab b0 wi tb delta (some ⟨g, 0, none⟩) n c L vs) (hi : i < L.length) (hk : L[i].1 = u.1) (uv : UvRd wi u v) :
    RTab b0 (((((wi.setCell ⟨g, i * 6 + 1, none⟩ (.int .i64 u.2.1.1)).setCell ⟨g, i * 6 + 2, none⟩ (.int .i64 u.2.1.2)).setCell ⟨g, i * 6 + 3, none⟩ (.bool u.2.2.1)).setCell ⟨g, i * 6 + 4, none⟩ (.bool u.2.2.2.1)).setCell ⟨g, i * 6 + 5, none⟩ (.slice u.2.2.2.2.1 u.2.2.2.2.2.1 u.2.2.2.2.2.2)) tb delta (some ⟨g, 0, none⟩) n c (L.set i u) (vs.set i v) ∧ Kept (fun k => k = g) wi (((((wi.setCell ⟨g, i * 6 + 1, none⟩ (.int .i64 u.2.1.1)).setCell ⟨g, i * 6 + 2, none⟩ (.int .i64 u.2.1.2)).setCell ⟨g, i * 6 + 3, none⟩ (.bool u.2.2.1)).setCell ⟨g, i * 6 + 4, none⟩ (.bool u.2.2.2.1)).setCell ⟨g, i * 6 + 5, none⟩ (.slice u.2.2.2.2.1 u.2.2.2.2.2.1 u.2.2.2.2.2.2)) := by
  have K : Kept (fun k => k = g) wi (((((wi.setCell ⟨g, i * 6 + 1, none⟩ (.int .i64 u.2.1.1)).setCell ⟨g, i * 6 + 2, none⟩ (.int .i64 u.2.1.2)).setCell ⟨g, i * 6 + 3, none⟩ (.bool u.2.2.1)).setCell ⟨g, i * 6 + 4, none⟩ (.bool u.2.2.2.1)).setCell ⟨g, i * 6 + 5, none⟩ (.slice u.2.2.2.2.1 u.2.2.2.2.2.1 u.2.2.2.2.2.2)) := (((((Kept.refl (fun k => k = g) wi).setCell (p := ⟨g, i * 6 + 1, none⟩) (fun _ => rfl) _).setCell (p := ⟨g, i * 6 + 2, none⟩) (fun _ => rfl) _).setCell (p := ⟨g, i * 6 + 3, none⟩) (fun _ => rfl) _).setCell (p := ⟨g, i * 6 + 4, none⟩) (fun _ => rfl) _).setCell (p := ⟨g, i * 6 + 5, none⟩) (fun _ => rfl) _
  obtain ⟨cg, hg⟩ := own_ty h.row (k := g) rfl
  have n5 : ∀ k cs fr, wi.heap[k]? = some (.cells cs 5 fr) → ¬ k = g := fun k cs fr hc z => by
    rw [z, hg] at hc
    simp at hc
  refine ⟨⟨K.get h.blk (fun z => ?_), by rw [List.length_set]; exact h.len, ?_, (h.rd.imp (fun _ _ q => q.off K n5)).set (uv.off K n5)⟩, K⟩
  · have z : tb = g := z
    have hb := h.blk
    rw [z, hg] at hb
    simp at hb
  · rw [rcells_set L i hi u (fun _ => hk)]
    exact (((((h.row.stored _ _).1.stored _ _).1.stored _ _).1.stored _ _).1.stored _ _).1
theorem preV_new {fl : Int × Int} {vs : List Uv} {key : ByteArray} {g : Int × Int} {l : List Nat} (h1 : ¬ tc g fl < 0) (h2 : plc vs key g 0 < 0) : preV fl vs key g l = (true, vs ++ [(key, g, false, true, l)]) := by
  unfold preV
  rw [if_neg h1, if_pos h2]
set_option maxRecDepth 100000 in
set_option maxHeartbeats 8000000 in
/-- pre. -/
theorem rPre (b0 tb : Nat) (delta : Int) (p : Option Addr) (n c : Nat) (L : List Ut) (vs : List Uv) (key : ByteArray) (x y : Int) (a : Option Addr) (m e : Nat) (l : List Nat) (w : World) (h : RTab b0 w tb delta p n c L vs) (hn : n ≤ 1099511627776) (h0 : 0 ≤ delta) (hb : b0 ≤ w.heap.size) (r : Reads w a m e l) (hm : m ≤ 140737488355328) :
    Calls Tryz.prog 109 #[.pointer (some ⟨tb, 0, none⟩), .string key, .agg #[.int .i64 x, .int .i64 y], .slice a m e] w fun o w' => ∃ b, o = .returned (.bool b) ∧ Hid (∃ F, Falls F ∧ F.Perm (fins0 key vs) ∧ b = (preV (nth F delta) vs key (x, y) l).1 ∧ RMv b0 w w' tb delta p L (preV (nth F delta) vs key (x, y) l).2) := by
  obtain ⟨W, hW⟩ : ∃ W, W = w.alloc (.cells #[.int .i64 x, .int .i64 y] 37) := ⟨_, rfl⟩
  have KZ : Kept (fun _ => False) w W := by rw [hW]; exact k0_alloc _ _
  have H : Hid (RTab b0 w tb delta p n c L vs ∧ W.heap[w.heap.size]? = some (.cells #[.int .i64 x, .int .i64 y] 37 (0, 0)) ∧ Kept (fun _ => False) w W ∧ n ≤ 1099511627776 ∧ 0 ≤ delta ∧ b0 ≤ w.heap.size ∧ Reads w a m e l ∧ m ≤ 140737488355328) := ⟨h, by rw [hW]; exact heap_alloc_new _ _, KZ, hn, h0, hb, r, hm⟩
  have EW : Hid (W = w.alloc (.cells #[.int .i64 x, .int .i64 y] 37)) := hW
  clear h KZ hW hn h0 hb r hm
  go_enter Tryz.func109, Tryz.ntmps109
  go_upto_region 1 with fail
  rw [← EW.out]
  have t0 := cell_blk H.out.2.1 0 (v := .int .i64 x) rfl
  have t1 := cell_blk H.out.2.1 1 (v := .int .i64 y) rfl
  go_cut [15] (fun u wc => ∃ bb : Bool, u = .bool bb ∧ Hid (∃ F, Falls F ∧ F.Perm (fins0 key vs) ∧ bb = decide (tc (x, y) (nth F delta) < 0) ∧ Kept (fun _ => False) W wc))
  case first =>
    go_region_held3 (fun V => V.cell? ⟨w.heap.size, 0, none⟩ = some (.int .i64 x) ∧ V.cell? ⟨w.heap.size, 1, none⟩ = some (.int .i64 y)) (first | go_keep)
      (first
        | (go_at_call 50; refine (rFloorB b0 tb delta p n c L vs key W.drew (H.out.1.k0 (H.out.2.2.1.and0 (Kept.refl _ _).drew)) H.out.2.2.2.1 H.out.2.2.2.2.1).mono ?_; rintro o w2 ⟨fx, fy, rfl, Q2⟩
           have K2 : Hid (Kept (fun _ => False) W w2) := by
             obtain ⟨_, _, _, _, K⟩ := Q2.out
             exact ((Kept.refl _ _).drew).and0 K
           have t0 := K2.out.cell t0 (fun z => z)
           have t1 := K2.out.cell t1 (fun z => z))
        | (go_at_call 77; refine (rBelow x y fx fy _).mono ?_; rintro o w3 ⟨rfl, K3⟩
           have K4 : Hid (Kept (fun _ => False) W w3) := K2.out.and0 K3
           have t0 := K3.cell t0 (fun z => z)
           have t1 := K3.cell t1 (fun z => z)
           clear K3)
        | fail)
    all_goals go_wp2_with fail
    all_goals go_meet
    all_goals refine ⟨_, rfl, ?_⟩
    all_goals obtain ⟨F, f1, f2, f3, _⟩ := Q2.out
    all_goals refine ⟨F, f1, f2, by rw [f3], ?_⟩
    all_goals first | exact K4.out | exact K4.out.drew | exact K4.out.drew.drew | exact K4.out.drewN _
  case rest =>
    obtain ⟨bb, rfl, Q⟩ := hcut
    clear t0 t1
    cases bb
    · obtain ⟨F, f1, f2, f3, kc⟩ := Q.out
      have nb : ¬ tc (x, y) (nth F delta) < 0 := of_decide_eq_false f3.symm
      have P : Hid (Falls F ∧ F.Perm (fins0 key vs) ∧ ¬ tc (x, y) (nth F delta) < 0 ∧ Kept (fun _ => False) w wc ∧ wc.heap[w.heap.size]? = some (.cells #[.int .i64 x, .int .i64 y] 37 (0, 0))) := ⟨f1, f2, nb, H.out.2.2.1.and0 kc, kc.get H.out.2.1 (fun z => z)⟩
      clear f1 f2 f3 kc nb Q
      have t0 := cell_blk P.out.2.2.2.2 0 (v := .int .i64 x) rfl
      have t1 := cell_blk P.out.2.2.2.2 1 (v := .int .i64 y) rfl
      go_wp2_with fail
      refine (rCopied x y false true a m e l wc (H.out.2.2.2.2.2.2.1.kept P.out.2.2.2.1 (fun _ _ z => z)) H.out.2.2.2.2.2.2.2).mono ?_
      rintro o w4 ⟨pd, cd, rfl, Q4⟩
      obtain ⟨W5, hW5⟩ : ∃ W5, W5 = w4.alloc (.cells #[.int .i64 x, .int .i64 y, .bool false, .bool true, .slice pd m cd] 40) := ⟨_, rfl⟩
      obtain ⟨X5, hX5⟩ : ∃ X5, X5 = w4.heap.size := ⟨_, rfl⟩
      have P5 : Hid (W5.heap[X5]? = some (.cells #[.int .i64 x, .int .i64 y, .bool false, .bool true, .slice pd m cd] 40 (0, 0)) ∧ Kept (fun _ => False) w W5 ∧ Reads W5 pd m cd l ∧ (∀ k, blockOf pd = some k → w.heap.size ≤ k ∧ ∃ cs, W5.heap[k]? = some (.cells cs 5 (0, 0))) ∧ W5.heap[w.heap.size]? = some (.cells #[.int .i64 x, .int .i64 y] 37 (0, 0)) ∧ w.heap.size < X5) := by
        have K5 : Kept (fun _ => False) w4 W5 := by rw [hW5]; exact k0_alloc _ _
        obtain ⟨q1, q2, q3⟩ := Q4.out
        have lt := block_lt P.out.2.2.2.2
        have sz := q3.size
        refine ⟨by rw [hW5, hX5]; exact heap_alloc_new _ _, (P.out.2.2.2.1.and0 q3).and0 K5, q1.kept K5 (fun _ _ z => z), fun k hk => ?_, K5.get (q3.get P.out.2.2.2.2 (fun z => z)) (fun z => z), by omega⟩
        obtain ⟨h1, cs, hc⟩ := q2 k hk
        exact ⟨Nat.le_trans P.out.2.2.2.1.size h1, cs, K5.get hc (fun z => z)⟩
      have EW5 : Hid (W5 = w4.alloc (.cells #[.int .i64 x, .int .i64 y, .bool false, .bool true, .slice pd m cd] 40) ∧ X5 = w4.heap.size) := ⟨hW5, hX5⟩
      clear hW5 hX5 Q4 t0 t1
      go_upto_region 4 with fail
      rw [← EW5.out.1, ← EW5.out.2]
      have t0 := cell_blk P5.out.2.2.2.2.1 0 (v := .int .i64 x) rfl
      have t1 := cell_blk P5.out.2.2.2.2.1 1 (v := .int .i64 y) rfl
      obtain ⟨pv, hpv⟩ : ∃ pv, pv = plc vs key (x, y) 0 := ⟨_, rfl⟩
      have RP : Hid (Calls Tryz.prog 75 #[.pointer (some ⟨tb, 0, none⟩), .string key, .agg #[.int .i64 x, .int .i64 y]] W5 fun o w' => o = .returned (.int .i64 pv) ∧ Kept (fun _ => False) W5 w') := by rw [hpv]; exact rPlace b0 tb delta p n c L vs key x y W5 (H.out.1.k0 P5.out.2.1)
      have HP : Hid (pv = plc vs key (x, y) 0) := hpv
      clear hpv
      go_wp2_with fail
      refine RP.out.mono ?_
      rintro o w6 ⟨rfl, K6⟩
      have P6 : Hid (w6.heap[X5]? = some (.cells #[.int .i64 x, .int .i64 y, .bool false, .bool true, .slice pd m cd] 40 (0, 0)) ∧ Kept (fun _ => False) w w6 ∧ Reads w6 pd m cd l ∧ (∀ k, blockOf pd = some k → w.heap.size ≤ k ∧ ∃ cs, w6.heap[k]? = some (.cells cs 5 (0, 0))) ∧ RTab b0 w6 tb delta p n c L vs ∧ w.heap.size < X5) := by
        refine ⟨K6.get P5.out.1 (fun z => z), P5.out.2.1.and0 K6, P5.out.2.2.1.kept K6 (fun _ _ z => z), fun k hk => ?_, H.out.1.k0 (P5.out.2.1.and0 K6), P5.out.2.2.2.2.2⟩
        obtain ⟨h1, cs, hc⟩ := P5.out.2.2.2.1 k hk
        exact ⟨h1, cs, K6.get hc (fun z => z)⟩
      clear K6 RP t0 t1 P5 EW5
      by_cases hneg : pv < 0
      · have d1 := cell_blk P6.out.2.2.2.2.1.blk 1 (v := .slice p n c) rfl
        have k0 := cell_blk P6.out.1 0 (v := .int .i64 x) rfl
        have k1 := cell_blk P6.out.1 1 (v := .int .i64 y) rfl
        have k2 := cell_blk P6.out.1 2 (v := .bool false) rfl
        have k3 := cell_blk P6.out.1 3 (v := .bool true) rfl
        have k4 := cell_blk P6.out.1 4 (v := .slice pd m cd) rfl
        have ltb : tb < w6.heap.size := block_lt P6.out.2.2.2.2.1.blk
        have ltx : X5 < w6.heap.size := block_lt P6.out.1
        have BL : Hid (n + 1 ≤ maxLen ∧ ((n + 1) + (n + 1) / 4 + 192) * 64 ≤ 281474976710656) := by
          have := H.out.2.2.2.1
          unfold maxLen
          exact ⟨by omega, by omega⟩
        have V6 : Hid (Kept (fun _ => False) w6 (w6.drew.alloc (.cells #[.string key, .int .i64 x, .int .i64 y, .bool false, .bool true, .slice pd m cd] 109)) ∧ (w6.drew.alloc (.cells #[.string key, .int .i64 x, .int .i64 y, .bool false, .bool true, .slice pd m cd] 109)).heap[w6.drew.heap.size]? = some (.cells #[.string key, .int .i64 x, .int .i64 y, .bool false, .bool true, .slice pd m cd] 109 (0, 0))) := ⟨((Kept.refl _ w6).drew).alloc _, heap_alloc_new _ _⟩
        go_upto_region 6 with fail
        go_region_law
          (first
            | (refine step_append_all _ (by rfl) (.tmp 30) (.tmp 34) 105 109 105 _ 6 64 (by rfl) Tryz.underlying105 Tryz.info109c rfl b0 (.slice p n c) n (rcells L) (by rfl) (V6.out.1.owns P6.out.2.2.2.2.1.row (fun _ _ z => z)) _ 1 (encR (key, (x, y), false, true, pd, m, cd)) (by rfl) (src_row V6.out.2) BL.out.1 BL.out.2 (Nat.le_trans H.out.2.2.2.2.2.1 (Nat.le_trans P6.out.2.1.size V6.out.1.size)) ?_; intro p9 c9 w8 ho hg hn
               have F8 : Hid (w8.heap[tb]? = some (.cells #[.int .i64 delta, .slice p n c] 107 (0, 0)) ∧ RMv b0 w (w8.setCell ⟨tb, 1, none⟩ (.slice p9 (n + 1) c9)) tb delta p L (vs ++ [(key, (x, y), false, true, l)])) := by
                 have uv : UvRd w6 (key, (x, y), false, true, pd, m, cd) (key, (x, y), false, true, l) := ⟨rfl, rfl, rfl, rfl, P6.out.2.2.1, fun k hk => by obtain ⟨_, cs, hc⟩ := P6.out.2.2.2.1 k hk; exact ⟨cs, _, hc⟩⟩
                 obtain ⟨q1, q2, q3, q4⟩ := (P6.out.2.2.2.2.1.k0 V6.out.1).push (uv.off V6.out.1 (fun _ _ _ _ z => z)) ho.out hg.out hn.out
                 have KK := P6.out.2.1.and0 V6.out.1
                 exact ⟨q1, ⟨p9, n + 1, c9, _, q2, fun k hk => (q4 k hk).imp id (fun z => Nat.le_trans KK.size z), fun u hu k hk => (List.mem_append.1 hu).elim (fun z => .inl ⟨u, z, hk⟩) (fun z => .inr (P6.out.2.2.2.1 k (by rw [List.mem_singleton.1 z] at hk; exact hk)).1)⟩, (KK.mono (fun _ _ z => z.elim)).trans q3 (fun _ _ z => z)⟩
               have e1 := cell_blk F8.out.1 1 (v := .slice p n c) rfl
               have s1 := soft_blk F8.out.1 1
               clear ho hg hn)
            | fail)
        all_goals go_wp2_with fail
        all_goals go_ret
        all_goals refine ⟨true, rfl, F, P.out.1, P.out.2.1, ?_, ?_⟩
        all_goals rw [preV_new (by have := P.out.2.2.1; omega) (by rw [← HP.out]; exact hneg)]
        all_goals exact F8.out.2
      · obtain ⟨i, hi, hpi, hat⟩ := plc_spec vs key (x, y) 0 (by rw [← HP.out]; exact hneg)
        have hpv : pv = (i : Int) := by rw [HP.out, hpi, Nat.zero_add]
        have hiL : i < n := by rw [← P6.out.2.2.2.2.1.vlen]; exact hi
        obtain ⟨g, k, u, v, f, hh, ra, rm, rc, rfl, hv, e0, e1, e2, e3, e4, e5⟩ := own_rw P6.out.2.2.2.2.1.row P6.out.2.2.2.2.1.len hiL
        obtain ⟨hi2, uv⟩ := along_at P6.out.2.2.2.2.1.rd hv
        have hkey : k = key ∧ (u, v) = (x, y) := by
          unfold isAt at hat
          rw [← uv.key, ← uv.ent.tag] at hat
          simp at hat
          exact ⟨hat.1, by rw [hat.2.1, hat.2.2]⟩
        subst hpv
        have rmm := own_room P6.out.2.2.2.2.1.row
        unfold maxLen at rmm
        obtain ⟨rm1, rm2⟩ := rmm
        have i1 : (i : Int) < (n : Int) := by omega
        have i0 : (0 : Int) ≤ (i : Int) := by omega
        have d1 := cell_blk P6.out.2.2.2.2.1.blk 1 (v := .slice (some ⟨g, 0, none⟩) n c) rfl
        have PV : Hid (∃ h : i < vs.length, vs[i].2.2.1 = f ∧ vs[i].2.2.2.1 = hh ∧ preV (nth F delta) vs key (x, y) l = if hh = true then (false, vs) else (true, vs.set i (key, (x, y), f, true, l))) := by
          have q := preV_has (l := l) (key := key) (g := (x, y)) hi (fl := nth F delta) (by have := P.out.2.2.1; omega) (by rw [hpi, Nat.zero_add])
          have ef : vs[i].2.2.1 = f := uv.ent.fin.symm
          have eh : vs[i].2.2.2.1 = hh := uv.ent.has.symm
          rw [ef, eh] at q
          exact ⟨hi, ef, eh, q⟩
        have HL : Hid (∃ h : i < L.length, L[i].1 = key) := by
          obtain ⟨h1, h2⟩ := List.getElem?_eq_some_iff.1 hv
          exact ⟨h1, by rw [h2]; exact hkey.1⟩
        clear hat hpi hv uv hi hi2 hkey
        cases hh
        · have s2 := soft_blk P6.out.1 2
          have k2 := cell_blk P6.out.1 2 (v := .bool false) rfl
          go_upto_region 11 with fail
          obtain ⟨w7, hw7⟩ : ∃ w7, w7 = w6.setCell ⟨X5, 2, none⟩ (.bool f) := ⟨_, rfl⟩
          have P7 : Hid (w7.heap[X5]? = some (.cells #[.int .i64 x, .int .i64 y, .bool f, .bool true, .slice pd m cd] 40 (0, 0)) ∧ Kept (fun _ => False) w w7 ∧ Reads w7 pd m cd l ∧ (∀ k, blockOf pd = some k → ∃ cs, w7.heap[k]? = some (.cells cs 5 (0, 0))) ∧ RTab b0 w7 tb delta (some ⟨g, 0, none⟩) n c L vs) := by
            have K7 : Kept (fun k => k = X5) w6 w7 := by rw [hw7]; exact (Kept.refl (fun k => k = X5) w6).setCell (p := ⟨X5, 2, none⟩) (fun _ => rfl) _
            have nx : ∀ k cs ty fr, ty ≠ 40 → w6.heap[k]? = some (.cells cs ty fr) → ¬ k = X5 := fun k cs ty fr ht hc z => by
              rw [z, P6.out.1] at hc
              simp at hc
              exact ht hc.2.1.symm
            have R := P6.out.2.2.2.2.1
            refine ⟨by rw [hw7]; exact heap_set P6.out.1 2 _, P6.out.2.1.trans K7 (fun j hj z => by have z : j = X5 := z; have := P6.out.2.2.2.2.2; omega), P6.out.2.2.1.kept K7 (fun q hq => ?_), fun k hk => ?_, ⟨K7.get R.blk (nx _ _ 107 _ (by decide) R.blk), R.len, K7.owns R.row (fun k hk => ?_), R.rd.imp (fun _ _ q => q.off K7 (fun k cs fr hc => nx k cs 5 fr (by decide) hc))⟩⟩
            · obtain ⟨_, cs, hc⟩ := P6.out.2.2.2.1 q.block (by rw [hq]; rfl)
              exact nx _ _ 5 _ (by decide) hc
            · obtain ⟨_, cs, hc⟩ := P6.out.2.2.2.1 k hk
              exact ⟨cs, K7.get hc (nx _ _ 5 _ (by decide) hc)⟩
            · obtain ⟨cs, hc⟩ := own_ty R.row (k := k) (by rw [← blockOf_own]; exact hk)
              exact nx _ _ 109 _ (by decide) hc
          rw [← hw7]
          clear hw7 s2 k2 e0 e1 e2 e3 e4 e5 d1
          have d1 := cell_blk P7.out.2.2.2.2.blk 1 (v := .slice (some ⟨g, 0, none⟩) n c) rfl
          have k0 := cell_blk P7.out.1 0 (v := .int .i64 x) rfl
          have k1 := cell_blk P7.out.1 1 (v := .int .i64 y) rfl
          have k2 := cell_blk P7.out.1 2 (v := .bool f) rfl
          have k3 := cell_blk P7.out.1 3 (v := .bool true) rfl
          have k4 := cell_blk P7.out.1 4 (v := .slice pd m cd) rfl
          obtain ⟨g', k', u', v', f', hh', ra', rm', rc', eg, _, e0, e1, e2, e3, e4, e5⟩ := own_rw P7.out.2.2.2.2.row P7.out.2.2.2.2.len hiL
          have eg2 : g = g' := congrArg Addr.block (Option.some.inj eg)
          subst eg2
          clear eg
          have z1 := P7.out.2.2.2.2.row.frozenAt (i * 6 + 1)
          have z2 := P7.out.2.2.2.2.row.frozenAt (i * 6 + 2)
          have z3 := P7.out.2.2.2.2.row.frozenAt (i * 6 + 3)
          have z4 := P7.out.2.2.2.2.row.frozenAt (i * 6 + 4)
          have z5 := P7.out.2.2.2.2.row.frozenAt (i * 6 + 5)
          have FN : Hid (∀ V, Kept (fun _ => False) w7 V → RMv b0 w (((((V.setCell ⟨g, i * 6 + 1, none⟩ (.int .i64 x)).setCell ⟨g, i * 6 + 2, none⟩ (.int .i64 y)).setCell ⟨g, i * 6 + 3, none⟩ (.bool f)).setCell ⟨g, i * 6 + 4, none⟩ (.bool true)).setCell ⟨g, i * 6 + 5, none⟩ (.slice pd m cd)) tb delta (some ⟨g, 0, none⟩) L (vs.set i (key, (x, y), f, true, l))) := by
            intro V KV
            obtain ⟨hi3, hk3⟩ := HL.out
            have uv : UvRd w7 (key, (x, y), f, true, pd, m, cd) (key, (x, y), f, true, l) := ⟨rfl, rfl, rfl, rfl, P7.out.2.2.1, fun k hk => by obtain ⟨cs, hc⟩ := P7.out.2.2.2.1 k hk; exact ⟨cs, _, hc⟩⟩
            obtain ⟨r1, r2⟩ := (P7.out.2.2.2.2.k0 KV).put hi3 (u := (key, (x, y), f, true, pd, m, cd)) hk3 (uv.off KV (fun _ _ _ _ z => z))
            exact ⟨⟨_, _, _, _, r1, fun k hk => .inl hk, fun u hu k hk => (List.mem_or_eq_of_mem_set hu).elim (fun z => .inl ⟨u, z, hk⟩) (fun z => .inr (P6.out.2.2.2.1 k (by rw [z] at hk; exact hk)).1)⟩, ((P7.out.2.1.and0 KV).mono (fun _ _ z => z.elim)).trans r2 (fun k _ z => .inr (by have z : k = g := z; rw [z]; rfl))⟩
          have B : Hid (true = (preV (nth F delta) vs key (x, y) l).1 ∧ (preV (nth F delta) vs key (x, y) l).2 = vs.set i (key, (x, y), f, true, l)) := by
            obtain ⟨_, _, _, q⟩ := PV.out
            rw [q, if_neg (by decide)]
            exact ⟨rfl, rfl⟩
          have HS : Hid (∀ V, Kept (fun k => k = g) w7 V → V.cell? ⟨tb, 1, none⟩ = some (.slice (some ⟨g, 0, none⟩) n c) ∧ V.cell? ⟨X5, 0, none⟩ = some (.int .i64 x) ∧ V.cell? ⟨X5, 1, none⟩ = some (.int .i64 y) ∧ V.cell? ⟨X5, 2, none⟩ = some (.bool f) ∧ V.cell? ⟨X5, 3, none⟩ = some (.bool true) ∧ V.cell? ⟨X5, 4, none⟩ = some (.slice pd m cd)) := by
            intro V K
            obtain ⟨cg, hg⟩ := own_ty P7.out.2.2.2.2.row (k := g) rfl
            have nt : ¬ tb = g := fun z => by
              have hb := P7.out.2.2.2.2.blk
              rw [z, hg] at hb
              simp at hb
            have nx : ¬ X5 = g := fun z => by
              have hb := P7.out.1
              rw [z, hg] at hb
              simp at hb
            exact ⟨K.cell d1 nt, K.cell k0 nx, K.cell k1 nx, K.cell k2 nx, K.cell k3 nx, K.cell k4 nx⟩
          go_region_held3 (fun V => V.cell? ⟨tb, 1, none⟩ = some (.slice (some ⟨g, 0, none⟩) n c) ∧ V.cell? ⟨X5, 0, none⟩ = some (.int .i64 x) ∧ V.cell? ⟨X5, 1, none⟩ = some (.int .i64 y) ∧ V.cell? ⟨X5, 2, none⟩ = some (.bool f) ∧ V.cell? ⟨X5, 3, none⟩ = some (.bool true) ∧ V.cell? ⟨X5, 4, none⟩ = some (.slice pd m cd)) (first | (refine HS.out _ ?_; (repeat (first | with_reducible exact Kept.refl _ _ | with_reducible refine Kept.drew ?_ | with_reducible refine Kept.set1 ?_ _ _)); done) | go_keep) (fail)
          all_goals go_wp2_with fail
          all_goals go_ret
          all_goals refine ⟨true, rfl, F, P.out.1, P.out.2.1, B.out.1, ?_⟩
          all_goals rw [B.out.2]
          all_goals first | exact FN.out w7 (Kept.refl _ _) | exact FN.out w7.drew (Kept.refl _ _).drew
        · have B : Hid (false = (preV (nth F delta) vs key (x, y) l).1 ∧ RMv b0 w w6 tb delta (some ⟨g, 0, none⟩) L (preV (nth F delta) vs key (x, y) l).2) := by
            obtain ⟨_, _, _, q⟩ := PV.out
            rw [q, if_pos rfl]
            exact ⟨rfl, RMv.same H.out.1 P6.out.2.1⟩
          go_wp2_with fail
          go_ret
          exact ⟨false, rfl, F, P.out.1, P.out.2.1, B.out⟩
    · have B : Hid (∃ F, Falls F ∧ F.Perm (fins0 key vs) ∧ false = (preV (nth F delta) vs key (x, y) l).1 ∧ RMv b0 w wc tb delta p L (preV (nth F delta) vs key (x, y) l).2) := by
        obtain ⟨F, f1, f2, f3, kc⟩ := Q.out
        have lt : tc (x, y) (nth F delta) < 0 := of_decide_eq_true f3.symm
        refine ⟨F, f1, f2, ?_, ?_⟩
        · unfold preV
          rw [if_pos lt]
        · unfold preV
          rw [if_pos lt]
          exact RMv.same H.out.1 (H.out.2.2.1.and0 kc)
      clear Q
      go_wp2_with fail
      go_ret
      exact ⟨false, rfl, B⟩
end Go.Proofs.YtojepeefphbekaaGreat
