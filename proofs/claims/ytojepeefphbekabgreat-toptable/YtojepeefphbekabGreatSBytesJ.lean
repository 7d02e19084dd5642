import Derived.Test.YtojepeefphbekabGreatSFitsJ
import Derived.BigQuiet
namespace Go.Proofs.YtojepeefphbekabGreat
open Go.RowKit 

/-- What an update makes of the shelf. -/
def shelfV (d : Int) (vs : List Uv) (k : ByteArray) (g : Int × Int) (l : List Nat) (br fi : Bool) : List Uv := if fi = true then finS d (preW d vs k g l br).2 k g else (preW d vs k g l br).2
theorem RMv.trans2 {b0 : Nat} {w w1 w2 : World} {tb : Nat} {delta : Int} {p p1 : Option Addr} {L L1 : List Ut} {vs2 : List Uv} (K : Kept (fun k => k = tb ∨ blockOf p = some k) w w1) (h1 : ∀ k, blockOf p1 = some k → blockOf p = some k ∨ w.heap.size ≤ k) (f1 : FreshL w L L1) (m : RMv b0 w1 w2 tb delta p1 L1 vs2) : RMv b0 w w2 tb delta p L vs2 := by
  obtain ⟨p', n', c', L', r, h2, f2⟩ := m.tab
  refine ⟨⟨p', n', c', L', r, fun k hk => ?_, fun u hu k hk => ?_⟩, K.trans m.kept (fun k hk z => ?_)⟩
  · rcases h2 k hk with z | z
    · exact h1 k z
    · exact .inr (Nat.le_trans K.size z)
  · rcases f2 u hu k hk with ⟨v, hv, q⟩ | z
    · exact f1 v hv k q
    · exact .inr (Nat.le_trans K.size z)
  · rcases z with z | z
    · exact .inl z
    · rcases h1 k z with q | q
      · exact .inr q
      · omega
theorem preV_len2 (fl : Int × Int) (vs : List Uv) (k : ByteArray) (g : Int × Int) (l : List Nat) : (preV fl vs k g l).2.length ≤ vs.length + 1 := by
  unfold preV
  split
  · exact Nat.le_succ _
  · split
    · simp
    · split
      · split
        · exact Nat.le_succ _
        · simp
      · exact Nat.le_succ _
set_option maxRecDepth 100000 in
set_option maxHeartbeats 4000000 in
/-- An update that may be. -/
theorem sApply (b0 tb : Nat) (delta : Int) (p : Option Addr) (n c : Nat) (L : List Ut) (vs : List Uv) (kd : Int) (key : ByteArray) (x y : Int) (fin has : Bool) (a : Option Addr) (m e : Nat) (l : List Nat) (w : World) (h : RTab b0 w tb delta p n c L vs) (hn : n + 1 < 2199023255552) (h0 : 0 ≤ delta) (hb : b0 ≤ w.heap.size) (r : Reads w a m e l) (hm : m ≤ 140737488355328) (HA : Hid (0 < m → ∀ q, a = some q → q.block < b0)) (hmay : Upd.may ⟨kd, key, x, y, fin, has, a, m, e⟩ = true) :
    Calls Tryz.prog 9 #[.pointer (some ⟨tb, 0, none⟩), .agg #[.int .i64 kd, .string key, .int .i64 x, .int .i64 y, .bool fin, .bool has, .slice a m e]] w fun o w' => o = .returned (.tuple #[]) ∧ Hid (RMv b0 w w' tb delta p L (shelfV delta vs key (x, y) l (Upd.brings ⟨kd, key, x, y, fin, has, a, m, e⟩) (Upd.final ⟨kd, key, x, y, fin, has, a, m, e⟩))) := by
  obtain ⟨W, hW⟩ : ∃ W, W = w.alloc (.cells #[.int .i64 kd, .string key, .int .i64 x, .int .i64 y, .bool fin, .bool has, .slice a m e] 36) := ⟨_, rfl⟩
  have KZ : Kept (fun _ => False) w W := by rw [hW]; exact k0_alloc _ _
  have H : Hid (RTab b0 W tb delta p n c L vs ∧ W.heap[w.heap.size]? = some (.cells #[.int .i64 kd, .string key, .int .i64 x, .int .i64 y, .bool fin, .bool has, .slice a m e] 36 (0, 0)) ∧ Kept (fun _ => False) w W ∧ n + 1 < 2199023255552 ∧ 0 ≤ delta ∧ b0 ≤ w.heap.size ∧ Reads W a m e l ∧ m ≤ 140737488355328) := ⟨h.k0 KZ, by rw [hW]; exact heap_alloc_new _ _, KZ, hn, h0, hb, r.kept KZ (fun _ _ z => z), hm⟩
  have EW : Hid (W = w.alloc (.cells #[.int .i64 kd, .string key, .int .i64 x, .int .i64 y, .bool fin, .bool has, .slice a m e] 36)) := hW
  have LT : Hid (tb < w.heap.size ∧ ∀ k, blockOf p = some k → k < w.heap.size) := ⟨block_lt h.blk, fun k hk => (own_lt h.row k hk).2⟩
  obtain ⟨br, hbr⟩ : ∃ br, br = Upd.brings ⟨kd, key, x, y, fin, has, a, m, e⟩ := ⟨_, rfl⟩
  obtain ⟨fi, hfi⟩ : ∃ fi, fi = Upd.final ⟨kd, key, x, y, fin, has, a, m, e⟩ := ⟨_, rfl⟩
  rw [← hbr, ← hfi]
  have MY : Hid (Upd.may ⟨kd, key, x, y, fin, has, a, m, e⟩ = true) := hmay
  have HB : Hid (br = Upd.brings ⟨kd, key, x, y, fin, has, a, m, e⟩ ∧ fi = Upd.final ⟨kd, key, x, y, fin, has, a, m, e⟩) := ⟨hbr, hfi⟩
  have K13 : kd = 1 ∨ kd = 2 ∨ kd = 3 := by
    unfold Upd.may Upd.fits at hmay
    by_cases k1 : kd = 1
    · exact .inl k1
    · by_cases k2 : kd = 2
      · exact .inr (.inl k2)
      · by_cases k3 : kd = 3
        · exact .inr (.inr k3)
        · simp [k1, k2, k3] at hmay
  have NH : kd ≠ 3 → has = false ∧ fin = false := by
    intro k3
    unfold Upd.may Upd.fits at hmay
    rcases K13 with rfl | rfl | rfl
    · simp at hmay
      exact ⟨hmay.2.2, hmay.2.1⟩
    · simp at hmay
      exact ⟨hmay.2.1.2, hmay.2.1.1⟩
    · exact absurd rfl k3
  have CP : Hid (∀ V, Kept (fun _ => False) W V → Calls Tryz.prog 25 #[.pointer (some ⟨tb, 0, none⟩), .string key, .agg #[.int .i64 x, .int .i64 y], .slice a m e] V fun o w' => o = .returned (.tuple #[]) ∧ Hid (RMv b0 V w' tb delta p L (preV (nth (finF key vs) delta) vs key (x, y) l).2)) := by
    intro V K
    refine (sPre b0 tb delta p n c L vs key x y a m e l V ((h.k0 KZ).k0 K) (by omega) h0 (Nat.le_trans hb (KZ.and0 K).size) ((r.kept KZ (fun _ _ z => z)).kept K (fun _ _ z => z)) hm HA).mono ?_
    rintro o w' ⟨rfl, Q⟩
    obtain ⟨F, f1, f2, f3⟩ := Q.out
    refine ⟨rfl, ?_⟩
    rw [← finF_eq f1 f2] at f3
    exact f3
  have CF : Hid (∀ V p1 n1 c1 L1 vs1, b0 ≤ V.heap.size → RTab b0 V tb delta p1 n1 c1 L1 vs1 → vs1.length ≤ vs.length + 1 → Calls Tryz.prog 26 #[.pointer (some ⟨tb, 0, none⟩), .string key, .agg #[.int .i64 x, .int .i64 y]] V fun o w' => o = .returned (.tuple #[]) ∧ RMv b0 V w' tb delta p1 L1 (finS delta vs1 key (x, y))) := by
    intro V p1 n1 c1 L1 vs1 hV R hl
    have q1 := h.vlen
    have q2 := R.vlen
    exact sFin b0 tb delta p1 n1 c1 L1 vs1 key x y V R (by omega) h0 hV
  clear h KZ hW hn h0 hb r hm hbr hfi hmay
  go_enter Tryz.func9, Tryz.ntmps9
  go_upto_region 1 with fail
  rw [← EW.out]
  have g0 := cell_blk H.out.2.1 0 (v := .int .i64 kd) rfl
  have g1 := cell_blk H.out.2.1 1 (v := .string key) rfl
  have g2 := cell_blk H.out.2.1 2 (v := .int .i64 x) rfl
  have g3 := cell_blk H.out.2.1 3 (v := .int .i64 y) rfl
  have g4 := cell_blk H.out.2.1 4 (v := .bool fin) rfl
  have g5 := cell_blk H.out.2.1 5 (v := .bool has) rfl
  have g6 := cell_blk H.out.2.1 6 (v := .slice a m e) rfl
  rcases K13 with rfl | rfl | rfl
  · obtain ⟨rfl, rfl⟩ := NH (by decide)
    have E1 : br = true := HB.out.1
    have E2 : fi = false := HB.out.2
    subst E1 E2
    go_wp2_with fail
    refine (CP.out W (Kept.refl _ _)).mono ?_
    rintro o w2 ⟨rfl, Q2⟩
    have B2 : Hid (w2.heap[w.heap.size]? = some (.cells #[.int .i64 1, .string key, .int .i64 x, .int .i64 y, .bool false, .bool false, .slice a m e] 36 (0, 0)) ∧ Kept (fun k => k = tb ∨ blockOf p = some k) w w2 ∧ ∃ p1 n1 c1 L1, RTab b0 w2 tb delta p1 n1 c1 L1 (preV (nth (finF key vs) delta) vs key (x, y) l).2 ∧ (∀ k, blockOf p1 = some k → blockOf p = some k ∨ w.heap.size ≤ k) ∧ FreshL w L L1) := by
      obtain ⟨p1, n1, c1, L1, r1, r2, r3⟩ := Q2.out.tab
      refine ⟨Q2.out.kept.get H.out.2.1 (fun z => ?_), (H.out.2.2.1.mono (fun _ _ z => z.elim)).trans Q2.out.kept (fun _ _ z => z), p1, n1, c1, L1, r1, fun k hk => (r2 k hk).imp id (fun z => Nat.le_trans H.out.2.2.1.size z), fun u hu k hk => (r3 u hu k hk).imp id (fun z => Nat.le_trans H.out.2.2.1.size z)⟩
      rcases z with z | z
      · have := LT.out.1; omega
      · have := LT.out.2 _ z; omega
    clear Q2
    clear g0 g1 g2 g3 g4 g5 g6
    have g0 := cell_blk B2.out.1 0 (v := .int .i64 1) rfl
    have g1 := cell_blk B2.out.1 1 (v := .string key) rfl
    have g2 := cell_blk B2.out.1 2 (v := .int .i64 x) rfl
    have g3 := cell_blk B2.out.1 3 (v := .int .i64 y) rfl
    have g4 := cell_blk B2.out.1 4 (v := .bool false) rfl
    have g5 := cell_blk B2.out.1 5 (v := .bool false) rfl
    have G : Hid (RMv b0 w w2 tb delta p L (shelfV delta vs key (x, y) l true false)) := by
      obtain ⟨p1, n1, c1, L1, r1, r2, r3⟩ := B2.out.2.2
      exact ⟨⟨p1, n1, c1, L1, r1, r2, r3⟩, B2.out.2.1⟩
    go_wp2_with fail
    (first | (refine bodyPost_ret (results_none rfl _ _ _) rfl ?_) | go_end0)
    exact ⟨rfl, G⟩
  · obtain ⟨rfl, rfl⟩ := NH (by decide)
    have E1 : br = false := HB.out.1
    have E2 : fi = true := HB.out.2
    subst E1 E2
    go_wp2_with fail
    refine (CF.out W p n c L vs (Nat.le_trans H.out.2.2.2.2.2.1 H.out.2.2.1.size) H.out.1 (Nat.le_succ _)).mono ?_
    rintro o w3 ⟨rfl, Q3⟩
    have G : Hid (RMv b0 w w3 tb delta p L (shelfV delta vs key (x, y) l false true)) := RMv.trans2 (H.out.2.2.1.mono (fun _ _ z => z.elim)) (fun k hk => .inl hk) (FreshL.refl w L) Q3
    clear Q3
    go_wp2_with fail
    (first | (refine bodyPost_ret (results_none rfl _ _ _) rfl ?_) | go_end0)
    exact ⟨rfl, G⟩
  · clear NH
    cases has
    · cases fin
      · have := MY.out
        simp [Upd.may, Upd.fits] at this
      · skip
        have E1 : br = false := HB.out.1
        have E2 : fi = true := HB.out.2
        subst E1 E2
        go_wp2_with fail
        refine (CF.out W p n c L vs (Nat.le_trans H.out.2.2.2.2.2.1 H.out.2.2.1.size) H.out.1 (Nat.le_succ _)).mono ?_
        rintro o w3 ⟨rfl, Q3⟩
        have G : Hid (RMv b0 w w3 tb delta p L (shelfV delta vs key (x, y) l false true)) := RMv.trans2 (H.out.2.2.1.mono (fun _ _ z => z.elim)) (fun k hk => .inl hk) (FreshL.refl w L) Q3
        clear Q3
        go_wp2_with fail
        (first | (refine bodyPost_ret (results_none rfl _ _ _) rfl ?_) | go_end0)
        exact ⟨rfl, G⟩
    · cases fin
      · skip
        have E1 : br = true := HB.out.1
        have E2 : fi = false := HB.out.2
        subst E1 E2
        go_wp2_with fail
        refine (CP.out W (Kept.refl _ _)).mono ?_
        rintro o w2 ⟨rfl, Q2⟩
        have B2 : Hid (w2.heap[w.heap.size]? = some (.cells #[.int .i64 3, .string key, .int .i64 x, .int .i64 y, .bool false, .bool true, .slice a m e] 36 (0, 0)) ∧ Kept (fun k => k = tb ∨ blockOf p = some k) w w2 ∧ ∃ p1 n1 c1 L1, RTab b0 w2 tb delta p1 n1 c1 L1 (preV (nth (finF key vs) delta) vs key (x, y) l).2 ∧ (∀ k, blockOf p1 = some k → blockOf p = some k ∨ w.heap.size ≤ k) ∧ FreshL w L L1) := by
          obtain ⟨p1, n1, c1, L1, r1, r2, r3⟩ := Q2.out.tab
          refine ⟨Q2.out.kept.get H.out.2.1 (fun z => ?_), (H.out.2.2.1.mono (fun _ _ z => z.elim)).trans Q2.out.kept (fun _ _ z => z), p1, n1, c1, L1, r1, fun k hk => (r2 k hk).imp id (fun z => Nat.le_trans H.out.2.2.1.size z), fun u hu k hk => (r3 u hu k hk).imp id (fun z => Nat.le_trans H.out.2.2.1.size z)⟩
          rcases z with z | z
          · have := LT.out.1; omega
          · have := LT.out.2 _ z; omega
        clear Q2
        clear g0 g1 g2 g3 g4 g5 g6
        have g0 := cell_blk B2.out.1 0 (v := .int .i64 3) rfl
        have g1 := cell_blk B2.out.1 1 (v := .string key) rfl
        have g2 := cell_blk B2.out.1 2 (v := .int .i64 x) rfl
        have g3 := cell_blk B2.out.1 3 (v := .int .i64 y) rfl
        have g4 := cell_blk B2.out.1 4 (v := .bool false) rfl
        have g5 := cell_blk B2.out.1 5 (v := .bool true) rfl
        have G : Hid (RMv b0 w w2 tb delta p L (shelfV delta vs key (x, y) l true false)) := by
          obtain ⟨p1, n1, c1, L1, r1, r2, r3⟩ := B2.out.2.2
          exact ⟨⟨p1, n1, c1, L1, r1, r2, r3⟩, B2.out.2.1⟩
        go_wp2_with fail
        (first | (refine bodyPost_ret (results_none rfl _ _ _) rfl ?_) | go_end0)
        exact ⟨rfl, G⟩
      · skip
        have E1 : br = true := HB.out.1
        have E2 : fi = true := HB.out.2
        subst E1 E2
        go_wp2_with fail
        refine (CP.out W (Kept.refl _ _)).mono ?_
        rintro o w2 ⟨rfl, Q2⟩
        have B2 : Hid (w2.heap[w.heap.size]? = some (.cells #[.int .i64 3, .string key, .int .i64 x, .int .i64 y, .bool true, .bool true, .slice a m e] 36 (0, 0)) ∧ Kept (fun k => k = tb ∨ blockOf p = some k) w w2 ∧ ∃ p1 n1 c1 L1, RTab b0 w2 tb delta p1 n1 c1 L1 (preV (nth (finF key vs) delta) vs key (x, y) l).2 ∧ (∀ k, blockOf p1 = some k → blockOf p = some k ∨ w.heap.size ≤ k) ∧ FreshL w L L1) := by
          obtain ⟨p1, n1, c1, L1, r1, r2, r3⟩ := Q2.out.tab
          refine ⟨Q2.out.kept.get H.out.2.1 (fun z => ?_), (H.out.2.2.1.mono (fun _ _ z => z.elim)).trans Q2.out.kept (fun _ _ z => z), p1, n1, c1, L1, r1, fun k hk => (r2 k hk).imp id (fun z => Nat.le_trans H.out.2.2.1.size z), fun u hu k hk => (r3 u hu k hk).imp id (fun z => Nat.le_trans H.out.2.2.1.size z)⟩
          rcases z with z | z
          · have := LT.out.1; omega
          · have := LT.out.2 _ z; omega
        clear Q2
        clear g0 g1 g2 g3 g4 g5 g6
        have g0 := cell_blk B2.out.1 0 (v := .int .i64 3) rfl
        have g1 := cell_blk B2.out.1 1 (v := .string key) rfl
        have g2 := cell_blk B2.out.1 2 (v := .int .i64 x) rfl
        have g3 := cell_blk B2.out.1 3 (v := .int .i64 y) rfl
        have g4 := cell_blk B2.out.1 4 (v := .bool true) rfl
        have g5 := cell_blk B2.out.1 5 (v := .bool true) rfl
        go_wp2_with fail
        obtain ⟨p1, n1, c1, L1, r1, r2, r3⟩ := B2.out.2.2
        refine (CF.out w2 p1 n1 c1 L1 _ (Nat.le_trans H.out.2.2.2.2.2.1 B2.out.2.1.size) r1 (preV_len2 _ _ _ _ _)).mono ?_
        rintro o w3 ⟨rfl, Q3⟩
        have G : Hid (RMv b0 w w3 tb delta p L (shelfV delta vs key (x, y) l true true)) := RMv.trans2 B2.out.2.1 r2 r3 Q3
        clear Q3 r1 r2 r3
        go_wp2_with fail
        (first | (refine bodyPost_ret (results_none rfl _ _ _) rfl ?_) | go_end0)
        exact ⟨rfl, G⟩
end Go.Proofs.YtojepeefphbekabGreat

namespace Go.Proofs.YtojepeefphbekabGreat
open Go.RowKit 

theorem lists_eq {l1 l2 : List Nat} {n : Nat} (h1 : l1.length = n) (h2 : l2.length = n) (h : ∀ j, j < n → l1.getD j 0 = l2.getD j 0) : l1 = l2 := by
  refine List.ext_getElem (by omega) (fun j q1 q2 => ?_)
  have := h j (by omega)
  rw [List.getD_eq_getElem?_getD, List.getD_eq_getElem?_getD, List.getElem?_eq_getElem q1, List.getElem?_eq_getElem q2] at this
  exact this
set_option maxRecDepth 100000 in
set_option maxHeartbeats 4000000 in
/-- sameBytes. -/
theorem sBytes (a1 : Option Addr) (n1 c1 : Nat) (l1 : List Nat) (a2 : Option Addr) (n2 c2 : Nat) (l2 : List Nat) (w : World) (r1 : Reads w a1 n1 c1 l1) (r2 : Reads w a2 n2 c2 l2) : Calls Tryz.prog 46 #[.slice a1 n1 c1, .slice a2 n2 c2] w fun o w' => o = .returned (.bool (decide (l1 = l2))) ∧ Kept (fun _ => False) w w' := by
  have R : Hid (Reads w a1 n1 c1 l1 ∧ Reads w a2 n2 c2 l2) := ⟨r1, r2⟩
  have s1 := r1.small
  have m1 := r1.room
  have s2 := r2.small
  have m2 := r2.room
  unfold maxLen at s1 s2
  obtain ⟨v, hv⟩ : ∃ v, v = decide (l1 = l2) := ⟨_, rfl⟩
  rw [← hv]
  have HV : Hid (v = decide (l1 = l2)) := hv
  clear r1 r2 hv
  go_enter Tryz.func46, Tryz.ntmps46
  by_cases hn : n1 = n2
  · subst hn
    have N0 : Hid ((∀ j, j < 0 → l1.getD j 0 = l2.getD j 0) ∧ Kept (fun _ => False) w w) := ⟨fun j hj => absurd hj (Nat.not_lt_zero j), Kept.refl _ _⟩
    go_wp2_with fail
    go_loopw [4, 5, 13] (fun _ _ z wr => ∃ (i : Nat), z = .int .i64 (i : Int) ∧ i ≤ n1 ∧ Hid ((∀ j, j < i → l1.getD j 0 = l2.getD j 0) ∧ Kept (fun _ => False) w wr)) (fun _ _ z _ => n1 - (intOf z).toNat)
    case atStart => exact ⟨0, rfl, Nat.zero_le _, N0⟩
    case round =>
      obtain ⟨i, rfl, hi, S⟩ := hrel
      by_cases hlt : i < n1
      · have i1 : (i : Int) < (n1 : Int) := by omega
        have i0 : (0 : Int) ≤ (i : Int) := by omega
        obtain ⟨b1, f1, e1, k1⟩ := (R.out.1.kept S.out.2 (fun _ _ z => z)).cells (by omega)
        obtain ⟨b2, f2, e2, k2⟩ := (R.out.2.kept S.out.2 (fun _ _ z => z)).cells (by omega)
        have d1 := k1 i hlt
        have d2 := k2 i hlt
        subst e1 e2
        obtain ⟨x, hx⟩ : ∃ x, x = l1.getD i 0 := ⟨_, rfl⟩
        obtain ⟨y, hy⟩ : ∃ y, y = l2.getD i 0 := ⟨_, rfl⟩
        rw [← hx] at d1
        rw [← hy] at d2
        have HX : Hid (x = l1.getD i 0 ∧ y = l2.getD i 0) := ⟨hx, hy⟩
        clear hx hy k1 k2
        by_cases hxy : x = y
        · have ee : (x : Int) = (y : Int) := by omega
          have S2 : Hid (∀ V, Kept (fun _ => False) wr V → (∀ j, j < i + 1 → l1.getD j 0 = l2.getD j 0) ∧ Kept (fun _ => False) w V) := fun V K => ⟨fun j hj => by
            by_cases q : j = i
            · rw [q, ← HX.out.1, ← HX.out.2, hxy]
            · exact S.out.1 j (by omega), S.out.2.and0 K⟩
          go_upto_region 6 with fail
          go_quiet (fail)
          go_wp2_with fail
          go_roundw
          case rel => exact ⟨i + 1, by go_num, by omega, S2.out _ (k0_of (below_dN (Below.refl _ _) nq))⟩
          case measure => simp [intOf] <;> omega
        · have ee : ¬ (x : Int) = (y : Int) := by omega
          have E : v = false := by
            rw [HV.out, decide_eq_false_iff_not]
            intro q
            exact hxy (by rw [HX.out.1, HX.out.2, q])
          subst E
          have S2 : Hid (∀ V, Kept (fun _ => False) wr V → Kept (fun _ => False) w V) := fun V K => S.out.2.and0 K
          go_upto_region 6 with fail
          go_quiet (fail)
          go_wp2_with fail
          go_ret
          exact ⟨rfl, S2.out _ (k0_of (below_dN (Below.refl _ _) nq))⟩
      · have i1 : ¬ (i : Int) < (n1 : Int) := by omega
        have E : v = true := by
          rw [HV.out, decide_eq_true_iff]
          exact lists_eq R.out.1.length R.out.2.length (fun j hj => S.out.1 j (by omega))
        subst E
        have G : Hid (Kept (fun _ => False) w wr) := S.out.2
        go_wp2_with fail
        go_ret
        exact ⟨rfl, G.out⟩
  · have hn' : ¬ (n1 : Int) = (n2 : Int) := by omega
    have E : v = false := by
      rw [HV.out, decide_eq_false_iff_not]
      intro q
      have q1 := R.out.1.length
      have q2 := R.out.2.length
      rw [q] at q1
      omega
    subst E
    go_wp2_with fail
    go_ret
    exact ⟨rfl, Kept.refl _ _⟩
set_option maxRecDepth 100000 in
set_option maxHeartbeats 4000000 in
/-- sameEntry. -/
theorem sEntry (x1 y1 : Int) (f1 h1 : Bool) (a1 : Option Addr) (n1 c1 : Nat) (l1 : List Nat) (x2 y2 : Int) (f2 h2 : Bool) (a2 : Option Addr) (n2 c2 : Nat) (l2 : List Nat) (w : World) (r1 : Reads w a1 n1 c1 l1) (r2 : Reads w a2 n2 c2 l2) : Calls Tryz.prog 27 #[.agg #[.int .i64 x1, .int .i64 y1, .bool f1, .bool h1, .slice a1 n1 c1], .agg #[.int .i64 x2, .int .i64 y2, .bool f2, .bool h2, .slice a2 n2 c2]] w fun o w' => o = .returned (.bool (decide ((((x1, y1), f1, h1, l1) : Ev) = ((x2, y2), f2, h2, l2)))) ∧ Kept (fun _ => False) w w' := by
  obtain ⟨W, hW⟩ : ∃ W, W = (w.alloc (.cells #[.int .i64 x1, .int .i64 y1, .bool f1, .bool h1, .slice a1 n1 c1] 34)).alloc (.cells #[.int .i64 x2, .int .i64 y2, .bool f2, .bool h2, .slice a2 n2 c2] 34) := ⟨_, rfl⟩
  have H : Hid (W.heap[w.heap.size]? = some (.cells #[.int .i64 x1, .int .i64 y1, .bool f1, .bool h1, .slice a1 n1 c1] 34 (0, 0)) ∧ W.heap[w.heap.size + 1]? = some (.cells #[.int .i64 x2, .int .i64 y2, .bool f2, .bool h2, .slice a2 n2 c2] 34 (0, 0)) ∧ Kept (fun _ => False) w W) := by
    rw [hW]
    exact ⟨two0 _ _ _, two1 _ _ _, ((Kept.refl _ w).alloc _).alloc _⟩
  have EW : Hid (W = (w.alloc (.cells #[.int .i64 x1, .int .i64 y1, .bool f1, .bool h1, .slice a1 n1 c1] 34)).alloc (.cells #[.int .i64 x2, .int .i64 y2, .bool f2, .bool h2, .slice a2 n2 c2] 34)) := hW
  have R : Hid (Reads W a1 n1 c1 l1 ∧ Reads W a2 n2 c2 l2) := ⟨r1.kept H.out.2.2 (fun _ _ z => z), r2.kept H.out.2.2 (fun _ _ z => z)⟩
  obtain ⟨v, hv⟩ : ∃ v, v = decide ((((x1, y1), f1, h1, l1) : Ev) = ((x2, y2), f2, h2, l2)) := ⟨_, rfl⟩
  rw [← hv]
  have HV : Hid (v = decide ((((x1, y1), f1, h1, l1) : Ev) = ((x2, y2), f2, h2, l2))) := hv
  clear hW r1 r2 hv
  go_enter Tryz.func27, Tryz.ntmps27
  go_upto_region 1 with fail
  rw [← EW.out]
  have g0 := cell_blk H.out.1 0 (v := .int .i64 x1) rfl
  have g1 := cell_blk H.out.1 1 (v := .int .i64 y1) rfl
  have g2 := cell_blk H.out.1 2 (v := .bool f1) rfl
  have g3 := cell_blk H.out.1 3 (v := .bool h1) rfl
  have g4 := cell_blk H.out.1 4 (v := .slice a1 n1 c1) rfl
  have k0 := cell_blk H.out.2.1 0 (v := .int .i64 x2) rfl
  have k1 := cell_blk H.out.2.1 1 (v := .int .i64 y2) rfl
  have k2 := cell_blk H.out.2.1 2 (v := .bool f2) rfl
  have k3 := cell_blk H.out.2.1 3 (v := .bool h2) rfl
  have k4 := cell_blk H.out.2.1 4 (v := .slice a2 n2 c2) rfl
  by_cases hx : x1 = x2
  · subst hx
    by_cases hy : y1 = y2
    · subst hy
      by_cases hf : f1 = f2
      · subst hf
        by_cases hh : h1 = h2
        · subst hh
          have E : v = decide (l1 = l2) := by rw [HV.out]; simp
          cases f1 <;> cases h1 <;> (go_wp2_with fail; refine (sBytes a1 n1 c1 l1 a2 n2 c2 l2 W R.out.1 R.out.2).mono ?_; rintro o w2 ⟨rfl, K2⟩; have G : Hid (Kept (fun _ => False) w w2) := H.out.2.2.and0 K2; clear K2; go_wp2_with fail; go_ret; exact ⟨by rw [E]; rfl, G.out⟩)
        · have E : v = false := by rw [HV.out]; simp [hh]
          subst E
          cases f1 <;> cases h1 <;> cases h2 <;> first | (exfalso; exact hh rfl) | (go_wp2_with fail; go_ret; exact ⟨rfl, H.out.2.2⟩)
      · have E : v = false := by rw [HV.out]; simp [hf]
        subst E
        cases f1 <;> cases f2 <;> first | (exfalso; exact hf rfl) | (go_wp2_with fail; go_ret; exact ⟨rfl, H.out.2.2⟩)
    · have E : v = false := by rw [HV.out]; simp [hy]
      subst E
      go_wp2_with fail
      go_ret
      exact ⟨rfl, H.out.2.2⟩
  · have E : v = false := by rw [HV.out]; simp [hx]
    subst E
    go_wp2_with fail
    go_ret
    exact ⟨rfl, H.out.2.2⟩
end Go.Proofs.YtojepeefphbekabGreat
