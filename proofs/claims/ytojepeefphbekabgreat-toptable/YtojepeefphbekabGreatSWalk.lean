import Derived.Test.YtojepeefphbekabGreatSNew
import Derived.Deep.CutBlock
namespace Go.Proofs.YtojepeefphbekabGreat
open Go.RowKit 

set_option maxRecDepth 100000 in
set_option maxHeartbeats 32000000 in
theorem topTableWalk (d : Int) (q : Option Addr) (n cap : Nat) (us : List (Upd × List Nat)) (w : World) (hU : Ups w q n cap us) (hb : n ≤ 1954687338300) :
    Calls Tryz.prog 3 #[.int .i64 d, .slice q n cap] w fun o w' => o = .returned (.bool true) ∧ Kept (fun _ => False) w w' := by
  have HU : Hid (Ups w q n cap us ∧ n ≤ 1954687338300) := ⟨hU, hb⟩
  have hl := hU.length
  have hr := hU.room
  have hs := hU.small
  unfold maxLen at hs
  clear hU hb
  go_enter Tryz.func3, Tryz.ntmps3
  by_cases hd : 0 ≤ d ∧ d ≤ 4611686018427387903
  · have d1 : ¬ d < 0 := by omega
    have d2 : ¬ (4611686018427387903 < d) := by omega
    have GD : Hid (0 ≤ d ∧ d ≤ 4611686018427387903) := hd
    clear hd
    go_wp2_with fail
    refine (new_good d w GD.out.1 GD.out.2).mono ?_
    rintro o w1 ⟨tb, rb, rfl, T1, K1, l1, l2⟩
    have H1 : Hid (∃ X, TT w (w1.alloc (.cells #[.int .i64 d, .slice none 0 0] 29)) 0 d tb w1.heap.size X) := ⟨_, TT.start GD.out.1 T1 K1 l1 l2 rfl⟩
    clear T1 K1 l1 l2
    go_upto_region 7 with fail
    obtain ⟨W1, hW1⟩ : ∃ W1, W1 = w1.alloc (.cells #[.int .i64 d, .slice none 0 0] 29) := ⟨_, rfl⟩
    obtain ⟨sb, hsb⟩ : ∃ sb, sb = w1.heap.size := ⟨_, rfl⟩
    rw [← hW1, ← hsb] at H1 ⊢
    clear hW1 hsb d1 d2
    go_wp2_with fail
    go_loopw [9, 10, 11, 12, 13, 14, 15, 48] (fun _ _ _ _ _ _ _ z wr => ∃ (i : Nat), z = .int .i64 (i : Int) ∧ i ≤ n ∧ Hid (∃ X, TT w wr i d tb sb X)) (fun _ _ _ _ _ _ _ z _ => n - (intOf z).toNat)
    case atStart => exact ⟨0, rfl, Nat.zero_le _, H1⟩
    case round =>
      clear H1
      obtain ⟨i, rfl, hi, S⟩ := hrel
      by_cases hlt : i < n
      · have i1 : (i : Int) < (n : Int) := by omega
        obtain ⟨b, off, rfl, hc⟩ := HU.out.1.cells (by omega)
        have hiU : i < us.length := by omega
        obtain ⟨⟨⟨kd, key, x, y, fin, has, a, m, e⟩, l⟩, hu⟩ : ∃ u, us[i] = u := ⟨_, rfl⟩
        have okU := HU.out.1.ok us[i] (List.getElem_mem hiU)
        have hc' := hc i hiU
        rw [hu] at hc' okU
        obtain ⟨X, TX⟩ := S.out
        have kk : ∀ c v, (Upd.cs ⟨kd, key, x, y, fin, has, a, m, e⟩)[c]? = some v → wr.cell? ⟨b, off + i * 7 + c, none⟩ = some v := fun c v h => TX.k.cell (hc' c v h) (fun z => z)
        have d0 : wr.cell? ⟨b, off + i * 7, none⟩ = some (.int .i64 kd) := kk 0 _ rfl
        have d1 : wr.cell? ⟨b, off + i * 7 + 1, none⟩ = some (.string key) := kk 1 _ rfl
        have d2 : wr.cell? ⟨b, off + i * 7 + 2, none⟩ = some (.int .i64 x) := kk 2 _ rfl
        have d3 : wr.cell? ⟨b, off + i * 7 + 3, none⟩ = some (.int .i64 y) := kk 3 _ rfl
        have d4 : wr.cell? ⟨b, off + i * 7 + 4, none⟩ = some (.bool fin) := kk 4 _ rfl
        have d5 : wr.cell? ⟨b, off + i * 7 + 5, none⟩ = some (.bool has) := kk 5 _ rfl
        have d6 : wr.cell? ⟨b, off + i * 7 + 6, none⟩ = some (.slice a m e) := kk 6 _ rfl
        have OK : Hid (UpdOk w ⟨kd, key, x, y, fin, has, a, m, e⟩ l) := okU
        have MH : Hid (TT w wr i d tb sb X) := TX
        have iB : Hid (i + 1 ≤ 4398046511104 ∧ i + 1 ≤ 2199023255552) := by have := HU.out.2; show i + 1 ≤ 4398046511104 ∧ i + 1 ≤ 2199023255552; omega
        have iC : Hid (i < 2199023255552 ∧ X.rn + 1 < 2199023255552 ∧ m ≤ 140737488355328 ∧ l.length = m) := by
          have h1 := HU.out.2
          have h2 := TX.q.few
          have h3 := OK.out.few
          have h4 := OK.out.rd.length
          exact ⟨by omega, by omega, by have h3 : m + 1 ≤ 140737488355328 := h3; omega, h4⟩
        clear hc hc' kk TX S hu okU hlt
        go_upto_region 11 with fail
        obtain ⟨W2, hW2⟩ : ∃ W2, W2 = wr.alloc (.cells #[.int .i64 kd, .string key, .int .i64 x, .int .i64 y, .bool fin, .bool has, .slice a m e] 36) := ⟨_, rfl⟩
        obtain ⟨UB, hUB⟩ : ∃ UB, UB = wr.heap.size := ⟨_, rfl⟩
        obtain ⟨W3, hW3⟩ : ∃ W3, W3 = W2.alloc (.cells #[.int .i64 kd, .string key, .int .i64 x, .int .i64 y, .bool fin, .bool has, .slice a m e] 36) := ⟨_, rfl⟩
        obtain ⟨IB, hIB⟩ : ∃ IB, IB = wr.heap.size + 1 := ⟨_, rfl⟩
        have J3 : Hid (W3.heap[UB]? = some (.cells #[.int .i64 kd, .string key, .int .i64 x, .int .i64 y, .bool fin, .bool has, .slice a m e] 36 (0, 0)) ∧ W3.heap[IB]? = some (.cells #[.int .i64 kd, .string key, .int .i64 x, .int .i64 y, .bool fin, .bool has, .slice a m e] 36 (0, 0)) ∧ Kept (fun _ => False) wr W3 ∧ wr.heap.size ≤ UB ∧ UB < IB ∧ wr.heap.size ≤ IB) := by
          have e1 : W2.heap[UB]? = some (.cells #[.int .i64 kd, .string key, .int .i64 x, .int .i64 y, .bool fin, .bool has, .slice a m e] 36 (0, 0)) := by rw [hW2, hUB]; exact heap_alloc_new _ _
          have e2 : W2.heap.size = IB := by rw [hW2, hIB]; simp
          refine ⟨?_, ?_, ?_, by omega, by omega, by omega⟩
          · rw [hW3]; exact (k0_alloc W2 _).get e1 (fun z => z)
          · rw [hW3, ← e2]; exact heap_alloc_new _ _
          · rw [hW3, hW2]; exact (k0_alloc _ _).and0 (k0_alloc _ _)
        rw [← hW2, ← hW3, ← hIB, ← hUB]
        clear hW2 hW3 hIB hUB d0 d1 d2 d3 d4 d5 d6
        have g6 := cell_blk J3.out.1 6 (v := .slice a m e) rfl
        go_wp2_with fail
        have R3 : Hid (Reads W3 a m e l) := (OK.out.rd.kept MH.out.k (fun _ _ z => z)).kept J3.out.2.2.1 (fun _ _ z => z)
        refine (sOwn a m e l W3 R3.out iC.out.2.2.1).mono ?_
        rintro o w4 ⟨p2, c2, rfl, Q4⟩
        have B4 : Hid (w4.heap[IB]? = some (.cells #[.int .i64 kd, .string key, .int .i64 x, .int .i64 y, .bool fin, .bool has, .slice a m e] 36 (0, 0))) := Q4.out.2.2.get J3.out.2.1 (fun z => z)
        have h6 := cell_blk B4.out 6 (v := .slice a m e) rfl
        have f6 := soft_blk B4.out 6
        clear g6
        go_upto_region 12 with fail
        obtain ⟨W5, hW5⟩ : ∃ W5, W5 = w4.setCell ⟨IB, 6, none⟩ (.slice p2 m c2) := ⟨_, rfl⟩
        have J5 : Hid (W5.heap[UB]? = some (.cells #[.int .i64 kd, .string key, .int .i64 x, .int .i64 y, .bool fin, .bool has, .slice a m e] 36 (0, 0)) ∧ W5.heap[IB]? = some (.cells #[.int .i64 kd, .string key, .int .i64 x, .int .i64 y, .bool fin, .bool has, .slice p2 m c2] 36 (0, 0)) ∧ Kept (fun _ => False) wr W5 ∧ wr.heap.size ≤ UB ∧ Reads W5 p2 m c2 l) := by
          have K5 : Kept (fun k => k = IB) w4 W5 := by rw [hW5]; exact (Kept.refl (fun k => k = IB) w4).setCell (p := ⟨IB, 6, none⟩) (fun _ => rfl) _
          refine ⟨K5.get (Q4.out.2.2.get J3.out.1 (fun z => z)) (fun z => ?_), by rw [hW5]; exact heap_set B4.out 6 _, (J3.out.2.2.1.and0 Q4.out.2.2).trans K5 (fun k hk z => ?_), J3.out.2.2.2.1, Q4.out.1.kept K5 (fun r hr z => ?_)⟩
          · have z : UB = IB := z
            have := J3.out.2.2.2.2.1
            omega
          · have z : k = IB := z
            have := J3.out.2.2.2.2.2
            omega
          · have z : r.block = IB := z
            have h1 := (Q4.out.2.1 r.block (by rw [hr]; rfl)).1
            have h2 := block_lt J3.out.2.1
            omega
        rw [← hW5]
        clear hW5 h6 f6 B4 Q4 R3 J3
        have T5 : Hid (TT w W5 i d tb sb X) := MH.out.k0 J5.out.2.2.1
        have g0 := cell_blk J5.out.2.1 0 (v := .int .i64 kd) rfl
        have g1 := cell_blk J5.out.2.1 1 (v := .string key) rfl
        have g2 := cell_blk J5.out.2.1 2 (v := .int .i64 x) rfl
        have g3 := cell_blk J5.out.2.1 3 (v := .int .i64 y) rfl
        have g4 := cell_blk J5.out.2.1 4 (v := .bool fin) rfl
        have g5 := cell_blk J5.out.2.1 5 (v := .bool has) rfl
        have g6 := cell_blk J5.out.2.1 6 (v := .slice p2 m c2) rfl
        obtain ⟨wd, hwd⟩ : ∃ wd, (docA d X.vs ⟨kd, key, x, y, fin, has, p2, m, c2⟩ l).1 = wd := ⟨_, rfl⟩
        obtain ⟨ec, hec⟩ : ∃ ec, (docA d X.vs ⟨kd, key, x, y, fin, has, p2, m, c2⟩ l).2.1 = ec := ⟨_, rfl⟩
        have CW : Hid (Calls Tryz.prog 6 #[.pointer (some ⟨tb, 0, none⟩), .agg #[.int .i64 kd, .string key, .int .i64 x, .int .i64 y, .bool fin, .bool has, .slice p2 m c2]] W5 fun o w' => o = .returned (.tuple #[.bool wd, .int .i64 ec]) ∧ Kept (fun _ => False) W5 w') := by
          have := gWould T5.out.q.g ⟨kd, key, x, y, fin, has, p2, m, c2⟩ l OK.out.key OK.out.tag
          rw [T5.out.tb, T5.out.d, hwd, hec] at this
          exact this
        have CA : Hid (∀ V, Kept (fun _ => False) W5 V → Calls Tryz.prog 7 #[.pointer (some ⟨tb, 0, none⟩), .agg #[.int .i64 kd, .string key, .int .i64 x, .int .i64 y, .bool fin, .bool has, .slice p2 m c2]] V fun o w' => o = .returned (.tuple #[.bool wd, .int .i64 ec]) ∧ Hid (∃ t' D', GMv V w' (i + 1) X.t t' D' (docA X.t.delta X.vs ⟨kd, key, x, y, fin, has, p2, m, c2⟩ l).2.2)) := by
          intro V kv
          have := gApply (T5.out.k0 kv).q.g ⟨kd, key, x, y, fin, has, p2, m, c2⟩ l (J5.out.2.2.2.2.kept kv (fun _ _ z => z)) OK.out.key OK.out.tag iC.out.2.2.1 iC.out.1
          rw [T5.out.tb, T5.out.d, hwd, hec] at this
          rw [T5.out.d]
          exact this
        have HE : Hid ((docA d X.vs ⟨kd, key, x, y, fin, has, p2, m, c2⟩ l).1 = wd ∧ (docA d X.vs ⟨kd, key, x, y, fin, has, p2, m, c2⟩ l).2.1 = ec) := ⟨hwd, hec⟩
        clear hwd hec
        go_wp2_with fail
        refine CW.out.mono ?_
        rintro o w6 ⟨rfl, K6'⟩
        have K6 : Hid (Kept (fun _ => False) W5 w6) := K6'
        replace g0 := K6'.cell g0 (fun z => z)
        replace g1 := K6'.cell g1 (fun z => z)
        replace g2 := K6'.cell g2 (fun z => z)
        replace g3 := K6'.cell g3 (fun z => z)
        replace g4 := K6'.cell g4 (fun z => z)
        replace g5 := K6'.cell g5 (fun z => z)
        replace g6 := K6'.cell g6 (fun z => z)
        clear K6' CW
        go_wp2_with fail
        refine (CA.out w6 K6.out).mono ?_
        rintro o w7 ⟨rfl, M7⟩
        obtain ⟨vs7, hvs7⟩ : ∃ vs7, vs7 = (docA d X.vs ⟨kd, key, x, y, fin, has, p2, m, c2⟩ l).2.2 := ⟨_, rfl⟩
        have J7 : Hid (∃ t' D', IsQ w.heap.size w7 (i + 1) ⟨t', D', vs7, sb, X.p, X.rn, X.rc, X.L, X.vs⟩ ∧ t'.tb = tb ∧ t'.delta = d ∧ Kept (fun _ => False) w w7 ∧ w7.heap[UB]? = some (.cells #[.int .i64 kd, .string key, .int .i64 x, .int .i64 y, .bool fin, .bool has, .slice a m e] 36 (0, 0))) := by
          obtain ⟨t', D', M⟩ := M7.out
          have T6 := T5.out.k0 K6.out
          obtain ⟨q1, q2, q3, q4, q5⟩ := T6.did M iC.out.2.2.2
          rw [← hvs7] at q1
          have bu := K6.out.get J5.out.1 (fun z => z)
          exact ⟨t', D', q1, q2, q3, q4, q5.get bu (T6.q.g.tab.u.nbU bu ⟨by decide, by decide⟩)⟩
        obtain ⟨t7, D7, Q7⟩ := J7.out
        have Z7 : Hid (IsQ w.heap.size w7 (i + 1) ⟨t7, D7, vs7, sb, X.p, X.rn, X.rc, X.L, X.vs⟩ ∧ t7.tb = tb ∧ t7.delta = d ∧ Kept (fun _ => False) w w7 ∧ w7.heap[UB]? = some (.cells #[.int .i64 kd, .string key, .int .i64 x, .int .i64 y, .bool fin, .bool has, .slice a m e] 36 (0, 0)) ∧ vs7 = (docA d X.vs ⟨kd, key, x, y, fin, has, p2, m, c2⟩ l).2.2) := ⟨Q7.1, Q7.2.1, Q7.2.2.1, Q7.2.2.2.1, Q7.2.2.2.2, hvs7⟩
        clear Q7 J7 M7 CA hvs7 g0 g1 g2 g3 g4 g5 g6 K6
        have g0 := cell_blk Z7.out.2.2.2.2.1 0 (v := .int .i64 kd) rfl
        have g1 := cell_blk Z7.out.2.2.2.2.1 1 (v := .string key) rfl
        have g2 := cell_blk Z7.out.2.2.2.2.1 2 (v := .int .i64 x) rfl
        have g3 := cell_blk Z7.out.2.2.2.2.1 3 (v := .int .i64 y) rfl
        have g4 := cell_blk Z7.out.2.2.2.2.1 4 (v := .bool fin) rfl
        have g5 := cell_blk Z7.out.2.2.2.2.1 5 (v := .bool has) rfl
        have g6 := cell_blk Z7.out.2.2.2.2.1 6 (v := .slice a m e) rfl
        obtain ⟨my, hmy⟩ : ∃ my, Upd.may ⟨kd, key, x, y, fin, has, a, m, e⟩ = my := ⟨_, rfl⟩
        have CF : Hid (Calls Tryz.prog 8 #[.agg #[.int .i64 kd, .string key, .int .i64 x, .int .i64 y, .bool fin, .bool has, .slice a m e]] w7 fun o w' => o = .returned (.bool my) ∧ Kept (fun _ => False) w7 w') := by
          have := sUpdFits kd key x y fin has a m e w7
          rw [hmy] at this
          exact this
        have HM : Hid (Upd.may ⟨kd, key, x, y, fin, has, a, m, e⟩ = my) := hmy
        clear hmy
        go_wp2_with fail
        refine CF.out.mono ?_
        rintro o w8 ⟨rfl, K8'⟩
        have K8 : Hid (Kept (fun _ => False) w7 w8) := K8'
        clear K8' CF
        have BU8 : Hid (w8.heap[UB]? = some (.cells #[.int .i64 kd, .string key, .int .i64 x, .int .i64 y, .bool fin, .bool has, .slice a m e] 36 (0, 0))) := K8.out.get Z7.out.2.2.2.2.1 (fun z => z)
        clear g0 g1 g2 g3 g4 g5 g6
        cases my
        · have e0 : docA d X.vs ⟨kd, key, x, y, fin, has, p2, m, c2⟩ l = (false, 1, X.vs) := by
            unfold docA
            rw [if_neg (by intro z; have y : Upd.may ⟨kd, key, x, y, fin, has, a, m, e⟩ = true := z; rw [HM.out] at y; cases y)]
          have ew : wd = false := by have := HE.out.1; rw [e0] at this; exact this.symm
          have ee : ec = 1 := by have := HE.out.2; rw [e0] at this; exact this.symm
          subst ew ee
          have TY : Hid (TT w w8 (i + 1) d tb sb ⟨t7, D7, vs7, sb, X.p, X.rn, X.rc, X.L, X.vs⟩) := by
            refine ⟨Z7.out.1.k0 K8.out, ?_, Z7.out.2.1, rfl, Z7.out.2.2.1, Z7.out.2.2.2.1.and0 K8.out⟩
            show X.vs = vs7
            rw [Z7.out.2.2.2.2.2, e0]
          have BU := BU8
          clear e0
          obtain ⟨Y, hY⟩ : ∃ Y : PD, Y = ⟨t7, D7, vs7, sb, X.p, X.rn, X.rc, X.L, X.vs⟩ := ⟨_, rfl⟩
          rw [← hY] at TY
          clear hY Z7 K8 BU8 T5 J5 MH HE HM
          go_upto_region 22 with fail

          have q1 : w8.cell? ⟨UB, 1, none⟩ = some (.string key) := cell_blk BU.out 1 rfl
          obtain ⟨tx, ty, htt⟩ : ∃ tx ty, floorT (TS Y.t key) 0 = (tx, ty) := ⟨_, _, rfl⟩
          obtain ⟨fx, fy, hff⟩ : ∃ fx fy, floorT (TS Y.t key) Y.t.delta = (fx, fy) := ⟨_, _, rfl⟩
          have C12 : Hid (∀ V, Kept (fun _ => False) w8 V → Calls Tryz.prog 12 #[.pointer (some ⟨tb, 0, none⟩)] V fun o w' => ∃ p m c avs, o = .returned (.slice p m c) ∧ Hid (AllRd w' p m c avs ∧ HoldsOk Y.vs avs ∧ RAlls Y.vs avs ∧ Kept (fun _ => False) V w')) := by
            intro V kv
            have := cAll (TY.out.k0 kv).q iB.out.1
            rw [TY.out.tb] at this
            exact this
          have C11 : Hid (∀ V p m c avs, Kept (fun _ => False) w8 V → AllRd V p m c avs → HoldsOk Y.vs avs → Calls Tryz.prog 11 #[.pointer (some ⟨sb, 0, none⟩), .slice p m c] V fun o w' => o = .returned (.bool true) ∧ Kept (fun _ => False) V w') := by
            intro V p m c avs kv r ok
            have := cHolds (TY.out.k0 kv).q iB.out.2 r (by rw [TY.out.e]; exact ok)
            rw [TY.out.sb] at this
            exact this
          have C13 : Hid (∀ V, Kept (fun _ => False) w8 V → Calls Tryz.prog 13 #[.pointer (some ⟨tb, 0, none⟩), .string key] V fun o w' => o = .returned (.agg #[.int .i64 tx, .int .i64 ty]) ∧ Kept (fun _ => False) V w') := by
            intro V kv
            have := cTop (TY.out.k0 kv).q OK.out.key
            rw [TY.out.tb, htt] at this
            exact this
          have C14 : Hid (∀ V, Kept (fun _ => False) w8 V → Calls Tryz.prog 14 #[.pointer (some ⟨sb, 0, none⟩), .string key] V fun o w' => o = .returned (.agg #[.int .i64 tx, .int .i64 ty]) ∧ Kept (fun _ => False) V w') := by
            intro V kv
            have := cTop2 (TY.out.k0 kv).q TY.out.e iB.out.2 key
            rw [TY.out.sb, htt] at this
            exact this
          have C15 : Hid (∀ V, Kept (fun _ => False) w8 V → Calls Tryz.prog 15 #[.pointer (some ⟨tb, 0, none⟩), .string key] V fun o w' => o = .returned (.agg #[.int .i64 fx, .int .i64 fy]) ∧ Kept (fun _ => False) V w') := by
            intro V kv
            have := cFloor (TY.out.k0 kv).q OK.out.key
            rw [TY.out.tb, hff] at this
            exact this
          have C16 : Hid (∀ V, Kept (fun _ => False) w8 V → Calls Tryz.prog 16 #[.pointer (some ⟨sb, 0, none⟩), .string key] V fun o w' => o = .returned (.agg #[.int .i64 fx, .int .i64 fy]) ∧ Kept (fun _ => False) V w') := by
            intro V kv
            have := cFloor2 (TY.out.k0 kv).q TY.out.e iB.out.2 key
            rw [TY.out.sb, hff] at this
            exact this
          have C18 : Hid (∀ V, Kept (fun _ => False) w8 V → Calls Tryz.prog 18 #[.pointer (some ⟨tb, 0, none⟩), .string key] V fun o w' => ∃ p m c es, o = .returned (.slice p m c) ∧ Hid (EntRd w' p m c es ∧ SmallOk Y key es ∧ Kept (fun _ => False) V w')) := by
            intro V kv
            have := cEnts (TY.out.k0 kv).q iB.out.1 OK.out.key
            rw [TY.out.tb] at this
            exact this
          have C17 : Hid (∀ V p m c es, Kept (fun _ => False) w8 V → EntRd V p m c es → SmallOk Y key es → Calls Tryz.prog 17 #[.pointer (some ⟨sb, 0, none⟩), .string key, .slice p m c] V fun o w' => o = .returned (.bool true) ∧ Kept (fun _ => False) V w') := by
            intro V p m c es kv r so
            have := cSmall (TY.out.k0 kv).q TY.out.e iB.out.2 (by rw [TY.out.d]; exact GD.out.2) r so
            rw [TY.out.sb] at this
            exact this
          clear htt hff
          have ST : Hid (Kept (fun _ => False) w8 w8.drew) := (Kept.refl _ _).drew
          go_region_held3 (fun V => V.cell? ⟨UB, 1, none⟩ = some (.string key)) (first | go_keep)
            (first
              | (go_at_call 17; refine (C17.out _ _ _ _ _ ST.out EE.out.1 EE.out.2).mono ?_; rintro o w9 ⟨rfl, K9⟩; have ST9 : Hid (Kept (fun _ => False) w8 w9) := ST.out.and0 K9; have q1 := K9.cell q1 (fun z => z); clear K9; clear ST; have ST : Hid (Kept (fun _ => False) w8 w9) := ST9.out; clear ST9)
              | (go_at_call 18; refine (C18.out _ ST.out).mono ?_; rintro o w9 ⟨p18, m18, c18, es18, rfl, K9⟩; have ST9 : Hid (Kept (fun _ => False) w8 w9) := ST.out.and0 K9.out.2.2; have q1 := K9.out.2.2.cell q1 (fun z => z); have EE : Hid (EntRd w9 p18 m18 c18 es18 ∧ SmallOk Y key es18) := ⟨K9.out.1, K9.out.2.1⟩; clear K9; clear ST; have ST : Hid (Kept (fun _ => False) w8 w9) := ST9.out; clear ST9)
              | (go_at_call 16; refine (C16.out _ ST.out).mono ?_; rintro o w9 ⟨rfl, K9⟩; have ST9 : Hid (Kept (fun _ => False) w8 w9) := ST.out.and0 K9; have q1 := K9.cell q1 (fun z => z); clear K9; clear ST; have ST : Hid (Kept (fun _ => False) w8 w9) := ST9.out; clear ST9)
              | (go_at_call 15; refine (C15.out _ ST.out).mono ?_; rintro o w9 ⟨rfl, K9⟩; have ST9 : Hid (Kept (fun _ => False) w8 w9) := ST.out.and0 K9; have q1 := K9.cell q1 (fun z => z); clear K9; clear ST; have ST : Hid (Kept (fun _ => False) w8 w9) := ST9.out; clear ST9)
              | (go_at_call 14; refine (C14.out _ ST.out).mono ?_; rintro o w9 ⟨rfl, K9⟩; have ST9 : Hid (Kept (fun _ => False) w8 w9) := ST.out.and0 K9; have q1 := K9.cell q1 (fun z => z); clear K9; clear ST; have ST : Hid (Kept (fun _ => False) w8 w9) := ST9.out; clear ST9)
              | (go_at_call 13; refine (C13.out _ ST.out).mono ?_; rintro o w9 ⟨rfl, K9⟩; have ST9 : Hid (Kept (fun _ => False) w8 w9) := ST.out.and0 K9; have q1 := K9.cell q1 (fun z => z); clear K9; clear ST; have ST : Hid (Kept (fun _ => False) w8 w9) := ST9.out; clear ST9)
              | (go_at_call 11; refine (C11.out _ _ _ _ _ ST.out AA.out.1 AA.out.2).mono ?_; rintro o w9 ⟨rfl, K9⟩; have ST9 : Hid (Kept (fun _ => False) w8 w9) := ST.out.and0 K9; have q1 := K9.cell q1 (fun z => z); clear K9; clear ST; have ST : Hid (Kept (fun _ => False) w8 w9) := ST9.out; clear ST9)
              | (go_at_call 12; refine (C12.out _ ST.out).mono ?_; rintro o w9 ⟨p12, m12, c12, avs, rfl, K9⟩; have ST9 : Hid (Kept (fun _ => False) w8 w9) := ST.out.and0 K9.out.2.2.2; have q1 := K9.out.2.2.2.cell q1 (fun z => z); have AA : Hid (AllRd w9 p12 m12 c12 avs ∧ HoldsOk Y.vs avs) := ⟨K9.out.1, K9.out.2.1⟩; clear K9; clear ST; have ST : Hid (Kept (fun _ => False) w8 w9) := ST9.out; clear ST9)
              | fail)
          clear C11 C12 C13 C14 C15 C16 C17 C18
          go_wp2_with fail
          go_roundw
          case rel => exact ⟨i + 1, by go_num, by omega, _, TY.out.k0 ST.out⟩
          case measure => simp [intOf] <;> omega
        · have e0 : docA d X.vs ⟨kd, key, x, y, fin, has, p2, m, c2⟩ l = ((applyV d X.vs key (x, y) l (Upd.brings ⟨kd, key, x, y, fin, has, a, m, e⟩) (Upd.final ⟨kd, key, x, y, fin, has, a, m, e⟩)).1, 0, (applyV d X.vs key (x, y) l (Upd.brings ⟨kd, key, x, y, fin, has, a, m, e⟩) (Upd.final ⟨kd, key, x, y, fin, has, a, m, e⟩)).2) := by
            unfold docA
            rw [if_pos (by have y : Upd.may ⟨kd, key, x, y, fin, has, a, m, e⟩ = true := HM.out; exact y)]
            rfl
          have ee : ec = 0 := by have := HE.out.2; rw [e0] at this; exact this.symm
          have EV : Hid ((applyV d X.vs key (x, y) l (Upd.brings ⟨kd, key, x, y, fin, has, a, m, e⟩) (Upd.final ⟨kd, key, x, y, fin, has, a, m, e⟩)).1 = wd ∧ vs7 = (applyV d X.vs key (x, y) l (Upd.brings ⟨kd, key, x, y, fin, has, a, m, e⟩) (Upd.final ⟨kd, key, x, y, fin, has, a, m, e⟩)).2) := by
            refine ⟨?_, ?_⟩
            · have := HE.out.1; rw [e0] at this; exact this
            · rw [Z7.out.2.2.2.2.2, e0]
          clear e0
          subst ee
          have DI : Hid (wd = !decide (X.vs = vs7)) := by
            have pr := may_proper HM.out
            have := did_iff T5.out.q.g.sim key (x, y) (proper_pos _ _ pr) l (Upd.brings ⟨kd, key, x, y, fin, has, a, m, e⟩) (Upd.final ⟨kd, key, x, y, fin, has, a, m, e⟩)
            rw [T5.out.d, EV.out.1, ← EV.out.2] at this
            exact this
          have SV : Hid (shelfV d X.vs key (x, y) l (Upd.brings ⟨kd, key, x, y, fin, has, a, m, e⟩) (Upd.final ⟨kd, key, x, y, fin, has, a, m, e⟩) = vs7) := by
            have := shelfV_eq T5.out.q.g.sim key (x, y) l (Upd.brings ⟨kd, key, x, y, fin, has, a, m, e⟩) (Upd.final ⟨kd, key, x, y, fin, has, a, m, e⟩)
            rw [T5.out.d, ← EV.out.2] at this
            exact this
          have LN : Hid (vs7.length ≤ i + 1) := by
            have h1 := docA_len d X.vs ⟨kd, key, x, y, fin, has, p2, m, c2⟩ l T5.out.q.g.sim.one
            rw [← Z7.out.2.2.2.2.2] at h1
            have h2 := T5.out.q.r.vlen
            have h3 := T5.out.q.few
            rw [T5.out.e] at h2
            show vs7.length ≤ i + 1
            omega
          obtain ⟨Xp, hXp⟩ : ∃ v, v = X.p := ⟨_, rfl⟩
          obtain ⟨Xn, hXn⟩ : ∃ v, v = X.rn := ⟨_, rfl⟩
          obtain ⟨Xc, hXc⟩ : ∃ v, v = X.rc := ⟨_, rfl⟩
          have Q8 : Hid (IsQ w.heap.size w8 (i + 1) ⟨t7, D7, vs7, sb, Xp, Xn, Xc, X.L, X.vs⟩ ∧ t7.tb = tb ∧ t7.delta = d ∧ Kept (fun _ => False) w w8 ∧ Xn + 1 < 2199023255552) := by
            rw [hXp, hXn, hXc]
            exact ⟨Z7.out.1.k0 K8.out, Z7.out.2.1, Z7.out.2.2.1, Z7.out.2.2.2.1.and0 K8.out, iC.out.2.1⟩
          clear hXp hXn hXc Z7 K8
          have B8 : Hid (w8.heap[sb]? = some (.cells #[.int .i64 d, .slice Xp Xn Xc] 29 (0, 0))) := by
            have := Q8.out.1.r.blk
            rw [← Q8.out.2.2.1]
            exact this
          have s0 := cell_blk B8.out 0 (v := .int .i64 d) rfl
          have s1 := cell_blk B8.out 1 (v := .slice Xp Xn Xc) rfl
          go_upto_region 18 with fail
          obtain ⟨W9, hW9⟩ : ∃ W9, W9 = w8.alloc (.cells #[.int .i64 d, .slice Xp Xn Xc] 29) := ⟨_, rfl⟩
          obtain ⟨AB, hAB⟩ : ∃ AB, AB = w8.heap.size := ⟨_, rfl⟩
          have J9 : Hid (Kept (fun _ => False) w8 W9 ∧ W9.heap[AB]? = some (.cells #[.int .i64 d, .slice Xp Xn Xc] 29 (0, 0)) ∧ AB = w8.heap.size ∧ AB < W9.heap.size) := by
            have e1 : W9.heap[AB]? = some (.cells #[.int .i64 d, .slice Xp Xn Xc] 29 (0, 0)) := by rw [hW9, hAB]; exact heap_alloc_new _ _
            exact ⟨by rw [hW9]; exact k0_alloc _ _, e1, hAB, block_lt e1⟩
          rw [← hW9, ← hAB]
          clear hW9 hAB
          replace s0 := J9.out.1.cell s0 (fun z => z)
          replace s1 := J9.out.1.cell s1 (fun z => z)
          have R9 : Hid (RL w.heap.size W9 Xp Xn Xc X.L X.vs) := (Q8.out.1.r.rl).k0 J9.out.1
          have BL : Hid (0 + Xn ≤ maxLen ∧ ((0 + Xn) + (0 + Xn) / 4 + 192) * 64 ≤ 281474976710656) := by
            have := Q8.out.2.2.2.2
            unfold maxLen
            exact ⟨by omega, by omega⟩
          go_upto_region 19 with
            (first
              | (at_builtin; refine wpList_append_all _ rfl (.const (.slice none 0 0)) (.tmp 88) 27 70 27 _ 6 64 rfl Tryz.underlying27 Tryz.info70c rfl W9.heap.size (.slice none 0 0) 0 [] rfl (World.ownsRow_nil _ _ _ _) (.slice Xp Xn Xc) Xn (rcells X.L) rfl R9.out.src BL.out.1 BL.out.2 (Nat.le_refl _) ?_; intro p9 c9 w9 ho hg hn
                 have L9 : Hid (RL W9.heap.size w9 p9 Xn c9 X.L X.vs ∧ Kept (fun _ => False) W9 w9) := R9.out.copyG ho.out hg.out
                 have B9 : Hid (w9.heap[AB]? = some (.cells #[.int .i64 d, .slice Xp Xn Xc] 29 (0, 0))) := L9.out.2.get J9.out.2.1 (fun z => z)
                 have a1 := cell_blk B9.out 1 (v := .slice Xp Xn Xc) rfl
                 have fa := soft_blk B9.out 1
                 clear ho hg hn s0 s1)
              | fail)
          obtain ⟨W10, hW10⟩ : ∃ W10, W10 = w9.setCell ⟨AB, 1, none⟩ (.slice p9 Xn c9) := ⟨_, rfl⟩
          have J10 : Hid (IsQ w.heap.size W10 (i + 1) ⟨t7, D7, vs7, sb, Xp, Xn, Xc, X.L, X.vs⟩ ∧ RL W9.heap.size W10 p9 Xn c9 X.L X.vs ∧ W10.heap[AB]? = some (.cells #[.int .i64 d, .slice p9 Xn c9] 29 (0, 0)) ∧ W10.heap[UB]? = some (.cells #[.int .i64 kd, .string key, .int .i64 x, .int .i64 y, .bool fin, .bool has, .slice a m e] 36 (0, 0)) ∧ Kept (fun _ => False) w W10) := by
            have K10 : Kept (fun k => k = AB) w9 W10 := by rw [hW10]; exact (Kept.refl (fun k => k = AB) w9).setCell (p := ⟨AB, 1, none⟩) (fun _ => rfl) _
            have KK := J9.out.1.and0 L9.out.2
            have eAB := J9.out.2.2.1
            have n5 : ∀ k cs fr, w9.heap[k]? = some (.cells cs 5 fr) → ¬ k = AB := fun k cs fr hc z => by
              rw [z, B9.out] at hc
              simp at hc
            refine ⟨(Q8.out.1.k0 KK).off K10 (fun b hb z => ?_) n5, L9.out.1.off K10 (fun k hk z => ?_) n5, by rw [hW10]; exact heap_set B9.out 1 _, K10.get (KK.get BU8.out (fun z => z)) (fun z => ?_), (Q8.out.2.2.2.1.and0 KK).trans K10 (fun k hk z => ?_)⟩
            · have z : b = AB := z
              have := Q8.out.1.lt hb
              omega
            · have z : k = AB := z
              have h1 := (own_lt L9.out.1.row k hk).1
              have h2 := J9.out.2.2.2
              omega
            · have z : UB = AB := z
              have := block_lt BU8.out
              omega
            · have z : k = AB := z
              have := Q8.out.2.2.2.1.size
              omega
          rw [← hW10]
          clear hW10 a1 fa B9
          have g0 := cell_blk J10.out.2.2.2.1 0 (v := .int .i64 kd) rfl
          have g1 := cell_blk J10.out.2.2.2.1 1 (v := .string key) rfl
          have g2 := cell_blk J10.out.2.2.2.1 2 (v := .int .i64 x) rfl
          have g3 := cell_blk J10.out.2.2.2.1 3 (v := .int .i64 y) rfl
          have g4 := cell_blk J10.out.2.2.2.1 4 (v := .bool fin) rfl
          have g5 := cell_blk J10.out.2.2.2.1 5 (v := .bool has) rfl
          have g6 := cell_blk J10.out.2.2.2.1 6 (v := .slice a m e) rfl
          have CS9 : Hid (Calls Tryz.prog 9 #[.pointer (some ⟨sb, 0, none⟩), .agg #[.int .i64 kd, .string key, .int .i64 x, .int .i64 y, .bool fin, .bool has, .slice a m e]] W10 fun o w' => o = .returned (.tuple #[]) ∧ Hid (RMv w.heap.size W10 w' sb d Xp X.L vs7)) := by
            have rt : RTab w.heap.size W10 sb t7.delta Xp Xn Xc X.L X.vs := J10.out.1.r
            rw [Q8.out.2.2.1] at rt
            have := sApply w.heap.size sb d Xp Xn Xc X.L X.vs kd key x y fin has a m e l W10 rt Q8.out.2.2.2.2 GD.out.1 J10.out.2.2.2.2.size (OK.out.rd.kept J10.out.2.2.2.2 (fun _ _ z => z)) iC.out.2.2.1 (fun h0 r hr => by
              obtain ⟨b', off', e', hc'⟩ := OK.out.rd.cells h0
              have e' : a = some ⟨b', off', none⟩ := e'
              rw [e'] at hr
              have hr := Option.some.inj hr
              rw [← hr]
              exact World.block_lt_of_cell? w _ (hc' 0 h0)) HM.out
            rw [SV.out] at this
            exact this
          go_wp2_with fail
          refine CS9.out.mono ?_
          rintro o w11 ⟨rfl, M11⟩
          have J11 : Hid (∃ Y, TT w w11 (i + 1) d tb sb Y ∧ Y.vs = vs7 ∧ w11.heap[UB]? = some (.cells #[.int .i64 kd, .string key, .int .i64 x, .int .i64 y, .bool fin, .bool has, .slice a m e] 36 (0, 0)) ∧ w11.heap[AB]? = some (.cells #[.int .i64 d, .slice p9 Xn c9] 29 (0, 0)) ∧ RL W9.heap.size w11 p9 Xn c9 X.L X.vs) := by
            have M : RMv w.heap.size W10 w11 sb t7.delta Xp X.L vs7 := by rw [Q8.out.2.2.1]; exact M11.out
            have rb := J10.out.1.r.blk
            have rr := J10.out.1.r.row
            obtain ⟨Y, q1, q2, q3, q4, q5, q6, q7⟩ := J10.out.1.went J10.out.2.2.2.2.size M rfl LN.out
            have lo : ∀ k, (k = sb ∨ blockOf Xp = some k) → k < AB := by
              intro k z
              rw [J9.out.2.2.1]
              exact Q8.out.1.lt (.inr (.inr z))
            have ty : ∀ k cs t fr, (t = 5 ∨ t = 36) → W10.heap[k]? = some (.cells cs t fr) → ¬ (k = sb ∨ blockOf Xp = some k) := by
              rintro k cs t fr ht hc (z | z)
              · have rb : W10.heap[sb]? = _ := rb
                rw [← z, hc] at rb
                rcases ht with rfl | rfl <;> simp at rb
              · obtain ⟨c, q⟩ := own_ty rr z
                rw [hc] at q
                rcases ht with rfl | rfl <;> simp at q
            refine ⟨Y, ⟨q1, by rw [q5, q4], by rw [q2]; exact Q8.out.2.1, q6, by rw [q2]; exact Q8.out.2.2.1, kept_base J10.out.2.2.2.2 q7⟩, q4, M.kept.get J10.out.2.2.2.1 (ty _ _ _ _ (.inr rfl) J10.out.2.2.2.1), M.kept.get J10.out.2.2.1 (fun z => by have := lo AB z; omega), J10.out.2.1.off M.kept (fun k hk z => ?_) (fun k cs fr hc => ty k cs 5 fr (.inl rfl) hc)⟩
            have h1 := (own_lt J10.out.2.1.row k hk).1
            have h2 := J9.out.2.2.2
            have h3 := lo k z
            omega
          obtain ⟨Y, J12⟩ := J11.out
          obtain ⟨Yp, hYp⟩ : ∃ v, v = Y.p := ⟨_, rfl⟩
          obtain ⟨Yn, hYn⟩ : ∃ v, v = Y.rn := ⟨_, rfl⟩
          obtain ⟨Yc, hYc⟩ : ∃ v, v = Y.rc := ⟨_, rfl⟩
          obtain ⟨sc, hsc⟩ : ∃ sc, sc = decide (X.vs = vs7) := ⟨_, rfl⟩
          have H12 : Hid (TT w w11 (i + 1) d tb sb Y ∧ w11.heap[UB]? = some (.cells #[.int .i64 kd, .string key, .int .i64 x, .int .i64 y, .bool fin, .bool has, .slice a m e] 36 (0, 0)) ∧ w11.heap[AB]? = some (.cells #[.int .i64 d, .slice p9 Xn c9] 29 (0, 0)) ∧ w11.heap[sb]? = some (.cells #[.int .i64 d, .slice Yp Yn Yc] 29 (0, 0))) := by
            refine ⟨J12.1, J12.2.2.1, J12.2.2.2.1, ?_⟩
            have := J12.1.q.r.blk
            rw [J12.1.sb, J12.1.d] at this
            rw [hYp, hYn, hYc]
            exact this
          have C10 : Hid (Calls Tryz.prog 10 #[.slice p9 Xn c9, .slice Yp Yn Yc] w11 fun o w' => o = .returned (.bool sc) ∧ Kept (fun _ => False) w11 w') := by
            have r2 := J12.1.q.r.rl
            rw [J12.1.e, J12.2.1, ← hYp, ← hYn, ← hYc] at r2
            have := sCells _ p9 Xn c9 X.L X.vs _ Yp Yn Yc Y.L vs7 w11 J12.2.2.2.2 r2
            rw [← hsc] at this
            exact this
          have ds : (!sc) = wd := by rw [hsc]; exact DI.out.symm
          clear hYp hYn hYc hsc J12 J11 M11 CS9 J10 g0 g1 g2 g3 g4 g5 g6
          have b1 := cell_blk H12.out.2.2.1 1 (v := .slice p9 Xn c9) rfl
          have s1 := cell_blk H12.out.2.2.2 1 (v := .slice Yp Yn Yc) rfl
          go_wp2_with fail
          refine C10.out.mono ?_
          rintro o w12 ⟨rfl, K12⟩
          have TY : Hid (TT w w12 (i + 1) d tb sb Y) := H12.out.1.k0 K12
          have BU : Hid (w12.heap[UB]? = some (.cells #[.int .i64 kd, .string key, .int .i64 x, .int .i64 y, .bool fin, .bool has, .slice a m e] 36 (0, 0))) := K12.get H12.out.2.1 (fun z => z)
          have t1 : ∀ b : Bool, (b == b) = true := by decide
          clear K12 C10 H12 b1 s1 SV LN DI EV HE HM BU8 B8 Q8 T5 J5 MH J9 L9 R9
          go_upto_region 22 with fail

          have q1 : w12.cell? ⟨UB, 1, none⟩ = some (.string key) := cell_blk BU.out 1 rfl
          obtain ⟨tx, ty, htt⟩ : ∃ tx ty, floorT (TS Y.t key) 0 = (tx, ty) := ⟨_, _, rfl⟩
          obtain ⟨fx, fy, hff⟩ : ∃ fx fy, floorT (TS Y.t key) Y.t.delta = (fx, fy) := ⟨_, _, rfl⟩
          have C12 : Hid (∀ V, Kept (fun _ => False) w12 V → Calls Tryz.prog 12 #[.pointer (some ⟨tb, 0, none⟩)] V fun o w' => ∃ p m c avs, o = .returned (.slice p m c) ∧ Hid (AllRd w' p m c avs ∧ HoldsOk Y.vs avs ∧ RAlls Y.vs avs ∧ Kept (fun _ => False) V w')) := by
            intro V kv
            have := cAll (TY.out.k0 kv).q iB.out.1
            rw [TY.out.tb] at this
            exact this
          have C11 : Hid (∀ V p m c avs, Kept (fun _ => False) w12 V → AllRd V p m c avs → HoldsOk Y.vs avs → Calls Tryz.prog 11 #[.pointer (some ⟨sb, 0, none⟩), .slice p m c] V fun o w' => o = .returned (.bool true) ∧ Kept (fun _ => False) V w') := by
            intro V p m c avs kv r ok
            have := cHolds (TY.out.k0 kv).q iB.out.2 r (by rw [TY.out.e]; exact ok)
            rw [TY.out.sb] at this
            exact this
          have C13 : Hid (∀ V, Kept (fun _ => False) w12 V → Calls Tryz.prog 13 #[.pointer (some ⟨tb, 0, none⟩), .string key] V fun o w' => o = .returned (.agg #[.int .i64 tx, .int .i64 ty]) ∧ Kept (fun _ => False) V w') := by
            intro V kv
            have := cTop (TY.out.k0 kv).q OK.out.key
            rw [TY.out.tb, htt] at this
            exact this
          have C14 : Hid (∀ V, Kept (fun _ => False) w12 V → Calls Tryz.prog 14 #[.pointer (some ⟨sb, 0, none⟩), .string key] V fun o w' => o = .returned (.agg #[.int .i64 tx, .int .i64 ty]) ∧ Kept (fun _ => False) V w') := by
            intro V kv
            have := cTop2 (TY.out.k0 kv).q TY.out.e iB.out.2 key
            rw [TY.out.sb, htt] at this
            exact this
          have C15 : Hid (∀ V, Kept (fun _ => False) w12 V → Calls Tryz.prog 15 #[.pointer (some ⟨tb, 0, none⟩), .string key] V fun o w' => o = .returned (.agg #[.int .i64 fx, .int .i64 fy]) ∧ Kept (fun _ => False) V w') := by
            intro V kv
            have := cFloor (TY.out.k0 kv).q OK.out.key
            rw [TY.out.tb, hff] at this
            exact this
          have C16 : Hid (∀ V, Kept (fun _ => False) w12 V → Calls Tryz.prog 16 #[.pointer (some ⟨sb, 0, none⟩), .string key] V fun o w' => o = .returned (.agg #[.int .i64 fx, .int .i64 fy]) ∧ Kept (fun _ => False) V w') := by
            intro V kv
            have := cFloor2 (TY.out.k0 kv).q TY.out.e iB.out.2 key
            rw [TY.out.sb, hff] at this
            exact this
          have C18 : Hid (∀ V, Kept (fun _ => False) w12 V → Calls Tryz.prog 18 #[.pointer (some ⟨tb, 0, none⟩), .string key] V fun o w' => ∃ p m c es, o = .returned (.slice p m c) ∧ Hid (EntRd w' p m c es ∧ SmallOk Y key es ∧ Kept (fun _ => False) V w')) := by
            intro V kv
            have := cEnts (TY.out.k0 kv).q iB.out.1 OK.out.key
            rw [TY.out.tb] at this
            exact this
          have C17 : Hid (∀ V p m c es, Kept (fun _ => False) w12 V → EntRd V p m c es → SmallOk Y key es → Calls Tryz.prog 17 #[.pointer (some ⟨sb, 0, none⟩), .string key, .slice p m c] V fun o w' => o = .returned (.bool true) ∧ Kept (fun _ => False) V w') := by
            intro V p m c es kv r so
            have := cSmall (TY.out.k0 kv).q TY.out.e iB.out.2 (by rw [TY.out.d]; exact GD.out.2) r so
            rw [TY.out.sb] at this
            exact this
          clear htt hff
          have ST : Hid (Kept (fun _ => False) w12 w12.drew) := (Kept.refl _ _).drew
          go_region_held3 (fun V => V.cell? ⟨UB, 1, none⟩ = some (.string key)) (first | go_keep)
            (first
              | (go_at_call 17; refine (C17.out _ _ _ _ _ ST.out EE.out.1 EE.out.2).mono ?_; rintro o w9 ⟨rfl, K9⟩; have ST9 : Hid (Kept (fun _ => False) w12 w9) := ST.out.and0 K9; have q1 := K9.cell q1 (fun z => z); clear K9; clear ST; have ST : Hid (Kept (fun _ => False) w12 w9) := ST9.out; clear ST9)
              | (go_at_call 18; refine (C18.out _ ST.out).mono ?_; rintro o w9 ⟨p18, m18, c18, es18, rfl, K9⟩; have ST9 : Hid (Kept (fun _ => False) w12 w9) := ST.out.and0 K9.out.2.2; have q1 := K9.out.2.2.cell q1 (fun z => z); have EE : Hid (EntRd w9 p18 m18 c18 es18 ∧ SmallOk Y key es18) := ⟨K9.out.1, K9.out.2.1⟩; clear K9; clear ST; have ST : Hid (Kept (fun _ => False) w12 w9) := ST9.out; clear ST9)
              | (go_at_call 16; refine (C16.out _ ST.out).mono ?_; rintro o w9 ⟨rfl, K9⟩; have ST9 : Hid (Kept (fun _ => False) w12 w9) := ST.out.and0 K9; have q1 := K9.cell q1 (fun z => z); clear K9; clear ST; have ST : Hid (Kept (fun _ => False) w12 w9) := ST9.out; clear ST9)
              | (go_at_call 15; refine (C15.out _ ST.out).mono ?_; rintro o w9 ⟨rfl, K9⟩; have ST9 : Hid (Kept (fun _ => False) w12 w9) := ST.out.and0 K9; have q1 := K9.cell q1 (fun z => z); clear K9; clear ST; have ST : Hid (Kept (fun _ => False) w12 w9) := ST9.out; clear ST9)
              | (go_at_call 14; refine (C14.out _ ST.out).mono ?_; rintro o w9 ⟨rfl, K9⟩; have ST9 : Hid (Kept (fun _ => False) w12 w9) := ST.out.and0 K9; have q1 := K9.cell q1 (fun z => z); clear K9; clear ST; have ST : Hid (Kept (fun _ => False) w12 w9) := ST9.out; clear ST9)
              | (go_at_call 13; refine (C13.out _ ST.out).mono ?_; rintro o w9 ⟨rfl, K9⟩; have ST9 : Hid (Kept (fun _ => False) w12 w9) := ST.out.and0 K9; have q1 := K9.cell q1 (fun z => z); clear K9; clear ST; have ST : Hid (Kept (fun _ => False) w12 w9) := ST9.out; clear ST9)
              | (go_at_call 11; refine (C11.out _ _ _ _ _ ST.out AA.out.1 AA.out.2).mono ?_; rintro o w9 ⟨rfl, K9⟩; have ST9 : Hid (Kept (fun _ => False) w12 w9) := ST.out.and0 K9; have q1 := K9.cell q1 (fun z => z); clear K9; clear ST; have ST : Hid (Kept (fun _ => False) w12 w9) := ST9.out; clear ST9)
              | (go_at_call 12; refine (C12.out _ ST.out).mono ?_; rintro o w9 ⟨p12, m12, c12, avs, rfl, K9⟩; have ST9 : Hid (Kept (fun _ => False) w12 w9) := ST.out.and0 K9.out.2.2.2; have q1 := K9.out.2.2.2.cell q1 (fun z => z); have AA : Hid (AllRd w9 p12 m12 c12 avs ∧ HoldsOk Y.vs avs) := ⟨K9.out.1, K9.out.2.1⟩; clear K9; clear ST; have ST : Hid (Kept (fun _ => False) w12 w9) := ST9.out; clear ST9)
              | fail)
          clear C11 C12 C13 C14 C15 C16 C17 C18
          go_wp2_with fail
          go_roundw
          case rel => exact ⟨i + 1, by go_num, by omega, _, TY.out.k0 ST.out⟩
          case measure => simp [intOf] <;> omega
      · have i1 : ¬ (i : Int) < (n : Int) := by omega
        obtain ⟨X, TX⟩ := S.out
        have MH : Hid (TT w wr i d tb sb X) := TX
        have iB : Hid (i ≤ 1954687338300) := by have := HU.out.2; show i ≤ 1954687338300; omega
        clear TX S
        go_wp2_with fail
        refine (new_good d wr GD.out.1 GD.out.2).mono ?_
        rintro o w2 ⟨tb2, rb2, rfl, T2, K2, l1, l2⟩
        have H2 : Hid (IsT w2 0 ⟨tb2, rb2, d, fun _ => none⟩ ∧ Kept (fun _ => False) wr w2 ∧ wr.heap.size ≤ tb2 ∧ wr.heap.size ≤ rb2) := ⟨T2, K2, l1, l2⟩
        clear T2 K2 l1 l2
        have CU : Hid (Calls Tryz.prog 19 #[.pointer (some ⟨tb, 0, none⟩)] w2 fun o w' => ∃ p n c, o = .returned (.slice p n c) ∧ Hid (∃ F, UpRd 0 w' p n c F ∧ FF d X F ∧ F.length ≤ i ∧ Kept (fun _ => False) w2 w')) := by
          have T := MH.out.k0 H2.out.2.1
          have fl : ∀ avs, AllOf X.t (datS X.t X.D) avs → (flat avs).length ≤ i := fun avs ao => by
            have h1 := flat_len X.vs (all_back T.q.g.sim ao)
            have h2 := T.q.r.vlen
            rw [T.e] at h2
            have h3 := T.q.few
            omega
          refine (gUpdates (t := X.t) (nn := i) (dat := datS X.t X.D) (tb := tb) T.q.g.tab T.q.g.datAll (fun avs ao => by have h1 := fl avs ao; have h2 := iB.out; omega) T.tb (by have h2 := iB.out; omega)).mono ?_
          rintro o w' ⟨p, n, c, rfl, avs, Q⟩
          have ra := all_back T.q.g.sim Q.out.2.1
          exact ⟨p, n, c, rfl, flat avs, Q.out.1, ⟨T.q.g.sim, T.q.ok, T.d, flat_one T.q.g.sim.one ra, flat_mem ra⟩, fl avs Q.out.2.1, Q.out.2.2⟩
        go_wp2_with fail
        refine CU.out.mono ?_
        rintro o w3 ⟨pu, mu, cu, rfl, Q3⟩
        obtain ⟨F, Q3'⟩ := Q3.out
        have E3 : Hid (NN w w3 0 d tb2 sb X F pu mu cu ∧ FF d X F ∧ mu ≤ i ∧ F.length = mu ∧ X.rn ≤ i) := by
          have K3 := H2.out.2.1.and0 Q3'.2.2.2
          have T := MH.out.k0 K3
          refine ⟨⟨⟨⟨tb2, rb2, d, fun _ => none⟩, fun _ _ => [], (Gst.new GD.out.1 H2.out.1).k0 Q3'.2.2.2, rfl, rfl, ?_⟩, ?_, Q3'.1, T.k⟩, Q3'.2.1, ?_, Q3'.1.len, T.q.few⟩
          · rintro b (z | ⟨_, _, z, _⟩)
            · rw [z]; exact Nat.le_trans MH.out.k.size H2.out.2.2.2
            · cases z
          · have r := T.q.r
            rw [T.sb, T.d, T.e] at r
            exact r
          · rw [← Q3'.1.len]; exact Q3'.2.2.1
        have sm := Q3'.1.small
        unfold maxLen at sm
        obtain ⟨sm1, sm2⟩ := sm
        clear Q3' Q3 CU H2 MH
        go_wp2_with fail
        go_loopw [18, 19, 20, 159] (fun _ _ _ z wr => ∃ (j : Nat), z = .int .i64 (j : Int) ∧ j ≤ mu ∧ Hid (NN w wr j d tb2 sb X F pu mu cu)) (fun _ _ _ z _ => mu - (intOf z).toNat)
        case atStart => exact ⟨0, rfl, Nat.zero_le _, E3.out.1⟩
        case round =>
          obtain ⟨j, rfl, hj, S⟩ := hrel
          obtain ⟨wq, hwq⟩ : ∃ wq, wq = wr := ⟨_, rfl⟩
          rw [← hwq] at S ⊢
          clear hwq
          by_cases hjl : j < mu
          · have j1 : (j : Int) < (mu : Int) := by omega
            obtain ⟨b, k, x, y, f, g, l, a, m, cc, rfl, hv, d0, d1, d2, d3, d4, d5, d6, rd⟩ := S.out.u.at hjl
            have RD : Hid (Reads wq a m cc l ∧ docA d (F.take j) ⟨3, k, x, y, f, g, a, m, cc⟩ l = (true, 0, F.take (j + 1)) ∧ k.size ≤ maxLen ∧ TFit (x, y) ∧ m ≤ 140737488355328 ∧ j < 2199023255552) := by
              obtain ⟨e1, e2, e3, e4⟩ := E3.out.2.1.row hv a cc
              rw [rd.length] at e1 e4
              exact ⟨rd, e1, e2, e3, e4, by have h1 := iB.out; have h2 := E3.out.2.2.1; omega⟩
            clear rd hv
            go_upto_region 31 with fail
            obtain ⟨W, hW⟩ : ∃ W, W = wq.alloc (.cells #[.int .i64 3, .string k, .int .i64 x, .int .i64 y, .bool f, .bool g, .slice a m cc] 36) := ⟨_, rfl⟩
            obtain ⟨B, hB⟩ : ∃ B, B = wq.heap.size := ⟨_, rfl⟩
            have J : Hid (W.heap[B]? = some (.cells #[.int .i64 3, .string k, .int .i64 x, .int .i64 y, .bool f, .bool g, .slice a m cc] 36 (0, 0)) ∧ NN w W j d tb2 sb X F (some ⟨b, 0, none⟩) mu cu ∧ Kept (fun _ => False) wq W) := by
              rw [hW, hB]
              exact ⟨heap_alloc_new _ _, S.out.k0 (k0_alloc _ _), k0_alloc _ _⟩
            rw [← hW, ← hB]
            clear hW hB d0 d1 d2 d3 d4 d5 d6
            have g0 := cell_blk J.out.1 0 (v := .int .i64 3) rfl
            have g1 := cell_blk J.out.1 1 (v := .string k) rfl
            have g2 := cell_blk J.out.1 2 (v := .int .i64 x) rfl
            have g3 := cell_blk J.out.1 3 (v := .int .i64 y) rfl
            have g4 := cell_blk J.out.1 4 (v := .bool f) rfl
            have g5 := cell_blk J.out.1 5 (v := .bool g) rfl
            have g6 := cell_blk J.out.1 6 (v := .slice a m cc) rfl
            have CA : Hid (Calls Tryz.prog 7 #[.pointer (some ⟨tb2, 0, none⟩), .agg #[.int .i64 3, .string k, .int .i64 x, .int .i64 y, .bool f, .bool g, .slice a m cc]] W fun o w' => o = .returned (.tuple #[.bool true, .int .i64 0]) ∧ Hid (NN w w' (j + 1) d tb2 sb X F (some ⟨b, 0, none⟩) mu cu ∧ w'.heap[B]? = some (.cells #[.int .i64 3, .string k, .int .i64 x, .int .i64 y, .bool f, .bool g, .slice a m cc] 36 (0, 0)))) := by
              obtain ⟨tn, Dn, gs, t1, t2, lo⟩ := J.out.2.1.g
              have := gApply gs ⟨3, k, x, y, f, g, a, m, cc⟩ l (RD.out.1.kept J.out.2.2 (fun _ _ z => z)) RD.out.2.2.1 RD.out.2.2.2.1 RD.out.2.2.2.2.1 RD.out.2.2.2.2.2
              rw [t1, t2, RD.out.2.1] at this
              refine this.mono ?_
              rintro o w' ⟨rfl, t', D', M⟩
              exact ⟨rfl, J.out.2.1.step gs t1 t2 lo M, M.kept.get J.out.1 (gs.tab.u.nbU J.out.1 ⟨by decide, by decide⟩)⟩
            go_wp2_with fail
            refine CA.out.mono ?_
            rintro o w5 ⟨rfl, Q5⟩
            have h0 := cell_blk Q5.out.2 0 (v := .int .i64 3) rfl
            clear g0 g1 g2 g3 g4 g5 g6 CA J RD S
            go_wp2_with fail
            go_roundw
            case rel => exact ⟨j + 1, by go_num, by omega, Q5.out.1⟩
            case measure => simp [intOf] <;> omega
          · have j1 : ¬ (j : Int) < (mu : Int) := by omega
            have CL : Hid (Calls Tryz.prog 12 #[.pointer (some ⟨tb2, 0, none⟩)] wq fun o w' => ∃ p m c avs, o = .returned (.slice p m c) ∧ Hid (AllRd w' p m c avs ∧ HoldsOk X.vs avs ∧ Kept (fun _ => False) wq w')) := by
              obtain ⟨tn, Dn, gs, t1, t2, lo⟩ := S.out.g
              have := tAll j tn (datS tn Dn) wq gs.tab gs.datAll (by have h1 := iB.out; have h2 := E3.out.2.2.1; omega)
              rw [t1] at this
              refine this.mono ?_
              rintro o w' ⟨p, m, c, avs, rfl, Q⟩
              have ra := all_back gs.sim Q.out.2.1
              rw [List.take_of_length_le (by have := E3.out.2.2.2.1; omega)] at ra
              exact ⟨p, m, c, avs, rfl, Q.out.1, (ra.same E3.out.2.1.mem).holds E3.out.2.1.sim.one, Q.out.2.2⟩
            have CH : Hid (∀ V p m c avs, Kept (fun _ => False) wq V → AllRd V p m c avs → HoldsOk X.vs avs → Calls Tryz.prog 11 #[.pointer (some ⟨sb, 0, none⟩), .slice p m c] V fun o w' => o = .returned (.bool true) ∧ Kept (fun _ => False) V w') := fun V p m c avs kv r ok =>
              sHolds w.heap.size sb d X.p X.rn X.rc X.L X.vs p m c avs V (S.out.r.k0 kv) (by have h1 := iB.out; have h2 := E3.out.2.2.2.2; omega) r ok
            have KE : Hid (Kept (fun _ => False) w wq) := S.out.k
            clear S
            go_wp2_with fail
            refine CL.out.mono ?_
            rintro o w5 ⟨p, m, c, avs, rfl, Q5⟩
            go_wp2_with fail
            refine (CH.out w5 p m c avs Q5.out.2.2 Q5.out.1 Q5.out.2.1).mono ?_
            rintro o w6 ⟨rfl, K6⟩
            have G : Hid (Kept (fun _ => False) w w6) := (KE.out.and0 Q5.out.2.2).and0 K6
            clear K6 Q5 CL CH KE
            go_wp2_with fail
            go_ret
            exact ⟨rfl, G.out⟩
  · have GB : Hid (d < 0 ∨ 4611686018427387903 < d) := by show d < 0 ∨ 4611686018427387903 < d; omega
    by_cases hneg : d < 0
    · go_wp2_with fail
      refine (new_bad d w GB.out).mono ?_
      rintro o w1 ⟨rfl, rfl⟩
      go_wp2_with fail
      go_ret
      exact ⟨rfl, Kept.refl _ _⟩
    · have hbig : 4611686018427387903 < d := by omega
      go_wp2_with fail
      refine (new_bad d w GB.out).mono ?_
      rintro o w1 ⟨rfl, rfl⟩
      go_wp2_with fail
      go_ret
      exact ⟨rfl, Kept.refl _ _⟩
end Go.Proofs.YtojepeefphbekabGreat
