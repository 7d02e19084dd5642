import Derived.Test.YtojepeefphbekaaGreatExp0J
import Derived.Deep.CutBlock
import Derived.Deep.DeepCutAuto
namespace Go.Proofs.YtojepeefphbekaaGreat
open Go.RowKit 

/-- How far the tags were gone through. -/
def Stop (l : List Mv) (key : ByteArray) (d : Int) (k : Nat) : Prop := (k = 60 ∧ (fins l key 60 : Int) ≤ d) ∨ (∃ j, k = j + 1 ∧ j < 60 ∧ hF l key (tagN (59 - j)) = true ∧ (fins l key k : Int) = d + 1)
theorem EntRd.ev {w : World} {p : Option Addr} {n c : Nat} {es : List Ev} (h : EntRd w p n c es) {i : Nat} (hi : i < n) : ∃ b x y f g a m cc v, p = some ⟨b, 0, none⟩ ∧ es[i]? = some v ∧ w.cell? ⟨b, i * 5, none⟩ = some (.int .i64 x) ∧ w.cell? ⟨b, i * 5 + 1, none⟩ = some (.int .i64 y) ∧ w.cell? ⟨b, i * 5 + 2, none⟩ = some (.bool f) ∧ w.cell? ⟨b, i * 5 + 3, none⟩ = some (.bool g) ∧ w.cell? ⟨b, i * 5 + 4, none⟩ = some (.slice a m cc) ∧ EvRd w ((x, y), f, g, a, m, cc) v := by
  obtain ⟨L, ow, al⟩ := h.row
  have hl : L.length = n := by rw [al.1]; exact h.len
  rcases ow.2 with ⟨_, hn⟩ | ⟨b, cap, cur, z, _⟩
  · omega
  · have z : Value.slice p n c = .slice (some ⟨b, 0, none⟩) n cap := z
    injection z with z1 _ z3
    subst z1
    subst z3
    have hc := ow.cells (g := b) rfl
    have h1 : i < L.length := by omega
    have h2 : i < es.length := by rw [h.len]; exact hi
    obtain ⟨⟨⟨x, y⟩, f, g, a, m, cc⟩, hL⟩ : ∃ e, L[i] = e := ⟨_, rfl⟩
    have q := al.2 i h1 h2
    rw [hL] at q
    have cell : ∀ j v, j < 5 → (encE ((x, y), f, g, a, m, cc))[j]? = some v → w.cell? ⟨b, i * 5 + j, none⟩ = some v := fun j v hj hv => by
      have := hc (i * 5 + j) v (by rw [ecells_get L i h1 j hj, hL]; exact hv)
      rw [Addr.add_none, Nat.zero_add] at this
      exact this
    exact ⟨b, x, y, f, g, a, m, cc, es[i], rfl, List.getElem?_eq_getElem h2, cell 0 _ (by omega) rfl, cell 1 _ (by omega) rfl, cell 2 _ (by omega) rfl, cell 3 _ (by omega) rfl, cell 4 _ (by omega) rfl, q⟩
set_option maxRecDepth 100000 in
set_option maxHeartbeats 8000000 in
/-- expected. -/
theorem tExpected (d : Int) (a : Option Addr) (len cap : Nat) (l : List Mv) (key : ByteArray) (w : World) (r : MReads w a len cap l) (hl : len ≤ 4398046510976) (h0 : 0 ≤ d) (h1 : d ≤ 4) (hk64 : key.size ≤ 64) : Calls Tryz.prog 21 #[.int .i64 d, .slice a len cap, .string key] w fun o w' => ∃ p n c, o = .returned (.slice p n c) ∧ ∃ k, Hid (EntRd w' p n c (desc l key k).reverse ∧ Stop l key d k ∧ Kept (fun _ => False) w w') := by
  have HM : Hid (MReads w a len cap l ∧ key.size ≤ 64) := ⟨r, hk64⟩
  have room := r.room
  have smallc := r.small
  unfold maxLen at smallc
  clear r hk64
  go_enter Tryz.func21, Tryz.ntmps21
  go_upto_block 0 with fail
  go_cut [7] (fun u wc => ∃ p n c k, u = .slice p n c ∧ Hid (TopS w wc p n c (desc l key k) ∧ Stop l key d k ∧ n ≤ 60))
  case first =>
    go_wp2_with fail
    go_loopw [7, 8, 9, 10, 11, 13] (fun u7 u8 u9 _ _ _ wr => ∃ (k n c : Nat) (p : Option Addr), u7 = .slice p n c ∧ u8 = .int .i64 (fins l key k : Int) ∧ u9 = .int .i64 (59 - (k : Int)) ∧ k ≤ 60 ∧ (fins l key k : Int) ≤ d ∧ Hid (TopS w wr p n c (desc l key k))) (fun _ _ u9 _ _ _ _ => (intOf u9 + 1).toNat)
    case atStart => exact ⟨0, 0, 0, none, rfl, rfl, rfl, Nat.zero_le _, h0, TopS.nil w⟩
    case round =>
      obtain ⟨k, n, c, p, rfl, rfl, rfl, hk, hf, S⟩ := hrel
      obtain ⟨wo, hwo⟩ : ∃ wo, wo = wr := ⟨_, rfl⟩
      rw [← hwo] at S ⊢
      clear hwo
      by_cases hlt : k < 60
      · obtain ⟨q, hq⟩ : ∃ q : Nat, q = 59 - k := ⟨_, rfl⟩
        have eq : 59 - (k : Int) = (q : Int) := by omega
        have q60 : q < 60 := by omega
        rw [eq]
        have q0 : (0 : Int) ≤ (q : Int) := by omega
        obtain ⟨X, hX⟩ : ∃ X : Nat, X = q / 5 + 1 := ⟨_, rfl⟩
        obtain ⟨Y, hY⟩ : ∃ Y : Nat, Y = q % 5 + 1 := ⟨_, rfl⟩
        have x1 : X ≤ 12 := by omega
        have y1 : Y ≤ 5 := by omega
        have dv : Int.tdiv (q : Int) 5 = (X : Int) - 1 := by
          rw [Int.tdiv_eq_ediv_of_nonneg q0]
          omega
        have md5 : Int.tmod (q : Int) 5 = (Y : Int) - 1 := by
          rw [Int.tmod_eq_emod_of_nonneg q0]
          omega
        have wx : IntKind.i64.wrap ((X : Int) - 1 + 1) = (X : Int) := by rw [IntKind.wrap_i64]; omega
        have wy : IntKind.i64.wrap ((Y : Int) - 1 + 1) = (Y : Int) := by rw [IntKind.wrap_i64]; omega
        have wx2 : IntKind.i64.wrap ((X : Int) - 1) = (X : Int) - 1 := by rw [IntKind.wrap_i64]; omega
        have wy2 : IntKind.i64.wrap ((Y : Int) - 1) = (Y : Int) - 1 := by rw [IntKind.wrap_i64]; omega
        have HX : Hid (tagN q = ((X : Int), (Y : Int)) ∧ q = 59 - k) := by
          refine ⟨?_, hq⟩
          rw [hX, hY]
          rfl
        clear hX hY hq eq
        go_upto_region 8 with fail
        obtain ⟨W, hW⟩ : ∃ W, W = (wo.alloc (.cells #[.int .i64 (X : Int), .int .i64 (Y : Int)] 37)).alloc (.cells #[.int .i64 (X : Int), .int .i64 (Y : Int), .bool false, .bool false, .slice none 0 0] 40) := ⟨_, rfl⟩
        obtain ⟨EB, hEB⟩ : ∃ B, B = wo.heap.size + 1 := ⟨_, rfl⟩
        obtain ⟨TB, hTB⟩ : ∃ A, A = wo.heap.size := ⟨_, rfl⟩
        have E0 : Hid (EMk wo W key X Y TB EB (hF (l.take 0) key ((X : Int), (Y : Int))) (hH (l.take 0) key ((X : Int), (Y : Int))) none 0 0) := by
          have K : Kept (fun _ => False) wo W := by rw [hW]; exact ((Kept.refl _ wo).alloc _).alloc _
          refine ⟨by rw [hW, hTB]; exact two0 _ _ _, by rw [hW, hEB]; exact two1 _ _ _, Reads.nil _, fun k hk => (by cases hk), K, by omega⟩
        rw [← hW, ← hEB, ← hTB]
        clear hW hEB hTB dv md5 wx wy wx2 wy2
        go_wp2_with fail
        go_loopw [13, 31] (fun _ u31 wi => ∃ (j : Nat) (ea : Option Addr) (en ec : Nat), u31 = .int .i64 (j : Int) ∧ j ≤ len ∧ Hid (EMk wo wi key X Y TB EB (hF (l.take j) key ((X : Int), (Y : Int))) (hH (l.take j) key ((X : Int), (Y : Int))) ea en ec)) (fun _ u31 _ => len - (intOf u31).toNat)
        case atStart => exact ⟨0, none, 0, 0, rfl, Nat.zero_le _, E0⟩
        case round =>
          obtain ⟨j, ea, en, ec, rfl, hj, S2⟩ := hrel
          clear E0
          by_cases hjl : j < len
          · have j1 : (j : Int) < (len : Int) := by omega
            have kw : Kept (fun _ => False) w wr := S.out.kept.and0 S2.out.kept
            obtain ⟨mb, off, rfl, hc0⟩ := (HM.out.1.by kw (fun _ _ z => z)).cells (by omega)
            obtain ⟨⟨mk, mf, mo, mc, ml⟩, hm⟩ : ∃ m, m = l.getD j Mv.zero := ⟨_, rfl⟩
            have HK : Hid (l.take j ++ [⟨mk, mf, mo, mc, ml⟩] = l.take (j + 1)) := by
              have hil : j < l.length := by rw [HM.out.1.length]; exact hjl
              rw [hm, List.getD_eq_getElem?_getD, List.getElem?_eq_getElem hil, List.take_add_one, List.getElem?_eq_getElem hil]
              rfl
            have hc := hc0 j hjl
            clear hc0
            rw [← hm] at hc
            obtain ⟨m0, m1, m2, m3, m4⟩ := hc
            clear hm kw
            dsimp only at m0 m1 m2 m3 m4
            rw [Nat.add_zero] at m0
            go_upto_region 11 with fail
            obtain ⟨W, hW⟩ : ∃ W, W = wr.alloc (.cells #[.int .i64 mk, .bool mf, .bool mo, .int .i64 mc, .int .i64 ml] 28) := ⟨_, rfl⟩
            obtain ⟨MB, hMB⟩ : ∃ B, B = wr.heap.size := ⟨_, rfl⟩
            obtain ⟨ef, hef⟩ : ∃ f, f = hF (l.take j) key ((X : Int), (Y : Int)) := ⟨_, rfl⟩
            obtain ⟨eh, heh⟩ : ∃ f, f = hH (l.take j) key ((X : Int), (Y : Int)) := ⟨_, rfl⟩
            have HE : Hid (ef = hF (l.take j) key ((X : Int), (Y : Int)) ∧ eh = hH (l.take j) key ((X : Int), (Y : Int))) := ⟨hef, heh⟩
            have E1 : Hid (EMk wo W key X Y TB EB ef eh ea en ec ∧ W.heap[MB]? = some (.cells #[.int .i64 mk, .bool mf, .bool mo, .int .i64 mc, .int .i64 ml] 28 (0, 0))) := by
              rw [hW, hMB, hef, heh]
              exact ⟨S2.out.k0 (k0_alloc _ _), heap_alloc_new _ _⟩
            rw [← hW, ← hMB]
            clear hW hMB hef heh m0 m1 m2 m3 m4
            have CF : Hid (∀ V, Kept (fun _ => False) W V → V.cell? ⟨MB, 0, none⟩ = some (.int .i64 mk) ∧ V.cell? ⟨MB, 1, none⟩ = some (.bool mf) ∧ V.cell? ⟨MB, 2, none⟩ = some (.bool mo) ∧ V.cell? ⟨MB, 3, none⟩ = some (.int .i64 mc) ∧ V.cell? ⟨MB, 4, none⟩ = some (.int .i64 ml) ∧ V.cell? ⟨TB, 0, none⟩ = some (.int .i64 (X : Int)) ∧ V.cell? ⟨TB, 1, none⟩ = some (.int .i64 (Y : Int))) := by
              intro V K
              have q1 := K.get E1.out.2 (fun z => z)
              have q2 := K.get E1.out.1.tag (fun z => z)
              exact ⟨cell_blk q1 0 rfl, cell_blk q1 1 rfl, cell_blk q1 2 rfl, cell_blk q1 3 rfl, cell_blk q1 4 rfl, cell_blk q2 0 rfl, cell_blk q2 1 rfl⟩
            obtain ⟨m0, m1, m2, m3, m4, t0, t1⟩ := CF.out W (Kept.refl _ _)
            obtain ⟨mkey, hmk⟩ : ∃ mkey, mkey = key3 mk := ⟨_, rfl⟩
            have KO : Hid (∀ V : World, Calls Tryz.prog 20 #[.int .i64 mk] V fun o w' => o = .returned (.string mkey) ∧ Kept (fun _ => False) V w') := by rw [hmk]; exact fun V => keyOf3 mk V
            obtain ⟨tx, htx⟩ : ∃ tx, tx = mc % 12 + 1 := ⟨_, rfl⟩
            obtain ⟨ty, hty⟩ : ∃ ty, ty = ml % 5 + 1 := ⟨_, rfl⟩
            have TO : Hid (∀ V : World, Calls Tryz.prog 39 #[.agg #[.int .i64 mk, .bool mf, .bool mo, .int .i64 mc, .int .i64 ml]] V fun o w' => o = .returned (.agg #[.int .i64 tx, .int .i64 ty]) ∧ Kept (fun _ => False) V w') := by rw [htx, hty]; exact fun V => tagOf mk mf mo mc ml V
            have HG : Hid (mkey = key3 mk ∧ (tx, ty) = tag60 mc ml) := ⟨hmk, by rw [htx, hty]; rfl⟩
            clear hmk htx hty
            go_cut [45] (fun u wc => ∃ b : Bool, u = .bool b ∧ Hid ((b = false ↔ mkey = key ∧ tx = (X : Int) ∧ ty = (Y : Int)) ∧ EMk wo wc key X Y TB EB ef eh ea en ec ∧ wc.heap[MB]? = some (.cells #[.int .i64 mk, .bool mf, .bool mo, .int .i64 mc, .int .i64 ml] 28 (0, 0))))
            case first =>
              by_cases hk : mkey = key
              · subst hk
                by_cases ht : tx = (X : Int)
                · subst ht
                  by_cases hu : ty = (Y : Int)
                  · subst hu
                    go_region_held3 (fun V => V.cell? ⟨MB, 0, none⟩ = some (.int .i64 mk) ∧ V.cell? ⟨MB, 1, none⟩ = some (.bool mf) ∧ V.cell? ⟨MB, 2, none⟩ = some (.bool mo) ∧ V.cell? ⟨MB, 3, none⟩ = some (.int .i64 mc) ∧ V.cell? ⟨MB, 4, none⟩ = some (.int .i64 ml) ∧ V.cell? ⟨TB, 0, none⟩ = some (.int .i64 (X : Int)) ∧ V.cell? ⟨TB, 1, none⟩ = some (.int .i64 (Y : Int))) (first | go_keep)
                      (first
                        | (go_at_call 20; refine (KO.out W.drew).mono ?_; rintro o w2 ⟨rfl, K2⟩
                           have K3 : Hid (Kept (fun _ => False) W w2) := ((Kept.refl _ _).drew).and0 K2
                           obtain ⟨m0, m1, m2, m3, m4, t0, t1⟩ := CF.out w2 K3.out
                           clear K2)
                        | (go_at_call 39; refine (TO.out _).mono ?_; rintro o w4 ⟨rfl, K4⟩
                           have K5 : Hid (Kept (fun _ => False) W w4) := K3.out.and0 K4
                           obtain ⟨m0, m1, m2, m3, m4, t0, t1⟩ := CF.out w4 K5.out
                           clear K4)
                        | fail)
                    all_goals go_wp2_with fail
                    all_goals go_meet
                    all_goals refine ⟨false, rfl, ⟨fun _ => by simp, fun _ => rfl⟩, ?_⟩
                    all_goals first | exact ⟨E1.out.1.k0 K5.out, K5.out.get E1.out.2 (fun z => z)⟩ | exact ⟨E1.out.1.k0 K5.out.drew, K5.out.drew.get E1.out.2 (fun z => z)⟩ | exact ⟨E1.out.1.k0 K5.out.drew.drew, K5.out.drew.drew.get E1.out.2 (fun z => z)⟩ | exact ⟨E1.out.1.k0 (K5.out.drewN _), (K5.out.drewN _).get E1.out.2 (fun z => z)⟩
                  · have hu2 : decide (ty = (Y : Int)) = false := decide_eq_false hu
                    go_region_held3 (fun V => V.cell? ⟨MB, 0, none⟩ = some (.int .i64 mk) ∧ V.cell? ⟨MB, 1, none⟩ = some (.bool mf) ∧ V.cell? ⟨MB, 2, none⟩ = some (.bool mo) ∧ V.cell? ⟨MB, 3, none⟩ = some (.int .i64 mc) ∧ V.cell? ⟨MB, 4, none⟩ = some (.int .i64 ml) ∧ V.cell? ⟨TB, 0, none⟩ = some (.int .i64 (X : Int)) ∧ V.cell? ⟨TB, 1, none⟩ = some (.int .i64 (Y : Int))) (first | go_keep)
                      (first
                        | (go_at_call 20; refine (KO.out W.drew).mono ?_; rintro o w2 ⟨rfl, K2⟩
                           have K3 : Hid (Kept (fun _ => False) W w2) := ((Kept.refl _ _).drew).and0 K2
                           obtain ⟨m0, m1, m2, m3, m4, t0, t1⟩ := CF.out w2 K3.out
                           clear K2)
                        | (go_at_call 39; refine (TO.out _).mono ?_; rintro o w4 ⟨rfl, K4⟩
                           have K5 : Hid (Kept (fun _ => False) W w4) := K3.out.and0 K4
                           obtain ⟨m0, m1, m2, m3, m4, t0, t1⟩ := CF.out w4 K5.out
                           clear K4)
                        | fail)
                    all_goals go_wp2_with fail
                    all_goals go_meet
                    all_goals refine ⟨true, rfl, ⟨fun z => absurd z (by decide), fun z => absurd z.2.2 hu⟩, ?_⟩
                    all_goals first | exact ⟨E1.out.1.k0 K5.out, K5.out.get E1.out.2 (fun z => z)⟩ | exact ⟨E1.out.1.k0 K5.out.drew, K5.out.drew.get E1.out.2 (fun z => z)⟩ | exact ⟨E1.out.1.k0 K5.out.drew.drew, K5.out.drew.drew.get E1.out.2 (fun z => z)⟩ | exact ⟨E1.out.1.k0 (K5.out.drewN _), (K5.out.drewN _).get E1.out.2 (fun z => z)⟩
                · have ht2 : decide (tx = (X : Int)) = false := decide_eq_false ht
                  go_region_held3 (fun V => V.cell? ⟨MB, 0, none⟩ = some (.int .i64 mk) ∧ V.cell? ⟨MB, 1, none⟩ = some (.bool mf) ∧ V.cell? ⟨MB, 2, none⟩ = some (.bool mo) ∧ V.cell? ⟨MB, 3, none⟩ = some (.int .i64 mc) ∧ V.cell? ⟨MB, 4, none⟩ = some (.int .i64 ml) ∧ V.cell? ⟨TB, 0, none⟩ = some (.int .i64 (X : Int)) ∧ V.cell? ⟨TB, 1, none⟩ = some (.int .i64 (Y : Int))) (first | go_keep)
                    (first
                      | (go_at_call 20; refine (KO.out W.drew).mono ?_; rintro o w2 ⟨rfl, K2⟩
                         have K3 : Hid (Kept (fun _ => False) W w2) := ((Kept.refl _ _).drew).and0 K2
                         obtain ⟨m0, m1, m2, m3, m4, t0, t1⟩ := CF.out w2 K3.out
                         clear K2)
                      | (go_at_call 39; refine (TO.out _).mono ?_; rintro o w4 ⟨rfl, K4⟩
                         have K5 : Hid (Kept (fun _ => False) W w4) := K3.out.and0 K4
                         obtain ⟨m0, m1, m2, m3, m4, t0, t1⟩ := CF.out w4 K5.out
                         clear K4)
                      | fail)
                  all_goals go_wp2_with fail
                  all_goals go_meet
                  all_goals refine ⟨true, rfl, ⟨fun z => absurd z (by decide), fun z => absurd z.2.1 ht⟩, ?_⟩
                  all_goals first | exact ⟨E1.out.1.k0 K5.out, K5.out.get E1.out.2 (fun z => z)⟩ | exact ⟨E1.out.1.k0 K5.out.drew, K5.out.drew.get E1.out.2 (fun z => z)⟩ | exact ⟨E1.out.1.k0 K5.out.drew.drew, K5.out.drew.drew.get E1.out.2 (fun z => z)⟩ | exact ⟨E1.out.1.k0 (K5.out.drewN _), (K5.out.drewN _).get E1.out.2 (fun z => z)⟩
              · have hk' := ba_ne hk
                have hk2 : decide (mkey = key) = false := decide_eq_false hk
                have hk3 : decide (mkey.toList = key.toList) = false := decide_eq_false hk'
                go_region_with
                  (first
                    | (go_at_call 20; refine (KO.out _).mono ?_; rintro o w2 ⟨rfl, K2⟩
                       have K3 : Hid (Kept (fun _ => False) W w2) := (by first | exact K2 | exact ((Kept.refl _ _).drew).and0 K2 | exact ((Kept.refl _ _).drewN _).and0 K2 | exact ((Kept.refl _ _).drew).drew.and0 K2)
                       obtain ⟨m0, m1, m2, m3, m4, t0, t1⟩ := CF.out w2 K3.out
                       clear K2)
                    | fail)
                all_goals go_wp2_with fail
                all_goals go_meet
                all_goals refine ⟨true, rfl, ⟨fun z => absurd z (by decide), fun z => absurd z.1 hk⟩, ?_⟩
                all_goals first | exact ⟨E1.out.1.k0 K3.out, K3.out.get E1.out.2 (fun z => z)⟩ | exact ⟨E1.out.1.k0 K3.out.drew, K3.out.drew.get E1.out.2 (fun z => z)⟩ | exact ⟨E1.out.1.k0 K3.out.drew.drew, K3.out.drew.drew.get E1.out.2 (fun z => z)⟩ | exact ⟨E1.out.1.k0 (K3.out.drewN _), (K3.out.drewN _).get E1.out.2 (fun z => z)⟩
            case rest =>
              clear m0 m1 m2 m3 m4 t0 t1 CF KO TO S2 E1
              obtain ⟨b, rfl, G⟩ := hcut
              cases b
              · have EQ : Hid (mkey = key ∧ tx = (X : Int) ∧ ty = (Y : Int)) := G.out.1.1 rfl
                have HT : Hid (hF (l.take (j + 1)) key ((X : Int), (Y : Int)) = (ef || mf) ∧ hH (l.take (j + 1)) key ((X : Int), (Y : Int)) = (eh || (mo || !mf))) := by
                  have := h_take (key := key) (t := ((X : Int), (Y : Int))) HK.out (HG.out.1.symm.trans EQ.out.1) (HG.out.2.symm.trans (Prod.ext EQ.out.2.1 EQ.out.2.2))
                  rw [this.1, this.2, HE.out.1, HE.out.2]
                  exact ⟨rfl, rfl⟩
                have E2 : Hid (EMk wo wc key X Y TB EB ef eh ea en ec ∧ wc.heap[MB]? = some (.cells #[.int .i64 mk, .bool mf, .bool mo, .int .i64 mc, .int .i64 ml] 28 (0, 0)) ∧ MB ≠ EB) := by
                  refine ⟨G.out.2.1, G.out.2.2, fun z => ?_⟩
                  have h1 := G.out.2.1.ent
                  rw [← z, G.out.2.2] at h1
                  have := Option.some.inj h1
                  injection this with _ e2
                  exact absurd e2 (by decide)
                clear G HE HG EQ
                obtain ⟨W5, hW5⟩ : ∃ W5, W5 = wc.setCell ⟨EB, 2, none⟩ (.bool (ef || mf)) := ⟨_, rfl⟩
                have E5 : Hid (EMk wo W5 key X Y TB EB (ef || mf) eh ea en ec ∧ W5.heap[MB]? = some (.cells #[.int .i64 mk, .bool mf, .bool mo, .int .i64 mc, .int .i64 ml] 28 (0, 0))) := by
                  rw [hW5]
                  exact ⟨E2.out.1.fin _, ((Kept.refl (fun k => k = EB) wc).setCell (p := ⟨EB, 2, none⟩) (fun _ => rfl) _).get E2.out.2.1 E2.out.2.2⟩
                have e2 := cell_blk E2.out.1.ent 2 (v := .bool ef) rfl
                have s2 := soft_blk E2.out.1.ent 2
                have m1 := cell_blk E2.out.2.1 1 (v := .bool mf) rfl
                cases ef <;> cases mf <;> cases mo
                · -- false false false
                  go_upto_region 13 with fail
                  replace hW5 : W5 = wc.setCell ⟨EB, 2, none⟩ (.bool false) := hW5
                  rw [← hW5]
                  clear hW5 e2 s2 m1
                  have m1 := cell_blk E5.out.2 1 (v := .bool false) rfl
                  have m2 := cell_blk E5.out.2 2 (v := .bool false) rfl
                  have t0 := cell_blk E5.out.1.tag 0 (v := .int .i64 (X : Int)) rfl
                  have t1 := cell_blk E5.out.1.tag 1 (v := .int .i64 (Y : Int)) rfl
                  have e3 := cell_blk E5.out.1.ent 3 (v := .bool eh) rfl
                  have s3 := soft_blk E5.out.1.ent 3
                  have neT := E5.out.1.ne
                  go_wp2_with fail
                  refine (dataOfT key X Y _ HM.out.2 (by omega) (by omega)).mono ?_
                  rintro o w7 ⟨p7, c7, rfl, rd7, K7, ty7⟩
                  have E7 : Hid (EMk wo (w7.setCell ⟨EB, 4, none⟩ (.slice p7 (key.size + 3) c7)) key X Y TB EB false true p7 (key.size + 3) c7) := E5.out.1.data K7 rd7 ty7
                  have F7 : Hid (w7.heap[EB]? = some (.cells #[.int .i64 (X : Int), .int .i64 (Y : Int), .bool false, .bool true, .slice ea en ec] 40 (0, 0))) := K7.get (set_heap E5.out.1.ent 3 _) (fun z => z)
                  have e4 := cell_blk F7.out 4 (v := .slice ea en ec) rfl
                  have s4 := soft_blk F7.out 4
                  clear rd7 K7 ty7
                  go_wp2_with fail
                  go_roundw
                  case rel => exact ⟨j + 1, p7, key.size + 3, c7, by go_num, by omega, by rw [HT.out.1, HT.out.2]; first | exact E7 | (cases eh <;> exact E7)⟩
                  case measure => simp [intOf]; omega
                · -- false false true
                  go_upto_region 13 with fail
                  replace hW5 : W5 = wc.setCell ⟨EB, 2, none⟩ (.bool false) := hW5
                  rw [← hW5]
                  clear hW5 e2 s2 m1
                  have m1 := cell_blk E5.out.2 1 (v := .bool false) rfl
                  have m2 := cell_blk E5.out.2 2 (v := .bool true) rfl
                  have t0 := cell_blk E5.out.1.tag 0 (v := .int .i64 (X : Int)) rfl
                  have t1 := cell_blk E5.out.1.tag 1 (v := .int .i64 (Y : Int)) rfl
                  have e3 := cell_blk E5.out.1.ent 3 (v := .bool eh) rfl
                  have s3 := soft_blk E5.out.1.ent 3
                  have neT := E5.out.1.ne
                  go_wp2_with fail
                  refine (dataOfT key X Y _ HM.out.2 (by omega) (by omega)).mono ?_
                  rintro o w7 ⟨p7, c7, rfl, rd7, K7, ty7⟩
                  have E7 : Hid (EMk wo (w7.setCell ⟨EB, 4, none⟩ (.slice p7 (key.size + 3) c7)) key X Y TB EB false true p7 (key.size + 3) c7) := E5.out.1.data K7 rd7 ty7
                  have F7 : Hid (w7.heap[EB]? = some (.cells #[.int .i64 (X : Int), .int .i64 (Y : Int), .bool false, .bool true, .slice ea en ec] 40 (0, 0))) := K7.get (set_heap E5.out.1.ent 3 _) (fun z => z)
                  have e4 := cell_blk F7.out 4 (v := .slice ea en ec) rfl
                  have s4 := soft_blk F7.out 4
                  clear rd7 K7 ty7
                  go_wp2_with fail
                  go_roundw
                  case rel => exact ⟨j + 1, p7, key.size + 3, c7, by go_num, by omega, by rw [HT.out.1, HT.out.2]; first | exact E7 | (cases eh <;> exact E7)⟩
                  case measure => simp [intOf]; omega
                · -- false true false
                  go_upto_region 13 with fail
                  replace hW5 : W5 = wc.setCell ⟨EB, 2, none⟩ (.bool true) := hW5
                  rw [← hW5]
                  clear hW5 e2 s2 m1
                  have m1 := cell_blk E5.out.2 1 (v := .bool true) rfl
                  have m2 := cell_blk E5.out.2 2 (v := .bool false) rfl
                  have t0 := cell_blk E5.out.1.tag 0 (v := .int .i64 (X : Int)) rfl
                  have t1 := cell_blk E5.out.1.tag 1 (v := .int .i64 (Y : Int)) rfl
                  have e3 := cell_blk E5.out.1.ent 3 (v := .bool eh) rfl
                  have s3 := soft_blk E5.out.1.ent 3
                  have neT := E5.out.1.ne
                  go_wp2_with fail
                  go_roundw
                  case rel => exact ⟨j + 1, ea, en, ec, by go_num, by omega, by rw [HT.out.1, HT.out.2]; first | exact E5.out.1 | (cases eh <;> exact E5.out.1)⟩
                  case measure => simp [intOf]; omega
                · -- false true true
                  go_upto_region 13 with fail
                  replace hW5 : W5 = wc.setCell ⟨EB, 2, none⟩ (.bool true) := hW5
                  rw [← hW5]
                  clear hW5 e2 s2 m1
                  have m1 := cell_blk E5.out.2 1 (v := .bool true) rfl
                  have m2 := cell_blk E5.out.2 2 (v := .bool true) rfl
                  have t0 := cell_blk E5.out.1.tag 0 (v := .int .i64 (X : Int)) rfl
                  have t1 := cell_blk E5.out.1.tag 1 (v := .int .i64 (Y : Int)) rfl
                  have e3 := cell_blk E5.out.1.ent 3 (v := .bool eh) rfl
                  have s3 := soft_blk E5.out.1.ent 3
                  have neT := E5.out.1.ne
                  go_wp2_with fail
                  refine (dataOfT key X Y _ HM.out.2 (by omega) (by omega)).mono ?_
                  rintro o w7 ⟨p7, c7, rfl, rd7, K7, ty7⟩
                  have E7 : Hid (EMk wo (w7.setCell ⟨EB, 4, none⟩ (.slice p7 (key.size + 3) c7)) key X Y TB EB true true p7 (key.size + 3) c7) := E5.out.1.data K7 rd7 ty7
                  have F7 : Hid (w7.heap[EB]? = some (.cells #[.int .i64 (X : Int), .int .i64 (Y : Int), .bool true, .bool true, .slice ea en ec] 40 (0, 0))) := K7.get (set_heap E5.out.1.ent 3 _) (fun z => z)
                  have e4 := cell_blk F7.out 4 (v := .slice ea en ec) rfl
                  have s4 := soft_blk F7.out 4
                  clear rd7 K7 ty7
                  go_wp2_with fail
                  go_roundw
                  case rel => exact ⟨j + 1, p7, key.size + 3, c7, by go_num, by omega, by rw [HT.out.1, HT.out.2]; first | exact E7 | (cases eh <;> exact E7)⟩
                  case measure => simp [intOf]; omega
                · -- true false false
                  go_upto_region 13 with fail
                  replace hW5 : W5 = wc.setCell ⟨EB, 2, none⟩ (.bool true) := hW5
                  rw [← hW5]
                  clear hW5 e2 s2 m1
                  have m1 := cell_blk E5.out.2 1 (v := .bool false) rfl
                  have m2 := cell_blk E5.out.2 2 (v := .bool false) rfl
                  have t0 := cell_blk E5.out.1.tag 0 (v := .int .i64 (X : Int)) rfl
                  have t1 := cell_blk E5.out.1.tag 1 (v := .int .i64 (Y : Int)) rfl
                  have e3 := cell_blk E5.out.1.ent 3 (v := .bool eh) rfl
                  have s3 := soft_blk E5.out.1.ent 3
                  have neT := E5.out.1.ne
                  go_wp2_with fail
                  refine (dataOfT key X Y _ HM.out.2 (by omega) (by omega)).mono ?_
                  rintro o w7 ⟨p7, c7, rfl, rd7, K7, ty7⟩
                  have E7 : Hid (EMk wo (w7.setCell ⟨EB, 4, none⟩ (.slice p7 (key.size + 3) c7)) key X Y TB EB true true p7 (key.size + 3) c7) := E5.out.1.data K7 rd7 ty7
                  have F7 : Hid (w7.heap[EB]? = some (.cells #[.int .i64 (X : Int), .int .i64 (Y : Int), .bool true, .bool true, .slice ea en ec] 40 (0, 0))) := K7.get (set_heap E5.out.1.ent 3 _) (fun z => z)
                  have e4 := cell_blk F7.out 4 (v := .slice ea en ec) rfl
                  have s4 := soft_blk F7.out 4
                  clear rd7 K7 ty7
                  go_wp2_with fail
                  go_roundw
                  case rel => exact ⟨j + 1, p7, key.size + 3, c7, by go_num, by omega, by rw [HT.out.1, HT.out.2]; first | exact E7 | (cases eh <;> exact E7)⟩
                  case measure => simp [intOf]; omega
                · -- true false true
                  go_upto_region 13 with fail
                  replace hW5 : W5 = wc.setCell ⟨EB, 2, none⟩ (.bool true) := hW5
                  rw [← hW5]
                  clear hW5 e2 s2 m1
                  have m1 := cell_blk E5.out.2 1 (v := .bool false) rfl
                  have m2 := cell_blk E5.out.2 2 (v := .bool true) rfl
                  have t0 := cell_blk E5.out.1.tag 0 (v := .int .i64 (X : Int)) rfl
                  have t1 := cell_blk E5.out.1.tag 1 (v := .int .i64 (Y : Int)) rfl
                  have e3 := cell_blk E5.out.1.ent 3 (v := .bool eh) rfl
                  have s3 := soft_blk E5.out.1.ent 3
                  have neT := E5.out.1.ne
                  go_wp2_with fail
                  refine (dataOfT key X Y _ HM.out.2 (by omega) (by omega)).mono ?_
                  rintro o w7 ⟨p7, c7, rfl, rd7, K7, ty7⟩
                  have E7 : Hid (EMk wo (w7.setCell ⟨EB, 4, none⟩ (.slice p7 (key.size + 3) c7)) key X Y TB EB true true p7 (key.size + 3) c7) := E5.out.1.data K7 rd7 ty7
                  have F7 : Hid (w7.heap[EB]? = some (.cells #[.int .i64 (X : Int), .int .i64 (Y : Int), .bool true, .bool true, .slice ea en ec] 40 (0, 0))) := K7.get (set_heap E5.out.1.ent 3 _) (fun z => z)
                  have e4 := cell_blk F7.out 4 (v := .slice ea en ec) rfl
                  have s4 := soft_blk F7.out 4
                  clear rd7 K7 ty7
                  go_wp2_with fail
                  go_roundw
                  case rel => exact ⟨j + 1, p7, key.size + 3, c7, by go_num, by omega, by rw [HT.out.1, HT.out.2]; first | exact E7 | (cases eh <;> exact E7)⟩
                  case measure => simp [intOf]; omega
                · -- true true false
                  go_upto_region 13 with fail
                  replace hW5 : W5 = wc.setCell ⟨EB, 2, none⟩ (.bool true) := hW5
                  rw [← hW5]
                  clear hW5 e2 s2 m1
                  have m1 := cell_blk E5.out.2 1 (v := .bool true) rfl
                  have m2 := cell_blk E5.out.2 2 (v := .bool false) rfl
                  have t0 := cell_blk E5.out.1.tag 0 (v := .int .i64 (X : Int)) rfl
                  have t1 := cell_blk E5.out.1.tag 1 (v := .int .i64 (Y : Int)) rfl
                  have e3 := cell_blk E5.out.1.ent 3 (v := .bool eh) rfl
                  have s3 := soft_blk E5.out.1.ent 3
                  have neT := E5.out.1.ne
                  go_wp2_with fail
                  go_roundw
                  case rel => exact ⟨j + 1, ea, en, ec, by go_num, by omega, by rw [HT.out.1, HT.out.2]; first | exact E5.out.1 | (cases eh <;> exact E5.out.1)⟩
                  case measure => simp [intOf]; omega
                · -- true true true
                  go_upto_region 13 with fail
                  replace hW5 : W5 = wc.setCell ⟨EB, 2, none⟩ (.bool true) := hW5
                  rw [← hW5]
                  clear hW5 e2 s2 m1
                  have m1 := cell_blk E5.out.2 1 (v := .bool true) rfl
                  have m2 := cell_blk E5.out.2 2 (v := .bool true) rfl
                  have t0 := cell_blk E5.out.1.tag 0 (v := .int .i64 (X : Int)) rfl
                  have t1 := cell_blk E5.out.1.tag 1 (v := .int .i64 (Y : Int)) rfl
                  have e3 := cell_blk E5.out.1.ent 3 (v := .bool eh) rfl
                  have s3 := soft_blk E5.out.1.ent 3
                  have neT := E5.out.1.ne
                  go_wp2_with fail
                  refine (dataOfT key X Y _ HM.out.2 (by omega) (by omega)).mono ?_
                  rintro o w7 ⟨p7, c7, rfl, rd7, K7, ty7⟩
                  have E7 : Hid (EMk wo (w7.setCell ⟨EB, 4, none⟩ (.slice p7 (key.size + 3) c7)) key X Y TB EB true true p7 (key.size + 3) c7) := E5.out.1.data K7 rd7 ty7
                  have F7 : Hid (w7.heap[EB]? = some (.cells #[.int .i64 (X : Int), .int .i64 (Y : Int), .bool true, .bool true, .slice ea en ec] 40 (0, 0))) := K7.get (set_heap E5.out.1.ent 3 _) (fun z => z)
                  have e4 := cell_blk F7.out 4 (v := .slice ea en ec) rfl
                  have s4 := soft_blk F7.out 4
                  clear rd7 K7 ty7
                  go_wp2_with fail
                  go_roundw
                  case rel => exact ⟨j + 1, p7, key.size + 3, c7, by go_num, by omega, by rw [HT.out.1, HT.out.2]; first | exact E7 | (cases eh <;> exact E7)⟩
                  case measure => simp [intOf]; omega
              · have HT : Hid (hF (l.take (j + 1)) key ((X : Int), (Y : Int)) = ef ∧ hH (l.take (j + 1)) key ((X : Int), (Y : Int)) = eh) := by
                  have := h_skip (key := key) (t := ((X : Int), (Y : Int))) HK.out (fun z => absurd (G.out.1.2 ⟨HG.out.1.trans z.1, congrArg Prod.fst (HG.out.2.trans z.2), congrArg Prod.snd (HG.out.2.trans z.2)⟩) (by decide))
                  rw [this.1, this.2]
                  exact ⟨HE.out.1.symm, HE.out.2.symm⟩
                have E2 : Hid (EMk wo wc key X Y TB EB ef eh ea en ec) := G.out.2.1
                clear G HE HG
                go_wp2_with fail
                go_roundw
                case rel => exact ⟨j + 1, ea, en, ec, by go_num, by omega, by rw [HT.out.1, HT.out.2]; exact E2⟩
                case measure => simp [intOf]; omega
          · have j1 : ¬ (j : Int) < (len : Int) := by omega
            obtain ⟨ef, hef⟩ : ∃ f, f = hF l key ((X : Int), (Y : Int)) := ⟨_, rfl⟩
            obtain ⟨eh, heh⟩ : ∃ f, f = hH l key ((X : Int), (Y : Int)) := ⟨_, rfl⟩
            have E1 : Hid (EMk wo wr key X Y TB EB ef eh ea en ec) := by
              have := S2.out
              rw [List.take_of_length_le (by rw [HM.out.1.length]; omega)] at this
              rw [hef, heh]
              exact this
            have DS : Hid (desc l key (k + 1) = desc l key k ++ (if (ef || eh) = true then [(((X : Int), (Y : Int)), ef, eh, if eh = true then fragD key ((X : Int), (Y : Int)) else [])] else []) ∧ fins l key (k + 1) = fins l key k + (if ef = true then 1 else 0) ∧ hF l key (tagN (59 - k)) = ef) := by
              have e1 : tagN (59 - k) = ((X : Int), (Y : Int)) := by rw [← HX.out.2]; exact HX.out.1
              refine ⟨?_, ?_, by rw [e1, hef]⟩
              · show desc l key k ++ _ = _
                unfold evN
                rw [e1, hef, heh]
              · show fins l key k + _ = _
                rw [e1, hef]
            have TT : Hid (TopS w wr p n c (desc l key k) ∧ n ≤ 59) := by
              have t1 := S.out.k0 S2.out.kept
              refine ⟨t1, ?_⟩
              have := desc_len l key k
              rw [t1.len] at this
              omega
            have fb := fins_le l key k
            obtain ⟨L, ow0, al0⟩ := TT.out.1.row
            have AR : Hid (wr.ownsRow w.heap.size 40 5 (.slice p n c) n (ecells L) ∧ Along (EvRd wr) L (desc l key k)) := ⟨ow0, al0⟩
            have BL : Hid (n + 1 ≤ maxLen ∧ ((n + 1) + (n + 1) / 4 + 192) * 48 ≤ 281474976710656) := by
              have := TT.out.2
              unfold maxLen
              exact ⟨by omega, by omega⟩
            have PB : Hid (∀ k, blockOf p = some k → k < wo.heap.size) := by
              obtain ⟨L2, ow2, _⟩ := S.out.row
              exact fun k hk => (own_lt ow2 k hk).2
            clear hef heh S2 ow0 al0
            have e0 := cell_blk E1.out.ent 0 (v := .int .i64 (X : Int)) rfl
            have e1 := cell_blk E1.out.ent 1 (v := .int .i64 (Y : Int)) rfl
            have e2 := cell_blk E1.out.ent 2 (v := .bool ef) rfl
            have e3 := cell_blk E1.out.ent 3 (v := .bool eh) rfl
            have e4 := cell_blk E1.out.ent 4 (v := .slice ea en ec) rfl
            obtain ⟨fk, hfk⟩ : ∃ fk, fk = fins l key k := ⟨_, rfl⟩
            have FK : Hid (fk = fins l key k) := hfk
            rw [← hfk] at hf fb ⊢
            clear hfk
            have wq : IntKind.i64.wrap ((q : Int) - 1) = (q : Int) - 1 := by rw [IntKind.wrap_i64]; omega
            have wf : IntKind.i64.wrap ((fk : Int) + 1) = (fk : Int) + 1 := by rw [IntKind.wrap_i64]; omega
            have QK : Hid ((q : Int) - 1 = 59 - ((k + 1 : Nat) : Int)) := by
              have := HX.out.2
              show _ = _
              omega
            clear HX
            cases ef <;> cases eh
            · have DS2 : Hid (desc l key (k + 1) = desc l key k ∧ fins l key (k + 1) = fins l key k) := ⟨DS.out.1.trans (List.append_nil _), DS.out.2.1⟩
              go_wp2_with fail
              go_roundw
              case rel => exact ⟨k + 1, n, c, p, rfl, by rw [DS2.out.2, ← FK.out], by rw [QK.out], by omega, by rw [DS2.out.2, ← FK.out]; exact hf, by rw [DS2.out.1]; exact TT.out.1⟩
              case measure => simp [intOf] <;> omega
            · go_upto_region 19 with
                (first
                  | (at_builtin; refine wpList_append_all _ rfl (.tmp 72) (.tmp 74) 33 40 33 _ 5 48 rfl Tryz.underlying33 Tryz.info40c rfl w.heap.size (.slice p n c) n (ecells L) rfl ((k0_alloc wr _).owns AR.out.1 (fun _ _ z => z)) _ 1 (encE (((X : Int), (Y : Int)), false, true, ea, en, ec)) rfl (src_ent (heap_alloc_new wr _)) BL.out.1 BL.out.2 (Nat.le_trans TT.out.1.kept.size (k0_alloc wr _).size) ?_; intro p9 c9 w9 ho hg hn)
                  | fail)
              have T9 : Hid (TopS w w9 p9 (n + 1) c9 (desc l key (k + 1)) ∧ w9.heap[EB]? = some (.cells #[.int .i64 (X : Int), .int .i64 (Y : Int), .bool false, .bool true, .slice ea en ec] 40 (0, 0))) := by
                refine ⟨?_, ?_⟩
                · rw [DS.out.1]
                  exact top_more AR.out.1 AR.out.2 TT.out.1.len TT.out.1.kept E1.out.ev ho.out hg.out
                · have KG : Kept (fun k => blockOf p = some k) wr w9 := ((Kept.refl (fun k => blockOf p = some k) wr).alloc _).grown hg.out (fun k _ z => by rw [blockOf_own] at z; exact z)
                  exact KG.get E1.out.ent (fun z => by have := PB.out _ z; have := E1.out.lo; omega)
              clear ho hg hn e0 e1 e2 e3 e4
              have e2 := cell_blk T9.out.2 2 (v := .bool false) rfl
              go_wp2_with fail
              go_roundw
              case rel => exact ⟨k + 1, n + 1, c9, p9, rfl, by rw [DS.out.2.1, ← FK.out]; rfl, by rw [QK.out], by omega, by rw [DS.out.2.1, ← FK.out]; exact hf, T9.out.1⟩
              case measure => simp [intOf] <;> omega
            · go_upto_region 19 with
                (first
                  | (at_builtin; refine wpList_append_all _ rfl (.tmp 72) (.tmp 74) 33 40 33 _ 5 48 rfl Tryz.underlying33 Tryz.info40c rfl w.heap.size (.slice p n c) n (ecells L) rfl ((k0_alloc wr _).owns AR.out.1 (fun _ _ z => z)) _ 1 (encE (((X : Int), (Y : Int)), true, false, ea, en, ec)) rfl (src_ent (heap_alloc_new wr _)) BL.out.1 BL.out.2 (Nat.le_trans TT.out.1.kept.size (k0_alloc wr _).size) ?_; intro p9 c9 w9 ho hg hn)
                  | fail)
              have T9 : Hid (TopS w w9 p9 (n + 1) c9 (desc l key (k + 1)) ∧ w9.heap[EB]? = some (.cells #[.int .i64 (X : Int), .int .i64 (Y : Int), .bool true, .bool false, .slice ea en ec] 40 (0, 0))) := by
                refine ⟨?_, ?_⟩
                · rw [DS.out.1]
                  exact top_more AR.out.1 AR.out.2 TT.out.1.len TT.out.1.kept E1.out.ev ho.out hg.out
                · have KG : Kept (fun k => blockOf p = some k) wr w9 := ((Kept.refl (fun k => blockOf p = some k) wr).alloc _).grown hg.out (fun k _ z => by rw [blockOf_own] at z; exact z)
                  exact KG.get E1.out.ent (fun z => by have := PB.out _ z; have := E1.out.lo; omega)
              clear ho hg hn e0 e1 e2 e3 e4
              have e2 := cell_blk T9.out.2 2 (v := .bool true) rfl
              by_cases hb : (fk : Int) + 1 > d
              · have G : Hid (Stop l key d (k + 1)) := .inr ⟨k, rfl, hlt, DS.out.2.2, by rw [DS.out.2.1, ← FK.out]; show ((fk + 1 : Nat) : Int) = d + 1; omega⟩
                have N60 : Hid (n + 1 ≤ 60) := by have := TT.out.2; show _ ≤ _; omega
                have hb' : d < (fk : Int) + 1 := hb
                go_wp2_with fail
                go_meet
                exact ⟨p9, n + 1, c9, k + 1, rfl, T9.out.1, G.out, N60.out⟩
              · have hb' : ¬ d < (fk : Int) + 1 := hb
                have hb3 : (fk : Int) + 1 ≤ d := by omega
                go_wp2_with fail
                go_roundw
                case rel => exact ⟨k + 1, n + 1, c9, p9, rfl, by rw [DS.out.2.1, ← FK.out]; rfl, by rw [QK.out], by omega, by rw [DS.out.2.1, ← FK.out]; exact hb3, T9.out.1⟩
                case measure => simp [intOf] <;> omega
            · go_upto_region 19 with
                (first
                  | (at_builtin; refine wpList_append_all _ rfl (.tmp 72) (.tmp 74) 33 40 33 _ 5 48 rfl Tryz.underlying33 Tryz.info40c rfl w.heap.size (.slice p n c) n (ecells L) rfl ((k0_alloc wr _).owns AR.out.1 (fun _ _ z => z)) _ 1 (encE (((X : Int), (Y : Int)), true, true, ea, en, ec)) rfl (src_ent (heap_alloc_new wr _)) BL.out.1 BL.out.2 (Nat.le_trans TT.out.1.kept.size (k0_alloc wr _).size) ?_; intro p9 c9 w9 ho hg hn)
                  | fail)
              have T9 : Hid (TopS w w9 p9 (n + 1) c9 (desc l key (k + 1)) ∧ w9.heap[EB]? = some (.cells #[.int .i64 (X : Int), .int .i64 (Y : Int), .bool true, .bool true, .slice ea en ec] 40 (0, 0))) := by
                refine ⟨?_, ?_⟩
                · rw [DS.out.1]
                  exact top_more AR.out.1 AR.out.2 TT.out.1.len TT.out.1.kept E1.out.ev ho.out hg.out
                · have KG : Kept (fun k => blockOf p = some k) wr w9 := ((Kept.refl (fun k => blockOf p = some k) wr).alloc _).grown hg.out (fun k _ z => by rw [blockOf_own] at z; exact z)
                  exact KG.get E1.out.ent (fun z => by have := PB.out _ z; have := E1.out.lo; omega)
              clear ho hg hn e0 e1 e2 e3 e4
              have e2 := cell_blk T9.out.2 2 (v := .bool true) rfl
              by_cases hb : (fk : Int) + 1 > d
              · have G : Hid (Stop l key d (k + 1)) := .inr ⟨k, rfl, hlt, DS.out.2.2, by rw [DS.out.2.1, ← FK.out]; show ((fk + 1 : Nat) : Int) = d + 1; omega⟩
                have N60 : Hid (n + 1 ≤ 60) := by have := TT.out.2; show _ ≤ _; omega
                have hb' : d < (fk : Int) + 1 := hb
                go_wp2_with fail
                go_meet
                exact ⟨p9, n + 1, c9, k + 1, rfl, T9.out.1, G.out, N60.out⟩
              · have hb' : ¬ d < (fk : Int) + 1 := hb
                have hb3 : (fk : Int) + 1 ≤ d := by omega
                go_wp2_with fail
                go_roundw
                case rel => exact ⟨k + 1, n + 1, c9, p9, rfl, by rw [DS.out.2.1, ← FK.out]; rfl, by rw [QK.out], by omega, by rw [DS.out.2.1, ← FK.out]; exact hb3, T9.out.1⟩
                case measure => simp [intOf] <;> omega
      · have k60 : k = 60 := by omega
        subst k60
        have G : Hid (TopS w wo p n c (desc l key 60) ∧ Stop l key d 60 ∧ n ≤ 60) := by
          refine ⟨S.out, .inl ⟨rfl, hf⟩, ?_⟩
          have := desc_len l key 60
          rw [S.out.len] at this
          exact this
        clear S
        go_wp2_with fail
        go_meet
        exact ⟨p, n, c, 60, rfl, G⟩
  case rest =>
    obtain ⟨p, n, c, k, rfl, G⟩ := hcut
    have n60 : n ≤ 60 := G.out.2.2
    have TR : Hid (EntRd wc p n c (desc l key k) ∧ (desc l key k).length = n) := ⟨G.out.1.rd, G.out.1.len⟩
    have O0 : Hid (TopS wc wc none 0 0 ((desc l key k).reverse.take 0)) := TopS.nil wc
    go_wp2_with fail
    go_loopw [14, 15, 85] (fun u14 _ u85 wr => ∃ (i c2 : Nat) (p2 : Option Addr), u14 = .slice p2 i c2 ∧ u85 = .int .i64 (i : Int) ∧ i ≤ n ∧ Hid (TopS wc wr p2 i c2 ((desc l key k).reverse.take i))) (fun _ _ u85 _ => n - (intOf u85).toNat)
    case atStart => exact ⟨0, 0, none, rfl, rfl, Nat.zero_le _, O0⟩
    case round =>
      obtain ⟨i, c2, p2, rfl, rfl, hi, S⟩ := hrel
      clear O0
      by_cases hlt : i < n
      · have i1 : (i : Int) < (n : Int) := by omega
        obtain ⟨z, hz⟩ : ∃ z : Nat, z = n - 1 - i := ⟨_, rfl⟩
        have zn : z < n := by omega
        have wz1 : IntKind.i64.wrap ((n : Int) - 1) = (n : Int) - 1 := by rw [IntKind.wrap_i64]; omega
        have wz2 : IntKind.i64.wrap ((n : Int) - 1 - (i : Int)) = (z : Int) := by rw [IntKind.wrap_i64]; omega
        have z0 : (0 : Int) ≤ (z : Int) := by omega
        have z1 : (z : Int) < (n : Int) := by omega
        obtain ⟨b, x, y, f, g, ea, en, ec, v, rfl, hv, d0, d1, d2, d3, d4, ev⟩ := (TR.out.1.k0 S.out.kept).ev zn
        have HV : Hid ((desc l key k)[z]? = some v ∧ EvRd wr ((x, y), f, g, ea, en, ec) v ∧ z = n - 1 - i) := ⟨hv, ev, hz⟩
        obtain ⟨L, ow0, al0⟩ := S.out.row
        have AR : Hid (wr.ownsRow wc.heap.size 40 5 (.slice p2 i c2) i (ecells L) ∧ Along (EvRd wr) L ((desc l key k).reverse.take i)) := ⟨ow0, al0⟩
        have BL : Hid (i + 1 ≤ maxLen ∧ ((i + 1) + (i + 1) / 4 + 192) * 48 ≤ 281474976710656) := by
          unfold maxLen
          exact ⟨by omega, by omega⟩
        clear hv ev hz ow0 al0
        go_wp2_with
          (first
            | (at_builtin; refine wpList_append_all _ rfl (.tmp 88) (.tmp 97) 33 40 33 _ 5 48 rfl Tryz.underlying33 Tryz.info40c rfl wc.heap.size (.slice p2 i c2) i (ecells L) rfl ((k0_alloc wr _).owns AR.out.1 (fun _ _ z => z)) _ 1 (encE ((x, y), f, g, ea, en, ec)) rfl (src_ent (heap_alloc_new wr _)) BL.out.1 BL.out.2 (Nat.le_trans S.out.kept.size (k0_alloc wr _).size) ?_; intro p9 c9 w9 ho hg hn)
            | fail)
        have T9 : Hid (TopS wc w9 p9 (i + 1) c9 ((desc l key k).reverse.take (i + 1))) := by
          have e : (desc l key k).reverse.take (i + 1) = (desc l key k).reverse.take i ++ [v] := by
            rw [List.take_add_one, List.getElem?_reverse (by rw [TR.out.2]; exact hlt), TR.out.2, ← HV.out.2.2, HV.out.1]
            rfl
          rw [e]
          exact top_more AR.out.1 AR.out.2 S.out.len S.out.kept HV.out.2.1 ho.out hg.out
        clear ho hg hn
        go_roundw
        case rel => exact ⟨i + 1, c9, p9, rfl, by go_num, by omega, T9⟩
        case measure => simp [intOf] <;> omega
      · have i1 : ¬ (i : Int) < (n : Int) := by omega
        have ein : i = n := by omega
        subst ein
        have F : Hid (EntRd wr p2 i c2 (desc l key k).reverse ∧ Stop l key d k ∧ Kept (fun _ => False) w wr) := by
          have := S.out.rd
          rw [List.take_of_length_le (by rw [List.length_reverse, TR.out.2]; omega)] at this
          exact ⟨this, G.out.2.1, G.out.1.kept.and0 S.out.kept⟩
        clear S
        go_wp2_with fail
        go_ret
        exact ⟨p2, i, c2, rfl, k, F⟩
end Go.Proofs.YtojepeefphbekaaGreat
