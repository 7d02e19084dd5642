import Derived.Test.YtonfefhegghapaaDoorUSmJ
import Derived.Test.YtonfefhegghapaaDoorUTp
namespace Go.Proofs.YtonfefhegghapaaDoor
open Go.RowKit 

theorem prt_mem (c : UInt8) : ∀ (l u : List UInt8), u ∈ prtL c l → u.length ≤ l.length
  | [], u, h => by
    have e : u = [] := by simpa [prtL] using h
    rw [e]
    simp
  | x :: r, u, h => by
    have ih := prt_mem c r
    unfold prtL at h
    by_cases q : x = c
    · rw [if_pos q] at h
      rcases List.mem_cons.1 h with rfl | h
      · simp
      · have := ih u h
        rw [List.length_cons]
        omega
    · rw [if_neg q] at h
      cases e : prtL c r with
      | nil =>
        rw [e] at h
        have e2 : u = [x] := by simpa using h
        rw [e2]
        simp
      | cons a b =>
        rw [e] at h
        rcases List.mem_cons.1 h with rfl | h
        · have := ih a (by rw [e]; simp)
          rw [List.length_cons, List.length_cons]
          omega
        · have := ih u (by rw [e]; simp [h])
          rw [List.length_cons]
          omega
theorem prt_len (c : UInt8) : ∀ l : List UInt8, (prtL c l).length ≤ l.length + 1
  | [] => by simp [prtL]
  | x :: r => by
    have ih := prt_len c r
    unfold prtL
    split
    · simp
      omega
    · split
      · simp
      · rename_i e
        rw [e] at ih
        simp at ih ⊢
        omega
theorem prt_ne (c : UInt8) (l : List UInt8) : ∃ a b, prtL c l = a :: b := by
  cases l with
  | nil => exact ⟨[], [], rfl⟩
  | cons x r =>
    unfold prtL
    split
    · exact ⟨_, _, rfl⟩
    · split
      · exact ⟨_, _, rfl⟩
      · exact ⟨_, _, rfl⟩
theorem drop_at {ps : List (List UInt8)} {i : Nat} {u : List UInt8} (h : ps[i]? = some u) : ps.drop i = u :: ps.drop (i + 1) := by
  obtain ⟨hl, e⟩ := List.getElem?_eq_some_iff.1 h
  rw [List.drop_eq_getElem_cons hl, e]
/-- Which kind the tests up to j have found. -/
def kdU (j : Nat) (u : List UInt8) : Nat := if kindL u < j then kindL u else 0
theorem kdU_one (u : List UInt8) : kdU 1 u = 0 := by unfold kdU; split <;> omega
theorem kdU_all (u : List UInt8) : kdU 17 u = kindL u := by unfold kdU; rw [if_pos (kindL_lt u)]
theorem kw_is {j : Nat} (h1 : 1 ≤ j) (h2 : j ≤ 16) (u : List UInt8) : kw j = u ↔ kindL u = j := by
  constructor
  · intro h
    rw [← h]
    exact ((kw_all (by omega)).2 h1).1
  · intro h
    unfold kindL at h
    cases e : (List.range 17).find? (fun i => decide (kw i = u)) with
    | none =>
      rw [e] at h
      simp at h
      omega
    | some i =>
      rw [e] at h
      have hi : i = j := h
      have := List.find?_some e
      rw [hi] at this
      exact of_decide_eq_true this
theorem kdU_hit {j : Nat} (h1 : 1 ≤ j) (h2 : j ≤ 16) {u : List UInt8} (h : kw j = u) : kdU (j + 1) u = j := by
  have := (kw_is h1 h2 u).1 h
  unfold kdU
  rw [this, if_pos (by omega)]
theorem kdU_miss {j : Nat} (h1 : 1 ≤ j) (h2 : j ≤ 16) {u : List UInt8} (h : ¬ kw j = u) : kdU (j + 1) u = kdU j u := by
  have : ¬ kindL u = j := fun z => h ((kw_is h1 h2 u).2 z)
  unfold kdU
  by_cases q : kindL u < j
  · rw [if_pos q, if_pos (by omega)]
  · rw [if_neg q, if_neg (by omega)]
/-- Where loose is. -/
structure LO (w W : World) (p : Option Addr) (k c : Nat) (ps : List (List UInt8)) (x : Sm) (s : St) : Prop where
  lx : LX w W p k c ps
  b2 : W.heap[w.heap.size]? = some (.cells #[.int .i64 0, .int .i64 0, .int .i64 0, .string ⟨#[]⟩, .slice none 0 0, .slice none 0 0] 38 (0, 0))
  b3 : W.heap[w.heap.size + 1]? = some (.cells x.cs 38 (0, 0))
  so : SO w.heap.size W x s
theorem LO.k0 {w W W' : World} {p : Option Addr} {k c : Nat} {ps : List (List UInt8)} {x : Sm} {s : St} (h : LO w W p k c ps x s) (K : Kept (fun _ => False) W W') : LO w W' p k c ps x s := ⟨h.lx.k0 K, K.get h.b2 (fun z => z), K.get h.b3 (fun z => z), h.so.k0 K⟩
theorem LO.set {w W : World} {p : Option Addr} {k c : Nat} {ps : List (List UInt8)} {x x' : Sm} {s s' : St} (h : LO w W p k c ps x s) (i : Nat) (v : Value) (e : x.cs.setIfInBounds i v = x'.cs) (so : SO w.heap.size W x' s') : LO w (W.setCell ⟨w.heap.size + 1, i, none⟩ v) p k c ps x' s' := by
  have K : Kept (fun j => j = w.heap.size + 1) W (W.setCell ⟨w.heap.size + 1, i, none⟩ v) := (Kept.refl (fun j => j = w.heap.size + 1) W).setCell (p := ⟨w.heap.size + 1, i, none⟩) (fun _ => rfl) v
  refine ⟨⟨h.lx.len, own_off h.lx.row h.b3 (by decide) K, h.lx.kept.trans K (fun j hj z => by omega)⟩, K.get h.b2 (by show ¬ w.heap.size = w.heap.size + 1; omega), ?_, ⟨so.kind, so.a, so.b, so.key, so.vl, own_off so.vr h.b3 (by decide) K, so.ll, own_off so.lr h.b3 (by decide) K⟩⟩
  rw [set_heap h.b3 i v, e]
theorem LO.app {w W w9 : World} {p : Option Addr} {k c : Nat} {ps : List (List UInt8)} {kx ax bx : Int} {kyx : ByteArray} {vax lax p9 : Option Addr} {vnx vcx lnx lcx c9 : Nat} {sk2 sa sb : Int} {sky sv : List UInt8} {zs : List Int} {z : Int} (h : LO w W p k c ps ⟨kx, ax, bx, kyx, vax, vnx, vcx, lax, lnx, lcx⟩ ⟨sk2, sa, sb, sky, sv, zs⟩) (ho : w9.ownsRow w.heap.size 3 1 (.slice p9 (lnx + 1) c9) (lnx + 1) (intC zs ++ intC [z])) (hg : W.grownBy w9 (Value.slice lax lnx lcx).ownBlock) : LO w (w9.setCell ⟨w.heap.size + 1, 5, none⟩ (.slice p9 (lnx + 1) c9)) p k c ps ⟨kx, ax, bx, kyx, vax, vnx, vcx, p9, lnx + 1, c9⟩ ⟨sk2, sa, sb, sky, sv, zs ++ [z]⟩ ∧ w9.heap[w.heap.size + 1]? = some (.cells #[.int .i64 kx, .int .i64 ax, .int .i64 bx, .string kyx, .slice vax vnx vcx, .slice lax lnx lcx] 38 (0, 0)) ∧ LX w w9 p k c ps := by
  have K := TX.kg hg
  have off : ∀ {t : TypeId} {cs2 : Array Value} {b : Nat}, W.heap[b]? = some (.cells cs2 t (0, 0)) → t ≠ 3 → ¬ blockOf lax = some b := fun {t cs2 b} hh ht q => by
    obtain ⟨c2, e2⟩ := own_type h.so.lr b q
    rw [hh] at e2
    simp at e2
    exact ht e2.2
  have offr : ∀ {t : TypeId} {n size cc : Nat} {pp : Option Addr} {xs : List Value}, W.ownsRow w.heap.size t size (.slice pp n cc) n xs → t ≠ 3 → w9.ownsRow w.heap.size t size (.slice pp n cc) n xs := fun {t n size cc pp xs} hr ht => K.owns hr (fun j q y => by
    rw [blockOf_own] at q
    obtain ⟨c1, e1⟩ := own_type hr j q
    exact off e1 ht y)
  have b3 := K.get h.b3 (off h.b3 (by decide))
  have lx : LX w w9 p k c ps := ⟨h.lx.len, offr h.lx.row (by decide), h.lx.kept.trans K (fun j hj q => by have := (own_lt h.so.lr j q).1; omega)⟩
  refine ⟨?_, b3, lx⟩
  have K2 : Kept (fun j => j = w.heap.size + 1) w9 (w9.setCell ⟨w.heap.size + 1, 5, none⟩ (.slice p9 (lnx + 1) c9)) := (Kept.refl (fun j => j = w.heap.size + 1) w9).setCell (p := ⟨w.heap.size + 1, 5, none⟩) (fun _ => rfl) _
  have ho2 : w9.ownsRow w.heap.size 3 1 (.slice p9 (lnx + 1) c9) (lnx + 1) (intC (zs ++ [z])) := by
    unfold intC at ho ⊢
    rw [List.map_append]
    exact ho
  have ll : lnx = zs.length := h.so.ll
  refine ⟨⟨lx.len, own_off lx.row b3 (by decide) K2, lx.kept.trans K2 (fun j hj q => by omega)⟩, K2.get (K.get h.b2 (off h.b2 (by decide))) (by show ¬ w.heap.size = w.heap.size + 1; omega), set_heap b3 5 _, ⟨h.so.kind, h.so.a, h.so.b, h.so.key, h.so.vl, own_off (offr h.so.vr (by decide)) b3 (by decide) K2, by show lnx + 1 = (zs ++ [z]).length; rw [List.length_append, ll]; rfl, own_off ho2 b3 (by decide) K2⟩⟩
def xk (k : Nat) : Sm := ⟨(k : Int), 0, 0, ⟨#[]⟩, none, 0, 0, none, 0, 0⟩
def sk (k : Nat) : St := ⟨(k : Int), 0, 0, [], [], []⟩
set_option maxRecDepth 100000 in
set_option maxHeartbeats 16000000 in
/-- loose. -/
theorem hLoose {w : World} {t : ByteArray} (ht : t.size ≤ 33554432) (M : WM w) : Calls Tryd.prog 46 #[.string t] w (RetM fun x w' => SO w.heap.size w' x (looL t.data.toList) ∧ Kept (fun _ => False) w w') := by
  obtain ⟨ps, hps⟩ : ∃ ps, prtL 32 t.data.toList = ps := ⟨_, rfl⟩
  have HM : Hid (WM w ∧ prtL 32 t.data.toList = ps ∧ t.size ≤ 33554432) := ⟨M, hps, ht⟩
  obtain ⟨W0, hW0⟩ : ∃ W0, (w.alloc (.cells #[.int .i64 0, .int .i64 0, .int .i64 0, .string ⟨#[]⟩, .slice none 0 0, .slice none 0 0] 38)).alloc (.cells #[.int .i64 0, .int .i64 0, .int .i64 0, .string ⟨#[]⟩, .slice none 0 0, .slice none 0 0] 38) = W0 := ⟨_, rfl⟩
  have S0 : Hid (W0.heap[w.heap.size]? = some (.cells #[.int .i64 0, .int .i64 0, .int .i64 0, .string ⟨#[]⟩, .slice none 0 0, .slice none 0 0] 38 (0, 0)) ∧ W0.heap[w.heap.size + 1]? = some (.cells #[.int .i64 0, .int .i64 0, .int .i64 0, .string ⟨#[]⟩, .slice none 0 0, .slice none 0 0] 38 (0, 0)) ∧ Kept (fun _ => False) w W0) := by
    rw [← hW0]
    exact ⟨alloc_old _ (alloc_new _ _), alloc_new2 _ _ _ _, ((Kept.refl _ _).alloc _).alloc _⟩
  have C45 : Hid (Calls Tryd.prog 45 #[.string t, .int .u8 32] W0 fun o w' => ∃ (p : Option Addr) (k c : Nat), o = .returned (.slice p k c) ∧ LX W0 w' p k c (prtL 32 t.data.toList)) := hParts (w := W0) (t := t) (e := 32) (cy := 32) rfl ht
  rw [hps] at C45
  have HW0 : Hid ((w.alloc (.cells #[.int .i64 0, .int .i64 0, .int .i64 0, .string ⟨#[]⟩, .slice none 0 0, .slice none 0 0] 38)).alloc (.cells #[.int .i64 0, .int .i64 0, .int .i64 0, .string ⟨#[]⟩, .slice none 0 0, .slice none 0 0] 38) = W0) := hW0
  obtain ⟨ph, pt, hph⟩ := prt_ne 32 t.data.toList
  rw [hps] at hph
  have HP : Hid (ps = ph :: pt) := hph
  clear M ht hps hW0 hph
  go_enter Tryd.func46, Tryd.ntmps46
  go_upto_region 2 with fail
  rw [HW0.out]
  clear HW0
  go_cut [4] from 7 (fun u4 wc => ∃ (p : Option Addr) (k c : Nat), u4 = .slice p k c ∧ Hid (LO w wc p k c ps (xk 0) (sk 0)))
  case first =>
    go_wp2_with fail
    refine C45.out.mono ?_
    rintro o w1 ⟨p, k, c, rfl, L1⟩
    have S1 : Hid (LO w w1 p k c ps (xk 0) (sk 0)) := ⟨⟨L1.len, owns_mono L1.row S0.out.2.2.size, S0.out.2.2.trans L1.kept (fun _ _ z => z)⟩, L1.kept.get S0.out.1 (fun z => z), L1.kept.get S0.out.2.1 (fun z => z), ⟨rfl, rfl, rfl, rfl, rfl, own_none _ _ _ _, rfl, own_none _ _ _ _⟩⟩
    clear L1 C45 S0
    go_wp2_with fail
    go_meet
    exact ⟨p, k, c, rfl, S1⟩
  case rest =>
  obtain ⟨p, k, c, rfl, S1⟩ := hcut
  clear C45 S0
  rename_i K1 hK1
  refine hK1 _ _ ?_
  refine wp_seq_k fun K2 hK2 => ?_
  obtain ⟨P0, hP0⟩ : ∃ P, ofL ph = P := ⟨_, rfl⟩
  have HP0 : Hid (ofL ph = P0) := hP0
  clear hP0
  obtain ⟨g, eg, gc0⟩ := S1.out.lx.at (i := 0) (u := ph) (by rw [HP.out]; rfl)
  subst eg
  have k0 : 1 ≤ k := by have := S1.out.lx.len; rw [HP.out, List.length_cons] at this; omega
  have LC : Hid (∀ (V : World) (x : Sm) (s : St), LO w V (some ⟨g, 0, none⟩) k c ps x s → ∀ (i : Nat) (u : List UInt8), ps[i]? = some u → V.cell? ⟨g, i, none⟩ = some (.string (ofL u))) := fun V x s h i u hu => by
    obtain ⟨g', e', hc⟩ := h.lx.at hu
    obtain rfl : g = g' := by simpa using e'
    exact hc
  have k0i : (0 : Int) < (k : Int) := by omega
  have kz : k ≤ 9223372036854775807 := by
    obtain ⟨h1, h2⟩ := own_room S1.out.lx.row
    unfold maxLen at h2
    omega
  have LC0 := gc0
  clear gc0
  go_cut [5] from 9 (fun _ wc => Hid (LO w wc (some ⟨g, 0, none⟩) k c ps (xk (kindL ph)) (sk (kindL ph))))
  case first =>
    go_upto_region 4 with fail
    go_loopw [5] (fun u5 wr => ∃ j : Nat, u5 = .int .i64 (j : Int) ∧ 1 ≤ j ∧ j ≤ 17 ∧ Hid (LO w wr (some ⟨g, 0, none⟩) k c ps (xk (kdU j ph)) (sk (kdU j ph)))) (fun u5 _ => 17 - (intOf u5).toNat)
    case atStart => exact ⟨1, rfl, Nat.le_refl _, by omega, by rw [kdU_one]; exact S1.out⟩
    case round =>
      obtain ⟨j, rfl, j1, j17, S⟩ := hrel
      obtain ⟨wo, hwo⟩ : ∃ wo, wo = wr := ⟨_, rfl⟩
      rw [← hwo] at S ⊢
      clear hwo
      by_cases hj : j ≤ 16
      · have ji : (j : Int) ≤ 16 := by omega
        have jj : (j : Int) < 17 := by omega
        have c0 := LC.out _ _ _ S.out 0 ph (by rw [HP.out]; rfl)
        rw [HP0.out] at c0
        have cj := HM.out.1.kept S.out.lx.kept j (by omega)
        obtain ⟨KJ, hKJ⟩ : ∃ K, ofL (kw j) = K := ⟨_, rfl⟩
        rw [hKJ] at cj
        by_cases hq : P0 = KJ
        · have eq1 : (P0.toList == KJ.toList) = true := by rw [eq_bytesE]; exact decide_eq_true hq
          have eq2 : decide (P0 = KJ) = true := decide_eq_true hq
          have HIT : Hid (kdU (j + 1) ph = j) := kdU_hit j1 hj (by
            have := congrArg (fun b : ByteArray => b.data.toList) (HP0.out.trans (hq.trans hKJ.symm))
            exact this.symm)
          have N : Hid (∀ nq, LO w ((wo.drewN nq).setCell ⟨w.heap.size + 1, 0, none⟩ (.int .i64 (j : Int))) (some ⟨g, 0, none⟩) k c ps (xk (kdU (j + 1) ph)) (sk (kdU (j + 1) ph))) := fun nq => by
            rw [HIT.out]
            exact (S.out.k0 ((Kept.refl _ _).drewN nq)).set 0 (.int .i64 (j : Int)) rfl ⟨rfl, rfl, rfl, rfl, rfl, own_none _ _ _ _, rfl, own_none _ _ _ _⟩
          clear hKJ hq
          have d0 := cell_blk S.out.b3 0 (v := .int .i64 (kdU j ph : Int)) rfl
          have f0 := soft_blk S.out.b3 0
          go_upto_region 6 with fail
          go_quiet (fail)
          go_wp2_with fail
          go_roundw
          case rel => exact ⟨j + 1, by go_num, by omega, by omega, N.out _⟩
          case measure => simp [intOf] <;> omega
        · have eq1 : (P0.toList == KJ.toList) = false := by rw [eq_bytesE]; exact decide_eq_false hq
          have eq2 : decide (P0 = KJ) = false := decide_eq_false hq
          have N : Hid (LO w wo (some ⟨g, 0, none⟩) k c ps (xk (kdU (j + 1) ph)) (sk (kdU (j + 1) ph))) := by
            rw [kdU_miss j1 hj (fun z => hq (by rw [← HP0.out, ← hKJ, z]))]
            exact S.out
          clear hKJ hq
          go_upto_region 6 with fail
          go_quiet (fail)
          go_wp2_with fail
          go_roundw
          case rel => exact ⟨j + 1, by go_num, by omega, by omega, N.out.k0 ((Kept.refl _ _).drewN _)⟩
          case measure => simp [intOf] <;> omega
      · have ji : ¬ (j : Int) ≤ 16 := by omega
        have N : Hid (LO w wo (some ⟨g, 0, none⟩) k c ps (xk (kindL ph)) (sk (kindL ph))) := by
          have e : j = 17 := by omega
          have q := S.out
          rw [e, kdU_all] at q
          exact q
        clear S
        go_wp2_with fail
        go_meet
        exact N
  case rest =>
  have S2 : Hid (LO w wc (some ⟨g, 0, none⟩) k c ps (xk (kindL ph)) (sk (kindL ph))) := hcut
  clear hcut S1
  obtain ⟨kd, hkd⟩ : ∃ kd, kindL ph = kd := ⟨_, rfl⟩
  have HKD : Hid (kindL ph = kd ∧ kd < 17) := ⟨hkd, by rw [← hkd]; exact kindL_lt ph⟩
  have kd17 : kd < 17 := HKD.out.2
  have k33 : k ≤ 33554433 := by
    have h1 := prt_len 32 t.data.toList
    have h2 : t.data.toList.length = t.size := Array.length_toList
    have h3 := HM.out.2.2
    rw [HM.out.2.1, S2.out.lx.len] at h1
    omega
  rw [hkd] at S2
  clear hkd LC0
  have KIk : KI (kd : Int) := ⟨by omega, by omega⟩
  obtain ⟨hA, ha⟩ : ∃ h, lsA kd = h := ⟨_, rfl⟩
  obtain ⟨hB, hb⟩ : ∃ h, lsB kd = h := ⟨_, rfl⟩
  obtain ⟨hY, hy⟩ : ∃ h, lsK kd = h := ⟨_, rfl⟩
  obtain ⟨hV, hv⟩ : ∃ h, lsV kd = h := ⟨_, rfl⟩
  obtain ⟨hL, hl⟩ : ∃ h, lsL kd = h := ⟨_, rfl⟩
  have C39 : Hid (∀ V, Calls Tryd.prog 39 #[.int .i64 (kd : Int)] V fun o w' => o = .returned (.bool hA) ∧ w' = V) := fun V => by rw [← ha]; exact h39 _ KIk V
  have C41 : Hid (∀ V, Calls Tryd.prog 41 #[.int .i64 (kd : Int)] V fun o w' => o = .returned (.bool hB) ∧ w' = V) := fun V => by rw [← hb]; exact h41 _ KIk V
  have C42 : Hid (∀ V, Calls Tryd.prog 42 #[.int .i64 (kd : Int)] V fun o w' => o = .returned (.bool hY) ∧ w' = V) := fun V => by rw [← hy]; exact h42 _ KIk V
  have C44 : Hid (∀ V, Calls Tryd.prog 44 #[.int .i64 (kd : Int)] V fun o w' => o = .returned (.bool hL) ∧ w' = V) := fun V => by rw [← hl]; exact h44 _ KIk V
  have HL : Hid (lsA kd = hA ∧ lsB kd = hB ∧ lsK kd = hY ∧ lsV kd = hV ∧ lsL kd = hL) := ⟨ha, hb, hy, hv, hl⟩
  have PZ : Hid (∀ (i : Nat) (u : List UInt8), ps[i]? = some u → u.length ≤ 33554432) := fun i u hu => by
    have h1 := prt_mem 32 t.data.toList u (by rw [HM.out.2.1]; exact List.mem_of_getElem? hu)
    have h2 : t.data.toList.length = t.size := Array.length_toList
    have h3 := HM.out.2.2
    omega
  have C47 : Hid (∀ (u : List UInt8) (V : World), u.length ≤ 33554432 → Calls Tryd.prog 47 #[.string (ofL u)] V fun o w' => o = .returned (.int .i64 (numV u)) ∧ w' = V) := fun u V hu => hRefNum (t := ofL u) (by rw [ofL_sizeE]; exact hu)
  have C60 : Hid (∀ (u : List UInt8) (V : World), u.length ≤ 33554432 → Calls Tryd.prog 60 #[.string (ofL u)] V fun o w' => ∃ (p : Option Addr) (k c : Nat), o = .returned (.slice p k c) ∧ TX V w' p k c (hexR u)) := fun u V hu => hRefBytes (t := ofL u) (by rw [ofL_sizeE]; exact hu)
  have PK : Hid (ps.length = k) := S2.out.lx.len
  clear ha hb hy hv hl KIk
  refine hK2 _ _ ?_
  refine wp_seq_k fun K3 hK3 => ?_
  obtain ⟨w2, hw2⟩ : ∃ w2, w2 = wc := ⟨_, rfl⟩
  rw [← hw2] at S2 ⊢
  clear hw2 wc
  go_cut [6] from 9 (fun u6 wc => u6 = .int .i64 1 ∧ wc = w2)
  case first =>
    go_wp2_with fail
    go_meet
    exact ⟨rfl, rfl⟩
  case rest =>
  obtain ⟨rfl, hwc⟩ := hcut
  subst hwc
  refine hK3 _ _ ?_
  refine wp_seq_k fun K4 hK4 => ?_
  go_cut [6] from 22 (fun u6 w5 => ∃ (i1 : Nat) (a : Int) (oa : Option (List UInt8)), u6 = .int .i64 (i1 : Int) ∧ 1 ≤ i1 ∧ i1 ≤ k ∧ Hid (tkW hA (ps.drop 1) = (oa, ps.drop i1) ∧ a = (oa.map numV).getD 0 ∧ KI a ∧ LO w w5 (some ⟨g, 0, none⟩) k c ps ⟨(kd : Int), a, 0, ⟨#[]⟩, none, 0, 0, none, 0, 0⟩ ⟨(kd : Int), a, 0, [], [], []⟩))
  case first =>
    have d0 := cell_blk S2.out.b3 0 (v := .int .i64 (kd : Int)) rfl
    go_wp2_with fail
    refine (C39.out _).mono ?_
    rintro o w5 ⟨rfl, hw⟩
    subst hw
    cases hA with
    | false =>
      go_wp2_with fail
      go_meet
      exact ⟨1, 0, none, by first | rfl | simp, by omega, by omega, tk_no rfl, rfl, ki0, S2.out⟩
    | true =>
      by_cases hlt : 1 < k
      · have lti : (1 : Int) < (k : Int) := by omega
        obtain ⟨u, hu⟩ : ∃ u, ps[1]? = some u := ⟨_, List.getElem?_eq_getElem (by rw [PK.out]; exact hlt)⟩
        have gc := LC.out _ _ _ S2.out _ _ hu
        have CN : Hid (∀ V, Calls Tryd.prog 47 #[.string (ofL u)] V fun o w' => o = .returned (.int .i64 (numV u)) ∧ w' = V) := fun V => C47.out u V (PZ.out _ _ hu)
        obtain ⟨U, hU⟩ : ∃ U, ofL u = U := ⟨_, rfl⟩
        rw [hU] at gc CN
        obtain ⟨z, hz⟩ : ∃ z, numV u = z := ⟨_, rfl⟩
        rw [hz] at CN
        have N : Hid (tkW true (ps.drop 1) = (some u, ps.drop (1 + 1)) ∧ z = ((some u).map numV).getD 0 ∧ KI z) := ⟨by rw [drop_at hu]; rfl, hz.symm, by rw [← hz]; exact numV_ki u⟩
        clear hu hU hz
        have d1 := cell_blk S2.out.b3 1 (v := .int .i64 0) rfl
        have f1 := soft_blk S2.out.b3 1
        go_wp2_with fail
        refine (CN.out _).mono ?_
        rintro o w6 ⟨rfl, hw⟩
        subst hw
        go_wp2_with fail
        go_meet
        exact ⟨1 + 1, z, some u, by first | rfl | go_num | simp, by omega, by omega, N.out.1, N.out.2.1, N.out.2.2, S2.out.set 1 (.int .i64 z) rfl ⟨rfl, rfl, rfl, rfl, rfl, own_none _ _ _ _, rfl, own_none _ _ _ _⟩⟩
      · have lti : ¬ (1 : Int) < (k : Int) := by omega
        have N : Hid (tkW true (ps.drop 1) = (none, ps.drop 1)) := by
          show tkW true (ps.drop 1) = (none, ps.drop 1)
          rw [List.drop_eq_nil_of_le (by rw [PK.out]; omega)]
          exact tk_nil
        go_wp2_with fail
        go_meet
        exact ⟨1, 0, none, by first | rfl | simp, by omega, by omega, N.out, rfl, ki0, S2.out⟩
  case rest =>
  obtain ⟨i1, a, oa, rfl, i1l, i1k, S3⟩ := hcut
  refine hK4 _ _ ?_
  refine wp_seq_k fun K5 hK5 => ?_
  go_cut [6] from 39 (fun u6 w5 => ∃ (i2 : Nat) (b : Int) (ob : Option (List UInt8)), u6 = .int .i64 (i2 : Int) ∧ 1 ≤ i2 ∧ i2 ≤ k ∧ Hid (tkW hB (ps.drop i1) = (ob, ps.drop i2) ∧ b = (ob.map numV).getD 0 ∧ KI b ∧ LO w w5 (some ⟨g, 0, none⟩) k c ps ⟨(kd : Int), a, b, ⟨#[]⟩, none, 0, 0, none, 0, 0⟩ ⟨(kd : Int), a, b, [], [], []⟩))
  case first =>
    have d0 := cell_blk S3.out.2.2.2.b3 0 (v := .int .i64 (kd : Int)) rfl
    go_wp2_with fail
    refine (C41.out _).mono ?_
    rintro o w5 ⟨rfl, hw⟩
    subst hw
    cases hB with
    | false =>
      go_wp2_with fail
      go_meet
      exact ⟨i1, 0, none, by first | rfl | simp, by omega, by omega, tk_no rfl, rfl, ki0, S3.out.2.2.2⟩
    | true =>
      by_cases hlt : i1 < k
      · have lti : (i1 : Int) < (k : Int) := by omega
        obtain ⟨u, hu⟩ : ∃ u, ps[i1]? = some u := ⟨_, List.getElem?_eq_getElem (by rw [PK.out]; exact hlt)⟩
        have gc := LC.out _ _ _ S3.out.2.2.2 _ _ hu
        have CN : Hid (∀ V, Calls Tryd.prog 47 #[.string (ofL u)] V fun o w' => o = .returned (.int .i64 (numV u)) ∧ w' = V) := fun V => C47.out u V (PZ.out _ _ hu)
        obtain ⟨U, hU⟩ : ∃ U, ofL u = U := ⟨_, rfl⟩
        rw [hU] at gc CN
        obtain ⟨z, hz⟩ : ∃ z, numV u = z := ⟨_, rfl⟩
        rw [hz] at CN
        have N : Hid (tkW true (ps.drop i1) = (some u, ps.drop (i1 + 1)) ∧ z = ((some u).map numV).getD 0 ∧ KI z) := ⟨by rw [drop_at hu]; rfl, hz.symm, by rw [← hz]; exact numV_ki u⟩
        clear hu hU hz
        have d1 := cell_blk S3.out.2.2.2.b3 2 (v := .int .i64 0) rfl
        have f1 := soft_blk S3.out.2.2.2.b3 2
        go_wp2_with fail
        refine (CN.out _).mono ?_
        rintro o w6 ⟨rfl, hw⟩
        subst hw
        go_wp2_with fail
        go_meet
        exact ⟨i1 + 1, z, some u, by first | rfl | go_num | simp, by omega, by omega, N.out.1, N.out.2.1, N.out.2.2, S3.out.2.2.2.set 2 (.int .i64 z) rfl ⟨rfl, rfl, rfl, rfl, rfl, own_none _ _ _ _, rfl, own_none _ _ _ _⟩⟩
      · have lti : ¬ (i1 : Int) < (k : Int) := by omega
        have N : Hid (tkW true (ps.drop i1) = (none, ps.drop i1)) := by
          show tkW true (ps.drop i1) = (none, ps.drop i1)
          rw [List.drop_eq_nil_of_le (by rw [PK.out]; omega)]
          exact tk_nil
        go_wp2_with fail
        go_meet
        exact ⟨i1, 0, none, by first | rfl | simp, by omega, by omega, N.out, rfl, ki0, S3.out.2.2.2⟩
  case rest =>
  obtain ⟨i2, b, ob, rfl, i2l, i2k, S4⟩ := hcut
  refine hK5 _ _ ?_
  refine wp_seq_k fun K6 hK6 => ?_
  go_cut [6] from 56 (fun u6 w5 => ∃ (i3 : Nat) (ky : List UInt8) (ok : Option (List UInt8)), u6 = .int .i64 (i3 : Int) ∧ 1 ≤ i3 ∧ i3 ≤ k ∧ Hid (tkW hY (ps.drop i2) = (ok, ps.drop i3) ∧ ky = (ok.map hexR).getD [] ∧ LO w w5 (some ⟨g, 0, none⟩) k c ps ⟨(kd : Int), a, b, ofL ky, none, 0, 0, none, 0, 0⟩ ⟨(kd : Int), a, b, ky, [], []⟩))
  case first =>
    have d0 := cell_blk S4.out.2.2.2.b3 0 (v := .int .i64 (kd : Int)) rfl
    go_wp2_with fail
    refine (C42.out _).mono ?_
    rintro o w5 ⟨rfl, hw⟩
    subst hw
    cases hY with
    | false =>
      go_wp2_with fail
      go_meet
      exact ⟨i2, [], none, by first | rfl | simp, by omega, by omega, tk_no rfl, rfl, S4.out.2.2.2⟩
    | true =>
      by_cases hlt : i2 < k
      · have lti : (i2 : Int) < (k : Int) := by omega
        obtain ⟨u, hu⟩ : ∃ u, ps[i2]? = some u := ⟨_, List.getElem?_eq_getElem (by rw [PK.out]; exact hlt)⟩
        have gc := LC.out _ _ _ S4.out.2.2.2 _ _ hu
        have CN : Hid (∀ V, Calls Tryd.prog 60 #[.string (ofL u)] V fun o w' => ∃ (p : Option Addr) (k c : Nat), o = .returned (.slice p k c) ∧ TX V w' p k c (hexR u)) := fun V => C60.out u V (PZ.out _ _ hu)
        obtain ⟨U, hU⟩ : ∃ U, ofL u = U := ⟨_, rfl⟩
        rw [hU] at gc CN
        have N : Hid (tkW true (ps.drop i2) = (some u, ps.drop (i2 + 1))) := by
          show tkW true (ps.drop i2) = (some u, ps.drop (i2 + 1))
          rw [drop_at hu]
          rfl
        clear hu hU
        go_wp2_with fail
        refine (CN.out _).mono ?_
        rintro o w6 ⟨p6, k6, c6, rfl, T6⟩
        have S6 : Hid (LO w w6 (some ⟨g, 0, none⟩) k c ps ⟨(kd : Int), a, b, ⟨#[]⟩, none, 0, 0, none, 0, 0⟩ ⟨(kd : Int), a, b, [], [], []⟩) := S4.out.2.2.2.k0 T6.kept
        have TS := T6.string
        obtain ⟨KK, hKK⟩ : ∃ K, ofL (hexR u) = K := ⟨_, rfl⟩
        rw [hKK] at TS
        have HK : Hid (ofL (hexR u) = KK) := hKK
        have d1 := cell_blk S6.out.b3 3 (v := .string ⟨#[]⟩) rfl
        have f1 := soft_blk S6.out.b3 3
        clear T6 hKK gc CN d0
        go_wp2_with fail
        go_meet
        exact ⟨i2 + 1, hexR u, some u, by first | rfl | go_num | simp, by omega, by omega, N.out, rfl, S6.out.set 3 (.string KK) (by rw [HK.out]; rfl) ⟨rfl, rfl, rfl, rfl, rfl, own_none _ _ _ _, rfl, own_none _ _ _ _⟩⟩
      · have lti : ¬ (i2 : Int) < (k : Int) := by omega
        have N : Hid (tkW true (ps.drop i2) = (none, ps.drop i2)) := by
          show tkW true (ps.drop i2) = (none, ps.drop i2)
          rw [List.drop_eq_nil_of_le (by rw [PK.out]; omega)]
          exact tk_nil
        go_wp2_with fail
        go_meet
        exact ⟨i2, [], none, by first | rfl | simp, by omega, by omega, N.out, rfl, S4.out.2.2.2⟩
  case rest =>
  obtain ⟨i3, ky, ok, rfl, i3l, i3k, S5⟩ := hcut
  refine hK6 _ _ ?_
  refine wp_seq_k fun K7 hK7 => ?_
  go_cut [6] from 74 (fun u6 w5 => ∃ (i4 : Nat) (vl : List UInt8) (ov : Option (List UInt8)) (va : Option Addr) (vn vc : Nat), u6 = .int .i64 (i4 : Int) ∧ 1 ≤ i4 ∧ i4 ≤ k ∧ Hid (tkW hV (ps.drop i3) = (ov, ps.drop i4) ∧ vl = (ov.map hexR).getD [] ∧ LO w w5 (some ⟨g, 0, none⟩) k c ps ⟨(kd : Int), a, b, ofL ky, va, vn, vc, none, 0, 0⟩ ⟨(kd : Int), a, b, ky, vl, []⟩))
  case first =>
    have d0 := cell_blk S5.out.2.2.b3 0 (v := .int .i64 (kd : Int)) rfl
    by_cases h1 : kd = 1
    · have kb : ((kd : Int) == 1) = true := by rw [h1]; rfl
      have eV : hV = true := by rw [← HL.out.2.2.2.1, h1]; rfl
      by_cases hlt : i3 < k
      · have lti : (i3 : Int) < (k : Int) := by omega
        obtain ⟨u, hu⟩ : ∃ u, ps[i3]? = some u := ⟨_, List.getElem?_eq_getElem (by rw [PK.out]; exact hlt)⟩
        have gc := LC.out _ _ _ S5.out.2.2 _ _ hu
        have CN : Hid (∀ V, Calls Tryd.prog 60 #[.string (ofL u)] V fun o w' => ∃ (p : Option Addr) (k c : Nat), o = .returned (.slice p k c) ∧ TX V w' p k c (hexR u)) := fun V => C60.out u V (PZ.out _ _ hu)
        obtain ⟨U, hU⟩ : ∃ U, ofL u = U := ⟨_, rfl⟩
        rw [hU] at gc CN
        have N : Hid (tkW hV (ps.drop i3) = (some u, ps.drop (i3 + 1))) := by
          show tkW hV (ps.drop i3) = (some u, ps.drop (i3 + 1))
          rw [drop_at hu]
          exact tk_yes eV
        clear hu hU eV h1
        go_wp2_with fail
        refine (CN.out _).mono ?_
        rintro o w6 ⟨p6, k6, c6, rfl, T6⟩
        have S6 : Hid (LO w w6 (some ⟨g, 0, none⟩) k c ps ⟨(kd : Int), a, b, ofL ky, none, 0, 0, none, 0, 0⟩ ⟨(kd : Int), a, b, ky, [], []⟩ ∧ TX wc w6 p6 k6 c6 (hexR u)) := ⟨S5.out.2.2.k0 T6.kept, T6⟩
        have d1 := cell_blk S6.out.1.b3 4 (v := .slice none 0 0) rfl
        have f1 := soft_blk S6.out.1.b3 4
        clear T6 gc CN d0
        go_wp2_with fail
        go_meet
        exact ⟨i3 + 1, hexR u, some u, p6, k6, c6, by first | rfl | go_num | simp, by omega, by omega, N.out, rfl, S6.out.1.set 4 (.slice p6 k6 c6) rfl ⟨rfl, rfl, rfl, rfl, S6.out.2.len, owns_mono S6.out.2.row S5.out.2.2.lx.kept.size, rfl, own_none _ _ _ _⟩⟩
      · have lti : ¬ (i3 : Int) < (k : Int) := by omega
        have N : Hid (tkW hV (ps.drop i3) = (none, ps.drop i3)) := by
          show tkW hV (ps.drop i3) = (none, ps.drop i3)
          rw [List.drop_eq_nil_of_le (by rw [PK.out]; omega)]
          exact tk_nil
        clear eV h1
        go_wp2_with fail
        go_meet
        exact ⟨i3, [], none, none, 0, 0, by first | rfl | simp, by omega, by omega, N.out, rfl, S5.out.2.2⟩
    · have kb : ((kd : Int) == 1) = false := by rw [beq_eq_false_iff_ne]; omega
      have N : Hid (tkW hV (ps.drop i3) = (none, ps.drop i3)) := tk_no (by
        rw [← HL.out.2.2.2.1]
        exact decide_eq_false (by omega))
      clear h1
      go_wp2_with fail
      go_meet
      exact ⟨i3, [], none, none, 0, 0, by first | rfl | simp, by omega, by omega, N.out, rfl, S5.out.2.2⟩
  case rest =>
  obtain ⟨i4, vl, ov, va, vn, vc, rfl, i4l, i4k, S6⟩ := hcut
  refine hK7 _ _ ?_
  refine wp_seq_k fun K8 hK8 => ?_
  go_cut [6] from 91 (fun _ w5 => ∃ (x : Sm) (zs : List Int), Hid (zs = (if hL = true then (ps.drop i4).map numV else []) ∧ LO w w5 (some ⟨g, 0, none⟩) k c ps x ⟨(kd : Int), a, b, ky, vl, zs⟩))
  case first =>
    go_upto_region 21 with fail
    go_loopw [6] (fun u6 wr => ∃ (i : Nat) (la : Option Addr) (ln lc : Nat) (zs : List Int), u6 = .int .i64 (i : Int) ∧ i ≤ k ∧ ln ≤ i ∧ Hid (LO w wr (some ⟨g, 0, none⟩) k c ps ⟨(kd : Int), a, b, ofL ky, va, vn, vc, la, ln, lc⟩ ⟨(kd : Int), a, b, ky, vl, zs⟩ ∧ zs ++ (if hL = true then (ps.drop i).map numV else []) = (if hL = true then (ps.drop i4).map numV else []))) (fun u6 _ => k - (intOf u6).toNat)
    case atStart => exact ⟨i4, none, 0, 0, [], rfl, by omega, by omega, S6.out.2.2, rfl⟩
    case round =>
      obtain ⟨i, la, ln, lc, zs, rfl, hi, hln, S⟩ := hrel
      obtain ⟨wo, hwo⟩ : ∃ wo, wo = wr := ⟨_, rfl⟩
      rw [← hwo] at S ⊢
      clear hwo
      by_cases hlt : i < k
      · have lti : (i : Int) < (k : Int) := by omega
        have d0 := cell_blk S.out.1.b3 0 (v := .int .i64 (kd : Int)) rfl
        go_wp2_with fail
        refine (C44.out _).mono ?_
        rintro o w5 ⟨rfl, hw⟩
        subst hw
        cases hL with
        | false =>
          have N : Hid (zs = (if false = true then (ps.drop i4).map numV else []) ∧ LO w w5 (some ⟨g, 0, none⟩) k c ps ⟨(kd : Int), a, b, ofL ky, va, vn, vc, la, ln, lc⟩ ⟨(kd : Int), a, b, ky, vl, zs⟩) := ⟨by have q := S.out.2; simpa using q, S.out.1⟩
          clear S
          go_wp2_with fail
          go_meet
          exact ⟨⟨(kd : Int), a, b, ofL ky, va, vn, vc, la, ln, lc⟩, zs, N⟩
        | true =>
          obtain ⟨u, hu⟩ : ∃ u, ps[i]? = some u := ⟨_, List.getElem?_eq_getElem (by rw [PK.out]; exact hlt)⟩
          have CG0 : Hid (∀ (V : World) (x : Sm) (s : St), LO w V (some ⟨g, 0, none⟩) k c ps x s → V.cell? ⟨g, i, none⟩ = some (.string (ofL u))) := fun V x s h => LC.out V x s h i u hu
          have CN : Hid (∀ V, Calls Tryd.prog 47 #[.string (ofL u)] V fun o w' => o = .returned (.int .i64 (numV u)) ∧ w' = V) := fun V => C47.out u V (PZ.out _ _ hu)
          obtain ⟨U, hU⟩ : ∃ U, ofL u = U := ⟨_, rfl⟩
          have CG : Hid (∀ (V : World) (x : Sm) (s : St), LO w V (some ⟨g, 0, none⟩) k c ps x s → V.cell? ⟨g, i, none⟩ = some (.string U)) := fun V x s h => by rw [← hU]; exact CG0.out V x s h
          rw [hU] at CN
          obtain ⟨z, hz⟩ : ∃ z, numV u = z := ⟨_, rfl⟩
          rw [hz] at CN
          have ZE : Hid ((ps.drop i).map numV = z :: (ps.drop (i + 1)).map numV) := by
            show (ps.drop i).map numV = z :: (ps.drop (i + 1)).map numV
            rw [drop_at hu, List.map_cons, hz]
          have CX : Hid (∀ (V : World), LX w V (some ⟨g, 0, none⟩) k c ps → V.cell? ⟨g, i, none⟩ = some (.string U)) := fun V h => by
            obtain ⟨g', e', hc⟩ := h.at hu
            obtain rfl : g = g' := by simpa using e'
            rw [hU] at hc
            exact hc
          clear hu hU hz CG0 d0
          go_upto_region 22 with fail
          have WOW : Hid (LO w w5.drew (some ⟨g, 0, none⟩) k c ps ⟨(kd : Int), a, b, ofL ky, va, vn, vc, la, ln, lc⟩ ⟨(kd : Int), a, b, ky, vl, zs⟩) := S.out.1.k0 ((Kept.refl _ _).drew)
          obtain ⟨wo, hwo⟩ : ∃ wo, wo = w5 := ⟨_, rfl⟩
          rw [← hwo] at S WOW ⊢
          clear hwo
          have A0 : Hid (LO w wo.drew (some ⟨g, 0, none⟩) k c ps ⟨(kd : Int), a, b, ofL ky, va, vn, vc, la, ln, lc⟩ ⟨(kd : Int), a, b, ky, vl, zs⟩) := WOW
          have A1 : Hid (LO w (wo.drew.alloc (.cells #[.int .i64 z] 3)) (some ⟨g, 0, none⟩) k c ps ⟨(kd : Int), a, b, ofL ky, va, vn, vc, la, ln, lc⟩ ⟨(kd : Int), a, b, ky, vl, zs⟩) := A0.out.k0 ((Kept.refl _ _).alloc _)
          have SR : Hid (Src Tryd.prog 1 36 (.slice (some ⟨wo.drew.heap.size, 0, none⟩) 1 1) 1 (intC [z]) (wo.drew.alloc (.cells #[.int .i64 z] 3))) := src_int wo.drew z
          have LN : Hid (ln + 1 ≤ maxLen ∧ ((ln + 1) + (ln + 1) / 4 + 192) * 8 ≤ 281474976710656) := by unfold maxLen; exact ⟨by omega, by omega⟩
          have d5 := cell_blk A0.out.b3 5 (v := .slice la ln lc) rfl
          have e5 := cell_blk A1.out.b3 5 (v := .slice la ln lc) rfl
          have e6 := cell_blk (S.out.1.k0 ((Kept.refl _ _).alloc (.cells #[.int .i64 z] 3))).b3 5 (v := .slice la ln lc) rfl
          refine wp_region_held_drew (S := (fun V => V.cell? ⟨g, i, none⟩ = some (.string U))) (by kernel_rfl) ?_ (fun hHeld => ?_)
          · exact CG.out _ _ _ A0.out
          refine wpAnyH_take (i := 0) (oi := { dst := some 100, op := Go.Op.fieldAddr 38 (Go.Operand.tmp 3) 5, type := 0, pos := "ref.go:185", after := #[], guard := none }) (v := .pointer (some ⟨w.heap.size + 1, 5, none⟩)) rfl (by kernel_rfl) (by kernel_rfl) (by kernel_rfl) (fun _ _ _ h => h) (Or.inl ⟨by rfl, ?_⟩) (by assumption) ?_
          · intro w9 hSw
            (try dsimp only at hSw)
            go_simp
          (try simp only [Act.put, List.setIfInBounds_toArray, List.set_cons_zero, List.set_cons_succ])
          refine wpAnyH_take (i := 2) (oi := { dst := some 102, op := Go.Op.move (Go.Operand.tmp 4), type := 43, pos := "ref.go:185", after := #[], guard := none }) (v := .slice (some ⟨g, 0, none⟩) k c) rfl (by kernel_rfl) (by kernel_rfl) (by kernel_rfl) (fun _ _ _ h => h) (Or.inl ⟨by rfl, ?_⟩) (by assumption) ?_
          · intro w9 hSw
            (try dsimp only at hSw)
            go_simp
          (try simp only [Act.put, List.setIfInBounds_toArray, List.set_cons_zero, List.set_cons_succ])
          refine wpAnyH_take (i := 3) (oi := { dst := some 103, op := Go.Op.move (Go.Operand.tmp 6), type := 3, pos := "ref.go:185", after := #[], guard := none }) (v := .int .i64 (i : Int)) rfl (by kernel_rfl) (by kernel_rfl) (by kernel_rfl) (fun _ _ _ h => h) (Or.inl ⟨by rfl, ?_⟩) (by assumption) ?_
          · intro w9 hSw
            (try dsimp only at hSw)
            go_simp
          (try simp only [Act.put, List.setIfInBounds_toArray, List.set_cons_zero, List.set_cons_succ])
          refine wpAnyH_take (i := 4) (oi := { dst := some 104, op := Go.Op.indexAddr 43 (Go.Operand.tmp 102) (Go.Operand.tmp 103), type := 0, pos := "ref.go:185", after := #[{ on := 2, ground := Go.Ground.data }, { on := 3, ground := Go.Ground.data }], guard := none }) (v := .pointer (some ⟨g, i, none⟩)) rfl (by kernel_rfl) (by kernel_rfl) (by kernel_rfl) (fun _ _ _ h => h) (Or.inl ⟨by rfl, ?_⟩) (by assumption) ?_
          · intro w9 hSw
            (try dsimp only at hSw)
            go_simp
          (try simp only [Act.put, List.setIfInBounds_toArray, List.set_cons_zero, List.set_cons_succ])
          refine wpAnyH_take (i := 5) (oi := { dst := some 105, op := Go.Op.load 9 (Go.Operand.tmp 104), type := 9, pos := "ref.go:185", after := #[{ on := 4, ground := Go.Ground.data }], guard := none }) (v := .string U) rfl (by kernel_rfl) (by kernel_rfl) (by kernel_rfl) (fun _ _ _ h => h) (Or.inl ⟨by rfl, ?_⟩) (by assumption) ?_
          · intro w9 hSw
            (try dsimp only at hSw)
            go_simp
          (try simp only [Act.put, List.setIfInBounds_toArray, List.set_cons_zero, List.set_cons_succ])
          refine wpAnyH_ready (rs := [1, 6]) (by kernel_rfl) (by simp) ?_
          refine (AllReadyH.cons (o := { dst := some 101, op := Go.Op.load 36 (Go.Operand.tmp 100), type := 36, pos := "ref.go:185", after := #[{ on := 0, ground := Go.Ground.data }], guard := none }) rfl (fun K hK => ?_) (AllReadyH.cons (o := { dst := some 106, op := Go.Op.call { callee := Go.Callee.value (Go.Operand.func 47), args := #[Go.Operand.tmp 105], argTypes := #[9] }, type := 3, pos := "ref.go:185", after := #[{ on := 5, ground := Go.Ground.data }], guard := none }) rfl (fun K hK => ?_) AllReadyH.nil))
          · go_simp
            refine hK.out _ _ ?_ (fun hHeld => ?_)
            · exact CG.out _ _ _ A0.out
            clear hK K
            (try simp only [Act.put, List.setIfInBounds_toArray, List.set_cons_zero, List.set_cons_succ])
            refine wpAnyH_ready (rs := [6]) (by kernel_rfl) (by simp) ?_
            refine (AllReadyH.cons (o := { dst := some 106, op := Go.Op.call { callee := Go.Callee.value (Go.Operand.func 47), args := #[Go.Operand.tmp 105], argTypes := #[9] }, type := 3, pos := "ref.go:185", after := #[{ on := 5, ground := Go.Ground.data }], guard := none }) rfl (fun K hK => ?_) AllReadyH.nil)
            go_simp
            refine (CN.out _).mono ?_
            rintro o w6 ⟨rfl, hw⟩
            subst hw
            refine hK.out _ _ ?_ (fun hHeld => ?_)
            · exact CG.out _ _ _ A0.out
            clear hK K
            (try simp only [Act.put, List.setIfInBounds_toArray, List.set_cons_zero, List.set_cons_succ])
            refine wpAnyH_ready (rs := [7]) (by kernel_rfl) (by simp) ?_
            refine (AllReadyH.cons (o := { dst := some 107, op := Go.Op.buildSlice 36 1 #[(0, Go.Operand.tmp 106)], type := 36, pos := "ref.go:185", after := #[{ on := 6, ground := Go.Ground.data }], guard := none }) rfl (fun K hK => ?_) AllReadyH.nil)
            go_simp
            refine hK.out _ _ ?_ (fun hHeld => ?_)
            · exact CG.out _ _ _ A1.out
            clear hK K
            (try simp only [Act.put, List.setIfInBounds_toArray, List.set_cons_zero, List.set_cons_succ])
            refine wpAnyH_ready (rs := [8]) (by kernel_rfl) (by simp) ?_
            refine (AllReadyH.cons (o := { dst := some 108, op := Go.Op.call { callee := Go.Callee.builtin Go.Builtin.append, args := #[Go.Operand.tmp 101, Go.Operand.tmp 107], argTypes := #[36, 36] }, type := 36, pos := "ref.go:185", after := #[{ on := 1, ground := Go.Ground.data }, { on := 7, ground := Go.Ground.data }, { on := 6, ground := Go.Ground.chain }], guard := none }) rfl (fun K hK => ?_) AllReadyH.nil)
            refine step_append_all _ rfl (.tmp 101) (.tmp 107) 36 3 36 _ 1 8 rfl Tryd.underlying36 Tryd.info3 rfl w.heap.size (.slice la ln lc) ln (intC zs) rfl A1.out.so.lr _ 1 (intC [z]) rfl SR.out LN.out.1 LN.out.2 A1.out.lx.kept.size ?_
            intro p9 c9 w9 ho hg hn9
            have A9 := A1.out.app ho.out hg.out
            have B9 : Hid (w9.heap[w.heap.size + 1]? = some (.cells #[.int .i64 (kd : Int), .int .i64 a, .int .i64 b, .string (ofL ky), .slice va vn vc, .slice la ln lc] 38 (0, 0)) ∧ LO w (w9.setCell ⟨w.heap.size + 1, 5, none⟩ (.slice p9 (ln + 1) c9)) (some ⟨g, 0, none⟩) k c ps ⟨(kd : Int), a, b, ofL ky, va, vn, vc, p9, ln + 1, c9⟩ ⟨(kd : Int), a, b, ky, vl, zs ++ [z]⟩ ∧ LX w w9 (some ⟨g, 0, none⟩) k c ps) := ⟨A9.2.1, A9.1, A9.2.2⟩
            have q5 := cell_blk B9.out.1 5 (v := .slice la ln lc) rfl
            have r5 := soft_blk B9.out.1 5
            refine hK.out _ _ ?_ (fun hHeld => ?_)
            · exact CX.out _ B9.out.2.2
            clear hK K
            (try simp only [Act.put, List.setIfInBounds_toArray, List.set_cons_zero, List.set_cons_succ])
            clear ho hg hn9
            refine wpAnyH_take (i := 9) (oi := { dst := some 109, op := Go.Op.fieldAddr 38 (Go.Operand.tmp 3) 5, type := 0, pos := "ref.go:185", after := #[{ on := 0, ground := Go.Ground.phase }, { on := 1, ground := Go.Ground.phase }, { on := 2, ground := Go.Ground.phase }, { on := 3, ground := Go.Ground.phase }, { on := 4, ground := Go.Ground.phase }, { on := 5, ground := Go.Ground.phase }, { on := 6, ground := Go.Ground.phase }, { on := 7, ground := Go.Ground.phase }, { on := 8, ground := Go.Ground.phase }], guard := none }) (v := .pointer (some ⟨w.heap.size + 1, 5, none⟩)) rfl (by kernel_rfl) (by kernel_rfl) (by kernel_rfl) (fun _ _ _ h => h) (Or.inl ⟨by rfl, ?_⟩) (by assumption) ?_
            · intro w9 hSw
              (try dsimp only at hSw)
              go_simp
            (try simp only [Act.put, List.setIfInBounds_toArray, List.set_cons_zero, List.set_cons_succ])
            refine wpAnyH_ready (rs := [10]) (by kernel_rfl) (by simp) ?_
            refine (AllReadyH.cons (o := { dst := none, op := Go.Op.store 36 (Go.Operand.tmp 109) (Go.Operand.tmp 108), type := 0, pos := "ref.go:185", after := #[{ on := 9, ground := Go.Ground.data }, { on := 8, ground := Go.Ground.data }, { on := 8, ground := Go.Ground.chain }, { on := 0, ground := Go.Ground.phase }, { on := 1, ground := Go.Ground.phase }, { on := 2, ground := Go.Ground.phase }, { on := 3, ground := Go.Ground.phase }, { on := 4, ground := Go.Ground.phase }, { on := 5, ground := Go.Ground.phase }, { on := 6, ground := Go.Ground.phase }, { on := 7, ground := Go.Ground.phase }, { on := 8, ground := Go.Ground.phase }], guard := none }) rfl (fun K hK => ?_) AllReadyH.nil)
            go_simp
            refine hK.out _ _ ?_ (fun hHeld => ?_)
            · exact CG.out _ _ _ B9.out.2.1
            clear hK K
            (try simp only [Act.put])
            refine wpAnyH_done (by kernel_rfl) ?_ _
            have N : Hid (LO w (w9.setCell ⟨w.heap.size + 1, 5, none⟩ (.slice p9 (ln + 1) c9)) (some ⟨g, 0, none⟩) k c ps ⟨(kd : Int), a, b, ofL ky, va, vn, vc, p9, ln + 1, c9⟩ ⟨(kd : Int), a, b, ky, vl, zs ++ [z]⟩ ∧ zs ++ z :: (ps.drop (i + 1)).map numV = (ps.drop i4).map numV) := ⟨B9.out.2.1, by have q := S.out.2; rw [ZE.out] at q; simpa using q⟩
            clear B9 A9 S A0 A1 q5 r5
            go_wp2_with fail
            go_roundw
            case rel => exact ⟨i + 1, p9, ln + 1, c9, _, by go_num, by omega, by omega, N.out.1, by simpa using N.out.2⟩
            case measure => simp [intOf] <;> omega
          · go_simp
            refine (CN.out _).mono ?_
            rintro o w6 ⟨rfl, hw⟩
            subst hw
            refine hK.out _ _ ?_ (fun hHeld => ?_)
            · exact CG.out _ _ _ A0.out
            clear hK K
            (try simp only [Act.put, List.setIfInBounds_toArray, List.set_cons_zero, List.set_cons_succ])
            refine wpAnyH_ready (rs := [1, 7]) (by kernel_rfl) (by simp) ?_
            refine (AllReadyH.cons (o := { dst := some 101, op := Go.Op.load 36 (Go.Operand.tmp 100), type := 36, pos := "ref.go:185", after := #[{ on := 0, ground := Go.Ground.data }], guard := none }) rfl (fun K hK => ?_) (AllReadyH.cons (o := { dst := some 107, op := Go.Op.buildSlice 36 1 #[(0, Go.Operand.tmp 106)], type := 36, pos := "ref.go:185", after := #[{ on := 6, ground := Go.Ground.data }], guard := none }) rfl (fun K hK => ?_) AllReadyH.nil))
            · go_simp
              refine hK.out _ _ ?_ (fun hHeld => ?_)
              · exact CG.out _ _ _ A0.out
              clear hK K
              (try simp only [Act.put, List.setIfInBounds_toArray, List.set_cons_zero, List.set_cons_succ])
              refine wpAnyH_ready (rs := [7]) (by kernel_rfl) (by simp) ?_
              refine (AllReadyH.cons (o := { dst := some 107, op := Go.Op.buildSlice 36 1 #[(0, Go.Operand.tmp 106)], type := 36, pos := "ref.go:185", after := #[{ on := 6, ground := Go.Ground.data }], guard := none }) rfl (fun K hK => ?_) AllReadyH.nil)
              go_simp
              refine hK.out _ _ ?_ (fun hHeld => ?_)
              · exact CG.out _ _ _ A1.out
              clear hK K
              (try simp only [Act.put, List.setIfInBounds_toArray, List.set_cons_zero, List.set_cons_succ])
              refine wpAnyH_ready (rs := [8]) (by kernel_rfl) (by simp) ?_
              refine (AllReadyH.cons (o := { dst := some 108, op := Go.Op.call { callee := Go.Callee.builtin Go.Builtin.append, args := #[Go.Operand.tmp 101, Go.Operand.tmp 107], argTypes := #[36, 36] }, type := 36, pos := "ref.go:185", after := #[{ on := 1, ground := Go.Ground.data }, { on := 7, ground := Go.Ground.data }, { on := 6, ground := Go.Ground.chain }], guard := none }) rfl (fun K hK => ?_) AllReadyH.nil)
              refine step_append_all _ rfl (.tmp 101) (.tmp 107) 36 3 36 _ 1 8 rfl Tryd.underlying36 Tryd.info3 rfl w.heap.size (.slice la ln lc) ln (intC zs) rfl A1.out.so.lr _ 1 (intC [z]) rfl SR.out LN.out.1 LN.out.2 A1.out.lx.kept.size ?_
              intro p9 c9 w9 ho hg hn9
              have A9 := A1.out.app ho.out hg.out
              have B9 : Hid (w9.heap[w.heap.size + 1]? = some (.cells #[.int .i64 (kd : Int), .int .i64 a, .int .i64 b, .string (ofL ky), .slice va vn vc, .slice la ln lc] 38 (0, 0)) ∧ LO w (w9.setCell ⟨w.heap.size + 1, 5, none⟩ (.slice p9 (ln + 1) c9)) (some ⟨g, 0, none⟩) k c ps ⟨(kd : Int), a, b, ofL ky, va, vn, vc, p9, ln + 1, c9⟩ ⟨(kd : Int), a, b, ky, vl, zs ++ [z]⟩ ∧ LX w w9 (some ⟨g, 0, none⟩) k c ps) := ⟨A9.2.1, A9.1, A9.2.2⟩
              have q5 := cell_blk B9.out.1 5 (v := .slice la ln lc) rfl
              have r5 := soft_blk B9.out.1 5
              refine hK.out _ _ ?_ (fun hHeld => ?_)
              · exact CX.out _ B9.out.2.2
              clear hK K
              (try simp only [Act.put, List.setIfInBounds_toArray, List.set_cons_zero, List.set_cons_succ])
              clear ho hg hn9
              refine wpAnyH_take (i := 9) (oi := { dst := some 109, op := Go.Op.fieldAddr 38 (Go.Operand.tmp 3) 5, type := 0, pos := "ref.go:185", after := #[{ on := 0, ground := Go.Ground.phase }, { on := 1, ground := Go.Ground.phase }, { on := 2, ground := Go.Ground.phase }, { on := 3, ground := Go.Ground.phase }, { on := 4, ground := Go.Ground.phase }, { on := 5, ground := Go.Ground.phase }, { on := 6, ground := Go.Ground.phase }, { on := 7, ground := Go.Ground.phase }, { on := 8, ground := Go.Ground.phase }], guard := none }) (v := .pointer (some ⟨w.heap.size + 1, 5, none⟩)) rfl (by kernel_rfl) (by kernel_rfl) (by kernel_rfl) (fun _ _ _ h => h) (Or.inl ⟨by rfl, ?_⟩) (by assumption) ?_
              · intro w9 hSw
                (try dsimp only at hSw)
                go_simp
              (try simp only [Act.put, List.setIfInBounds_toArray, List.set_cons_zero, List.set_cons_succ])
              refine wpAnyH_ready (rs := [10]) (by kernel_rfl) (by simp) ?_
              refine (AllReadyH.cons (o := { dst := none, op := Go.Op.store 36 (Go.Operand.tmp 109) (Go.Operand.tmp 108), type := 0, pos := "ref.go:185", after := #[{ on := 9, ground := Go.Ground.data }, { on := 8, ground := Go.Ground.data }, { on := 8, ground := Go.Ground.chain }, { on := 0, ground := Go.Ground.phase }, { on := 1, ground := Go.Ground.phase }, { on := 2, ground := Go.Ground.phase }, { on := 3, ground := Go.Ground.phase }, { on := 4, ground := Go.Ground.phase }, { on := 5, ground := Go.Ground.phase }, { on := 6, ground := Go.Ground.phase }, { on := 7, ground := Go.Ground.phase }, { on := 8, ground := Go.Ground.phase }], guard := none }) rfl (fun K hK => ?_) AllReadyH.nil)
              go_simp
              refine hK.out _ _ ?_ (fun hHeld => ?_)
              · exact CG.out _ _ _ B9.out.2.1
              clear hK K
              (try simp only [Act.put])
              refine wpAnyH_done (by kernel_rfl) ?_ _
              have N : Hid (LO w (w9.setCell ⟨w.heap.size + 1, 5, none⟩ (.slice p9 (ln + 1) c9)) (some ⟨g, 0, none⟩) k c ps ⟨(kd : Int), a, b, ofL ky, va, vn, vc, p9, ln + 1, c9⟩ ⟨(kd : Int), a, b, ky, vl, zs ++ [z]⟩ ∧ zs ++ z :: (ps.drop (i + 1)).map numV = (ps.drop i4).map numV) := ⟨B9.out.2.1, by have q := S.out.2; rw [ZE.out] at q; simpa using q⟩
              clear B9 A9 S A0 A1 q5 r5
              go_wp2_with fail
              go_roundw
              case rel => exact ⟨i + 1, p9, ln + 1, c9, _, by go_num, by omega, by omega, N.out.1, by simpa using N.out.2⟩
              case measure => simp [intOf] <;> omega
            · go_simp
              refine hK.out _ _ ?_ (fun hHeld => ?_)
              · exact CG.out _ _ _ A1.out
              clear hK K
              (try simp only [Act.put, List.setIfInBounds_toArray, List.set_cons_zero, List.set_cons_succ])
              refine wpAnyH_ready (rs := [1]) (by kernel_rfl) (by simp) ?_
              refine (AllReadyH.cons (o := { dst := some 101, op := Go.Op.load 36 (Go.Operand.tmp 100), type := 36, pos := "ref.go:185", after := #[{ on := 0, ground := Go.Ground.data }], guard := none }) rfl (fun K hK => ?_) AllReadyH.nil)
              go_simp
              refine hK.out _ _ ?_ (fun hHeld => ?_)
              · exact CG.out _ _ _ A1.out
              clear hK K
              (try simp only [Act.put, List.setIfInBounds_toArray, List.set_cons_zero, List.set_cons_succ])
              refine wpAnyH_ready (rs := [8]) (by kernel_rfl) (by simp) ?_
              refine (AllReadyH.cons (o := { dst := some 108, op := Go.Op.call { callee := Go.Callee.builtin Go.Builtin.append, args := #[Go.Operand.tmp 101, Go.Operand.tmp 107], argTypes := #[36, 36] }, type := 36, pos := "ref.go:185", after := #[{ on := 1, ground := Go.Ground.data }, { on := 7, ground := Go.Ground.data }, { on := 6, ground := Go.Ground.chain }], guard := none }) rfl (fun K hK => ?_) AllReadyH.nil)
              refine step_append_all _ rfl (.tmp 101) (.tmp 107) 36 3 36 _ 1 8 rfl Tryd.underlying36 Tryd.info3 rfl w.heap.size (.slice la ln lc) ln (intC zs) rfl A1.out.so.lr _ 1 (intC [z]) rfl SR.out LN.out.1 LN.out.2 A1.out.lx.kept.size ?_
              intro p9 c9 w9 ho hg hn9
              have A9 := A1.out.app ho.out hg.out
              have B9 : Hid (w9.heap[w.heap.size + 1]? = some (.cells #[.int .i64 (kd : Int), .int .i64 a, .int .i64 b, .string (ofL ky), .slice va vn vc, .slice la ln lc] 38 (0, 0)) ∧ LO w (w9.setCell ⟨w.heap.size + 1, 5, none⟩ (.slice p9 (ln + 1) c9)) (some ⟨g, 0, none⟩) k c ps ⟨(kd : Int), a, b, ofL ky, va, vn, vc, p9, ln + 1, c9⟩ ⟨(kd : Int), a, b, ky, vl, zs ++ [z]⟩ ∧ LX w w9 (some ⟨g, 0, none⟩) k c ps) := ⟨A9.2.1, A9.1, A9.2.2⟩
              have q5 := cell_blk B9.out.1 5 (v := .slice la ln lc) rfl
              have r5 := soft_blk B9.out.1 5
              refine hK.out _ _ ?_ (fun hHeld => ?_)
              · exact CX.out _ B9.out.2.2
              clear hK K
              (try simp only [Act.put, List.setIfInBounds_toArray, List.set_cons_zero, List.set_cons_succ])
              clear ho hg hn9
              refine wpAnyH_take (i := 9) (oi := { dst := some 109, op := Go.Op.fieldAddr 38 (Go.Operand.tmp 3) 5, type := 0, pos := "ref.go:185", after := #[{ on := 0, ground := Go.Ground.phase }, { on := 1, ground := Go.Ground.phase }, { on := 2, ground := Go.Ground.phase }, { on := 3, ground := Go.Ground.phase }, { on := 4, ground := Go.Ground.phase }, { on := 5, ground := Go.Ground.phase }, { on := 6, ground := Go.Ground.phase }, { on := 7, ground := Go.Ground.phase }, { on := 8, ground := Go.Ground.phase }], guard := none }) (v := .pointer (some ⟨w.heap.size + 1, 5, none⟩)) rfl (by kernel_rfl) (by kernel_rfl) (by kernel_rfl) (fun _ _ _ h => h) (Or.inl ⟨by rfl, ?_⟩) (by assumption) ?_
              · intro w9 hSw
                (try dsimp only at hSw)
                go_simp
              (try simp only [Act.put, List.setIfInBounds_toArray, List.set_cons_zero, List.set_cons_succ])
              refine wpAnyH_ready (rs := [10]) (by kernel_rfl) (by simp) ?_
              refine (AllReadyH.cons (o := { dst := none, op := Go.Op.store 36 (Go.Operand.tmp 109) (Go.Operand.tmp 108), type := 0, pos := "ref.go:185", after := #[{ on := 9, ground := Go.Ground.data }, { on := 8, ground := Go.Ground.data }, { on := 8, ground := Go.Ground.chain }, { on := 0, ground := Go.Ground.phase }, { on := 1, ground := Go.Ground.phase }, { on := 2, ground := Go.Ground.phase }, { on := 3, ground := Go.Ground.phase }, { on := 4, ground := Go.Ground.phase }, { on := 5, ground := Go.Ground.phase }, { on := 6, ground := Go.Ground.phase }, { on := 7, ground := Go.Ground.phase }, { on := 8, ground := Go.Ground.phase }], guard := none }) rfl (fun K hK => ?_) AllReadyH.nil)
              go_simp
              refine hK.out _ _ ?_ (fun hHeld => ?_)
              · exact CG.out _ _ _ B9.out.2.1
              clear hK K
              (try simp only [Act.put])
              refine wpAnyH_done (by kernel_rfl) ?_ _
              have N : Hid (LO w (w9.setCell ⟨w.heap.size + 1, 5, none⟩ (.slice p9 (ln + 1) c9)) (some ⟨g, 0, none⟩) k c ps ⟨(kd : Int), a, b, ofL ky, va, vn, vc, p9, ln + 1, c9⟩ ⟨(kd : Int), a, b, ky, vl, zs ++ [z]⟩ ∧ zs ++ z :: (ps.drop (i + 1)).map numV = (ps.drop i4).map numV) := ⟨B9.out.2.1, by have q := S.out.2; rw [ZE.out] at q; simpa using q⟩
              clear B9 A9 S A0 A1 q5 r5
              go_wp2_with fail
              go_roundw
              case rel => exact ⟨i + 1, p9, ln + 1, c9, _, by go_num, by omega, by omega, N.out.1, by simpa using N.out.2⟩
              case measure => simp [intOf] <;> omega
      · have lti : ¬ (i : Int) < (k : Int) := by omega
        have N : Hid (zs = (if hL = true then (ps.drop i4).map numV else []) ∧ LO w wo (some ⟨g, 0, none⟩) k c ps ⟨(kd : Int), a, b, ofL ky, va, vn, vc, la, ln, lc⟩ ⟨(kd : Int), a, b, ky, vl, zs⟩) := ⟨by
          have q := S.out.2
          rw [List.drop_eq_nil_of_le (by rw [PK.out]; omega)] at q
          simpa using q, S.out.1⟩
        clear S
        go_wp2_with fail
        go_meet
        exact ⟨⟨(kd : Int), a, b, ofL ky, va, vn, vc, la, ln, lc⟩, zs, N⟩
  case rest =>
  obtain ⟨x, zs, S7⟩ := hcut
  refine hK8 _ _ ?_
  have FIN : Hid ((⟨(kd : Int), a, b, ky, vl, zs⟩ : St) = looL t.data.toList) := by
    unfold looL looK
    rw [HM.out.2.1, HP.out]
    show _ = St.mk _ _ _ _ _ _
    have e1 : (ph :: pt).tail = ps.drop 1 := by rw [HP.out]; rfl
    have e0 : kindL (ph :: pt).head! = kd := HKD.out.1
    rw [e1, e0, HL.out.1, HL.out.2.1, HL.out.2.2.1, HL.out.2.2.2.1, HL.out.2.2.2.2, S3.out.1]
    dsimp only
    rw [S4.out.1]
    dsimp only
    rw [S5.out.1]
    dsimp only
    rw [S6.out.1]
    dsimp only
    rw [← S3.out.2.1, ← S4.out.2.1, ← S5.out.2.1, ← S6.out.2.1, S7.out.1]
  obtain ⟨kx, ax, bx, kyx, vax, vnx, vcx, lax, lnx, lcx⟩ := x
  have c0 := cell_blk S7.out.2.b3 0 (v := .int .i64 kx) rfl
  have c1 := cell_blk S7.out.2.b3 1 (v := .int .i64 ax) rfl
  have c2 := cell_blk S7.out.2.b3 2 (v := .int .i64 bx) rfl
  have c3 := cell_blk S7.out.2.b3 3 (v := .string kyx) rfl
  have c4 := cell_blk S7.out.2.b3 4 (v := .slice vax vnx vcx) rfl
  have c5 := cell_blk S7.out.2.b3 5 (v := .slice lax lnx lcx) rfl
  have a0 := cell_blk S7.out.2.b2 0 (v := .int .i64 0) rfl
  have a1 := cell_blk S7.out.2.b2 1 (v := .int .i64 0) rfl
  have a2 := cell_blk S7.out.2.b2 2 (v := .int .i64 0) rfl
  have a3 := cell_blk S7.out.2.b2 3 (v := .string ⟨#[]⟩) rfl
  have a4 := cell_blk S7.out.2.b2 4 (v := .slice none 0 0) rfl
  have a5 := cell_blk S7.out.2.b2 5 (v := .slice none 0 0) rfl
  have s0 := soft_blk S7.out.2.b2 0
  have s1 := soft_blk S7.out.2.b2 1
  have s2 := soft_blk S7.out.2.b2 2
  have s3 := soft_blk S7.out.2.b2 3
  have s4 := soft_blk S7.out.2.b2 4
  have s5 := soft_blk S7.out.2.b2 5
  have FN := set6 S7.out.2.b2 (.int .i64 kx) (.int .i64 ax) (.int .i64 bx) (.string kyx) (.slice vax vnx vcx) (.slice lax lnx lcx)
  obtain ⟨w7, hw7⟩ : ∃ w7, w7 = wc := ⟨_, rfl⟩
  rw [← hw7] at S7 FN c0 c1 c2 c3 c4 c5 a0 a1 a2 a3 a4 a5 s0 s1 s2 s3 s4 s5 ⊢
  clear hw7
  obtain ⟨W9, hW9⟩ : ∃ W9, (((((w7.setCell ⟨w.heap.size, 0, none⟩ (.int .i64 kx)).setCell ⟨w.heap.size, 1, none⟩ (.int .i64 ax)).setCell ⟨w.heap.size, 2, none⟩ (.int .i64 bx)).setCell ⟨w.heap.size, 3, none⟩ (.string kyx)).setCell ⟨w.heap.size, 4, none⟩ (.slice vax vnx vcx)).setCell ⟨w.heap.size, 5, none⟩ (.slice lax lnx lcx) = W9 := ⟨_, rfl⟩
  rw [hW9] at FN
  have AN : Hid (W9.heap[w.heap.size]? = some (.cells #[.int .i64 kx, .int .i64 ax, .int .i64 bx, .string kyx, .slice vax vnx vcx, .slice lax lnx lcx] 38 (0, 0)) ∧ SO w.heap.size W9 ⟨kx, ax, bx, kyx, vax, vnx, vcx, lax, lnx, lcx⟩ (looL t.data.toList) ∧ Kept (fun _ => False) w W9) := by
    rw [← FIN.out]
    have r := S7.out.2.so
    exact ⟨FN.1, ⟨r.kind, r.a, r.b, r.key, r.vl, own_off r.vr S7.out.2.b2 (by decide) FN.2, r.ll, own_off r.lr S7.out.2.b2 (by decide) FN.2⟩, S7.out.2.lx.kept.trans FN.2 (fun j hj z => by omega)⟩
  have HW9 : Hid ((((((w7.setCell ⟨w.heap.size, 0, none⟩ (.int .i64 kx)).setCell ⟨w.heap.size, 1, none⟩ (.int .i64 ax)).setCell ⟨w.heap.size, 2, none⟩ (.int .i64 bx)).setCell ⟨w.heap.size, 3, none⟩ (.string kyx)).setCell ⟨w.heap.size, 4, none⟩ (.slice vax vnx vcx)).setCell ⟨w.heap.size, 5, none⟩ (.slice lax lnx lcx) = W9) := hW9
  clear hW9 FN S7 FIN
  go_wp2_with fail
  rw [HW9.out]
  refine bodyPost_ret (results_cell_row (P := Tryd.prog) rfl _ _ w.heap.size 38 _ (0, 0) _ rfl AN.out.1 Tryd.underlying38 rfl (by kernel_rfl)) rfl ?_
  exact ⟨⟨kx, ax, bx, kyx, vax, vnx, vcx, lax, lnx, lcx⟩, rfl, AN.out.2⟩
end Go.Proofs.YtonfefhegghapaaDoor
