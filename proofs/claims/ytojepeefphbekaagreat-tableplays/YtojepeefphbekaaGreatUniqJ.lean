import Derived.Test.YtojepeefphbekaaGreatSameJ
import Derived.Test.YtojepeefphbekaaGreatAllsJ
import Derived.BigQuiet
import Derived.Deep.QuietTactic
import Derived.Test.YtojepeefphbekaaGreatTab2
namespace Go.Proofs.YtojepeefphbekaaGreat
open Go.RowKit 

theorem ba_loop (b : ByteArray) : ∀ k i r, b.size - i = k → ByteArray.toList.loop b i r = r.reverse ++ b.data.toList.drop i := by
  have hl : b.data.toList.length = b.size := by rw [Array.length_toList]; rfl
  intro k
  induction k with
  | zero =>
    intro i r h
    unfold ByteArray.toList.loop
    rw [if_neg (by omega), List.drop_eq_nil_of_le (by omega)]
    simp
  | succ k ih =>
    intro i r h
    unfold ByteArray.toList.loop
    rw [if_pos (by omega), ih (i+1) _ (by omega), List.drop_eq_getElem_cons (i := i) (by omega)]
    have e : b.get! i = b.data.toList[i]'(by omega) := by
      have hs : i < b.data.size := by
        have : b.size = b.data.size := rfl
        omega
      show b.data[i]! = _
      rw [getElem!_pos b.data i hs]
      simp
    rw [e]
    simp
theorem ba_toList (b : ByteArray) : b.toList = b.data.toList := by
  unfold ByteArray.toList
  rw [ba_loop b _ 0 [] rfl]
  simp
theorem ba_ne {a b : ByteArray} (h : ¬ a = b) : ¬ a.toList = b.toList := by
  rw [ba_toList, ba_toList]
  intro z
  apply h
  cases a
  cases b
  congr 1
  exact Array.toList_inj.1 z
theorem str_inj {l m : List Nat} (hl : ∀ c ∈ l, c < 256) (hm : ∀ c ∈ m, c < 256) (h : str l = str m) : l = m := by
  unfold str at h
  simp at h
  have e : ∀ k : List Nat, (∀ c ∈ k, c < 256) → (k.map UInt8.ofNat).map UInt8.toNat = k := by
    intro k hk
    rw [List.map_map]
    conv => rhs; rw [← List.map_id k]
    refine List.map_congr_left (fun c hc => ?_)
    have := hk c hc
    simp
    omega
  have h2 : l.map UInt8.ofNat = m.map UInt8.ofNat := h
  rw [← e l hl, ← e m hm, h2]
/-- Two entries: alike or not. -/
def entV (x y : Int) (f g : Bool) (l : List Nat) : Ev := ((x, y), f, g, l)
set_option maxRecDepth 100000 in
set_option maxHeartbeats 1000000 in
theorem sameEntryG (x1 y1 x2 y2 : Int) (f1 g1 f2 g2 : Bool) (l1 l2 : List Nat) (a1 : Option Addr) (n1 c1 : Nat) (a2 : Option Addr) (n2 c2 : Nat) (w : World) (r1 : Txt w a1 n1 c1 l1) (r2 : Txt w a2 n2 c2 l2) (b1 : ∀ c ∈ l1, c < 256) (b2 : ∀ c ∈ l2, c < 256) :
    Calls Tryz.prog 41 #[.agg #[.int .i64 x1, .int .i64 y1, .bool f1, .bool g1, .slice a1 n1 c1], .agg #[.int .i64 x2, .int .i64 y2, .bool f2, .bool g2, .slice a2 n2 c2]] w fun o w' => o = .returned (.bool (decide (entV x1 y1 f1 g1 l1 = entV x2 y2 f2 g2 l2))) ∧ Kept (fun _ => False) w w' := by
  obtain ⟨W, hW⟩ : ∃ W, W = (w.alloc (.cells #[.int .i64 x1, .int .i64 y1, .bool f1, .bool g1, .slice a1 n1 c1] 40)).alloc (.cells #[.int .i64 x2, .int .i64 y2, .bool f2, .bool g2, .slice a2 n2 c2] 40) := ⟨_, rfl⟩
  have KW : Kept (fun _ => False) w W := by rw [hW]; exact ((Kept.refl _ w).alloc _).alloc _
  have s1 := r1 W KW
  have s2 := r2 W KW
  rw [hW] at s1 s2 KW
  have KH : Hid (Kept (fun _ => False) w ((w.alloc (.cells #[.int .i64 x1, .int .i64 y1, .bool f1, .bool g1, .slice a1 n1 c1] 40)).alloc (.cells #[.int .i64 x2, .int .i64 y2, .bool f2, .bool g2, .slice a2 n2 c2] 40))) := KW
  have BB : Hid ((∀ c ∈ l1, c < 256) ∧ (∀ c ∈ l2, c < 256)) := ⟨b1, b2⟩
  obtain ⟨T1, hT1⟩ : ∃ T1, T1 = str l1 := ⟨_, rfl⟩
  obtain ⟨T2, hT2⟩ : ∃ T2, T2 = str l2 := ⟨_, rfl⟩
  rw [← hT1] at s1
  rw [← hT2] at s2
  have HT : Hid (T1 = str l1 ∧ T2 = str l2) := ⟨hT1, hT2⟩
  clear hW KW r1 r2 W b1 b2 hT1 hT2
  by_cases e1 : x1 = x2 ∧ y1 = y2
  · obtain ⟨rfl, rfl⟩ := e1
    by_cases e2 : f1 = f2
    · subst e2
      by_cases e3 : g1 = g2
      · subst e3
        have DE : Hid (decide (entV x1 y1 f1 g1 l1 = entV x1 y1 f1 g1 l2) = decide (T1 = T2)) := by
          refine decide_eq_decide.2 ⟨fun h => ?_, fun h => ?_⟩
          · have : l1 = l2 := congrArg (fun v : Ev => v.2.2.2) h
            rw [HT.out.1, HT.out.2, this]
          · rw [HT.out.1, HT.out.2] at h
            rw [str_inj BB.out.1 BB.out.2 h]
        go_enter Tryz.func41, Tryz.ntmps41
        go_wp2_with fail
        go_ret
        refine ⟨?_, KH.out⟩
        rw [DE.out]
        simp
        by_cases hq : T1 = T2
        · simp [hq]
        · have := ba_ne hq
          simp [hq, this]
      · have DE : Hid (decide (entV x1 y1 f1 g1 l1 = entV x1 y1 f1 g2 l2) = false) := by
          refine decide_eq_false (fun h => e3 ?_)
          exact congrArg (fun v : Ev => v.2.2.1) h
        go_enter Tryz.func41, Tryz.ntmps41
        cases g1 <;> cases g2 <;> (first | exact absurd rfl e3 | (go_wp2_with fail; go_ret; rw [DE.out]; exact ⟨by simp, KH.out⟩))
    · have DE : Hid (decide (entV x1 y1 f1 g1 l1 = entV x1 y1 f2 g2 l2) = false) := by
        refine decide_eq_false (fun h => e2 ?_)
        exact congrArg (fun v : Ev => v.2.1) h
      go_enter Tryz.func41, Tryz.ntmps41
      cases f1 <;> cases f2 <;> (first | exact absurd rfl e2 | (go_wp2_with fail; go_ret; rw [DE.out]; exact ⟨by simp, KH.out⟩))
  · have DE : Hid (decide (entV x1 y1 f1 g1 l1 = entV x2 y2 f2 g2 l2) = false) := by
      refine decide_eq_false (fun h => e1 ?_)
      have h1 : x1 = x2 := congrArg (fun v : Ev => v.1.1) h
      have h2 : y1 = y2 := congrArg (fun v : Ev => v.1.2) h
      exact ⟨h1, h2⟩
    by_cases q1 : x1 = x2
    · subst q1
      have q2 : ¬ y1 = y2 := fun z => e1 ⟨rfl, z⟩
      go_enter Tryz.func41, Tryz.ntmps41
      go_wp2_with fail
      go_ret
      rw [DE.out]
      exact ⟨by simp, KH.out⟩
    · go_enter Tryz.func41, Tryz.ntmps41
      go_wp2_with fail
      go_ret
      rw [DE.out]
      exact ⟨by simp, KH.out⟩
end Go.Proofs.YtojepeefphbekaaGreat

namespace Go.Proofs.YtojepeefphbekaaGreat
open Go.RowKit 

theorem EntRd.at {w : World} {p : Option Addr} {n c : Nat} {es : List Ev} (h : EntRd w p n c es) {i : Nat} (hi : i < n) : ∃ b x y f g l a m cc, p = some ⟨b, 0, none⟩ ∧ es[i]? = some (entV x y f g l) ∧ w.cell? ⟨b, i * 5, none⟩ = some (.int .i64 x) ∧ w.cell? ⟨b, i * 5 + 1, none⟩ = some (.int .i64 y) ∧ w.cell? ⟨b, i * 5 + 2, none⟩ = some (.bool f) ∧ w.cell? ⟨b, i * 5 + 3, none⟩ = some (.bool g) ∧ w.cell? ⟨b, i * 5 + 4, none⟩ = some (.slice a m cc) ∧ Reads w a m cc l := by
  obtain ⟨L, ow, al⟩ := h.row
  have hl : L.length = n := by rw [al.1]; exact h.len
  rcases ow.2 with ⟨_, hn⟩ | ⟨b, cap, cur, z, _⟩
  · omega
  · have z : Value.slice p n c = .slice (some ⟨b, 0, none⟩) n cap := z
    injection z with z1 _ z3
    subst z1
    subst z3
    have hc := ow.cells (g := b) rfl
    have h1 : i < L.length := by omega
    have h2 : i < es.length := by rw [h.len]; exact hi
    obtain ⟨⟨⟨x, y⟩, f, g, a, m, cc⟩, hL⟩ : ∃ e, L[i] = e := ⟨_, rfl⟩
    have q := al.2 i h1 h2
    rw [hL] at q
    have cell : ∀ j v, j < 5 → (encE ((x, y), f, g, a, m, cc))[j]? = some v → w.cell? ⟨b, i * 5 + j, none⟩ = some v := fun j v hj hv => by
      have := hc (i * 5 + j) v (by rw [ecells_get L i h1 j hj, hL]; exact hv)
      rw [Addr.add_none, Nat.zero_add] at this
      exact this
    refine ⟨b, x, y, f, g, es[i].2.2.2, a, m, cc, rfl, ?_, cell 0 _ (by omega) rfl, cell 1 _ (by omega) rfl, cell 2 _ (by omega) rfl, cell 3 _ (by omega) rfl, cell 4 _ (by omega) rfl, q.data⟩
    rw [List.getElem?_eq_getElem h2]
    congr 1
    have q1 := q.tag
    have q2 := q.fin
    have q3 := q.has
    exact Prod.ext q1.symm (Prod.ext q2.symm (Prod.ext q3.symm rfl))
theorem EntRd.small {w : World} {p : Option Addr} {n c : Nat} {es : List Ev} (h : EntRd w p n c es) : n ≤ c ∧ c ≤ maxLen := by
  obtain ⟨L, ow, al⟩ := h.row
  exact own_room ow
set_option maxRecDepth 100000 in
set_option maxHeartbeats 2000000 in
/-- Two lists of entries: alike or not. -/
theorem sameEntriesG (p1 p2 : Option Addr) (m1 m2 c1 c2 : Nat) (e1 e2 : List Ev) (w : World) (h1 : EntRd w p1 m1 c1 e1) (h2 : EntRd w p2 m2 c2 e2) :
    Calls Tryz.prog 22 #[.slice p1 m1 c1, .slice p2 m2 c2] w fun o w' => o = .returned (.bool (decide (e1 = e2))) ∧ Kept (fun _ => False) w w' := by
  have H : Hid (EntRd w p1 m1 c1 e1 ∧ EntRd w p2 m2 c2 e2) := ⟨h1, h2⟩
  have hl := Nat.le_trans h1.small.1 h1.small.2
  have hl2 := Nat.le_trans h2.small.1 h2.small.2
  unfold maxLen at hl hl2
  by_cases hm : m1 = m2
  · subst hm
    clear h1 h2 hl2
    go_enter Tryz.func22, Tryz.ntmps22
    go_wp2_with fail
    go_loopw [5, 13] (fun _ x wr => ∃ (i : Nat), x = .int .i64 (i : Int) ∧ i ≤ m1 ∧ Hid (Kept (fun _ => False) w wr ∧ ∀ j, j < i → e1[j]? = e2[j]?)) (fun _ x _ => m1 - (intOf x).toNat)
    case atStart => exact ⟨0, rfl, Nat.zero_le _, Kept.refl _ _, fun j hj => absurd hj (by omega)⟩
    case round =>
      obtain ⟨i, rfl, hi, S⟩ := hrel
      by_cases hlt : i < m1
      · have i1 : (i : Int) < (m1 : Int) := by omega
        obtain ⟨b1, x1, y1, f1, g1, l1, a1, n1, k1, rfl, q1, d0, d1, d2, d3, d4, r1⟩ := (H.out.1.k0 S.out.1).at hlt
        obtain ⟨b2, x2, y2, f2, g2, l2, a2, n2, k2, rfl, q2, f0, f1', f2', f3, f4, r2⟩ := (H.out.2.k0 S.out.1).at hlt
        have RR : Hid (Reads wr a1 n1 k1 l1 ∧ Reads wr a2 n2 k2 l2 ∧ e1[i]? = some (entV x1 y1 f1 g1 l1) ∧ e2[i]? = some (entV x2 y2 f2 g2 l2)) := ⟨r1, r2, q1, q2⟩
        have CF : Hid (∀ V, Kept (fun _ => False) wr V → V.cell? ⟨b1, i * 5, none⟩ = some (.int .i64 x1) ∧ V.cell? ⟨b1, i * 5 + 1, none⟩ = some (.int .i64 y1) ∧ V.cell? ⟨b1, i * 5 + 2, none⟩ = some (.bool f1) ∧ V.cell? ⟨b1, i * 5 + 3, none⟩ = some (.bool g1) ∧ V.cell? ⟨b1, i * 5 + 4, none⟩ = some (.slice a1 n1 k1) ∧ V.cell? ⟨b2, i * 5, none⟩ = some (.int .i64 x2) ∧ V.cell? ⟨b2, i * 5 + 1, none⟩ = some (.int .i64 y2) ∧ V.cell? ⟨b2, i * 5 + 2, none⟩ = some (.bool f2) ∧ V.cell? ⟨b2, i * 5 + 3, none⟩ = some (.bool g2) ∧ V.cell? ⟨b2, i * 5 + 4, none⟩ = some (.slice a2 n2 k2)) := fun V K => ⟨K.cell d0 (fun z => z), K.cell d1 (fun z => z), K.cell d2 (fun z => z), K.cell d3 (fun z => z), K.cell d4 (fun z => z), K.cell f0 (fun z => z), K.cell f1' (fun z => z), K.cell f2' (fun z => z), K.cell f3 (fun z => z), K.cell f4 (fun z => z)⟩
        obtain ⟨eq, heq⟩ : ∃ eq, eq = decide (entV x1 y1 f1 g1 l1 = entV x2 y2 f2 g2 l2) := ⟨_, rfl⟩
        have EQ : Hid (eq = decide (entV x1 y1 f1 g1 l1 = entV x2 y2 f2 g2 l2)) := heq
        clear r1 r2 q1 q2 heq
        go_upto_region 6 with fail
        go_region_held3 (fun V => V.cell? ⟨b1, i * 5, none⟩ = some (.int .i64 x1) ∧ V.cell? ⟨b1, i * 5 + 1, none⟩ = some (.int .i64 y1) ∧ V.cell? ⟨b1, i * 5 + 2, none⟩ = some (.bool f1) ∧ V.cell? ⟨b1, i * 5 + 3, none⟩ = some (.bool g1) ∧ V.cell? ⟨b1, i * 5 + 4, none⟩ = some (.slice a1 n1 k1) ∧ V.cell? ⟨b2, i * 5, none⟩ = some (.int .i64 x2) ∧ V.cell? ⟨b2, i * 5 + 1, none⟩ = some (.int .i64 y2) ∧ V.cell? ⟨b2, i * 5 + 2, none⟩ = some (.bool f2) ∧ V.cell? ⟨b2, i * 5 + 3, none⟩ = some (.bool g2) ∧ V.cell? ⟨b2, i * 5 + 4, none⟩ = some (.slice a2 n2 k2)) (first | go_keep)
          (first
            | (go_at_call 41; refine (sameEntryG x1 y1 x2 y2 f1 g1 f2 g2 l1 l2 a1 n1 k1 a2 n2 k2 wr.drew (fun V KV => RR.out.1.txt V ((Kept.refl _ _).drew.and0 KV)) (fun V KV => RR.out.2.1.txt V ((Kept.refl _ _).drew.and0 KV)) RR.out.1.bytes RR.out.2.1.bytes).mono ?_; rw [← EQ.out]; rintro o w2 ⟨rfl, K2⟩
               have K3 : Hid (Kept (fun _ => False) wr w2) := ((Kept.refl _ _).drew).and0 K2
               obtain ⟨d0, d1, d2, d3, d4, f0, f1', f2', f3, f4⟩ := CF.out w2 K3.out
               clear K2)
            | fail)
        cases eq
        · have NE : Hid (decide (e1 = e2) = false) := by
            refine decide_eq_false (fun z => ?_)
            have h0 := EQ.out.symm
            rw [decide_eq_false_iff_not] at h0
            have q := RR.out.2.2.1
            rw [z, RR.out.2.2.2] at q
            exact h0 (Option.some.inj q).symm
          go_wp2_with fail
          go_ret
          rw [NE.out]
          exact ⟨rfl, S.out.1.and0 K3.out⟩
        · have NE : Hid (∀ j, j < i + 1 → e1[j]? = e2[j]?) := by
            intro j hj
            by_cases hji : j < i
            · exact S.out.2 j hji
            · have : j = i := by omega
              subst this
              have h0 := EQ.out.symm
              rw [decide_eq_true_iff] at h0
              rw [RR.out.2.2.1, RR.out.2.2.2, h0]
          go_wp2_with fail
          go_roundw
          case rel => exact ⟨i + 1, by go_num, by omega, S.out.1.and0 K3.out, NE.out⟩
          case measure => simp [intOf]; omega
      · have i1 : ¬ (i : Int) < (m1 : Int) := by omega
        have NE : Hid (decide (e1 = e2) = true) := by
          refine decide_eq_true (List.ext_getElem? (fun j => ?_))
          by_cases hji : j < i
          · exact S.out.2 j hji
          · rw [List.getElem?_eq_none (by rw [H.out.1.len]; omega), List.getElem?_eq_none (by rw [H.out.2.len]; omega)]
        go_wp2_with fail
        go_ret
        rw [NE.out]
        exact ⟨rfl, S.out.1⟩
  · have NE : Hid (decide (e1 = e2) = false) := by
      refine decide_eq_false (fun z => hm ?_)
      rw [← h1.len, ← h2.len, z]
    have hm' : ¬ (m1 : Int) = (m2 : Int) := by omega
    clear h1 h2
    go_enter Tryz.func22, Tryz.ntmps22
    go_wp2_with fail
    go_ret
    rw [NE.out]
    exact ⟨rfl, Kept.refl _ _⟩
end Go.Proofs.YtojepeefphbekaaGreat

namespace Go.Proofs.YtojepeefphbekaaGreat
open Go.RowKit 

theorem AllRd.at {w : World} {p : Option Addr} {n c : Nat} {vs : List Av} (h : AllRd w p n c vs) {i : Nat} (hi : i < n) : ∃ b k es a m cc, p = some ⟨b, 0, none⟩ ∧ vs[i]? = some (k, es) ∧ w.cell? ⟨b, i * 2, none⟩ = some (.string k) ∧ w.cell? ⟨b, i * 2 + 1, none⟩ = some (.slice a m cc) ∧ EntRd w a m cc es := by
  obtain ⟨L, ow, al⟩ := h.row
  have hl : L.length = n := by rw [al.1]; exact h.len
  rcases ow.2 with ⟨_, hn⟩ | ⟨b, cap, cur, z, _⟩
  · omega
  · have z : Value.slice p n c = .slice (some ⟨b, 0, none⟩) n cap := z
    injection z with z1 _ z3
    subst z1
    subst z3
    have hc := ow.cells (g := b) rfl
    have h1 : i < L.length := by omega
    have h2 : i < vs.length := by rw [h.len]; exact hi
    obtain ⟨⟨k, a, m, cc⟩, hL⟩ : ∃ e, L[i] = e := ⟨_, rfl⟩
    have q := al.2 i h1 h2
    rw [hL] at q
    have cell : ∀ j v, j < 2 → (encH (k, a, m, cc))[j]? = some v → w.cell? ⟨b, i * 2 + j, none⟩ = some v := fun j v hj hv => by
      have := hc (i * 2 + j) v (by rw [hcells_get L i h1 j hj, hL]; exact hv)
      rw [Addr.add_none, Nat.zero_add] at this
      exact this
    refine ⟨b, k, vs[i].2, a, m, cc, rfl, ?_, cell 0 _ (by omega) rfl, cell 1 _ (by omega) rfl, q.ents⟩
    rw [List.getElem?_eq_getElem h2]
    congr 1
    exact Prod.ext q.key.symm rfl
theorem AllRd.small {w : World} {p : Option Addr} {n c : Nat} {vs : List Av} (h : AllRd w p n c vs) : n ≤ c ∧ c ≤ maxLen := by
  obtain ⟨L, ow, al⟩ := h.row
  exact own_room ow
/-- It answers whether this is so. -/
def YN (o : Ending) (P : Prop) : Prop := ∃ b, o = .returned (.bool b) ∧ (b = true ↔ P)
theorem YN.yes {P : Prop} (h : P) : YN (.returned (.bool true)) P := ⟨true, rfl, fun _ => h, fun _ => rfl⟩
theorem YN.no {P : Prop} (h : ¬ P) : YN (.returned (.bool false)) P := ⟨false, rfl, fun z => absurd z (by decide), fun z => absurd z h⟩
set_option maxRecDepth 100000 in
set_option maxHeartbeats 2000000 in
/-- Two tables' entries: alike or not. -/
theorem sameAllG (p1 p2 : Option Addr) (m1 m2 c1 c2 : Nat) (e1 e2 : List Av) (w : World) (h1 : AllRd w p1 m1 c1 e1) (h2 : AllRd w p2 m2 c2 e2) :
    Calls Tryz.prog 17 #[.slice p1 m1 c1, .slice p2 m2 c2] w fun o w' => YN o (e1 = e2) ∧ Kept (fun _ => False) w w' := by
  have H : Hid (AllRd w p1 m1 c1 e1 ∧ AllRd w p2 m2 c2 e2) := ⟨h1, h2⟩
  have hl := Nat.le_trans h1.small.1 h1.small.2
  have hl2 := Nat.le_trans h2.small.1 h2.small.2
  unfold maxLen at hl hl2
  by_cases hm : m1 = m2
  · subst hm
    clear h1 h2 hl2
    go_enter Tryz.func17, Tryz.ntmps17
    go_wp2_with fail
    go_loopw [5, 13] (fun _ x wr => ∃ (i : Nat), x = .int .i64 (i : Int) ∧ i ≤ m1 ∧ Hid (Kept (fun _ => False) w wr ∧ ∀ j, j < i → e1[j]? = e2[j]?)) (fun _ x _ => m1 - (intOf x).toNat)
    case atStart => exact ⟨0, rfl, Nat.zero_le _, Kept.refl _ _, fun j hj => absurd hj (by omega)⟩
    case round =>
      obtain ⟨i, rfl, hi, S⟩ := hrel
      by_cases hlt : i < m1
      · have i1 : (i : Int) < (m1 : Int) := by omega
        obtain ⟨b1, k1, s1, a1, n1, q1, rfl, v1, d0, d1, r1⟩ := (H.out.1.k0 S.out.1).at hlt
        obtain ⟨b2, k2, s2, a2, n2, q2, rfl, v2, f0, f1, r2⟩ := (H.out.2.k0 S.out.1).at hlt
        have RR : Hid (EntRd wr a1 n1 q1 s1 ∧ EntRd wr a2 n2 q2 s2 ∧ e1[i]? = some (k1, s1) ∧ e2[i]? = some (k2, s2)) := ⟨r1, r2, v1, v2⟩
        have CF : Hid (∀ V, Kept (fun _ => False) wr V → V.cell? ⟨b1, i * 2, none⟩ = some (.string k1) ∧ V.cell? ⟨b1, i * 2 + 1, none⟩ = some (.slice a1 n1 q1) ∧ V.cell? ⟨b2, i * 2, none⟩ = some (.string k2) ∧ V.cell? ⟨b2, i * 2 + 1, none⟩ = some (.slice a2 n2 q2)) := fun V K => ⟨K.cell d0 (fun z => z), K.cell d1 (fun z => z), K.cell f0 (fun z => z), K.cell f1 (fun z => z)⟩
        clear r1 r2 v1 v2
        by_cases hk : k1 = k2
        · subst hk
          obtain ⟨eq, heq⟩ : ∃ eq, eq = decide (s1 = s2) := ⟨_, rfl⟩
          have EQ : Hid (eq = decide (s1 = s2)) := heq
          clear heq
          go_upto_region 6 with fail
          go_region_held3 (fun V => V.cell? ⟨b1, i * 2, none⟩ = some (.string k1) ∧ V.cell? ⟨b1, i * 2 + 1, none⟩ = some (.slice a1 n1 q1) ∧ V.cell? ⟨b2, i * 2, none⟩ = some (.string k1) ∧ V.cell? ⟨b2, i * 2 + 1, none⟩ = some (.slice a2 n2 q2)) (first | go_keep)
            (first
              | (go_at_call 22; refine (sameEntriesG a1 a2 n1 n2 q1 q2 s1 s2 wr.drew (RR.out.1.k0 (Kept.refl _ _).drew) (RR.out.2.1.k0 (Kept.refl _ _).drew)).mono ?_; rw [← EQ.out]; rintro o w2 ⟨rfl, K2⟩
                 have K3 : Hid (Kept (fun _ => False) wr w2) := ((Kept.refl _ _).drew).and0 K2
                 obtain ⟨d0, d1, f0, f1⟩ := CF.out w2 K3.out
                 clear K2)
              | fail)
          cases eq
          · have NE : Hid (¬ e1 = e2) := by
              intro z
              have h0 := EQ.out.symm
              rw [decide_eq_false_iff_not] at h0
              have q := RR.out.2.2.1
              rw [z, RR.out.2.2.2] at q
              exact h0 (congrArg Prod.snd (Option.some.inj q)).symm
            go_wp2_with fail
            go_ret
            exact ⟨YN.no NE.out, S.out.1.and0 K3.out⟩
          · have NE : Hid (∀ j, j < i + 1 → e1[j]? = e2[j]?) := by
              intro j hj
              by_cases hji : j < i
              · exact S.out.2 j hji
              · have : j = i := by omega
                subst this
                have h0 := EQ.out.symm
                rw [decide_eq_true_iff] at h0
                rw [RR.out.2.2.1, RR.out.2.2.2, h0]
            go_wp2_with fail
            go_roundw
            case rel => exact ⟨i + 1, by go_num, by omega, S.out.1.and0 K3.out, NE.out⟩
            case measure => simp [intOf]; omega
        · have hk' := ba_ne hk
          have hk2 : decide (k1 = k2) = false := decide_eq_false hk
          have hk3 : decide (k1.toList = k2.toList) = false := decide_eq_false hk'
          have NE : Hid (¬ e1 = e2) := by
            intro z
            have q := RR.out.2.2.1
            rw [z, RR.out.2.2.2] at q
            exact hk (congrArg Prod.fst (Option.some.inj q)).symm
          go_upto_region 6 with fail
          go_quiet (fail)
          go_wp2_with fail
          go_ret
          exact ⟨YN.no NE.out, S.out.1.drewN _⟩
      · have i1 : ¬ (i : Int) < (m1 : Int) := by omega
        have NE : Hid (e1 = e2) := by
          refine List.ext_getElem? (fun j => ?_)
          by_cases hji : j < i
          · exact S.out.2 j hji
          · rw [List.getElem?_eq_none (by rw [H.out.1.len]; omega), List.getElem?_eq_none (by rw [H.out.2.len]; omega)]
        go_wp2_with fail
        go_ret
        exact ⟨YN.yes NE.out, S.out.1⟩
  · have NE : Hid (¬ e1 = e2) := by
      intro z
      apply hm
      rw [← h1.len, ← h2.len, z]
    have hm' : ¬ (m1 : Int) = (m2 : Int) := by omega
    clear h1 h2
    go_enter Tryz.func17, Tryz.ntmps17
    go_wp2_with fail
    go_ret
    exact ⟨YN.no NE.out, Kept.refl _ _⟩
end Go.Proofs.YtojepeefphbekaaGreat

namespace Go.Proofs.YtojepeefphbekaaGreat
open Go.RowKit 

theorem pairwise_one {α : Type} {r : α → α → Prop} (asy : ∀ a b, r a b → ¬ r b a) : ∀ (l m : List α), l.Pairwise r → m.Pairwise r → (∀ a, a ∈ l ↔ a ∈ m) → l = m
  | [], [], _, _, _ => rfl
  | [], b :: m, _, _, h => absurd ((h b).2 List.mem_cons_self) (by simp)
  | a :: l, [], _, _, h => absurd ((h a).1 List.mem_cons_self) (by simp)
  | a :: l, b :: m, hl, hm, h => by
    rw [List.pairwise_cons] at hl hm
    have e : a = b := by
      rcases List.mem_cons.1 ((h a).1 List.mem_cons_self) with z | z
      · exact z
      · rcases List.mem_cons.1 ((h b).2 List.mem_cons_self) with y | y
        · exact y.symm
        · exact absurd (hm.1 a z) (asy _ _ (hl.1 b y))
    subst e
    have nl : a ∉ l := fun z => asy _ _ (hl.1 a z) (hl.1 a z)
    have nm : a ∉ m := fun z => asy _ _ (hm.1 a z) (hm.1 a z)
    congr 1
    refine pairwise_one asy l m hl.2 hm.2 (fun c => ⟨fun z => ?_, fun z => ?_⟩)
    · rcases List.mem_cons.1 ((h c).1 (List.mem_cons_of_mem _ z)) with y | y
      · subst y
        exact absurd z nl
      · exact y
    · rcases List.mem_cons.1 ((h c).2 (List.mem_cons_of_mem _ z)) with y | y
      · subst y
        exact absurd z nm
      · exact y
theorem pairs_one {α β : Type} : ∀ (l m : List (α × β)), l.map Prod.fst = m.map Prod.fst → (∀ a ∈ l, ∀ b ∈ m, a.1 = b.1 → a.2 = b.2) → l = m
  | [], [], _, _ => rfl
  | [], b :: m, h, _ => by simp at h
  | a :: l, [], h, _ => by simp at h
  | a :: l, b :: m, h, k => by
    simp only [List.map_cons, List.cons.injEq] at h
    have e : a = b := Prod.ext h.1 (k a List.mem_cons_self b List.mem_cons_self h.1)
    rw [e, pairs_one l m h.2 (fun x hx y hy => k x (List.mem_cons_of_mem _ hx) y (List.mem_cons_of_mem _ hy))]
/-- What a table holds of a key and a tag. -/
def Ab (t : TK) (dat : ByteArray → Int × Int → List Nat) (k : ByteArray) (g : Int × Int) : Option (Bool × Bool × List Nat) := (TMp t k g).map fun h => (h.fin, h.has, dat k g)
theorem ents_ab {M : Int × Int → Option Hd} {dat : Int × Int → List Nat} {es : List Ev} (h : EntsOf M dat es) (g : Int × Int) (f b : Bool) (l : List Nat) : (g, f, b, l) ∈ es ↔ (M g).map (fun h => (h.fin, h.has, dat g)) = some (f, b, l) := by
  rw [h.mem]
  constructor
  · rintro ⟨hd, h1, h2, h3, h4⟩
    dsimp only at h1 h2 h3 h4
    rw [h1, h2, h3, h4]
    rfl
  · intro q
    cases hm : M g with
    | none => rw [hm] at q; cases q
    | some hd =>
      rw [hm] at q
      have q := Option.some.inj q
      have q1 : hd.fin = f := congrArg Prod.fst q
      have q2 : hd.has = b := congrArg (fun x => x.2.1) q
      have q3 : dat g = l := congrArg (fun x => x.2.2) q
      exact ⟨hd, rfl, q1.symm, q2.symm, q3.symm⟩
theorem ents_one {M M' : Int × Int → Option Hd} {dat dat' : Int × Int → List Nat} {es es' : List Ev} (h : EntsOf M dat es) (h' : EntsOf M' dat' es') (e : ∀ g, (M g).map (fun h => (h.fin, h.has, dat g)) = (M' g).map (fun h => (h.fin, h.has, dat' g))) : es = es' := by
  refine pairwise_one (r := fun x y : Ev => tc x.1 y.1 < 0) (fun a b => tc_asym _ _) _ _ h.up h'.up (fun v => ?_)
  obtain ⟨g, f, b, l⟩ := v
  rw [ents_ab h, ents_ab h', e]
theorem all_ab {t : TK} {dat : ByteArray → Int × Int → List Nat} {vs : List Av} (h : AllOf t dat vs) (k : ByteArray) (g : Int × Int) (f b : Bool) (l : List Nat) : Ab t dat k g = some (f, b, l) ↔ ∃ v ∈ vs, v.1 = k ∧ (g, f, b, l) ∈ v.2 := by
  constructor
  · intro q
    have hk : t.rv k ≠ none := by
      intro z
      unfold Ab at q
      have : t.R k = none := by
        unfold TK.rv at z
        cases hr : t.R k with
        | none => rfl
        | some r => rw [hr] at z; cases z
      rw [TMp_no this] at q
      cases q
    rcases h.keys.all k hk with z | z
    · exact z.elim
    · obtain ⟨v, hv, rfl⟩ := List.mem_map.1 z
      exact ⟨v, hv, rfl, (ents_ab (h.ents v hv) g f b l).2 q⟩
  · rintro ⟨v, hv, rfl, hm⟩
    exact (ents_ab (h.ents v hv) g f b l).1 hm
theorem all_ne {t t' : TK} {dat dat' : ByteArray → Int × Int → List Nat} {vs : List Av} (h : AllOf t dat vs) (h' : AllOf t' dat' vs) (k : ByteArray) (g : Int × Int) : Ab t dat k g = Ab t' dat' k g := by
  refine Option.ext (fun x => ?_)
  obtain ⟨f, b, l⟩ := x
  rw [all_ab h, all_ab h']
theorem sorted_strict {L : List ByteArray} (s : SortedS L) (n : L.Nodup) : L.Pairwise fun x y => x.data.toList ≤ y.data.toList ∧ x ≠ y := s.and n
theorem strict_asym (a b : ByteArray) (h : a.data.toList ≤ b.data.toList ∧ a ≠ b) : ¬ (b.data.toList ≤ a.data.toList ∧ b ≠ a) := by
  rintro ⟨h2, _⟩
  apply h.2
  have e : a.data.toList = b.data.toList := List.le_antisymm h.1 h2
  cases a
  cases b
  congr 1
  exact Array.toList_inj.1 e
theorem all_one {t t' : TK} {dat dat' : ByteArray → Int × Int → List Nat} {vs vs' : List Av} (h : AllOf t dat vs) (h' : AllOf t' dat' vs') (ek : ∀ k, t.R k = none ↔ t'.R k = none) (e : ∀ k g, Ab t dat k g = Ab t' dat' k g) : vs = vs' := by
  have rvn : ∀ (t : TK) k, t.rv k = none ↔ t.R k = none := by
    intro t k
    unfold TK.rv
    cases t.R k <;> simp
  refine pairs_one _ _ ?_ (fun a ha b hb hab => ?_)
  · refine pairwise_one strict_asym _ _ (sorted_strict h.srt h.keys.one) (sorted_strict h'.srt h'.keys.one) (fun k => ⟨fun z => ?_, fun z => ?_⟩)
    · have := (h.keys.each k z).2
      rw [Ne, rvn, ek, ← rvn] at this
      exact (h'.keys.all k this).resolve_left (fun q => q)
    · have := (h'.keys.each k z).2
      rw [Ne, rvn, ← ek, ← rvn] at this
      exact (h.keys.all k this).resolve_left (fun q => q)
  · refine ents_one (h.ents a ha) (h'.ents b hb) (fun g => ?_)
    have := e a.1 g
    rw [hab] at this ⊢
    exact this
end Go.Proofs.YtojepeefphbekaaGreat
