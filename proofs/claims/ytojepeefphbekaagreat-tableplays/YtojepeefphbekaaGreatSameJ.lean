import Derived.Test.YtojepeefphbekaaGreatFragJ
import Derived.Test.YtojepeefphbekaaGreatAppl
namespace Go.Proofs.YtojepeefphbekaaGreat
open Go.RowKit

/-- A number modulo k, as the statements reckon it. -/
theorem md (d k : Int) (h0 : 0 < k) (h1 : k < 1000) : (wrap64 (d.tmod k + k)).tmod k = d % k := by
  have t1 := Int.tmod_lt_of_pos d h0
  have t2 : -k < d.tmod k := by
    rcases Int.le_total 0 d with h | h
    · have := Int.tmod_nonneg k h; omega
    · have := Int.tmod_lt_of_pos (-d) h0
      rw [Int.neg_tmod] at this
      omega
  have e1 : wrap64 (d.tmod k + k) = d.tmod k + k := by unfold wrap64; omega
  rw [e1, Int.tmod_eq_emod_of_nonneg (by omega)]
  have e2 := Int.mul_tdiv_add_tmod d k
  have e3 : d.tmod k + k = d + (1 - d.tdiv k) * k := by
    rw [Int.sub_mul, Int.one_mul, Int.mul_comm (d.tdiv k) k]
    omega
  rw [e3, Int.add_mul_emod_self_right]
theorem small (d : Int) (w : World) : Calls Tryz.prog 8 #[.int .i64 d] w fun o w' => o = .returned (.int .i64 (d % 5)) ∧ w' = w := by
  go_enter Tryz.func8, Tryz.ntmps8
  go_wp2_with fail
  go_ret
  exact ⟨by rw [← md d 5 (by omega) (by omega)]; rfl, rfl⟩
/-- One of three keys. -/
def key3 (d : Int) : ByteArray := if d % 3 = 0 then ⟨#[97]⟩ else if d % 3 = 1 then ⟨#[97, 98]⟩ else ⟨#[98]⟩
theorem keyOf3 (d : Int) (w : World) : Calls Tryz.prog 20 #[.int .i64 d] w fun o w' => o = .returned (.string (key3 d)) ∧ Kept (fun _ => False) w w' := by
  have e := md d 3 (by omega) (by omega)
  have KZ : Hid (∀ o, Kept (fun _ => False) w (w.alloc o)) := fun _ => k0_alloc _ _
  have r0 := Int.emod_nonneg d (show (3 : Int) ≠ 0 by omega)
  have r1 := Int.emod_lt_of_pos d (show (0 : Int) < 3 by omega)
  have KE : Hid (key3 d = if d % 3 = 0 then ⟨#[97]⟩ else if d % 3 = 1 then ⟨#[97, 98]⟩ else ⟨#[98]⟩) := rfl
  by_cases h0 : d % 3 = 0
  · rw [h0] at e
    have K0 : Hid (key3 d = ⟨#[97]⟩) := by rw [KE.out, if_pos h0]; rfl
    clear r0 r1 h0
    go_enter Tryz.func20, Tryz.ntmps20
    go_wp2_with fail
    go_ret
    exact ⟨by rw [K0.out]; rfl, KZ.out _⟩
  · by_cases h1 : d % 3 = 1
    · rw [h1] at e
      have K0 : Hid (key3 d = ⟨#[97, 98]⟩) := by rw [KE.out, if_neg h0, if_pos h1]; rfl
      clear r0 r1 h0 h1
      go_enter Tryz.func20, Tryz.ntmps20
      go_wp2_with fail
      go_ret
      exact ⟨by rw [K0.out]; rfl, KZ.out _⟩
    · have h2 : d % 3 = 2 := by omega
      rw [h2] at e
      have K0 : Hid (key3 d = ⟨#[98]⟩) := by rw [KE.out, if_neg h0, if_neg h1]; rfl
      clear r0 r1 h0 h1 h2
      go_enter Tryz.func20, Tryz.ntmps20
      go_wp2_with fail
      go_ret
      exact ⟨by rw [K0.out]; rfl, KZ.out _⟩
/-- A move's tag. -/
def tag60 (c k : Int) : Int × Int := (c % 12 + 1, k % 5 + 1)
theorem tagOf (key : Int) (fin both : Bool) (c k : Int) (w : World) : Calls Tryz.prog 39 #[.agg #[.int .i64 key, .bool fin, .bool both, .int .i64 c, .int .i64 k]] w fun o w' => o = .returned (.agg #[.int .i64 (c % 12 + 1), .int .i64 (k % 5 + 1)]) ∧ Kept (fun _ => False) w w' := by
  have e1 := md c 12 (by omega) (by omega)
  have e2 := md k 5 (by omega) (by omega)
  have a0 := Int.emod_nonneg c (show (12 : Int) ≠ 0 by omega)
  have a1 := Int.emod_lt_of_pos c (show (0 : Int) < 12 by omega)
  have b0 := Int.emod_nonneg k (show (5 : Int) ≠ 0 by omega)
  have b1 := Int.emod_lt_of_pos k (show (0 : Int) < 5 by omega)
  obtain ⟨u, hu⟩ : ∃ u, c % 12 = u := ⟨_, rfl⟩
  obtain ⟨v, hv⟩ : ∃ v, k % 5 = v := ⟨_, rfl⟩
  rw [hu] at e1 a0 a1 ⊢
  rw [hv] at e2 b0 b1 ⊢
  have w1 : wrap64 (u + 1) = u + 1 := by unfold wrap64; omega
  have w2 : wrap64 (v + 1) = v + 1 := by unfold wrap64; omega
  obtain ⟨W, hW⟩ : ∃ W, W = (w.alloc (.cells #[.int .i64 key, .bool fin, .bool both, .int .i64 c, .int .i64 k] 28)).alloc (.cells #[.int .i64 0, .int .i64 0] 37) := ⟨_, rfl⟩
  have H : Hid (TagAt W (w.heap.size + 1) 0 0 ∧ Kept (fun _ => False) w W) := by
    rw [hW]
    exact ⟨⟨two1 _ _ _⟩, ((Kept.refl _ w).alloc _).alloc _⟩
  have EW : Hid (W = (w.alloc (.cells #[.int .i64 key, .bool fin, .bool both, .int .i64 c, .int .i64 k] 28)).alloc (.cells #[.int .i64 0, .int .i64 0] 37)) := hW
  have bx : W.heap[w.heap.size]? = some (.cells #[.int .i64 key, .bool fin, .bool both, .int .i64 c, .int .i64 k] 28 (0, 0)) := by rw [hW]; exact two0 _ _ _
  have c3 := cell_blk bx 3 (v := .int .i64 c) rfl
  have c4 := cell_blk bx 4 (v := .int .i64 k) rfl
  obtain ⟨t0, t1, f0, f1⟩ := H.out.1.facts
  clear hW bx hu hv a0 a1 b0 b1
  go_enter Tryz.func39, Tryz.ntmps39
  go_upto_region 1 with fail
  rw [← EW.out]
  go_wp2_with fail
  refine bodyPost_ret (results_tag rfl _ _ _ (u + 1) (v + 1) rfl ((H.out.1.set0 _).set1 _)) rfl ⟨rfl, ?_⟩
  exact (H.out.2.setCell (p := ⟨w.heap.size + 1, 0, none⟩) (fun z => by have z : w.heap.size + 1 < w.heap.size := z; omega) _).setCell (p := ⟨w.heap.size + 1, 1, none⟩) (fun z => by have z : w.heap.size + 1 < w.heap.size := z; omega) _
end Go.Proofs.YtojepeefphbekaaGreat

namespace Go.Proofs.YtojepeefphbekaaGreat
open Go.RowKit

/-- Bytes as a text. -/
def str (l : List Nat) : ByteArray := ⟨(l.map UInt8.ofNat).toArray⟩
theorem Reads.string {w : World} {a : Option Addr} {len cap : Nat} {l : List Nat} (r : Reads w a len cap l) : (convert 38 9 (.slice a len cap)).run Tryz.prog w = .ok (.string (str l)) w := by
  have hlen := r.length
  subst hlen
  have hm : (l.map UInt8.ofNat).length = l.length := List.length_map ..
  have some_case : ∀ ad : Addr, a = some ad → (∀ j, j < l.length → w.cell? (ad.add j) = some (.int .u8 ((l.getD j 0 : Nat) : Int))) → (convert 38 9 (.slice a l.length cap)).run Tryz.prog w = .ok (.string (str l)) w := fun ad e hc => by
    subst e
    have := run_convert_bytes_back (P := Tryz.prog) w 38 9 5 ad cap (l.map UInt8.ofNat) Tryz.underlying38 Tryz.underlying5 Tryz.underlying9 (fun j hj => by
      have hj' : j < l.length := by rw [← hm]; exact hj
      rw [hc j hj']
      have hb := r.bytes l[j] (List.getElem_mem hj')
      have e1 : l.getD j 0 = l[j] := by rw [List.getD_eq_getElem?_getD, List.getElem?_eq_getElem hj']; rfl
      rw [e1, List.getElem_map, UInt8.toNat_ofNat']
      congr 3
      omega)
    rw [hm] at this
    exact this
  by_cases h0 : 0 < l.length
  · obtain ⟨b, off, e, hc⟩ := r.cells h0
    exact some_case _ e (fun j hj => by rw [Addr.add_none]; exact hc j hj)
  · have hl : l = [] := List.eq_nil_of_length_eq_zero (by omega)
    subst hl
    cases a with
    | some ad => exact some_case ad rfl (fun j hj => absurd hj (by simp))
    | none =>
      have e : (convert 38 9 (.slice none 0 cap)).run Tryz.prog w = .ok (.string (str [])) w := by kernel_rfl
      exact e
/-- A slice of bytes is this text. -/
def Txt (w : World) (a : Option Addr) (n c : Nat) (l : List Nat) : Prop := ∀ V, Kept (fun _ => False) w V → (convert 38 9 (.slice a n c)).run Tryz.prog V = .ok (.string (str l)) V
theorem Reads.txt {w : World} {a : Option Addr} {len cap : Nat} {l : List Nat} (r : Reads w a len cap l) : Txt w a len cap l := fun _ K => (r.kept K (fun _ _ z => z)).string
theorem txt_nil (w : World) (a : Option Addr) (c : Nat) : Txt w a 0 c [] := fun V _ => by
  cases a with
  | none =>
    have e : (convert 38 9 (.slice none 0 c)).run Tryz.prog V = .ok (.string (str [])) V := by kernel_rfl
    exact e
  | some ad => exact run_convert_bytes_back (P := Tryz.prog) V 38 9 5 ad c [] Tryz.underlying38 Tryz.underlying5 Tryz.underlying9 (fun j hj => absurd hj (by simp))
set_option maxRecDepth 100000 in
set_option maxHeartbeats 1000000 in
/-- Two entries that are alike. -/
theorem sameEntry (x y : Int) (f g : Bool) (l : List Nat) (a1 : Option Addr) (n1 c1 : Nat) (a2 : Option Addr) (n2 c2 : Nat) (w : World) (r1 : Txt w a1 n1 c1 l) (r2 : Txt w a2 n2 c2 l) :
    Calls Tryz.prog 41 #[.agg #[.int .i64 x, .int .i64 y, .bool f, .bool g, .slice a1 n1 c1], .agg #[.int .i64 x, .int .i64 y, .bool f, .bool g, .slice a2 n2 c2]] w fun o w' => o = .returned (.bool true) ∧ Kept (fun _ => False) w w' := by
  obtain ⟨W, hW⟩ : ∃ W, W = (w.alloc (.cells #[.int .i64 x, .int .i64 y, .bool f, .bool g, .slice a1 n1 c1] 40)).alloc (.cells #[.int .i64 x, .int .i64 y, .bool f, .bool g, .slice a2 n2 c2] 40) := ⟨_, rfl⟩
  have KW : Kept (fun _ => False) w W := by rw [hW]; exact ((Kept.refl _ w).alloc _).alloc _
  have s1 := r1 W KW
  have s2 := r2 W KW
  rw [hW] at s1 s2 KW
  have KH : Hid (Kept (fun _ => False) w ((w.alloc (.cells #[.int .i64 x, .int .i64 y, .bool f, .bool g, .slice a1 n1 c1] 40)).alloc (.cells #[.int .i64 x, .int .i64 y, .bool f, .bool g, .slice a2 n2 c2] 40))) := KW
  clear hW KW r1 r2 W
  go_enter Tryz.func41, Tryz.ntmps41
  go_wp2_with fail
  go_ret
  exact ⟨by simp, KH.out⟩
/-- A row of entries, as it lies. -/
structure ERd (w : World) (b off len : Nat) (T : Nat → (Int × Int) × Bool × Bool) (A : Nat → Option Addr × Nat × Nat) (D : Nat → List Nat) : Prop where
  cells : ∀ i, i < len → w.cell? ⟨b, off + i * 5, none⟩ = some (.int .i64 (T i).1.1) ∧ w.cell? ⟨b, off + i * 5 + 1, none⟩ = some (.int .i64 (T i).1.2) ∧ w.cell? ⟨b, off + i * 5 + 2, none⟩ = some (.bool (T i).2.1) ∧ w.cell? ⟨b, off + i * 5 + 3, none⟩ = some (.bool (T i).2.2) ∧ w.cell? ⟨b, off + i * 5 + 4, none⟩ = some (.slice (A i).1 (A i).2.1 (A i).2.2)
  dat : ∀ i, i < len → Txt w (A i).1 (A i).2.1 (A i).2.2 (D i)
theorem ERd.k0 {w w' : World} {b off len : Nat} {T : Nat → (Int × Int) × Bool × Bool} {A : Nat → Option Addr × Nat × Nat} {D : Nat → List Nat} (h : ERd w b off len T A D) (K : Kept (fun _ => False) w w') : ERd w' b off len T A D :=
  ⟨fun i hi => by
    obtain ⟨h0, h1, h2, h3, h4⟩ := h.cells i hi
    exact ⟨K.cell h0 (fun z => z), K.cell h1 (fun z => z), K.cell h2 (fun z => z), K.cell h3 (fun z => z), K.cell h4 (fun z => z)⟩, fun i hi V KV => h.dat i hi V (K.and0 KV)⟩
set_option maxRecDepth 100000 in
set_option maxHeartbeats 2000000 in
/-- Two lists of entries that are alike. -/
theorem sameEntries (b1 o1 b2 o2 len c1 c2 : Nat) (T : Nat → (Int × Int) × Bool × Bool) (A1 A2 : Nat → Option Addr × Nat × Nat) (D : Nat → List Nat) (w : World) (h1 : ERd w b1 o1 len T A1 D) (h2 : ERd w b2 o2 len T A2 D) (hl : len ≤ maxLen) :
    Calls Tryz.prog 22 #[.slice (some ⟨b1, o1, none⟩) len c1, .slice (some ⟨b2, o2, none⟩) len c2] w fun o w' => o = .returned (.bool true) ∧ Kept (fun _ => False) w w' := by
  have H1 : Hid (ERd w b1 o1 len T A1 D ∧ ERd w b2 o2 len T A2 D) := ⟨h1, h2⟩
  unfold maxLen at hl
  clear h1 h2
  go_enter Tryz.func22, Tryz.ntmps22
  go_wp2_with fail
  go_loopw [5, 13] (fun _ x wr => ∃ (i : Nat), x = .int .i64 (i : Int) ∧ i ≤ len ∧ Hid (Kept (fun _ => False) w wr)) (fun _ x _ => len - (intOf x).toNat)
  case atStart => exact ⟨0, rfl, Nat.zero_le _, Kept.refl _ _⟩
  case round =>
    obtain ⟨i, rfl, hi, S⟩ := hrel
    by_cases hlt : i < len
    · have i1 : (i : Int) < (len : Int) := by omega
      have L1 : Hid (ERd wr b1 o1 len T A1 D) := H1.out.1.k0 S.out
      have L2 : Hid (ERd wr b2 o2 len T A2 D) := H1.out.2.k0 S.out
      obtain ⟨⟨⟨x, y⟩, f, g⟩, ht⟩ : ∃ e, e = T i := ⟨_, rfl⟩
      obtain ⟨⟨a1, n1, e1⟩, ha1⟩ : ∃ e, e = A1 i := ⟨_, rfl⟩
      obtain ⟨⟨a2, n2, e2⟩, ha2⟩ : ∃ e, e = A2 i := ⟨_, rfl⟩
      have d := L1.out.cells i hlt
      have e := L2.out.cells i hlt
      rw [← ht, ← ha1] at d
      rw [← ht, ← ha2] at e
      dsimp only at d e
      obtain ⟨d0, d1, d2, d3, d4⟩ := d
      obtain ⟨f0, f1, f2, f3, f4⟩ := e
      have RR : Hid (Txt wr a1 n1 e1 (D i) ∧ Txt wr a2 n2 e2 (D i)) := by
        have z1 := L1.out.dat i hlt
        have z2 := L2.out.dat i hlt
        rw [← ha1] at z1
        rw [← ha2] at z2
        exact ⟨z1, z2⟩
      have CF : Hid (∀ V, Kept (fun _ => False) wr V → V.cell? ⟨b1, o1 + i * 5, none⟩ = some (.int .i64 x) ∧ V.cell? ⟨b1, o1 + i * 5 + 1, none⟩ = some (.int .i64 y) ∧ V.cell? ⟨b1, o1 + i * 5 + 2, none⟩ = some (.bool f) ∧ V.cell? ⟨b1, o1 + i * 5 + 3, none⟩ = some (.bool g) ∧ V.cell? ⟨b1, o1 + i * 5 + 4, none⟩ = some (.slice a1 n1 e1) ∧ V.cell? ⟨b2, o2 + i * 5, none⟩ = some (.int .i64 x) ∧ V.cell? ⟨b2, o2 + i * 5 + 1, none⟩ = some (.int .i64 y) ∧ V.cell? ⟨b2, o2 + i * 5 + 2, none⟩ = some (.bool f) ∧ V.cell? ⟨b2, o2 + i * 5 + 3, none⟩ = some (.bool g) ∧ V.cell? ⟨b2, o2 + i * 5 + 4, none⟩ = some (.slice a2 n2 e2)) := fun V K => ⟨K.cell d0 (fun z => z), K.cell d1 (fun z => z), K.cell d2 (fun z => z), K.cell d3 (fun z => z), K.cell d4 (fun z => z), K.cell f0 (fun z => z), K.cell f1 (fun z => z), K.cell f2 (fun z => z), K.cell f3 (fun z => z), K.cell f4 (fun z => z)⟩
      clear ht ha1 ha2
      go_upto_region 6 with fail
      go_region_held3 (fun V => V.cell? ⟨b1, o1 + i * 5, none⟩ = some (.int .i64 x) ∧ V.cell? ⟨b1, o1 + i * 5 + 1, none⟩ = some (.int .i64 y) ∧ V.cell? ⟨b1, o1 + i * 5 + 2, none⟩ = some (.bool f) ∧ V.cell? ⟨b1, o1 + i * 5 + 3, none⟩ = some (.bool g) ∧ V.cell? ⟨b1, o1 + i * 5 + 4, none⟩ = some (.slice a1 n1 e1) ∧ V.cell? ⟨b2, o2 + i * 5, none⟩ = some (.int .i64 x) ∧ V.cell? ⟨b2, o2 + i * 5 + 1, none⟩ = some (.int .i64 y) ∧ V.cell? ⟨b2, o2 + i * 5 + 2, none⟩ = some (.bool f) ∧ V.cell? ⟨b2, o2 + i * 5 + 3, none⟩ = some (.bool g) ∧ V.cell? ⟨b2, o2 + i * 5 + 4, none⟩ = some (.slice a2 n2 e2)) (first | go_keep)
        (first
          | (go_at_call 41; refine (sameEntry x y f g (D i) a1 n1 e1 a2 n2 e2 wr.drew (fun V KV => RR.out.1 V ((Kept.refl _ _).drew.and0 KV)) (fun V KV => RR.out.2 V ((Kept.refl _ _).drew.and0 KV))).mono ?_; rintro o w2 ⟨rfl, K2⟩
             have K3 : Hid (Kept (fun _ => False) wr w2) := ((Kept.refl _ _).drew).and0 K2
             obtain ⟨d0, d1, d2, d3, d4, f0, f1, f2, f3, f4⟩ := CF.out w2 K3.out
             clear K2)
          | fail)
      go_wp2_with fail
      go_roundw
      case rel => exact ⟨i + 1, by go_num, by omega, S.out.and0 K3.out⟩
      case measure => simp [intOf]; omega
    · have i1 : ¬ (i : Int) < (len : Int) := by omega
      go_wp2_with fail
      go_ret
      exact ⟨rfl, S.out⟩
set_option maxRecDepth 100000 in
set_option maxHeartbeats 2000000 in
/-- Fragments of a key that has entries. -/
theorem tFrag (nn : Nat) (t : TK) (key : ByteArray) (r : RK) (w : World) (h : IsT w nn t) (hk : key.size ≤ maxLen) (hr : t.R key = some r) (hn : nn ≤ 4398046511104) : Calls Tryz.prog 38 #[.pointer (some ⟨t.tb, 0, none⟩), .string key] w fun o w' => ∃ (L : List ((Int × Int) × Bool × Bool × Option Addr × Nat × Nat)), o = .returned (.int .i64 (hasN L : Int)) ∧ GE r.M (fun _ => False) L ∧ Kept (fun _ => False) w w' := by
  obtain ⟨tb, rb, delta, R⟩ := t
  have hr : R key = some r := hr
  have lk := h.rows.look rowsK hk
  have hv : TK.rv ⟨tb, rb, delta, R⟩ key = some ⟨some r.mb, some r.sb⟩ := by unfold TK.rv; dsimp only; rw [hr]; rfl
  rw [hv] at lk
  have lk : (Instr.lookup 83 (.map (some rb)) (.string key) false).run Tryz.prog w = .ok (.agg #[.map (some r.mb), .pointer (some ⟨r.sb, 0, none⟩)]) w := lk
  have e1 : w.cell? ⟨tb, 1, none⟩ = some (.map (some rb)) := cell_blk h.blk 1 rfl
  have FR : Hid (Calls Tryz.prog 67 #[.agg #[.map (some r.mb), .pointer (some ⟨r.sb, 0, none⟩)]] w fun o w' => ∃ (L : List ((Int × Int) × Bool × Bool × Option Addr × Nat × Nat)), o = .returned (.int .i64 (hasN L : Int)) ∧ GE r.M (fun _ => False) L ∧ Kept (fun _ => False) w w') := fragmentsB nn r w (h.row key r hr) hn
  clear hv h hr hk
  dsimp only
  go_enter Tryz.func38, Tryz.ntmps38
  go_wp2_with fail
  refine FR.out.mono ?_
  rintro o w2 ⟨L, rfl, g, K2⟩
  have H2 : Hid (GE r.M (fun _ => False) L ∧ Kept (fun _ => False) w w2) := ⟨g, K2⟩
  clear g K2 lk e1
  go_wp2_with fail
  go_ret
  exact ⟨L, rfl, H2.out.1, H2.out.2⟩
end Go.Proofs.YtojepeefphbekaaGreat
