import Derived.Test.YtbangbobfeflcaaGreatDoorHCo
import Derived.Deep.Cut
import Derived.BigQuiet
namespace Go.Proofs.YtbangbobfeflcaaGreatDoor
open Go.RowKit 

def kcs (L : List Ca) : List Value := L.flatMap fun c => c.cs.toList
theorem kcs_append (a b : List Ca) : kcs (a ++ b) = kcs a ++ kcs b := by unfold kcs; rw [List.flatMap_append]
theorem Tryz.info58c : (Tryz.prog.info? 58).map (fun i => (i.zero, i.size, i.bytes)) = some (some (.agg zeroK), 11, 112) := by kernel_rfl
theorem src_ca {w : World} {b : Nat} {c : Ca} (h : w.heap[b]? = some (.cells c.cs 58 (0, 0))) : Src Tryz.prog 11 25 (.slice (some ⟨b, 0, none⟩) 1 1) 1 (kcs [c]) w :=
  Src.ofSlice w Tryz.underlying25 ⟨b, 0, none⟩ 1 1 (kcs [c]) rfl (fun j u hj => by
    rw [Addr.add_none, Nat.zero_add]
    refine cell_blk h j ?_
    have e : kcs [c] = c.cs.toList := by unfold kcs; simp
    rw [e] at hj
    rw [← hj, Array.getElem?_toList]) (fun v hv => by
    have e : kcs [c] = c.cs.toList := by unfold kcs; simp
    rw [e] at hv
    simp [Ca.cs] at hv
    rcases hv with rfl | rfl | rfl | rfl | rfl | rfl | rfl | rfl | rfl | rfl | rfl <;> rfl)
/-- A list of calls of one's own, whose bytes lie in rows of their own. -/
structure KaR (b0 : Nat) (w : World) (p : Option Addr) (k c : Nat) (L : List Ca) : Prop where
  len : L.length = k
  row : w.ownsRow b0 58 11 (.slice p k c) k (kcs L)
  val : ∀ x ∈ L, w.ownsRow b0 5 1 (.slice x.va x.vn x.vc) x.vn (cellsOf x.val)
theorem KaR.k0 {b0 : Nat} {w w' : World} {p : Option Addr} {k c : Nat} {L : List Ca} (h : KaR b0 w p k c L) (K : Kept (fun _ => False) w w') : KaR b0 w' p k c L := ⟨h.len, K.owns h.row (fun _ _ z => z), fun x hx => K.owns (h.val x hx) (fun _ _ z => z)⟩
theorem KaR.more {b0 : Nat} {w w9 W0 : World} {p p9 : Option Addr} {k c c9 : Nat} {L : List Ca} {x : Ca} (h : KaR b0 w p k c L) (hx : w.ownsRow b0 5 1 (.slice x.va x.vn x.vc) x.vn (cellsOf x.val)) (ho : w9.ownsRow b0 58 11 (.slice p9 (k + 1) c9) (k + 1) (kcs L ++ kcs [x])) (hg : w.grownBy w9 (Value.slice p k c).ownBlock) (K0 : Kept (fun _ => False) W0 w) (hb : W0.heap.size ≤ b0) : KaR b0 w9 p9 (k + 1) c9 (L ++ [x]) ∧ Kept (fun _ => False) W0 w9 := by
  have KG : Kept (fun j => blockOf p = some j) w w9 := (Kept.refl (fun j => blockOf p = some j) w).grown hg (fun j _ z => by rw [blockOf_own] at z; exact z)
  have ap : ∀ y : Ca, w.ownsRow b0 5 1 (.slice y.va y.vn y.vc) y.vn (cellsOf y.val) → w9.ownsRow b0 5 1 (.slice y.va y.vn y.vc) y.vn (cellsOf y.val) := fun y hy => KG.owns hy (fun j z q => by
    rw [blockOf_own] at z
    obtain ⟨c1, e1⟩ := own_type hy j z
    obtain ⟨c2, e2⟩ := own_type h.row j q
    rw [e1] at e2
    simp at e2)
  refine ⟨⟨by rw [List.length_append, h.len]; rfl, by rw [kcs_append]; exact ho, fun y hy => ?_⟩, Kept.own K0 KG (fun j z => by have := (own_lt h.row j z).1; omega)⟩
  rcases List.mem_append.1 hy with z | z
  · exact ap y (h.val y z)
  · rw [List.mem_singleton] at z
    rw [z]
    exact ap x hx
/-- The calls of the first events. -/
def callsTo (es : List Ev) (i : Nat) : List (Option Cc) := ((List.range i).filter (isInv es)).map fun j => callP es (placesE es (keyAt es j))
theorem callsTo_all (es : List Ev) : callsTo es es.length = callsE es := rfl
theorem callsTo_add {es : List Ev} {i : Nat} {e : Ev} (h : es[i]? = some e) : callsTo es (i + 1) = if e.kind = 1 then callsTo es i ++ [callP es (placesE es (keyE e))] else callsTo es i := by
  unfold callsTo
  rw [List.range_succ, List.filter_append, List.map_append]
  have e1 : isInv es i = decide (e.kind = 1) := by unfold isInv; rw [h]
  have e2 : keyAt es i = keyE e := by unfold keyAt; rw [h]
  by_cases k : e.kind = 1
  · rw [if_pos k, List.filter_cons_of_pos (by rw [e1, decide_eq_true k])]
    simp [e2]
  · rw [if_neg k, List.filter_cons_of_neg (by rw [e1, decide_eq_false k]; decide)]
    simp
theorem chk_zero : ∀ (es : List Ev) (M : Int → Option Ev) (i : Nat) (a : Int), chkE es M i = (a, 0) → a = -1
  | [], _, _, a, h => by
    have := congrArg Prod.fst h
    exact this.symm
  | e :: es, M, i, a, h => by
    rw [chk_cons] at h
    split at h
    · rename_i z
      have := congrArg Prod.snd h
      exact absurd this z
    · split at h
      · have := congrArg Prod.snd h
        simp at this
      · exact chk_zero es _ _ a h
/-- How Calls stands. -/
structure LS (w wr : World) (es : List Ev) (i : Nat) (q : Option Addr) (k c : Nat) (L : List Ca) : Prop where
  row : KaR w.heap.size wr q k c L
  told : L.map (fun x => some x.cc) = callsTo es i
  kept : Kept (fun _ => False) w wr
def RetK (Q : Option Addr → Nat → Nat → Int → World → Prop) (o : Ending) (w : World) : Prop := ∃ (q : Option Addr) (k c : Nat) (e : Int), o = .returned (.tuple #[.slice q k c, .int .i64 e]) ∧ Q q k c e w
theorem RetK.mk {Q : Option Addr → Nat → Nat → Int → World → Prop} {o : Ending} {w : World} (q : Option Addr) (k c : Nat) (e : Int) (h : o = .returned (.tuple #[.slice q k c, .int .i64 e])) (hq : Q q k c e w) : RetK Q o w := ⟨q, k, c, e, h, hq⟩
end Go.Proofs.YtbangbobfeflcaaGreatDoor

namespace Go.Proofs.YtbangbobfeflcaaGreatDoor
open Go.RowKit 

theorem KaR.mono {b0 b1 : Nat} {w : World} {p : Option Addr} {k c : Nat} {L : List Ca} (h : KaR b0 w p k c L) (hb : b1 ≤ b0) : KaR b1 w p k c L := ⟨h.len, owns_mono h.row hb, fun x hx => owns_mono (h.val x hx) hb⟩
structure ClQ (w : World) (es : List Ev) (q : Option Addr) (k c : Nat) (e : Int) (w' : World) : Prop where
  ans : ∃ L, KaR w.heap.size w' q k c L ∧ ((¬ e = 0 ∧ L = [] ∧ ∃ a, chkE es noM 0 = (a, e)) ∨ (e = 0 ∧ chkE es noM 0 = (-1, 0) ∧ L.map (fun x => some x.cc) = callsE es))
  kept : Kept (fun _ => False) w w'
end Go.Proofs.YtbangbobfeflcaaGreatDoor

namespace Go.Proofs.YtbangbobfeflcaaGreatDoor
open Go.RowKit 

/-- A list of calls reads so. -/
structure CaRd (w : World) (p : Option Addr) (n c : Nat) (L : List Ca) : Prop where
  len : L.length = n
  room : n ≤ c
  small : c ≤ maxLen
  cells : 0 < n → ∃ b off, p = some ⟨b, off, none⟩ ∧ ∀ i (h : i < L.length) k v, L[i].cs[k]? = some v → w.cell? ⟨b, off + i * 11 + k, none⟩ = some v
  rd : ∀ x ∈ L, Reads w x.va x.vn x.vc x.val
theorem CaRd.at {w : World} {p : Option Addr} {n c : Nat} {L : List Ca} (h : CaRd w p n c L) {i : Nat} (hi : i < n) : ∃ b off x, p = some ⟨b, off, none⟩ ∧ L[i]? = some x ∧ w.cell? ⟨b, off + i * 11, none⟩ = some (.int .i64 x.client) ∧ w.cell? ⟨b, off + i * 11 + 1, none⟩ = some (.int .i64 x.op) ∧ w.cell? ⟨b, off + i * 11 + 2, none⟩ = some (.bool x.put) ∧ w.cell? ⟨b, off + i * 11 + 3, none⟩ = some (.string x.key) ∧ w.cell? ⟨b, off + i * 11 + 4, none⟩ = some (.slice x.va x.vn x.vc) ∧ w.cell? ⟨b, off + i * 11 + 5, none⟩ = some (.int .i64 x.st) ∧ w.cell? ⟨b, off + i * 11 + 6, none⟩ = some (.int .i64 x.frm) ∧ w.cell? ⟨b, off + i * 11 + 7, none⟩ = some (.int .i64 x.too) ∧ w.cell? ⟨b, off + i * 11 + 8, none⟩ = some (.bool x.opn) ∧ w.cell? ⟨b, off + i * 11 + 9, none⟩ = some (.int .i64 x.tx) ∧ w.cell? ⟨b, off + i * 11 + 10, none⟩ = some (.int .i64 x.ty) ∧ Reads w x.va x.vn x.vc x.val := by
  obtain ⟨b, off, e, hc⟩ := h.cells (by omega)
  have hi2 : i < L.length := by rw [h.len]; exact hi
  exact ⟨b, off, L[i], e, List.getElem?_eq_getElem hi2, hc i hi2 0 _ rfl, hc i hi2 1 _ rfl, hc i hi2 2 _ rfl, hc i hi2 3 _ rfl, hc i hi2 4 _ rfl, hc i hi2 5 _ rfl, hc i hi2 6 _ rfl, hc i hi2 7 _ rfl, hc i hi2 8 _ rfl, hc i hi2 9 _ rfl, hc i hi2 10 _ rfl, h.rd _ (List.getElem_mem hi2)⟩
theorem CaRd.k0 {w w' : World} {p : Option Addr} {n c : Nat} {L : List Ca} (h : CaRd w p n c L) (K : Kept (fun _ => False) w w') : CaRd w' p n c L := by
  refine ⟨h.len, h.room, h.small, fun h0 => ?_, fun x hx => Reads.kept K (h.rd x hx) (fun _ _ z => z)⟩
  obtain ⟨b, off, e, hc⟩ := h.cells h0
  exact ⟨b, off, e, fun i hi k v hv => K.cell (hc i hi k v hv) (fun z => z)⟩
set_option maxRecDepth 100000 in
set_option maxHeartbeats 8000000 in
theorem hSameCalls {w : World} {p1 p2 : Option Addr} {n c1 c2 : Nat} {L1 L2 : List Ca} (h1 : CaRd w p1 n c1 L1) (h2 : CaRd w p2 n c2 L2) (e : L1.map Ca.cc = L2.map Ca.cc) : Calls Tryz.prog 8 #[.slice p1 n c1, .slice p2 n c2] w fun o w' => o = .returned (.bool true) ∧ Kept (fun _ => False) w w' := by
  have r1 := h1.room
  have s1 := h1.small
  have r2 := h2.room
  have s2 := h2.small
  unfold maxLen at s1 s2
  have H : Hid (CaRd w p1 n c1 L1 ∧ CaRd w p2 n c2 L2 ∧ L1.map Ca.cc = L2.map Ca.cc) := ⟨h1, h2, e⟩
  have S0 : Hid (Kept (fun _ => False) w w) := Kept.refl _ _
  clear h1 h2 e
  go_enter Tryz.func8, Tryz.ntmps8
  go_wp2_with fail
  go_loopw [5, 6, 7] (fun u5 _ _ wr => ∃ i : Nat, u5 = .int .i64 (i : Int) ∧ i ≤ n ∧ Hid (Kept (fun _ => False) w wr)) (fun u5 _ _ _ => n - (intOf u5).toNat)
  case atStart => exact ⟨0, rfl, Nat.zero_le _, S0⟩
  case round =>
    obtain ⟨i, rfl, hi, S⟩ := hrel
    clear S0
    obtain ⟨wo, hwo⟩ : ∃ wo, wo = wr := ⟨_, rfl⟩
    rw [← hwo] at S ⊢
    clear hwo
    by_cases hlt : i < n
    · have i1 : (i : Int) < (n : Int) := by omega
      obtain ⟨b, off, x, rfl, hx, a0, a1, a2, a3, a4, a5, a6, a7, a8, a9, a10, rx⟩ := (H.out.1.k0 S.out).at hlt
      obtain ⟨W6, hW6⟩ : ∃ W6, W6 = wo.alloc (.cells #[.int .i64 x.client, .int .i64 x.op, .bool x.put, .string x.key, .slice x.va x.vn x.vc, .int .i64 x.st, .int .i64 x.frm, .int .i64 x.too, .bool x.opn, .int .i64 x.tx, .int .i64 x.ty] 58) := ⟨_, rfl⟩
      obtain ⟨B6, hB6⟩ : ∃ B6, B6 = wo.heap.size := ⟨_, rfl⟩
      have K6 : Hid (Kept (fun _ => False) wo W6) := by rw [hW6]; exact (Kept.refl _ _).alloc _
      have X6 : Hid (W6.heap[B6]? = some (.cells #[.int .i64 x.client, .int .i64 x.op, .bool x.put, .string x.key, .slice x.va x.vn x.vc, .int .i64 x.st, .int .i64 x.frm, .int .i64 x.too, .bool x.opn, .int .i64 x.tx, .int .i64 x.ty] 58 (0, 0))) := by rw [hW6, hB6]; exact alloc_new _ _
      have E6 : Hid (W6 = wo.alloc (.cells #[.int .i64 x.client, .int .i64 x.op, .bool x.put, .string x.key, .slice x.va x.vn x.vc, .int .i64 x.st, .int .i64 x.frm, .int .i64 x.too, .bool x.opn, .int .i64 x.tx, .int .i64 x.ty] 58) ∧ B6 = wo.heap.size) := ⟨hW6, hB6⟩
      obtain ⟨b2, off2, y, rfl, hy, d0, d1, d2, d3, d4, d5, d6, d7, d8, d9, d10, ry⟩ := (H.out.2.1.k0 (S.out.trans K6.out (fun _ _ z => z))).at hlt
      have ec : x.cc = y.cc := by
        have := congrArg (fun l => l[i]?) H.out.2.2
        simp only [List.getElem?_map, hx, hy] at this
        exact Option.some.inj this
      have e1 : y.client = x.client := (congrArg Cc.client ec).symm
      have e2 : y.op = x.op := (congrArg Cc.op ec).symm
      have e3 : y.put = x.put := (congrArg Cc.put ec).symm
      have e4 : y.key = x.key := (congrArg Cc.key ec).symm
      have e5 : y.st = x.st := (congrArg Cc.st ec).symm
      have e6 : y.frm = x.frm := (congrArg Cc.frm ec).symm
      have e7 : y.too = x.too := (congrArg Cc.too ec).symm
      have e8 : y.opn = x.opn := (congrArg Cc.opn ec).symm
      have e9 : y.tx = x.tx := (congrArg Cc.tx ec).symm
      have e10 : y.ty = x.ty := (congrArg Cc.ty ec).symm
      have ev : y.val = x.val := (congrArg Cc.val ec).symm
      rw [e1] at d0
      rw [e2] at d1
      rw [e3] at d2
      rw [e4] at d3
      rw [e5] at d5
      rw [e6] at d6
      rw [e7] at d7
      rw [e8] at d8
      rw [e9] at d9
      rw [e10] at d10
      rw [ev] at ry
      obtain ⟨W7, hW7⟩ : ∃ W7, W7 = W6.alloc (.cells #[.int .i64 x.client, .int .i64 x.op, .bool x.put, .string x.key, .slice y.va y.vn y.vc, .int .i64 x.st, .int .i64 x.frm, .int .i64 x.too, .bool x.opn, .int .i64 x.tx, .int .i64 x.ty] 58) := ⟨_, rfl⟩
      obtain ⟨B7, hB7⟩ : ∃ B7, B7 = W6.heap.size := ⟨_, rfl⟩
      have K7 : Hid (Kept (fun _ => False) W6 W7) := by rw [hW7]; exact (Kept.refl _ _).alloc _
      have X7 : Hid (W7.heap[B7]? = some (.cells #[.int .i64 x.client, .int .i64 x.op, .bool x.put, .string x.key, .slice y.va y.vn y.vc, .int .i64 x.st, .int .i64 x.frm, .int .i64 x.too, .bool x.opn, .int .i64 x.tx, .int .i64 x.ty] 58 (0, 0)) ∧ W7.heap[B6]? = some (.cells #[.int .i64 x.client, .int .i64 x.op, .bool x.put, .string x.key, .slice x.va x.vn x.vc, .int .i64 x.st, .int .i64 x.frm, .int .i64 x.too, .bool x.opn, .int .i64 x.tx, .int .i64 x.ty] 58 (0, 0))) := ⟨by rw [hW7, hB7]; exact alloc_new _ _, K7.out.get X6.out (fun z => z)⟩
      have E7 : Hid (W7 = W6.alloc (.cells #[.int .i64 x.client, .int .i64 x.op, .bool x.put, .string x.key, .slice y.va y.vn y.vc, .int .i64 x.st, .int .i64 x.frm, .int .i64 x.too, .bool x.opn, .int .i64 x.tx, .int .i64 x.ty] 58) ∧ B7 = W6.heap.size) := ⟨hW7, hB7⟩
      have C25 : Hid (∀ V, Kept (fun _ => False) W7 V → Calls Tryz.prog 28 #[.slice x.va x.vn x.vc, .slice y.va y.vn y.vc] V fun o w' => o = .returned (.bool true) ∧ Kept (fun _ => False) V w') := fun V kv => by
        have k1 := (K6.out.trans K7.out (fun _ _ z => z)).trans kv (fun _ _ z => z)
        have := hSame (Reads.kept k1 rx (fun _ _ z => z)) (Reads.kept (K7.out.trans kv (fun _ _ z => z)) ry (fun _ _ z => z))
        rw [decide_eq_true (rfl : x.val = x.val)] at this
        exact this
      clear hW6 hB6 hW7 hB7 hx hy ec e1 e2 e3 e4 e5 e6 e7 e8 e9 e10 ev rx ry
      go_upto_region 7 with fail
      rw [← E6.out.1, ← E6.out.2]
      clear a0 a1 a2 a3 a4 a5 a6 a7 a8 a9 a10
      go_upto_region 8 with fail
      rw [← E7.out.1, ← E7.out.2]
      clear d0 d1 d2 d3 d4 d5 d6 d7 d8 d9 d10
      have l0 := cell_blk X7.out.2 0 (v := .int .i64 x.client) rfl
      have l1 := cell_blk X7.out.2 1 (v := .int .i64 x.op) rfl
      have l2 := cell_blk X7.out.2 2 (v := .bool x.put) rfl
      have l3 := cell_blk X7.out.2 3 (v := .string x.key) rfl
      have l4 := cell_blk X7.out.2 4 (v := .slice x.va x.vn x.vc) rfl
      have l5 := cell_blk X7.out.2 5 (v := .int .i64 x.st) rfl
      have l6 := cell_blk X7.out.2 6 (v := .int .i64 x.frm) rfl
      have l7 := cell_blk X7.out.2 7 (v := .int .i64 x.too) rfl
      have l8 := cell_blk X7.out.2 8 (v := .bool x.opn) rfl
      have l9 := cell_blk X7.out.2 9 (v := .int .i64 x.tx) rfl
      have l10 := cell_blk X7.out.2 10 (v := .int .i64 x.ty) rfl
      have m0 := cell_blk X7.out.1 0 (v := .int .i64 x.client) rfl
      have m1 := cell_blk X7.out.1 1 (v := .int .i64 x.op) rfl
      have m2 := cell_blk X7.out.1 2 (v := .bool x.put) rfl
      have m3 := cell_blk X7.out.1 3 (v := .string x.key) rfl
      have m4 := cell_blk X7.out.1 4 (v := .slice y.va y.vn y.vc) rfl
      have m5 := cell_blk X7.out.1 5 (v := .int .i64 x.st) rfl
      have m6 := cell_blk X7.out.1 6 (v := .int .i64 x.frm) rfl
      have m7 := cell_blk X7.out.1 7 (v := .int .i64 x.too) rfl
      have m8 := cell_blk X7.out.1 8 (v := .bool x.opn) rfl
      have m9 := cell_blk X7.out.1 9 (v := .int .i64 x.tx) rfl
      have m10 := cell_blk X7.out.1 10 (v := .int .i64 x.ty) rfl
      go_wp2_with fail
      refine (C25.out _ (Kept.refl _ _)).mono ?_
      rintro o w8 ⟨rfl, K8⟩
      have NX : Hid (Kept (fun _ => False) w w8) := ((S.out.trans K6.out (fun _ _ z => z)).trans K7.out (fun _ _ z => z)).trans K8 (fun _ _ z => z)
      have Y8 : Hid (w8.heap[B7]? = some (.cells #[.int .i64 x.client, .int .i64 x.op, .bool x.put, .string x.key, .slice y.va y.vn y.vc, .int .i64 x.st, .int .i64 x.frm, .int .i64 x.too, .bool x.opn, .int .i64 x.tx, .int .i64 x.ty] 58 (0, 0)) ∧ w8.heap[B6]? = some (.cells #[.int .i64 x.client, .int .i64 x.op, .bool x.put, .string x.key, .slice x.va x.vn x.vc, .int .i64 x.st, .int .i64 x.frm, .int .i64 x.too, .bool x.opn, .int .i64 x.tx, .int .i64 x.ty] 58 (0, 0))) := ⟨K8.get X7.out.1 (fun z => z), K8.get X7.out.2 (fun z => z)⟩
      clear K8 C25 l0 l1 l2 l3 l4 l5 l6 l7 l8 l9 l10 m0 m1 m2 m3 m4 m5 m6 m7 m8 m9 m10
      have l5 := cell_blk Y8.out.2 5 (v := .int .i64 x.st) rfl
      have l6 := cell_blk Y8.out.2 6 (v := .int .i64 x.frm) rfl
      have l7 := cell_blk Y8.out.2 7 (v := .int .i64 x.too) rfl
      have l8 := cell_blk Y8.out.2 8 (v := .bool x.opn) rfl
      have l9 := cell_blk Y8.out.2 9 (v := .int .i64 x.tx) rfl
      have l10 := cell_blk Y8.out.2 10 (v := .int .i64 x.ty) rfl
      have m5 := cell_blk Y8.out.1 5 (v := .int .i64 x.st) rfl
      have m6 := cell_blk Y8.out.1 6 (v := .int .i64 x.frm) rfl
      have m7 := cell_blk Y8.out.1 7 (v := .int .i64 x.too) rfl
      have m8 := cell_blk Y8.out.1 8 (v := .bool x.opn) rfl
      have m9 := cell_blk Y8.out.1 9 (v := .int .i64 x.tx) rfl
      have m10 := cell_blk Y8.out.1 10 (v := .int .i64 x.ty) rfl
      go_wp2_with fail
      go_roundw
      case rel => exact ⟨i + 1, by go_num, by omega, NX⟩
      case measure => simp [intOf] <;> omega
    · have i1 : ¬ (i : Int) < (n : Int) := by omega
      go_wp2_with fail
      go_ret
      exact ⟨by first | rfl | simp, S.out⟩
end Go.Proofs.YtbangbobfeflcaaGreatDoor
