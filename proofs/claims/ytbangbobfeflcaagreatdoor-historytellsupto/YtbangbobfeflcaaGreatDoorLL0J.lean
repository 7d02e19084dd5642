import Derived.Test.YtbangbobfeflcaaGreatDoorLQu
import Derived.Lib.ItoaLen
import Derived.Deep.RegionHeld3
import Derived.Deep.DeepCutAuto
import Derived.Laws.Concat
import Derived.BigQuiet
namespace Go.Proofs.YtbangbobfeflcaaGreatDoor
open Go.RowKit 

/-- A number in tens, as a text. -/
def itB (v : Int) : ByteArray := ⟨(Lib.itoa v).toArray⟩
theorem itB_size (v : Int) (h : KI v) : (itB v).size ≤ 21 := by
  have q := Lib.itoa_length_le v h.1 (by have := h.2; omega)
  have e : (itB v).size = (Lib.itoa v).length := by unfold itB; simp [ByteArray.size]
  omega
def tagB (a b : Int) : ByteArray := itB a ++ ⟨#[46]⟩ ++ itB b
theorem itoaG (v : Int) (h : KI v) (w : World) (V : Tab w) : Calls Tryz.prog 60 #[.int .i64 v] w fun x w' => x = .returned (.string (itB v)) ∧ Below w.heap.size w w' := itoaAt h.1 (by have := h.2; omega) rfl w V
theorem formatG (v : Int) (h : KI v) (w : World) (V : Tab w) : Calls Tryz.prog 61 #[.int .i64 v, .int .i64 10] w fun x w' => x = .returned (.string (itB v)) ∧ Below w.heap.size w w' := formatAt h.1 (by have := h.2; omega) rfl w V
theorem val_ok {a b : Int} (h : (kIsZero a b || kIsProper a b) = true) : KI a ∧ KI b := by
  unfold kIsZero kIsProper at h
  simp at h
  unfold KI
  omega
set_option maxRecDepth 100000 in
set_option maxHeartbeats 2000000 in
theorem hTagTextG (a b : Int) (hv : (kIsZero a b || kIsProper a b) = true) (w : World) (V : Tab w) : Calls Tryz.prog 64 #[.agg #[.int .i64 a, .int .i64 b]] w fun x w' => x = .returned (.string (tagB a b)) ∧ Below w.heap.size w w' := by
  obtain ⟨ka, kb⟩ := val_ok hv
  obtain ⟨A, hA⟩ : ∃ A, itB a = A := ⟨_, rfl⟩
  obtain ⟨B, hB⟩ : ∃ B, itB b = B := ⟨_, rfl⟩
  have sA : A.size ≤ 21 := by rw [← hA]; exact itB_size a ka
  have sB : B.size ≤ 21 := by rw [← hB]; exact itB_size b kb
  unfold tagB
  rw [hA, hB]
  have B0 : Below w.heap.size w (w.alloc (Obj.cells #[.int .i64 a, .int .i64 b] 37)) := (Below.refl w.heap.size w).alloc (Nat.le_refl _) _
  have T0 : (w.alloc (Obj.cells #[.int .i64 a, .int .i64 b] 37)).heap[w.heap.size]? = some (.cells #[.int .i64 a, .int .i64 b] 37 (0, 0)) := alloc_new _ _
  have S0 : Hid (_ ∧ _ ∧ _) := And.intro B0 (And.intro T0 (V.by B0))
  clear B0 T0 V
  have CV : Hid (∀ U, Calls Tryz.prog 88 #[.agg #[.int .i64 a, .int .i64 b]] U fun x w' => x = .returned (.bool true) ∧ Kept (fun _ => False) U w') := fun U => by
    have q := hValid a b U
    rw [hv] at q
    exact q
  have add1 : ∀ w, (Op.stringOp .add A ⟨#[46]⟩).run Tryz.prog w = .ok (.string (A ++ ⟨#[46]⟩)) w := fun w => run_string_add_sum w A ⟨#[46]⟩ (by show A.size + 1 ≤ _; omega)
  obtain ⟨C, hC⟩ : ∃ C, A ++ ⟨#[46]⟩ = C := ⟨_, rfl⟩
  have sC : C.size ≤ 22 := by rw [← hC, ByteArray.size_append]; show A.size + 1 ≤ 22; omega
  have add2 : ∀ w, (Op.stringOp .add C B).run Tryz.prog w = .ok (.string (C ++ B)) w := fun w => run_string_add_sum w C B (by omega)
  rw [hC] at add1 ⊢
  obtain ⟨D, hD⟩ : ∃ D, C ++ B = D := ⟨_, rfl⟩
  rw [hD] at add2 ⊢
  have cF : Hid (∀ w, Tab w → Calls Tryz.prog 61 #[.int .i64 a, .int .i64 10] w fun x w' => x = .returned (.string A) ∧ Below w.heap.size w w') := fun w V => by rw [← hA]; exact formatG a ka w V
  have cI : Hid (∀ w, Tab w → Calls Tryz.prog 60 #[.int .i64 b] w fun x w' => x = .returned (.string B) ∧ Below w.heap.size w w') := fun w V => by rw [← hB]; exact itoaG b kb w V
  clear hA hB hC hD hv ka kb sA sB sC
  go_enter Tryz.func64, Tryz.ntmps64
  go_wp2_with fail
  refine (CV.out _).mono ?_
  rintro x w1 ⟨rfl, K1⟩
  have B1 := below_kept K1
  have S1 : Hid (Below w.heap.size w w1 ∧ w1.heap[w.heap.size]? = some (.cells #[.int .i64 a, .int .i64 b] 37 (0, 0)) ∧ Tab w1) := ⟨S0.out.1.trans (B1.mono S0.out.1.size), K1.get S0.out.2.1 (fun z => z), S0.out.2.2.by B1⟩
  clear B1 S0 K1 CV
  have c0 := cell_blk S1.out.2.1 0 (v := .int .i64 a) rfl
  have c1 := cell_blk S1.out.2.1 1 (v := .int .i64 b) rfl
  have lt := block_lt S1.out.2.1
  have B1 : Below w1.heap.size w1 w1.drew := (Below.refl _ _).drew
  have V1 : Hid (Tab w1.drew) := S1.out.2.2.by B1
  have KP : Hid (∀ w2, Below w1.drew.heap.size w1.drew w2 → w2.cell? ⟨w.heap.size, 0, none⟩ = some (.int .i64 a) ∧ w2.cell? ⟨w.heap.size, 1, none⟩ = some (.int .i64 b) ∧ Tab w2 ∧ Below w.heap.size w w2) :=
    fun w2 B2 => ⟨(B2.cell lt).trans c0, (B2.cell lt).trans c1, V1.out.by B2, S1.out.1.drew.trans (B2.mono S1.out.1.size)⟩
  clear B1
  go_upto_region 3 with fail
  go_region_held3 (fun w' => w'.cell? ⟨w.heap.size, 0, none⟩ = some (.int .i64 a) ∧ w'.cell? ⟨w.heap.size, 1, none⟩ = some (.int .i64 b)) (go_keep)
    (first | (go_at_call 61; refine (cF.out _ V1.out).mono ?_; rintro x w2 ⟨rfl, B2⟩; obtain ⟨q0, q1, V2, B3⟩ := KP.out w2 B2; have S2 : Hid (_ ∧ _) := And.intro V2 B3; clear V2 B3 B2) | (go_at_call 60; refine (cI.out _ S2.out.1).mono ?_; rintro x w3 ⟨rfl, B3⟩; have B4 : Hid (Below w.heap.size w w3) := S2.out.2.trans (B3.mono S2.out.2.size); have q2 : w3.cell? ⟨w.heap.size, 0, none⟩ = some (.int .i64 a) := (B3.cell (World.block_lt_of_cell? w2 _ q0)).trans q0; have q3 : w3.cell? ⟨w.heap.size, 1, none⟩ = some (.int .i64 b) := (B3.cell (World.block_lt_of_cell? w2 _ q1)).trans q1; clear B3) | fail)
  go_wp2_with fail
  go_ret
  exact ⟨by first | rfl | simp, B4.out⟩
end Go.Proofs.YtbangbobfeflcaaGreatDoor

namespace Go.Proofs.YtbangbobfeflcaaGreatDoor
open Go.RowKit 

def joinB (ws : List ByteArray) : ByteArray := ⟨(Lib.join (ws.map (·.data.toList)) [32]).toArray⟩
def kwB (k : Nat) : ByteArray := if k = 1 then ⟨#[105, 110, 118, 111, 107, 101]⟩ else if k = 2 then ⟨#[114, 101, 116, 117, 114, 110]⟩ else ⟨#[99, 97, 110, 99, 101, 108]⟩
theorem KWs.at {w : World} (h : KWs w) {k : Nat} (h1 : 1 ≤ k) (h2 : k ≤ 3) : w.cell? ⟨0, k, none⟩ = some (.string (kwB k)) := by
  obtain rfl | rfl | rfl : k = 1 ∨ k = 2 ∨ k = 3 := by omega
  · exact h.c1
  · exact h.c2
  · exact h.c3
theorem kwB_size (k : Nat) : (kwB k).size ≤ 7 := by
  unfold kwB
  split
  · decide
  · split <;> decide
def quoB (s : ByteArray) : ByteArray := str (quoN (bl s))
theorem str_size (l : List Nat) : (str l).size = l.length := by unfold str; simp [ByteArray.size]
theorem quoB_size (s : ByteArray) : (quoB s).size ≤ 4 * s.size + 2 := by
  unfold quoB
  rw [str_size]
  have := quoN_len (bl s)
  rw [bl_len] at this
  exact this
theorem endB_size (st : Int) : (endB st).size ≤ 6 := by
  unfold endB
  split
  · decide
  · split
    · decide
    · split <;> decide
theorem tagB_size {a b : Int} (ha : KI a) (hb : KI b) : (tagB a b).size ≤ 43 := by
  unfold tagB
  have h1 := itB_size a ha
  have h2 := itB_size b hb
  rw [ByteArray.size_append, ByteArray.size_append]
  show (itB a).size + 1 + (itB b).size ≤ 43
  omega
def lenW (ws : List ByteArray) : Nat := (ws.map (·.size)).sum
theorem lens_W : ∀ ws : List ByteArray, Lib.lens (ws.map (·.data.toList)) = lenW ws
  | [] => rfl
  | x :: r => by
    have q := lens_W r
    unfold lenW at q ⊢
    rw [List.map_cons, List.map_cons, List.sum_cons, ← q]
    unfold Lib.lens
    rw [List.map_cons, List.sum_cons]
    congr 1
theorem join_W {ws : List ByteArray} (h : ws ≠ []) : (Lib.join (ws.map (·.data.toList)) [32]).length ≤ lenW ws + ws.length := by
  cases ws with
  | nil => exact absurd rfl h
  | cons x r =>
    have q := lens_W (x :: r)
    rw [List.map_cons] at q ⊢
    rw [Lib.join_length, q]
    have e1 : ([32] : List UInt8).length = 1 := rfl
    rw [e1, List.length_map, List.length_cons]
    omega
theorem strs_append (a b : List ByteArray) : strs (a ++ b) = strs a ++ strs b := by unfold strs; rw [List.map_append]
theorem LnW.add {w W W' : World} {vs : Array Value} {P Q : Option Addr} {k cap cap' : Nat} {xs : List ByteArray} {x : ByteArray} (h : LnW w W vs P k cap xs) (g : W.grownBy W' (Value.slice P k cap).ownBlock) (o : W'.ownsRow (w.heap.size + 1) 9 1 (.slice Q (k + 1) cap') (k + 1) (strs xs ++ strs [x])) : LnW w W' vs Q (k + 1) cap' (xs ++ [x]) := h.more g (by rw [strs_append]; exact o)
theorem LnW.put {w W : World} {vs : Array Value} {g : Nat} {a b c d e x : ByteArray} (h : LnW w W vs (some ⟨g, 0, none⟩) 5 5 [a, b, c, d, e]) : LnW w (W.setCell ⟨g, 3, none⟩ (.string x)) vs (some ⟨g, 0, none⟩) 5 5 [a, b, c, x, e] ∧ W.cell? ⟨g, 3, none⟩ = some (.string d) ∧ W.frozen? ⟨g, 3, none⟩ = false := by
  have bl := own_lt h.row g rfl
  rcases h.row.2 with ⟨_, z⟩ | ⟨g', cap, cur, z, hb, hg, h1, h2, h3, h4⟩
  · omega
  · have z : Value.slice (some ⟨g, 0, none⟩) 5 5 = .slice (some ⟨g', 0, none⟩) 5 cap := z
    injection z with z1 _ z3
    have z1 : g = g' := by simpa using z1
    subst z1
    subst z3
    have hc := h.row.cells (g := g) rfl
    have c3 := hc 3 (.string d) rfl
    rw [Addr.add_none, Nat.zero_add] at c3
    refine ⟨⟨h.st.at ((Kept.refl (fun j => j = g) W).setCell (p := ⟨g, 3, none⟩) (fun _ => rfl) _) (fun j y => by have y : j = g := y; omega), ?_⟩, c3, soft_blk hg 3⟩
    have q := owns_set h.row 3 (.string x)
    exact q
end Go.Proofs.YtbangbobfeflcaaGreatDoor

namespace Go.Proofs.YtbangbobfeflcaaGreatDoor
open Go.RowKit 

set_option maxRecDepth 100000 in
set_option maxHeartbeats 4000000 in
theorem hLnP1 {w : World} {kd : Nat} {client op st tx ty : Int} {key : ByteArray} {va : Option Addr} {vn vc : Nat} {val : List Nat} (V : Tab w) (kw : KWs w) (k1 : 1 ≤ kd) (k3 : kd ≤ 3) (hc : KI client) (ho : KI op) (hs : key.size ≤ 64) (rv : Reads w va vn vc val) (hv : vn ≤ 65536) (hk : ¬ kd = 2) (hform : formE ⟨(kd : Int), client, op, true, key, va, vn, vc, st, tx, ty, val⟩ = 1) : Calls Tryz.prog 32 #[.agg #[.int .i64 (kd : Int), .int .i64 client, .int .i64 op, .bool true, .string key, .slice va vn vc, .int .i64 st, .int .i64 tx, .int .i64 ty]] w fun o w' => o = .returned (.string (joinB ([kwB kd, itB client, itB op, ⟨#[112, 117, 116]⟩, quoB key] ++ [quoB (str val)]))) ∧ Kept (fun _ => False) w w' := by
  have JL : Hid ((Lib.join (([kwB kd, itB client, itB op, ⟨#[112, 117, 116]⟩, quoB key] ++ [quoB (str val)]).map (·.data.toList)) [32]).length ≤ 140737488355328) := by
    have z1 := kwB_size kd
    have z2 := itB_size client hc
    have z3 := itB_size op ho
    have z5 := quoB_size key
    have z9 := quoB_size (str val)
    have z10 : (str val).size = vn := by rw [str_size, rv.length]
    refine Nat.le_trans (join_W (by simp)) ?_
    unfold lenW
    simp only [List.cons_append, List.nil_append, List.map_cons, List.map_nil, List.sum_cons, List.sum_nil, List.length_cons, List.length_nil]
    have z4 : (⟨#[112, 117, 116]⟩ : ByteArray).size = 3 := rfl
    omega
  have S0 : Hid (LnS w _ #[.int .i64 (kd : Int), .int .i64 client, .int .i64 op, .bool true, .string key, .slice va vn vc, .int .i64 st, .int .i64 tx, .int .i64 ty]) := LnS.start w #[.int .i64 (kd : Int), .int .i64 client, .int .i64 op, .bool true, .string key, .slice va vn vc, .int .i64 st, .int .i64 tx, .int .i64 ty] V kw
  have S1 : Hid (LnS w (w.alloc (.cells #[.int .i64 (kd : Int), .int .i64 client, .int .i64 op, .bool true, .string key, .slice va vn vc, .int .i64 st, .int .i64 tx, .int .i64 ty] 39)).drew #[.int .i64 (kd : Int), .int .i64 client, .int .i64 op, .bool true, .string key, .slice va vn vc, .int .i64 st, .int .i64 tx, .int .i64 ty]) := S0.out.by ((Below.refl _ _).drew)
  obtain ⟨CW, hCW⟩ : ∃ x, itB client = x := ⟨_, rfl⟩
  obtain ⟨OW, hOW⟩ : ∃ x, itB op = x := ⟨_, rfl⟩
  obtain ⟨QW, hQW⟩ : ∃ x, quoB key = x := ⟨_, rfl⟩
  obtain ⟨KW, hKW⟩ : ∃ x, kwB kd = x := ⟨_, rfl⟩
  have cI : Hid (∀ U, Tab U → Calls Tryz.prog 60 #[.int .i64 client] U fun x w' => x = .returned (.string CW) ∧ Below U.heap.size U w') := fun U h => by rw [← hCW]; exact itoaG client hc U h
  have cF : Hid (∀ U, Tab U → Calls Tryz.prog 61 #[.int .i64 op, .int .i64 10] U fun x w' => x = .returned (.string OW) ∧ Below U.heap.size U w') := fun U h => by rw [← hOW]; exact formatG op ho U h
  have cQ : Hid (∀ U, Calls Tryz.prog 62 #[.string key] U fun x w' => x = .returned (.string QW) ∧ Below U.heap.size U w') := fun U => by rw [← hQW]; exact (hQuoted key U (by omega)).mono fun _ _ h => ⟨h.1, below_kept h.2⟩
  have KA : Hid (∀ U, KWs U → U.cell? ⟨0, kd, none⟩ = some (.string KW)) := fun U h => by rw [← hKW]; exact h.at k1 k3
  have CF : Hid (∀ V, Calls Tryz.prog 55 #[.agg #[.int .i64 (kd : Int), .int .i64 client, .int .i64 op, .bool true, .string key, .slice va vn vc, .int .i64 st, .int .i64 tx, .int .i64 ty]] V fun o w' => o = .returned (.int .i64 1) ∧ Kept (fun _ => False) V w') := fun V => by
    have q := hForm ⟨(kd : Int), client, op, true, key, va, vn, vc, st, tx, ty, val⟩ V
    rw [hform] at q
    exact q
  obtain ⟨XW, hXW⟩ : ∃ x, str val = x := ⟨_, rfl⟩
  obtain ⟨VW, hVW⟩ : ∃ x, quoB XW = x := ⟨_, rfl⟩
  have sX : XW.size ≤ 65536 := by rw [← hXW, str_size, rv.length]; exact hv
  have cX : Hid (∀ U, Calls Tryz.prog 62 #[.string XW] U fun x w' => x = .returned (.string VW) ∧ Kept (fun _ => False) U w') := fun U => by rw [← hVW]; exact hQuoted XW U sX
  have RV : Hid (∀ U, Kept (fun _ => False) w U → (convert 34 9 (.slice va vn vc)).run Tryz.prog U = .ok (.string XW) U) := fun U K => by
    rw [← hXW]
    exact (rv.kept K (fun _ _ z => z)).string
  rw [hKW, hCW, hOW, hQW, hXW, hVW] at JL ⊢
  clear S0 V kw hc ho hs hform hKW hCW hOW hQW hXW hVW rv hv sX
  obtain ⟨JB, hJB⟩ : ∃ x, joinB ([KW, CW, OW, ⟨#[112, 117, 116]⟩, QW] ++ [VW]) = x := ⟨_, rfl⟩
  have HJ : Hid (joinB ([KW, CW, OW, ⟨#[112, 117, 116]⟩, QW] ++ [VW]) = JB) := hJB
  rw [hJB]
  clear hJB
  have a0 := cell_blk S1.out.ev 0 (v := .int .i64 (kd : Int)) rfl
  have a1 := cell_blk S1.out.ev 1 (v := .int .i64 client) rfl
  have a2 := cell_blk S1.out.ev 2 (v := .int .i64 op) rfl
  have a4 := cell_blk S1.out.ev 4 (v := .string key) rfl
  have ak := KA.out _ S1.out.kw
  have kz : (0 : Int) ≤ (kd : Int) := by omega
  have k4 : (kd : Int) < 4 := by omega
  have k4n : kd < 4 := by omega
  have kr : ((kd : Int) == 2) = false := by simp; omega
  have kr2 : ¬ (kd : Int) = 2 := by omega
  go_enter Tryz.func32, Tryz.ntmps32
  go_upto_region 1 with fail
  go_region_held3 (fun w' => w'.cell? ⟨w.heap.size, 0, none⟩ = some (.int .i64 (kd : Int)) ∧ w'.cell? ⟨w.heap.size, 1, none⟩ = some (.int .i64 client) ∧ w'.cell? ⟨w.heap.size, 2, none⟩ = some (.int .i64 op) ∧ w'.cell? ⟨w.heap.size, 4, none⟩ = some (.string key) ∧ w'.cell? ⟨0, kd, none⟩ = some (.string KW)) (go_keep)
    (first
      | (go_at_call 60; refine (cI.out _ S1.out.tab).mono ?_; rintro x w2 ⟨rfl, BB⟩; have S2 : Hid (LnS w w2 #[.int .i64 (kd : Int), .int .i64 client, .int .i64 op, .bool true, .string key, .slice va vn vc, .int .i64 st, .int .i64 tx, .int .i64 ty]) := S1.out.by BB; clear BB; have b0 := cell_blk S2.out.ev 0 (v := .int .i64 (kd : Int)) rfl; have b1 := cell_blk S2.out.ev 1 (v := .int .i64 client) rfl; have b2 := cell_blk S2.out.ev 2 (v := .int .i64 op) rfl; have b4 := cell_blk S2.out.ev 4 (v := .string key) rfl; have bk := KA.out _ S2.out.kw; skip)
      | (go_at_call 61; refine (cF.out _ S2.out.tab).mono ?_; rintro x w3 ⟨rfl, BB⟩; have S3 : Hid (LnS w w3 #[.int .i64 (kd : Int), .int .i64 client, .int .i64 op, .bool true, .string key, .slice va vn vc, .int .i64 st, .int .i64 tx, .int .i64 ty]) := S2.out.by BB; clear BB; have c0 := cell_blk S3.out.ev 0 (v := .int .i64 (kd : Int)) rfl; have c1 := cell_blk S3.out.ev 1 (v := .int .i64 client) rfl; have c2 := cell_blk S3.out.ev 2 (v := .int .i64 op) rfl; have c4 := cell_blk S3.out.ev 4 (v := .string key) rfl; have ck := KA.out _ S3.out.kw; skip)
      | (go_at_call 62; refine (cQ.out _).mono ?_; rintro x w4 ⟨rfl, BB⟩; have S4 : Hid (LnS w w4 #[.int .i64 (kd : Int), .int .i64 client, .int .i64 op, .bool true, .string key, .slice va vn vc, .int .i64 st, .int .i64 tx, .int .i64 ty]) := S3.out.by BB; clear BB; have d0 := cell_blk S4.out.ev 0 (v := .int .i64 (kd : Int)) rfl; have d1 := cell_blk S4.out.ev 1 (v := .int .i64 client) rfl; have d2 := cell_blk S4.out.ev 2 (v := .int .i64 op) rfl; have d4 := cell_blk S4.out.ev 4 (v := .string key) rfl; have dk := KA.out _ S4.out.kw; skip)
      | fail)
  have LT : Hid (w.heap.size < w4.heap.size) := block_lt S4.out.ev
  obtain ⟨W5, hW5⟩ : ∃ W, W = w4.alloc (.cells #[.string KW, .string CW, .string OW, .string ⟨#[103, 101, 116]⟩, .string QW] 9) := ⟨_, rfl⟩
  obtain ⟨g, hg⟩ : ∃ g, g = w4.heap.size := ⟨_, rfl⟩
  have N6 : Hid (LnW w W5 #[.int .i64 (kd : Int), .int .i64 client, .int .i64 op, .bool true, .string key, .slice va vn vc, .int .i64 st, .int .i64 tx, .int .i64 ty] (some ⟨g, 0, none⟩) 5 5 [KW, CW, OW, ⟨#[103, 101, 116]⟩, QW]) := by
    rw [hW5, hg]
    exact ⟨S4.out.keep ((Kept.refl _ _).alloc _), rfl, .inr ⟨w4.heap.size, 5, #[.string KW, .string CW, .string OW, .string ⟨#[103, 101, 116]⟩, .string QW], rfl, LT.out, alloc_new _ _, Nat.le_refl _, by unfold maxLen; omega, rfl, rfl⟩⟩
  have EW5 : Hid (W5 = w4.alloc (.cells #[.string KW, .string CW, .string OW, .string ⟨#[103, 101, 116]⟩, .string QW] 9) ∧ g = w4.heap.size) := ⟨hW5, hg⟩
  clear hW5 hg
  go_upto_region 2 with fail
  rw [← EW5.out.1, ← EW5.out.2]
  clear EW5 S1 S2 S3 S4 LT a0 a1 a2 a4 ak b0 b1 b2 b4 bk c0 c1 c2 c4 ck d0 d1 d2 d4 dk
  have g0 := cell_blk N6.out.st.ev 0 (v := .int .i64 (kd : Int)) rfl
  have g3 := cell_blk N6.out.st.ev 3 (v := .bool true) rfl
  obtain ⟨M6', q3, q4⟩ := N6.out.put (x := ⟨#[112, 117, 116]⟩)
  have M6 : Hid (LnW w (W5.setCell ⟨g, 3, none⟩ (.string ⟨#[112, 117, 116]⟩)) #[.int .i64 (kd : Int), .int .i64 client, .int .i64 op, .bool true, .string key, .slice va vn vc, .int .i64 st, .int .i64 tx, .int .i64 ty] (some ⟨g, 0, none⟩) 5 5 [KW, CW, OW, ⟨#[112, 117, 116]⟩, QW]) := M6'
  clear M6'
  go_upto_region 4 with fail
  obtain ⟨W6, hW6⟩ : ∃ W, W = W5.setCell ⟨g, 3, none⟩ (.string ⟨#[112, 117, 116]⟩) := ⟨_, rfl⟩
  rw [← hW6] at M6 ⊢
  clear hW6 q3 q4 N6 g0 g3
  have m0 := cell_blk M6.out.st.ev 0 (v := .int .i64 (kd : Int)) rfl
  have m1 := cell_blk M6.out.st.ev 1 (v := .int .i64 client) rfl
  have m2 := cell_blk M6.out.st.ev 2 (v := .int .i64 op) rfl
  have m3 := cell_blk M6.out.st.ev 3 (v := .bool true) rfl
  have m4 := cell_blk M6.out.st.ev 4 (v := .string key) rfl
  have m5 := cell_blk M6.out.st.ev 5 (v := .slice va vn vc) rfl
  have m6 := cell_blk M6.out.st.ev 6 (v := .int .i64 st) rfl
  have m7 := cell_blk M6.out.st.ev 7 (v := .int .i64 tx) rfl
  have m8 := cell_blk M6.out.st.ev 8 (v := .int .i64 ty) rfl
  go_wp2_with fail
  refine (CF.out _).mono ?_
  rintro o w7 ⟨rfl, K7⟩
  have N7 : Hid (LnW w w7 #[.int .i64 (kd : Int), .int .i64 client, .int .i64 op, .bool true, .string key, .slice va vn vc, .int .i64 st, .int .i64 tx, .int .i64 ty] (some ⟨g, 0, none⟩) 5 5 ([KW, CW, OW, ⟨#[112, 117, 116]⟩, QW])) := M6.out.keep K7
  clear K7 CF M6 m0 m1 m2 m3 m4 m5 m6 m7 m8
  have h5 := cell_blk N7.out.st.ev 5 (v := .slice va vn vc) rfl
  have cv := RV.out _ N7.out.st.kept
  go_wp2_with fail
  refine (cX.out _).mono ?_
  rintro o w9 ⟨rfl, K9⟩
  have N9 : Hid (LnW w w9 #[.int .i64 (kd : Int), .int .i64 client, .int .i64 op, .bool true, .string key, .slice va vn vc, .int .i64 st, .int .i64 tx, .int .i64 ty] (some ⟨g, 0, none⟩) 5 5 ([KW, CW, OW, ⟨#[112, 117, 116]⟩, QW])) := N7.out.keep K9
  clear K9 N7 h5 cv
  have NA2 : Hid (LnW w (w9.alloc (.cells #[.string VW] 9)) #[.int .i64 (kd : Int), .int .i64 client, .int .i64 op, .bool true, .string key, .slice va vn vc, .int .i64 st, .int .i64 tx, .int .i64 ty] (some ⟨g, 0, none⟩) 5 5 ([KW, CW, OW, ⟨#[112, 117, 116]⟩, QW])) := N9.out.keep ((Kept.refl _ _).alloc _)
  have SR2 : Hid (Src Tryz.prog 1 44 (.slice (some ⟨w9.heap.size, 0, none⟩) 1 1) 1 (strs [VW]) (w9.alloc (.cells #[.string VW] 9))) := src_str (alloc_new _ _)
  go_upto_region 15 with
    (first
      | (at_builtin; refine wpList_append_all _ rfl (.tmp 59) (.tmp 64) 44 9 44 _ 1 16 rfl Tryz.underlying44 Tryz.info9c rfl (w.heap.size + 1) (.slice (some ⟨g, 0, none⟩) 5 5) 5 (strs ([KW, CW, OW, ⟨#[112, 117, 116]⟩, QW])) rfl NA2.out.row _ 1 (strs [VW]) rfl SR2.out (by unfold maxLen; omega) (by omega) (Nat.succ_le_of_lt (block_lt NA2.out.st.ev)) ?_; intro q2 e2 v2 ho hg hn9; have M2 : Hid (LnW w v2 #[.int .i64 (kd : Int), .int .i64 client, .int .i64 op, .bool true, .string key, .slice va vn vc, .int .i64 st, .int .i64 tx, .int .i64 ty] q2 6 e2 ([KW, CW, OW, ⟨#[112, 117, 116]⟩, QW] ++ [VW])) := NA2.out.add hg.out ho.out; clear ho hg hn9; skip)
      | fail)
  clear NA2 SR2 N9
  have CJ : Hid (Calls Tryz.prog 65 #[.slice q2 6 e2, .string ⟨#[32]⟩] v2 fun o w' => o = .returned (.string JB) ∧ Kept (fun _ => False) v2 w') := M2.out.join rfl (by omega) (by omega) HJ.out JL.out
  go_wp2_with fail
  refine CJ.out.mono ?_
  rintro o wJ ⟨rfl, KJ⟩
  have F : Hid (Kept (fun _ => False) w wJ) := M2.out.st.kept.trans KJ (fun _ _ z => z)
  clear CJ KJ M2
  go_wp2_with fail
  go_ret
  exact ⟨by first | rfl | simp, F.out⟩
end Go.Proofs.YtbangbobfeflcaaGreatDoor
