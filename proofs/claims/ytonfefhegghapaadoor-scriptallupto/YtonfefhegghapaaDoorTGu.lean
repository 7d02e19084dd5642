import Derived.Test.YtonfefhegghapaaDoorTNsJ
import Derived.Test.YtonfefhegghapaaDoorTKd
import Derived.Laws.Rows
namespace Go.Proofs.YtonfefhegghapaaDoor
open Go.RowKit 

/-- A step. -/
structure St where
  kind : Int
  a : Int
  b : Int
  key : List UInt8
  val : List UInt8
  l : List Int
/-- The one step that this may be the line of, by what its kind's line has. -/
def gsU (u k : Nat) (t0 : List UInt8) : St :=
  let p1 := if u % 2 = 1 then (atoiV (cutE 32 t0).1, (cutE 32 t0).2) else (0, t0)
  let p2 := if u / 2 % 2 = 1 then (atoiV (cutE 32 p1.2).1, (cutE 32 p1.2).2) else (0, p1.2)
  let p3 := if u / 4 % 2 = 1 then (hexL (ofL (cutE 32 p2.2).1), (cutE 32 p2.2).2) else ([], p2.2)
  let p4 := if u / 8 % 2 = 1 then (hexL (ofL (cutE 32 p3.2).1), (cutE 32 p3.2).2) else ([], p3.2)
  let p5 := if u / 16 % 2 = 1 then numsL p4.2 else []
  ⟨(k : Int), p1.1, p2.1, p3.1, p4.1, p5⟩
def gs (l : List UInt8) : St := gsU (useN (kindL (cutE 32 l).1)) (kindL (cutE 32 l).1) (cutE 32 l).2
/-- A step in memory. -/
structure Sm where
  kind : Int
  a : Int
  b : Int
  key : ByteArray
  va : Option Addr
  vn : Nat
  vc : Nat
  la : Option Addr
  ln : Nat
  lc : Nat
def Sm.cs (x : Sm) : Array Value := #[.int .i64 x.kind, .int .i64 x.a, .int .i64 x.b, .string x.key, .slice x.va x.vn x.vc, .slice x.la x.ln x.lc]
/-- A step of one's own. -/
structure SO (b0 : Nat) (w : World) (x : Sm) (s : St) : Prop where
  kind : x.kind = s.kind
  a : x.a = s.a
  b : x.b = s.b
  key : x.key = ofL s.key
  vl : x.vn = s.val.length
  vr : w.ownsRow b0 5 1 (.slice x.va x.vn x.vc) x.vn (Lib.byteCells s.val)
  ll : x.ln = s.l.length
  lr : w.ownsRow b0 3 1 (.slice x.la x.ln x.lc) x.ln (intC s.l)
theorem own_off {w w' : World} {b0 : Nat} {t t' : TypeId} {size n c : Nat} {p : Option Addr} {xs : List Value} (h : w.ownsRow b0 t size (.slice p n c) n xs) {q : Nat} {cs : Array Value} (hq : w.heap[q]? = some (.cells cs t' (0, 0))) (ht : t' ≠ t) (K : Kept (fun j => j = q) w w') : w'.ownsRow b0 t size (.slice p n c) n xs := K.owns h (fun j z e => by
  subst e
  rw [blockOf_own] at z
  obtain ⟨c2, e2⟩ := own_type h j z
  rw [hq] at e2
  simp at e2
  exact ht e2.2)
theorem own_none (w : World) (b0 : Nat) (t : TypeId) (size : Nat) : w.ownsRow b0 t size (.slice none 0 0) 0 [] := ⟨by simp, .inl ⟨rfl, rfl⟩⟩
/-- Where guess is: the answer's cell, what is left of the line, the step so far. -/
structure GT (w W : World) (t : ByteArray) (B : Nat) (cs : Array Value) : Prop where
  rd : W.heap[w.heap.size + 1]? = some (.cells #[.string t] 75 (0, 0))
  an : W.heap[w.heap.size]? = some (.cells #[.int .i64 0, .int .i64 0, .int .i64 0, .string ⟨#[]⟩, .slice none 0 0, .slice none 0 0] 38 (0, 0))
  bx : W.heap[B]? = some (.cells cs 38 (0, 0))
  kept : Kept (fun _ => False) w W
  lo : w.heap.size + 1 < B
theorem GT.call {w W W' : World} {t t' : ByteArray} {B : Nat} {cs : Array Value} (h : GT w W t B cs) (K : Kept (fun j => j = w.heap.size + 1) W W') (r : W'.heap[w.heap.size + 1]? = some (.cells #[.string t'] 75 (0, 0))) : GT w W' t' B cs := ⟨r, K.get h.an (by show ¬ w.heap.size = w.heap.size + 1; omega), K.get h.bx (by have := h.lo; show ¬ B = _; omega), h.kept.trans K (fun j hj z => by omega), h.lo⟩
theorem GT.set {w W : World} {t : ByteArray} {B : Nat} {cs : Array Value} (h : GT w W t B cs) (i : Nat) (v : Value) : GT w (W.setCell ⟨B, i, none⟩ v) t B (cs.setIfInBounds i v) ∧ Kept (fun j => j = B) W (W.setCell ⟨B, i, none⟩ v) := by
  have K : Kept (fun j => j = B) W (W.setCell ⟨B, i, none⟩ v) := (Kept.refl (fun j => j = B) W).setCell (p := ⟨B, i, none⟩) (fun _ => rfl) v
  have := h.lo
  exact ⟨⟨K.get h.rd (by omega), K.get h.an (by omega), set_heap h.bx i v, h.kept.trans K (fun j hj z => by omega), h.lo⟩, K⟩
theorem set6 {V : World} {b : Nat} (h : V.heap[b]? = some (.cells #[.int .i64 0, .int .i64 0, .int .i64 0, .string ⟨#[]⟩, .slice none 0 0, .slice none 0 0] 38 (0, 0))) (v0 v1 v2 v3 v4 v5 : Value) : ((((((V.setCell ⟨b, 0, none⟩ v0).setCell ⟨b, 1, none⟩ v1).setCell ⟨b, 2, none⟩ v2).setCell ⟨b, 3, none⟩ v3).setCell ⟨b, 4, none⟩ v4).setCell ⟨b, 5, none⟩ v5).heap[b]? = some (.cells #[v0, v1, v2, v3, v4, v5] 38 (0, 0)) ∧ Kept (fun j => j = b) V ((((((V.setCell ⟨b, 0, none⟩ v0).setCell ⟨b, 1, none⟩ v1).setCell ⟨b, 2, none⟩ v2).setCell ⟨b, 3, none⟩ v3).setCell ⟨b, 4, none⟩ v4).setCell ⟨b, 5, none⟩ v5) := by
  refine ⟨?_, ((((((Kept.refl (fun j => j = b) V).setCell (p := ⟨b, 0, none⟩) (fun _ => rfl) _).setCell (p := ⟨b, 1, none⟩) (fun _ => rfl) _).setCell (p := ⟨b, 2, none⟩) (fun _ => rfl) _).setCell (p := ⟨b, 3, none⟩) (fun _ => rfl) _).setCell (p := ⟨b, 4, none⟩) (fun _ => rfl) _).setCell (p := ⟨b, 5, none⟩) (fun _ => rfl) _⟩
  rw [set_heap (set_heap (set_heap (set_heap (set_heap (set_heap h 0 v0) 1 v1) 2 v2) 3 v3) 4 v4) 5 v5]
  rfl
theorem use_cases {k : Nat} (h : k < 17) : useN k = 0 ∨ useN k = 1 ∨ useN k = 3 ∨ useN k = 5 ∨ useN k = 13 ∨ useN k = 17 ∨ useN k = 18 ∨ useN k = 19 := by
  obtain rfl | rfl | rfl | rfl | rfl | rfl | rfl | rfl | rfl | rfl | rfl | rfl | rfl | rfl | rfl | rfl | rfl : k = 0 ∨ k = 1 ∨ k = 2 ∨ k = 3 ∨ k = 4 ∨ k = 5 ∨ k = 6 ∨ k = 7 ∨ k = 8 ∨ k = 9 ∨ k = 10 ∨ k = 11 ∨ k = 12 ∨ k = 13 ∨ k = 14 ∨ k = 15 ∨ k = 16 := by omega
  all_goals decide
theorem cut_size {s : ByteArray} (h : s.size ≤ 33554432) : (ofL (cutE 32 s.data.toList).2).size ≤ 33554432 := by
  have := (cutE_len 32 s.data.toList).2.1
  rw [ofL_sizeE]
  rw [Array.length_toList] at this
  have : (cutE 32 s.data.toList).2.length ≤ s.size := this
  omega
def RetM (Q : Sm → World → Prop) (o : Ending) (w : World) : Prop := ∃ x : Sm, o = .returned (.agg x.cs) ∧ Q x w
set_option maxRecDepth 100000 in
set_option maxHeartbeats 8000000 in
theorem hGuessE (s : ByteArray) (w : World) (hs : s.size ≤ 33554432) (V : Vars w) (F : FM w) : Calls Tryd.prog 36 #[.string s] w (RetM fun x w' => SO w.heap.size w' x (gs s.data.toList) ∧ Kept (fun _ => False) w w') := by
  obtain ⟨G, hG⟩ : ∃ G, gs s.data.toList = G := ⟨_, rfl⟩
  rw [hG]
  unfold gs at hG
  obtain ⟨wd, hwd⟩ : ∃ wd, ofL (cutE 32 s.data.toList).1 = wd := ⟨_, rfl⟩
  obtain ⟨t0, ht0⟩ : ∃ t, ofL (cutE 32 s.data.toList).2 = t := ⟨_, rfl⟩
  have e1 : (cutE 32 s.data.toList).1 = wd.data.toList := by rw [← hwd]; rfl
  have e2 : (cutE 32 s.data.toList).2 = t0.data.toList := by rw [← ht0]; rfl
  have HT0 : Hid (t0.size ≤ 33554432) := by rw [← ht0]; exact cut_size hs
  rw [e1, e2] at hG
  obtain ⟨k, hk⟩ : ∃ k, kindL wd.data.toList = k := ⟨_, rfl⟩
  have k17 : k < 17 := by rw [← hk]; exact kindL_lt _
  rw [hk] at hG
  have VV : Hid (Vars w ∧ FM w) := ⟨V, F⟩
  have S0 : Hid (((w.alloc (.cells #[.int .i64 0, .int .i64 0, .int .i64 0, .string ⟨#[]⟩, .slice none 0 0, .slice none 0 0] 38)).alloc (.cells #[.string s] 75)).heap[w.heap.size + 1]? = some (.cells #[.string s] 75 (0, 0)) ∧ ((w.alloc (.cells #[.int .i64 0, .int .i64 0, .int .i64 0, .string ⟨#[]⟩, .slice none 0 0, .slice none 0 0] 38)).alloc (.cells #[.string s] 75)).heap[w.heap.size]? = some (.cells #[.int .i64 0, .int .i64 0, .int .i64 0, .string ⟨#[]⟩, .slice none 0 0, .slice none 0 0] 38 (0, 0)) ∧ Kept (fun _ => False) w ((w.alloc (.cells #[.int .i64 0, .int .i64 0, .int .i64 0, .string ⟨#[]⟩, .slice none 0 0, .slice none 0 0] 38)).alloc (.cells #[.string s] 75))) := ⟨alloc_new2 _ _ _ _, alloc_old _ (alloc_new _ _), ((Kept.refl _ _).alloc _).alloc _⟩
  have C0 : Hid (Calls Tryd.prog 52 #[.pointer (some ⟨w.heap.size + 1, 0, none⟩)] ((w.alloc (.cells #[.int .i64 0, .int .i64 0, .int .i64 0, .string ⟨#[]⟩, .slice none 0 0, .slice none 0 0] 38)).alloc (.cells #[.string s] 75)) fun o w' => o = .returned (.string wd) ∧ w'.heap[w.heap.size + 1]? = some (.cells #[.string t0] 75 (0, 0)) ∧ Kept (fun j => j = w.heap.size + 1) ((w.alloc (.cells #[.int .i64 0, .int .i64 0, .int .i64 0, .string ⟨#[]⟩, .slice none 0 0, .slice none 0 0] 38)).alloc (.cells #[.string s] 75)) w') := by
    rw [← hwd, ← ht0]
    exact hWordE (by omega) S0.out.1
  clear V F hwd ht0 e1 e2
  have HG : Hid (gsU (useN k) k t0.data.toList = G) := hG
  have CK : Hid (∀ V, FM V → Calls Tryd.prog 56 #[.string wd] V fun o w' => o = .returned (.int .i64 (k : Int)) ∧ Kept (fun _ => False) V w') := fun V hV => by rw [← hk]; exact hKind wd V hV
  clear hG hk
  go_enter Tryd.func36, Tryd.ntmps36
  go_wp2_with fail
  refine C0.out.mono ?_
  rintro o w1 ⟨rfl, r1, K1⟩
  have S1 : Hid (w1.heap[w.heap.size + 1]? = some (.cells #[.string t0] 75 (0, 0)) ∧ w1.heap[w.heap.size]? = some (.cells #[.int .i64 0, .int .i64 0, .int .i64 0, .string ⟨#[]⟩, .slice none 0 0, .slice none 0 0] 38 (0, 0)) ∧ Kept (fun _ => False) w w1) := ⟨r1, K1.get S0.out.2.1 (by show ¬ w.heap.size = w.heap.size + 1; omega), S0.out.2.2.trans K1 (fun j hj z => by omega)⟩
  clear r1 K1 C0 S0
  go_wp2_with fail
  refine (CK.out _ (VV.out.2.kept S1.out.2.2)).mono ?_
  rintro o w2 ⟨rfl, K2⟩
  obtain ⟨W3, hW3⟩ : ∃ W3, W3 = w2.alloc (.cells #[.int .i64 (k : Int), .int .i64 0, .int .i64 0, .string ⟨#[]⟩, .slice none 0 0, .slice none 0 0] 38) := ⟨_, rfl⟩
  obtain ⟨B, hB⟩ : ∃ B, w2.heap.size = B := ⟨_, rfl⟩
  have S3 : Hid (GT w W3 t0 B #[.int .i64 (k : Int), .int .i64 0, .int .i64 0, .string ⟨#[]⟩, .slice none 0 0, .slice none 0 0]) := by
    rw [hW3, ← hB]
    exact ⟨alloc_old _ (K2.get S1.out.1 (fun z => z)), alloc_old _ (K2.get S1.out.2.1 (fun z => z)), alloc_new _ _, (S1.out.2.2.trans K2 (fun _ _ z => z)).alloc _, block_lt (K2.get S1.out.1 (fun z => z))⟩
  clear K2 CK S1
  go_upto_region 3 with fail
  rw [← hW3]
  clear hW3 hB
  have c0 := cell_blk S3.out.bx 0 (v := .int .i64 (k : Int)) rfl
  have fu := (VV.out.2.kept S3.out.kept).use k17
  have k17i : (k : Int) < 17 := by omega
  go_upto_region 4 with fail
  clear c0 fu
  have RN : Hid (∀ (W : World), W.ownsRow w.heap.size 5 1 (.slice none 0 0) 0 (Lib.byteCells []) ∧ W.ownsRow w.heap.size 3 1 (.slice none 0 0) 0 (intC [])) := fun W => ⟨own_none W _ _ _, own_none W _ _ _⟩
  rcases use_cases k17 with hu | hu | hu | hu | hu | hu | hu | hu
  · rw [hu] at HG ⊢
    clear hu
    have b0 := cell_blk S3.out.bx 0 (v := .int .i64 (k : Int)) rfl
    have a0 := cell_blk S3.out.an 0 (v := .int .i64 0) rfl
    have s0 := soft_blk S3.out.an 0
    have b1 := cell_blk S3.out.bx 1 (v := .int .i64 0) rfl
    have a1 := cell_blk S3.out.an 1 (v := .int .i64 0) rfl
    have s1 := soft_blk S3.out.an 1
    have b2 := cell_blk S3.out.bx 2 (v := .int .i64 0) rfl
    have a2 := cell_blk S3.out.an 2 (v := .int .i64 0) rfl
    have s2 := soft_blk S3.out.an 2
    have b3 := cell_blk S3.out.bx 3 (v := .string ⟨#[]⟩) rfl
    have a3 := cell_blk S3.out.an 3 (v := .string ⟨#[]⟩) rfl
    have s3 := soft_blk S3.out.an 3
    have b4 := cell_blk S3.out.bx 4 (v := .slice none 0 0) rfl
    have a4 := cell_blk S3.out.an 4 (v := .slice none 0 0) rfl
    have s4 := soft_blk S3.out.an 4
    have b5 := cell_blk S3.out.bx 5 (v := .slice none 0 0) rfl
    have a5 := cell_blk S3.out.an 5 (v := .slice none 0 0) rfl
    have s5 := soft_blk S3.out.an 5
    have FN : Hid (((((((W3.setCell ⟨w.heap.size, 0, none⟩ (.int .i64 (k : Int))).setCell ⟨w.heap.size, 1, none⟩ (.int .i64 0)).setCell ⟨w.heap.size, 2, none⟩ (.int .i64 0)).setCell ⟨w.heap.size, 3, none⟩ (.string ⟨#[]⟩)).setCell ⟨w.heap.size, 4, none⟩ (.slice none 0 0)).setCell ⟨w.heap.size, 5, none⟩ (.slice none 0 0)).heap[w.heap.size]? = some (.cells #[.int .i64 (k : Int), .int .i64 0, .int .i64 0, .string ⟨#[]⟩, .slice none 0 0, .slice none 0 0] 38 (0, 0)) ∧ Kept (fun j => j = w.heap.size) W3 ((((((W3.setCell ⟨w.heap.size, 0, none⟩ (.int .i64 (k : Int))).setCell ⟨w.heap.size, 1, none⟩ (.int .i64 0)).setCell ⟨w.heap.size, 2, none⟩ (.int .i64 0)).setCell ⟨w.heap.size, 3, none⟩ (.string ⟨#[]⟩)).setCell ⟨w.heap.size, 4, none⟩ (.slice none 0 0)).setCell ⟨w.heap.size, 5, none⟩ (.slice none 0 0))) := set6 S3.out.an _ _ _ _ _ _
    have AN : Hid (SO w.heap.size ((((((W3.setCell ⟨w.heap.size, 0, none⟩ (.int .i64 (k : Int))).setCell ⟨w.heap.size, 1, none⟩ (.int .i64 0)).setCell ⟨w.heap.size, 2, none⟩ (.int .i64 0)).setCell ⟨w.heap.size, 3, none⟩ (.string ⟨#[]⟩)).setCell ⟨w.heap.size, 4, none⟩ (.slice none 0 0)).setCell ⟨w.heap.size, 5, none⟩ (.slice none 0 0)) ⟨(k : Int), 0, 0, ⟨#[]⟩, none, 0, 0, none, 0, 0⟩ G ∧ Kept (fun _ => False) w ((((((W3.setCell ⟨w.heap.size, 0, none⟩ (.int .i64 (k : Int))).setCell ⟨w.heap.size, 1, none⟩ (.int .i64 0)).setCell ⟨w.heap.size, 2, none⟩ (.int .i64 0)).setCell ⟨w.heap.size, 3, none⟩ (.string ⟨#[]⟩)).setCell ⟨w.heap.size, 4, none⟩ (.slice none 0 0)).setCell ⟨w.heap.size, 5, none⟩ (.slice none 0 0))) := by
      have hGv : G = ⟨(k : Int), 0, 0, [], [], []⟩ := by
        rw [← HG.out]
        unfold gsU
        simp only []
        skip
        rfl
      rw [hGv]
      refine ⟨⟨rfl, rfl, rfl, rfl, rfl, ?_, rfl, ?_⟩, S3.out.kept.trans FN.out.2 (fun j hj z => by omega)⟩
      · exact (RN.out _).1
      · exact (RN.out _).2
    clear HG
    go_wp2_with fail
    refine bodyPost_ret (results_cell_row (P := Tryd.prog) rfl _ _ w.heap.size 38 _ (0, 0) _ rfl FN.out.1 Tryd.underlying38 rfl (by kernel_rfl)) rfl ?_
    exact ⟨⟨(k : Int), 0, 0, ⟨#[]⟩, none, 0, 0, none, 0, 0⟩, rfl, AN.out⟩
  · rw [hu] at HG ⊢
    clear hu
    obtain ⟨va, hva⟩ : ∃ v, atoiV (cutE 32 t0.data.toList).1 = v := ⟨_, rfl⟩
    obtain ⟨t4, ht4⟩ : ∃ v, ofL (cutE 32 t0.data.toList).2 = v := ⟨_, rfl⟩
    have C4 : Hid (Calls Tryd.prog 53 #[.pointer (some ⟨w.heap.size + 1, 0, none⟩)] W3 fun o w' => o = .returned (.int .i64 va) ∧ w'.heap[w.heap.size + 1]? = some (.cells #[.string t4] 75 (0, 0)) ∧ Kept (fun j => j = w.heap.size + 1) W3 w') := by rw [← hva, ← ht4]; exact hNumE (by have := HT0.out; omega) S3.out.rd VV.out.1 S3.out.kept (Nat.le_succ _)
    have HT4 : Hid (t4.size ≤ 33554432) := by rw [← ht4]; exact cut_size HT0.out
    go_wp2_with fail
    refine C4.out.mono ?_
    rintro o w4 ⟨rfl, r, K⟩
    have Q4 : Hid (GT w w4 t4 B #[.int .i64 (k : Int), .int .i64 0, .int .i64 0, .string ⟨#[]⟩, .slice none 0 0, .slice none 0 0]) := S3.out.call K r
    clear r K C4
    have x0 := cell_blk Q4.out.bx 1 (v := .int .i64 0) rfl
    have xs := soft_blk Q4.out.bx 1
    obtain ⟨W4, hW4⟩ : ∃ W, W = w4.setCell ⟨B, 1, none⟩ (.int .i64 va) := ⟨_, rfl⟩
    have S4 : Hid (GT w W4 t4 B #[.int .i64 (k : Int), .int .i64 va, .int .i64 0, .string ⟨#[]⟩, .slice none 0 0, .slice none 0 0] ∧ Kept (fun j => j = B) w4 W4) := by rw [hW4]; exact Q4.out.set 1 _
    have P4 : Hid (GT w W4 t4 B #[.int .i64 (k : Int), .int .i64 va, .int .i64 0, .string ⟨#[]⟩, .slice none 0 0, .slice none 0 0]) := S4.out.1
    go_upto_region 6 with fail
    rw [← hW4]
    clear hW4 x0 xs
    have b0 := cell_blk P4.out.bx 0 (v := .int .i64 (k : Int)) rfl
    have a0 := cell_blk P4.out.an 0 (v := .int .i64 0) rfl
    have s0 := soft_blk P4.out.an 0
    have b1 := cell_blk P4.out.bx 1 (v := .int .i64 va) rfl
    have a1 := cell_blk P4.out.an 1 (v := .int .i64 0) rfl
    have s1 := soft_blk P4.out.an 1
    have b2 := cell_blk P4.out.bx 2 (v := .int .i64 0) rfl
    have a2 := cell_blk P4.out.an 2 (v := .int .i64 0) rfl
    have s2 := soft_blk P4.out.an 2
    have b3 := cell_blk P4.out.bx 3 (v := .string ⟨#[]⟩) rfl
    have a3 := cell_blk P4.out.an 3 (v := .string ⟨#[]⟩) rfl
    have s3 := soft_blk P4.out.an 3
    have b4 := cell_blk P4.out.bx 4 (v := .slice none 0 0) rfl
    have a4 := cell_blk P4.out.an 4 (v := .slice none 0 0) rfl
    have s4 := soft_blk P4.out.an 4
    have b5 := cell_blk P4.out.bx 5 (v := .slice none 0 0) rfl
    have a5 := cell_blk P4.out.an 5 (v := .slice none 0 0) rfl
    have s5 := soft_blk P4.out.an 5
    have FN : Hid (((((((W4.setCell ⟨w.heap.size, 0, none⟩ (.int .i64 (k : Int))).setCell ⟨w.heap.size, 1, none⟩ (.int .i64 va)).setCell ⟨w.heap.size, 2, none⟩ (.int .i64 0)).setCell ⟨w.heap.size, 3, none⟩ (.string ⟨#[]⟩)).setCell ⟨w.heap.size, 4, none⟩ (.slice none 0 0)).setCell ⟨w.heap.size, 5, none⟩ (.slice none 0 0)).heap[w.heap.size]? = some (.cells #[.int .i64 (k : Int), .int .i64 va, .int .i64 0, .string ⟨#[]⟩, .slice none 0 0, .slice none 0 0] 38 (0, 0)) ∧ Kept (fun j => j = w.heap.size) W4 ((((((W4.setCell ⟨w.heap.size, 0, none⟩ (.int .i64 (k : Int))).setCell ⟨w.heap.size, 1, none⟩ (.int .i64 va)).setCell ⟨w.heap.size, 2, none⟩ (.int .i64 0)).setCell ⟨w.heap.size, 3, none⟩ (.string ⟨#[]⟩)).setCell ⟨w.heap.size, 4, none⟩ (.slice none 0 0)).setCell ⟨w.heap.size, 5, none⟩ (.slice none 0 0))) := set6 P4.out.an _ _ _ _ _ _
    have AN : Hid (SO w.heap.size ((((((W4.setCell ⟨w.heap.size, 0, none⟩ (.int .i64 (k : Int))).setCell ⟨w.heap.size, 1, none⟩ (.int .i64 va)).setCell ⟨w.heap.size, 2, none⟩ (.int .i64 0)).setCell ⟨w.heap.size, 3, none⟩ (.string ⟨#[]⟩)).setCell ⟨w.heap.size, 4, none⟩ (.slice none 0 0)).setCell ⟨w.heap.size, 5, none⟩ (.slice none 0 0)) ⟨(k : Int), va, 0, ⟨#[]⟩, none, 0, 0, none, 0, 0⟩ G ∧ Kept (fun _ => False) w ((((((W4.setCell ⟨w.heap.size, 0, none⟩ (.int .i64 (k : Int))).setCell ⟨w.heap.size, 1, none⟩ (.int .i64 va)).setCell ⟨w.heap.size, 2, none⟩ (.int .i64 0)).setCell ⟨w.heap.size, 3, none⟩ (.string ⟨#[]⟩)).setCell ⟨w.heap.size, 4, none⟩ (.slice none 0 0)).setCell ⟨w.heap.size, 5, none⟩ (.slice none 0 0))) := by
      have hGv : G = ⟨(k : Int), va, 0, [], [], []⟩ := by
        rw [← HG.out]
        unfold gsU
        simp only []
        rw [← hva]
        rfl
      rw [hGv]
      refine ⟨⟨rfl, rfl, rfl, rfl, rfl, ?_, rfl, ?_⟩, P4.out.kept.trans FN.out.2 (fun j hj z => by omega)⟩
      · exact (RN.out _).1
      · exact (RN.out _).2
    clear HG
    go_wp2_with fail
    refine bodyPost_ret (results_cell_row (P := Tryd.prog) rfl _ _ w.heap.size 38 _ (0, 0) _ rfl FN.out.1 Tryd.underlying38 rfl (by kernel_rfl)) rfl ?_
    exact ⟨⟨(k : Int), va, 0, ⟨#[]⟩, none, 0, 0, none, 0, 0⟩, rfl, AN.out⟩
  · rw [hu] at HG ⊢
    clear hu
    obtain ⟨va, hva⟩ : ∃ v, atoiV (cutE 32 t0.data.toList).1 = v := ⟨_, rfl⟩
    obtain ⟨t4, ht4⟩ : ∃ v, ofL (cutE 32 t0.data.toList).2 = v := ⟨_, rfl⟩
    have C4 : Hid (Calls Tryd.prog 53 #[.pointer (some ⟨w.heap.size + 1, 0, none⟩)] W3 fun o w' => o = .returned (.int .i64 va) ∧ w'.heap[w.heap.size + 1]? = some (.cells #[.string t4] 75 (0, 0)) ∧ Kept (fun j => j = w.heap.size + 1) W3 w') := by rw [← hva, ← ht4]; exact hNumE (by have := HT0.out; omega) S3.out.rd VV.out.1 S3.out.kept (Nat.le_succ _)
    have HT4 : Hid (t4.size ≤ 33554432) := by rw [← ht4]; exact cut_size HT0.out
    go_wp2_with fail
    refine C4.out.mono ?_
    rintro o w4 ⟨rfl, r, K⟩
    have Q4 : Hid (GT w w4 t4 B #[.int .i64 (k : Int), .int .i64 0, .int .i64 0, .string ⟨#[]⟩, .slice none 0 0, .slice none 0 0]) := S3.out.call K r
    clear r K C4
    have x0 := cell_blk Q4.out.bx 1 (v := .int .i64 0) rfl
    have xs := soft_blk Q4.out.bx 1
    obtain ⟨W4, hW4⟩ : ∃ W, W = w4.setCell ⟨B, 1, none⟩ (.int .i64 va) := ⟨_, rfl⟩
    have S4 : Hid (GT w W4 t4 B #[.int .i64 (k : Int), .int .i64 va, .int .i64 0, .string ⟨#[]⟩, .slice none 0 0, .slice none 0 0] ∧ Kept (fun j => j = B) w4 W4) := by rw [hW4]; exact Q4.out.set 1 _
    have P4 : Hid (GT w W4 t4 B #[.int .i64 (k : Int), .int .i64 va, .int .i64 0, .string ⟨#[]⟩, .slice none 0 0, .slice none 0 0]) := S4.out.1
    go_upto_region 6 with fail
    rw [← hW4]
    clear hW4 x0 xs
    obtain ⟨vb, hvb⟩ : ∃ v, atoiV (cutE 32 t4.data.toList).1 = v := ⟨_, rfl⟩
    obtain ⟨t5, ht5⟩ : ∃ v, ofL (cutE 32 t4.data.toList).2 = v := ⟨_, rfl⟩
    have C5 : Hid (Calls Tryd.prog 53 #[.pointer (some ⟨w.heap.size + 1, 0, none⟩)] W4 fun o w' => o = .returned (.int .i64 vb) ∧ w'.heap[w.heap.size + 1]? = some (.cells #[.string t5] 75 (0, 0)) ∧ Kept (fun j => j = w.heap.size + 1) W4 w') := by rw [← hvb, ← ht5]; exact hNumE (by have := HT4.out; omega) P4.out.rd VV.out.1 P4.out.kept (Nat.le_succ _)
    have HT5 : Hid (t5.size ≤ 33554432) := by rw [← ht5]; exact cut_size HT4.out
    go_wp2_with fail
    refine C5.out.mono ?_
    rintro o w5 ⟨rfl, r, K⟩
    have Q5 : Hid (GT w w5 t5 B #[.int .i64 (k : Int), .int .i64 va, .int .i64 0, .string ⟨#[]⟩, .slice none 0 0, .slice none 0 0]) := P4.out.call K r
    clear r K C5
    have x0 := cell_blk Q5.out.bx 2 (v := .int .i64 0) rfl
    have xs := soft_blk Q5.out.bx 2
    obtain ⟨W5, hW5⟩ : ∃ W, W = w5.setCell ⟨B, 2, none⟩ (.int .i64 vb) := ⟨_, rfl⟩
    have S5 : Hid (GT w W5 t5 B #[.int .i64 (k : Int), .int .i64 va, .int .i64 vb, .string ⟨#[]⟩, .slice none 0 0, .slice none 0 0] ∧ Kept (fun j => j = B) w5 W5) := by rw [hW5]; exact Q5.out.set 2 _
    have P5 : Hid (GT w W5 t5 B #[.int .i64 (k : Int), .int .i64 va, .int .i64 vb, .string ⟨#[]⟩, .slice none 0 0, .slice none 0 0]) := S5.out.1
    go_upto_region 8 with fail
    rw [← hW5]
    clear hW5 x0 xs
    have b0 := cell_blk P5.out.bx 0 (v := .int .i64 (k : Int)) rfl
    have a0 := cell_blk P5.out.an 0 (v := .int .i64 0) rfl
    have s0 := soft_blk P5.out.an 0
    have b1 := cell_blk P5.out.bx 1 (v := .int .i64 va) rfl
    have a1 := cell_blk P5.out.an 1 (v := .int .i64 0) rfl
    have s1 := soft_blk P5.out.an 1
    have b2 := cell_blk P5.out.bx 2 (v := .int .i64 vb) rfl
    have a2 := cell_blk P5.out.an 2 (v := .int .i64 0) rfl
    have s2 := soft_blk P5.out.an 2
    have b3 := cell_blk P5.out.bx 3 (v := .string ⟨#[]⟩) rfl
    have a3 := cell_blk P5.out.an 3 (v := .string ⟨#[]⟩) rfl
    have s3 := soft_blk P5.out.an 3
    have b4 := cell_blk P5.out.bx 4 (v := .slice none 0 0) rfl
    have a4 := cell_blk P5.out.an 4 (v := .slice none 0 0) rfl
    have s4 := soft_blk P5.out.an 4
    have b5 := cell_blk P5.out.bx 5 (v := .slice none 0 0) rfl
    have a5 := cell_blk P5.out.an 5 (v := .slice none 0 0) rfl
    have s5 := soft_blk P5.out.an 5
    have FN : Hid (((((((W5.setCell ⟨w.heap.size, 0, none⟩ (.int .i64 (k : Int))).setCell ⟨w.heap.size, 1, none⟩ (.int .i64 va)).setCell ⟨w.heap.size, 2, none⟩ (.int .i64 vb)).setCell ⟨w.heap.size, 3, none⟩ (.string ⟨#[]⟩)).setCell ⟨w.heap.size, 4, none⟩ (.slice none 0 0)).setCell ⟨w.heap.size, 5, none⟩ (.slice none 0 0)).heap[w.heap.size]? = some (.cells #[.int .i64 (k : Int), .int .i64 va, .int .i64 vb, .string ⟨#[]⟩, .slice none 0 0, .slice none 0 0] 38 (0, 0)) ∧ Kept (fun j => j = w.heap.size) W5 ((((((W5.setCell ⟨w.heap.size, 0, none⟩ (.int .i64 (k : Int))).setCell ⟨w.heap.size, 1, none⟩ (.int .i64 va)).setCell ⟨w.heap.size, 2, none⟩ (.int .i64 vb)).setCell ⟨w.heap.size, 3, none⟩ (.string ⟨#[]⟩)).setCell ⟨w.heap.size, 4, none⟩ (.slice none 0 0)).setCell ⟨w.heap.size, 5, none⟩ (.slice none 0 0))) := set6 P5.out.an _ _ _ _ _ _
    have AN : Hid (SO w.heap.size ((((((W5.setCell ⟨w.heap.size, 0, none⟩ (.int .i64 (k : Int))).setCell ⟨w.heap.size, 1, none⟩ (.int .i64 va)).setCell ⟨w.heap.size, 2, none⟩ (.int .i64 vb)).setCell ⟨w.heap.size, 3, none⟩ (.string ⟨#[]⟩)).setCell ⟨w.heap.size, 4, none⟩ (.slice none 0 0)).setCell ⟨w.heap.size, 5, none⟩ (.slice none 0 0)) ⟨(k : Int), va, vb, ⟨#[]⟩, none, 0, 0, none, 0, 0⟩ G ∧ Kept (fun _ => False) w ((((((W5.setCell ⟨w.heap.size, 0, none⟩ (.int .i64 (k : Int))).setCell ⟨w.heap.size, 1, none⟩ (.int .i64 va)).setCell ⟨w.heap.size, 2, none⟩ (.int .i64 vb)).setCell ⟨w.heap.size, 3, none⟩ (.string ⟨#[]⟩)).setCell ⟨w.heap.size, 4, none⟩ (.slice none 0 0)).setCell ⟨w.heap.size, 5, none⟩ (.slice none 0 0))) := by
      have hGv : G = ⟨(k : Int), va, vb, [], [], []⟩ := by
        rw [← HG.out]
        unfold gsU
        simp only []
        rw [← hva, ← hvb, ← ht4]
        rfl
      rw [hGv]
      refine ⟨⟨rfl, rfl, rfl, rfl, rfl, ?_, rfl, ?_⟩, P5.out.kept.trans FN.out.2 (fun j hj z => by omega)⟩
      · exact (RN.out _).1
      · exact (RN.out _).2
    clear HG
    go_wp2_with fail
    refine bodyPost_ret (results_cell_row (P := Tryd.prog) rfl _ _ w.heap.size 38 _ (0, 0) _ rfl FN.out.1 Tryd.underlying38 rfl (by kernel_rfl)) rfl ?_
    exact ⟨⟨(k : Int), va, vb, ⟨#[]⟩, none, 0, 0, none, 0, 0⟩, rfl, AN.out⟩
  · rw [hu] at HG ⊢
    clear hu
    obtain ⟨va, hva⟩ : ∃ v, atoiV (cutE 32 t0.data.toList).1 = v := ⟨_, rfl⟩
    obtain ⟨t4, ht4⟩ : ∃ v, ofL (cutE 32 t0.data.toList).2 = v := ⟨_, rfl⟩
    have C4 : Hid (Calls Tryd.prog 53 #[.pointer (some ⟨w.heap.size + 1, 0, none⟩)] W3 fun o w' => o = .returned (.int .i64 va) ∧ w'.heap[w.heap.size + 1]? = some (.cells #[.string t4] 75 (0, 0)) ∧ Kept (fun j => j = w.heap.size + 1) W3 w') := by rw [← hva, ← ht4]; exact hNumE (by have := HT0.out; omega) S3.out.rd VV.out.1 S3.out.kept (Nat.le_succ _)
    have HT4 : Hid (t4.size ≤ 33554432) := by rw [← ht4]; exact cut_size HT0.out
    go_wp2_with fail
    refine C4.out.mono ?_
    rintro o w4 ⟨rfl, r, K⟩
    have Q4 : Hid (GT w w4 t4 B #[.int .i64 (k : Int), .int .i64 0, .int .i64 0, .string ⟨#[]⟩, .slice none 0 0, .slice none 0 0]) := S3.out.call K r
    clear r K C4
    have x0 := cell_blk Q4.out.bx 1 (v := .int .i64 0) rfl
    have xs := soft_blk Q4.out.bx 1
    obtain ⟨W4, hW4⟩ : ∃ W, W = w4.setCell ⟨B, 1, none⟩ (.int .i64 va) := ⟨_, rfl⟩
    have S4 : Hid (GT w W4 t4 B #[.int .i64 (k : Int), .int .i64 va, .int .i64 0, .string ⟨#[]⟩, .slice none 0 0, .slice none 0 0] ∧ Kept (fun j => j = B) w4 W4) := by rw [hW4]; exact Q4.out.set 1 _
    have P4 : Hid (GT w W4 t4 B #[.int .i64 (k : Int), .int .i64 va, .int .i64 0, .string ⟨#[]⟩, .slice none 0 0, .slice none 0 0]) := S4.out.1
    go_upto_region 6 with fail
    rw [← hW4]
    clear hW4 x0 xs
    obtain ⟨t5, ht5⟩ : ∃ v, ofL (cutE 32 t4.data.toList).2 = v := ⟨_, rfl⟩
    obtain ⟨lk, hlk⟩ : ∃ v, hexL (ofL (cutE 32 t4.data.toList).1) = v := ⟨_, rfl⟩
    have C5 : Hid (Calls Tryd.prog 57 #[.pointer (some ⟨w.heap.size + 1, 0, none⟩)] W4 fun o w' => ∃ w1 p k c, o = .returned (.slice p k c) ∧ TX w1 w' p k c lk ∧ Kept (fun j => j = w.heap.size + 1) W4 w1 ∧ w1.heap[w.heap.size + 1]? = some (.cells #[.string t5] 75 (0, 0))) := by rw [← hlk, ← ht5]; exact hBytes HT4.out P4.out.rd
    have HT5 : Hid (t5.size ≤ 33554432) := by rw [← ht5]; exact cut_size HT4.out
    go_wp2_with fail
    refine C5.out.mono ?_
    rintro o w5 ⟨wx, pk, kk, ck, rfl, T, K, r⟩
    have Q5 : Hid (GT w w5 t5 B #[.int .i64 (k : Int), .int .i64 va, .int .i64 0, .string ⟨#[]⟩, .slice none 0 0, .slice none 0 0]) := P4.out.call (K.trans T.kept (fun _ _ z => z.elim)) (T.kept.get r (fun z => z))
    have cv5 := T.string
    obtain ⟨KS, hKS⟩ : ∃ v, ofL lk = v := ⟨_, rfl⟩
    rw [hKS] at cv5
    have HKS : Hid (ofL lk = KS) := hKS
    clear r K T C5 hKS
    have x0 := cell_blk Q5.out.bx 3 (v := .string ⟨#[]⟩) rfl
    have xs := soft_blk Q5.out.bx 3
    obtain ⟨W5, hW5⟩ : ∃ W, W = w5.setCell ⟨B, 3, none⟩ (.string KS) := ⟨_, rfl⟩
    have S5 : Hid (GT w W5 t5 B #[.int .i64 (k : Int), .int .i64 va, .int .i64 0, .string KS, .slice none 0 0, .slice none 0 0] ∧ Kept (fun j => j = B) w5 W5) := by rw [hW5]; exact Q5.out.set 3 _
    have P5 : Hid (GT w W5 t5 B #[.int .i64 (k : Int), .int .i64 va, .int .i64 0, .string KS, .slice none 0 0, .slice none 0 0]) := S5.out.1
    go_upto_region 10 with fail
    rw [← hW5]
    clear hW5 x0 xs cv5
    have b0 := cell_blk P5.out.bx 0 (v := .int .i64 (k : Int)) rfl
    have a0 := cell_blk P5.out.an 0 (v := .int .i64 0) rfl
    have s0 := soft_blk P5.out.an 0
    have b1 := cell_blk P5.out.bx 1 (v := .int .i64 va) rfl
    have a1 := cell_blk P5.out.an 1 (v := .int .i64 0) rfl
    have s1 := soft_blk P5.out.an 1
    have b2 := cell_blk P5.out.bx 2 (v := .int .i64 0) rfl
    have a2 := cell_blk P5.out.an 2 (v := .int .i64 0) rfl
    have s2 := soft_blk P5.out.an 2
    have b3 := cell_blk P5.out.bx 3 (v := .string KS) rfl
    have a3 := cell_blk P5.out.an 3 (v := .string ⟨#[]⟩) rfl
    have s3 := soft_blk P5.out.an 3
    have b4 := cell_blk P5.out.bx 4 (v := .slice none 0 0) rfl
    have a4 := cell_blk P5.out.an 4 (v := .slice none 0 0) rfl
    have s4 := soft_blk P5.out.an 4
    have b5 := cell_blk P5.out.bx 5 (v := .slice none 0 0) rfl
    have a5 := cell_blk P5.out.an 5 (v := .slice none 0 0) rfl
    have s5 := soft_blk P5.out.an 5
    have FN : Hid (((((((W5.setCell ⟨w.heap.size, 0, none⟩ (.int .i64 (k : Int))).setCell ⟨w.heap.size, 1, none⟩ (.int .i64 va)).setCell ⟨w.heap.size, 2, none⟩ (.int .i64 0)).setCell ⟨w.heap.size, 3, none⟩ (.string KS)).setCell ⟨w.heap.size, 4, none⟩ (.slice none 0 0)).setCell ⟨w.heap.size, 5, none⟩ (.slice none 0 0)).heap[w.heap.size]? = some (.cells #[.int .i64 (k : Int), .int .i64 va, .int .i64 0, .string KS, .slice none 0 0, .slice none 0 0] 38 (0, 0)) ∧ Kept (fun j => j = w.heap.size) W5 ((((((W5.setCell ⟨w.heap.size, 0, none⟩ (.int .i64 (k : Int))).setCell ⟨w.heap.size, 1, none⟩ (.int .i64 va)).setCell ⟨w.heap.size, 2, none⟩ (.int .i64 0)).setCell ⟨w.heap.size, 3, none⟩ (.string KS)).setCell ⟨w.heap.size, 4, none⟩ (.slice none 0 0)).setCell ⟨w.heap.size, 5, none⟩ (.slice none 0 0))) := set6 P5.out.an _ _ _ _ _ _
    have AN : Hid (SO w.heap.size ((((((W5.setCell ⟨w.heap.size, 0, none⟩ (.int .i64 (k : Int))).setCell ⟨w.heap.size, 1, none⟩ (.int .i64 va)).setCell ⟨w.heap.size, 2, none⟩ (.int .i64 0)).setCell ⟨w.heap.size, 3, none⟩ (.string KS)).setCell ⟨w.heap.size, 4, none⟩ (.slice none 0 0)).setCell ⟨w.heap.size, 5, none⟩ (.slice none 0 0)) ⟨(k : Int), va, 0, KS, none, 0, 0, none, 0, 0⟩ G ∧ Kept (fun _ => False) w ((((((W5.setCell ⟨w.heap.size, 0, none⟩ (.int .i64 (k : Int))).setCell ⟨w.heap.size, 1, none⟩ (.int .i64 va)).setCell ⟨w.heap.size, 2, none⟩ (.int .i64 0)).setCell ⟨w.heap.size, 3, none⟩ (.string KS)).setCell ⟨w.heap.size, 4, none⟩ (.slice none 0 0)).setCell ⟨w.heap.size, 5, none⟩ (.slice none 0 0))) := by
      have hGv : G = ⟨(k : Int), va, 0, lk, [], []⟩ := by
        rw [← HG.out]
        unfold gsU
        simp only []
        rw [← hva, ← hlk, ← ht4]
        rfl
      rw [hGv]
      refine ⟨⟨rfl, rfl, rfl, HKS.out.symm, rfl, ?_, rfl, ?_⟩, P5.out.kept.trans FN.out.2 (fun j hj z => by omega)⟩
      · exact (RN.out _).1
      · exact (RN.out _).2
    clear HG
    go_wp2_with fail
    refine bodyPost_ret (results_cell_row (P := Tryd.prog) rfl _ _ w.heap.size 38 _ (0, 0) _ rfl FN.out.1 Tryd.underlying38 rfl (by kernel_rfl)) rfl ?_
    exact ⟨⟨(k : Int), va, 0, KS, none, 0, 0, none, 0, 0⟩, rfl, AN.out⟩
  · rw [hu] at HG ⊢
    clear hu
    obtain ⟨va, hva⟩ : ∃ v, atoiV (cutE 32 t0.data.toList).1 = v := ⟨_, rfl⟩
    obtain ⟨t4, ht4⟩ : ∃ v, ofL (cutE 32 t0.data.toList).2 = v := ⟨_, rfl⟩
    have C4 : Hid (Calls Tryd.prog 53 #[.pointer (some ⟨w.heap.size + 1, 0, none⟩)] W3 fun o w' => o = .returned (.int .i64 va) ∧ w'.heap[w.heap.size + 1]? = some (.cells #[.string t4] 75 (0, 0)) ∧ Kept (fun j => j = w.heap.size + 1) W3 w') := by rw [← hva, ← ht4]; exact hNumE (by have := HT0.out; omega) S3.out.rd VV.out.1 S3.out.kept (Nat.le_succ _)
    have HT4 : Hid (t4.size ≤ 33554432) := by rw [← ht4]; exact cut_size HT0.out
    go_wp2_with fail
    refine C4.out.mono ?_
    rintro o w4 ⟨rfl, r, K⟩
    have Q4 : Hid (GT w w4 t4 B #[.int .i64 (k : Int), .int .i64 0, .int .i64 0, .string ⟨#[]⟩, .slice none 0 0, .slice none 0 0]) := S3.out.call K r
    clear r K C4
    have x0 := cell_blk Q4.out.bx 1 (v := .int .i64 0) rfl
    have xs := soft_blk Q4.out.bx 1
    obtain ⟨W4, hW4⟩ : ∃ W, W = w4.setCell ⟨B, 1, none⟩ (.int .i64 va) := ⟨_, rfl⟩
    have S4 : Hid (GT w W4 t4 B #[.int .i64 (k : Int), .int .i64 va, .int .i64 0, .string ⟨#[]⟩, .slice none 0 0, .slice none 0 0] ∧ Kept (fun j => j = B) w4 W4) := by rw [hW4]; exact Q4.out.set 1 _
    have P4 : Hid (GT w W4 t4 B #[.int .i64 (k : Int), .int .i64 va, .int .i64 0, .string ⟨#[]⟩, .slice none 0 0, .slice none 0 0]) := S4.out.1
    go_upto_region 6 with fail
    rw [← hW4]
    clear hW4 x0 xs
    obtain ⟨t5, ht5⟩ : ∃ v, ofL (cutE 32 t4.data.toList).2 = v := ⟨_, rfl⟩
    obtain ⟨lk, hlk⟩ : ∃ v, hexL (ofL (cutE 32 t4.data.toList).1) = v := ⟨_, rfl⟩
    have C5 : Hid (Calls Tryd.prog 57 #[.pointer (some ⟨w.heap.size + 1, 0, none⟩)] W4 fun o w' => ∃ w1 p k c, o = .returned (.slice p k c) ∧ TX w1 w' p k c lk ∧ Kept (fun j => j = w.heap.size + 1) W4 w1 ∧ w1.heap[w.heap.size + 1]? = some (.cells #[.string t5] 75 (0, 0))) := by rw [← hlk, ← ht5]; exact hBytes HT4.out P4.out.rd
    have HT5 : Hid (t5.size ≤ 33554432) := by rw [← ht5]; exact cut_size HT4.out
    go_wp2_with fail
    refine C5.out.mono ?_
    rintro o w5 ⟨wx, pk, kk, ck, rfl, T, K, r⟩
    have Q5 : Hid (GT w w5 t5 B #[.int .i64 (k : Int), .int .i64 va, .int .i64 0, .string ⟨#[]⟩, .slice none 0 0, .slice none 0 0]) := P4.out.call (K.trans T.kept (fun _ _ z => z.elim)) (T.kept.get r (fun z => z))
    have cv5 := T.string
    obtain ⟨KS, hKS⟩ : ∃ v, ofL lk = v := ⟨_, rfl⟩
    rw [hKS] at cv5
    have HKS : Hid (ofL lk = KS) := hKS
    clear r K T C5 hKS
    have x0 := cell_blk Q5.out.bx 3 (v := .string ⟨#[]⟩) rfl
    have xs := soft_blk Q5.out.bx 3
    obtain ⟨W5, hW5⟩ : ∃ W, W = w5.setCell ⟨B, 3, none⟩ (.string KS) := ⟨_, rfl⟩
    have S5 : Hid (GT w W5 t5 B #[.int .i64 (k : Int), .int .i64 va, .int .i64 0, .string KS, .slice none 0 0, .slice none 0 0] ∧ Kept (fun j => j = B) w5 W5) := by rw [hW5]; exact Q5.out.set 3 _
    have P5 : Hid (GT w W5 t5 B #[.int .i64 (k : Int), .int .i64 va, .int .i64 0, .string KS, .slice none 0 0, .slice none 0 0]) := S5.out.1
    go_upto_region 10 with fail
    rw [← hW5]
    clear hW5 x0 xs cv5
    obtain ⟨t6, ht6⟩ : ∃ v, ofL (cutE 32 t5.data.toList).2 = v := ⟨_, rfl⟩
    obtain ⟨lv, hlv⟩ : ∃ v, hexL (ofL (cutE 32 t5.data.toList).1) = v := ⟨_, rfl⟩
    have C6 : Hid (Calls Tryd.prog 57 #[.pointer (some ⟨w.heap.size + 1, 0, none⟩)] W5 fun o w' => ∃ w1 p k c, o = .returned (.slice p k c) ∧ TX w1 w' p k c lv ∧ Kept (fun j => j = w.heap.size + 1) W5 w1 ∧ w1.heap[w.heap.size + 1]? = some (.cells #[.string t6] 75 (0, 0))) := by rw [← hlv, ← ht6]; exact hBytes HT5.out P5.out.rd
    go_wp2_with fail
    refine C6.out.mono ?_
    rintro o w6 ⟨wx, pv, kv, cv, rfl, T, K, r⟩
    have Q6 : Hid (GT w w6 t6 B #[.int .i64 (k : Int), .int .i64 va, .int .i64 0, .string KS, .slice none 0 0, .slice none 0 0]) := P5.out.call (K.trans T.kept (fun _ _ z => z.elim)) (T.kept.get r (fun z => z))
    have vq6 : Hid (w6.ownsRow w.heap.size 5 1 (.slice pv kv cv) kv (Lib.byteCells lv) ∧ kv = lv.length) := ⟨owns_mono T.row (Nat.le_trans P5.out.kept.size K.size), T.len⟩
    clear r K T C6
    have x0 := cell_blk Q6.out.bx 4 (v := .slice none 0 0) rfl
    have xs := soft_blk Q6.out.bx 4
    obtain ⟨W6, hW6⟩ : ∃ W, W = w6.setCell ⟨B, 4, none⟩ (.slice pv kv cv) := ⟨_, rfl⟩
    have S6 : Hid (GT w W6 t6 B #[.int .i64 (k : Int), .int .i64 va, .int .i64 0, .string KS, .slice pv kv cv, .slice none 0 0] ∧ Kept (fun j => j = B) w6 W6) := by rw [hW6]; exact Q6.out.set 4 _
    have P6 : Hid (GT w W6 t6 B #[.int .i64 (k : Int), .int .i64 va, .int .i64 0, .string KS, .slice pv kv cv, .slice none 0 0]) := S6.out.1
    have vp6 : Hid (W6.ownsRow w.heap.size 5 1 (.slice pv kv cv) kv (Lib.byteCells lv) ∧ kv = lv.length) := ⟨own_off vq6.out.1 Q6.out.bx (by decide) S6.out.2, vq6.out.2⟩
    go_upto_region 12 with fail
    rw [← hW6]
    clear hW6 x0 xs
    have b0 := cell_blk P6.out.bx 0 (v := .int .i64 (k : Int)) rfl
    have a0 := cell_blk P6.out.an 0 (v := .int .i64 0) rfl
    have s0 := soft_blk P6.out.an 0
    have b1 := cell_blk P6.out.bx 1 (v := .int .i64 va) rfl
    have a1 := cell_blk P6.out.an 1 (v := .int .i64 0) rfl
    have s1 := soft_blk P6.out.an 1
    have b2 := cell_blk P6.out.bx 2 (v := .int .i64 0) rfl
    have a2 := cell_blk P6.out.an 2 (v := .int .i64 0) rfl
    have s2 := soft_blk P6.out.an 2
    have b3 := cell_blk P6.out.bx 3 (v := .string KS) rfl
    have a3 := cell_blk P6.out.an 3 (v := .string ⟨#[]⟩) rfl
    have s3 := soft_blk P6.out.an 3
    have b4 := cell_blk P6.out.bx 4 (v := .slice pv kv cv) rfl
    have a4 := cell_blk P6.out.an 4 (v := .slice none 0 0) rfl
    have s4 := soft_blk P6.out.an 4
    have b5 := cell_blk P6.out.bx 5 (v := .slice none 0 0) rfl
    have a5 := cell_blk P6.out.an 5 (v := .slice none 0 0) rfl
    have s5 := soft_blk P6.out.an 5
    have FN : Hid (((((((W6.setCell ⟨w.heap.size, 0, none⟩ (.int .i64 (k : Int))).setCell ⟨w.heap.size, 1, none⟩ (.int .i64 va)).setCell ⟨w.heap.size, 2, none⟩ (.int .i64 0)).setCell ⟨w.heap.size, 3, none⟩ (.string KS)).setCell ⟨w.heap.size, 4, none⟩ (.slice pv kv cv)).setCell ⟨w.heap.size, 5, none⟩ (.slice none 0 0)).heap[w.heap.size]? = some (.cells #[.int .i64 (k : Int), .int .i64 va, .int .i64 0, .string KS, .slice pv kv cv, .slice none 0 0] 38 (0, 0)) ∧ Kept (fun j => j = w.heap.size) W6 ((((((W6.setCell ⟨w.heap.size, 0, none⟩ (.int .i64 (k : Int))).setCell ⟨w.heap.size, 1, none⟩ (.int .i64 va)).setCell ⟨w.heap.size, 2, none⟩ (.int .i64 0)).setCell ⟨w.heap.size, 3, none⟩ (.string KS)).setCell ⟨w.heap.size, 4, none⟩ (.slice pv kv cv)).setCell ⟨w.heap.size, 5, none⟩ (.slice none 0 0))) := set6 P6.out.an _ _ _ _ _ _
    have AN : Hid (SO w.heap.size ((((((W6.setCell ⟨w.heap.size, 0, none⟩ (.int .i64 (k : Int))).setCell ⟨w.heap.size, 1, none⟩ (.int .i64 va)).setCell ⟨w.heap.size, 2, none⟩ (.int .i64 0)).setCell ⟨w.heap.size, 3, none⟩ (.string KS)).setCell ⟨w.heap.size, 4, none⟩ (.slice pv kv cv)).setCell ⟨w.heap.size, 5, none⟩ (.slice none 0 0)) ⟨(k : Int), va, 0, KS, pv, kv, cv, none, 0, 0⟩ G ∧ Kept (fun _ => False) w ((((((W6.setCell ⟨w.heap.size, 0, none⟩ (.int .i64 (k : Int))).setCell ⟨w.heap.size, 1, none⟩ (.int .i64 va)).setCell ⟨w.heap.size, 2, none⟩ (.int .i64 0)).setCell ⟨w.heap.size, 3, none⟩ (.string KS)).setCell ⟨w.heap.size, 4, none⟩ (.slice pv kv cv)).setCell ⟨w.heap.size, 5, none⟩ (.slice none 0 0))) := by
      have hGv : G = ⟨(k : Int), va, 0, lk, lv, []⟩ := by
        rw [← HG.out]
        unfold gsU
        simp only []
        rw [← hva, ← hlk, ← hlv, ← ht5, ← ht4]
        rfl
      rw [hGv]
      refine ⟨⟨rfl, rfl, rfl, HKS.out.symm, vp6.out.2, ?_, rfl, ?_⟩, P6.out.kept.trans FN.out.2 (fun j hj z => by omega)⟩
      · exact own_off vp6.out.1 P6.out.an (by decide) FN.out.2
      · exact (RN.out _).2
    clear HG
    go_wp2_with fail
    refine bodyPost_ret (results_cell_row (P := Tryd.prog) rfl _ _ w.heap.size 38 _ (0, 0) _ rfl FN.out.1 Tryd.underlying38 rfl (by kernel_rfl)) rfl ?_
    exact ⟨⟨(k : Int), va, 0, KS, pv, kv, cv, none, 0, 0⟩, rfl, AN.out⟩
  · rw [hu] at HG ⊢
    clear hu
    obtain ⟨va, hva⟩ : ∃ v, atoiV (cutE 32 t0.data.toList).1 = v := ⟨_, rfl⟩
    obtain ⟨t4, ht4⟩ : ∃ v, ofL (cutE 32 t0.data.toList).2 = v := ⟨_, rfl⟩
    have C4 : Hid (Calls Tryd.prog 53 #[.pointer (some ⟨w.heap.size + 1, 0, none⟩)] W3 fun o w' => o = .returned (.int .i64 va) ∧ w'.heap[w.heap.size + 1]? = some (.cells #[.string t4] 75 (0, 0)) ∧ Kept (fun j => j = w.heap.size + 1) W3 w') := by rw [← hva, ← ht4]; exact hNumE (by have := HT0.out; omega) S3.out.rd VV.out.1 S3.out.kept (Nat.le_succ _)
    have HT4 : Hid (t4.size ≤ 33554432) := by rw [← ht4]; exact cut_size HT0.out
    go_wp2_with fail
    refine C4.out.mono ?_
    rintro o w4 ⟨rfl, r, K⟩
    have Q4 : Hid (GT w w4 t4 B #[.int .i64 (k : Int), .int .i64 0, .int .i64 0, .string ⟨#[]⟩, .slice none 0 0, .slice none 0 0]) := S3.out.call K r
    clear r K C4
    have x0 := cell_blk Q4.out.bx 1 (v := .int .i64 0) rfl
    have xs := soft_blk Q4.out.bx 1
    obtain ⟨W4, hW4⟩ : ∃ W, W = w4.setCell ⟨B, 1, none⟩ (.int .i64 va) := ⟨_, rfl⟩
    have S4 : Hid (GT w W4 t4 B #[.int .i64 (k : Int), .int .i64 va, .int .i64 0, .string ⟨#[]⟩, .slice none 0 0, .slice none 0 0] ∧ Kept (fun j => j = B) w4 W4) := by rw [hW4]; exact Q4.out.set 1 _
    have P4 : Hid (GT w W4 t4 B #[.int .i64 (k : Int), .int .i64 va, .int .i64 0, .string ⟨#[]⟩, .slice none 0 0, .slice none 0 0]) := S4.out.1
    go_upto_region 6 with fail
    rw [← hW4]
    clear hW4 x0 xs
    obtain ⟨ll, hll⟩ : ∃ v, numsL t4.data.toList = v := ⟨_, rfl⟩
    have C5 : Hid (Calls Tryd.prog 58 #[.pointer (some ⟨w.heap.size + 1, 0, none⟩)] W4 fun o w' => ∃ p k c, o = .returned (.slice p k c) ∧ NX W4 w' p k c ll ∧ Kept (fun j => j = w.heap.size + 1) W4 w') := by rw [← hll]; exact hNumbers HT4.out P4.out.rd VV.out.1 P4.out.kept (Nat.le_succ _)
    go_wp2_with fail
    refine C5.out.mono ?_
    rintro o w5 ⟨pl, kl, cl, rfl, T, K⟩
    have lq5 : Hid (w5.ownsRow w.heap.size 3 1 (.slice pl kl cl) kl (intC ll) ∧ kl = ll.length) := ⟨owns_mono T.row P4.out.kept.size, T.len⟩
    have Q5 : Hid (w5.heap[w.heap.size]? = some (.cells #[.int .i64 0, .int .i64 0, .int .i64 0, .string ⟨#[]⟩, .slice none 0 0, .slice none 0 0] 38 (0, 0)) ∧ w5.heap[B]? = some (.cells #[.int .i64 (k : Int), .int .i64 va, .int .i64 0, .string ⟨#[]⟩, .slice none 0 0, .slice none 0 0] 38 (0, 0)) ∧ Kept (fun _ => False) w w5 ∧ w.heap.size + 1 < B) := ⟨K.get P4.out.an (by show ¬ w.heap.size = w.heap.size + 1; omega), K.get P4.out.bx (by have := P4.out.lo; show ¬ B = _; omega), P4.out.kept.trans K (fun j hj z => by omega), P4.out.lo⟩
    clear K T C5
    have x0 := cell_blk Q5.out.2.1 5 (v := .slice none 0 0) rfl
    have xs := soft_blk Q5.out.2.1 5
    obtain ⟨W5, hW5⟩ : ∃ W, W = w5.setCell ⟨B, 5, none⟩ (.slice pl kl cl) := ⟨_, rfl⟩
    have P5 : Hid (W5.heap[w.heap.size]? = some (.cells #[.int .i64 0, .int .i64 0, .int .i64 0, .string ⟨#[]⟩, .slice none 0 0, .slice none 0 0] 38 (0, 0)) ∧ W5.heap[B]? = some (.cells #[.int .i64 (k : Int), .int .i64 va, .int .i64 0, .string ⟨#[]⟩, .slice none 0 0, .slice pl kl cl] 38 (0, 0)) ∧ Kept (fun _ => False) w W5 ∧ w.heap.size + 1 < B ∧ W5.ownsRow w.heap.size 3 1 (.slice pl kl cl) kl (intC ll) ∧ kl = ll.length) := by
      have K : Kept (fun j => j = B) w5 W5 := by rw [hW5]; exact (Kept.refl (fun j => j = B) w5).setCell (p := ⟨B, 5, none⟩) (fun _ => rfl) _
      have lo := Q5.out.2.2.2
      exact ⟨K.get Q5.out.1 (by omega), by rw [hW5]; exact set_heap Q5.out.2.1 5 _, Q5.out.2.2.1.trans K (fun j hj z => by omega), lo, own_off lq5.out.1 Q5.out.2.1 (by decide) K, lq5.out.2⟩
    go_upto_region 14 with fail
    rw [← hW5]
    clear hW5 x0 xs
    have b0 := cell_blk P5.out.2.1 0 (v := .int .i64 (k : Int)) rfl
    have a0 := cell_blk P5.out.1 0 (v := .int .i64 0) rfl
    have s0 := soft_blk P5.out.1 0
    have b1 := cell_blk P5.out.2.1 1 (v := .int .i64 va) rfl
    have a1 := cell_blk P5.out.1 1 (v := .int .i64 0) rfl
    have s1 := soft_blk P5.out.1 1
    have b2 := cell_blk P5.out.2.1 2 (v := .int .i64 0) rfl
    have a2 := cell_blk P5.out.1 2 (v := .int .i64 0) rfl
    have s2 := soft_blk P5.out.1 2
    have b3 := cell_blk P5.out.2.1 3 (v := .string ⟨#[]⟩) rfl
    have a3 := cell_blk P5.out.1 3 (v := .string ⟨#[]⟩) rfl
    have s3 := soft_blk P5.out.1 3
    have b4 := cell_blk P5.out.2.1 4 (v := .slice none 0 0) rfl
    have a4 := cell_blk P5.out.1 4 (v := .slice none 0 0) rfl
    have s4 := soft_blk P5.out.1 4
    have b5 := cell_blk P5.out.2.1 5 (v := .slice pl kl cl) rfl
    have a5 := cell_blk P5.out.1 5 (v := .slice none 0 0) rfl
    have s5 := soft_blk P5.out.1 5
    have FN : Hid (((((((W5.setCell ⟨w.heap.size, 0, none⟩ (.int .i64 (k : Int))).setCell ⟨w.heap.size, 1, none⟩ (.int .i64 va)).setCell ⟨w.heap.size, 2, none⟩ (.int .i64 0)).setCell ⟨w.heap.size, 3, none⟩ (.string ⟨#[]⟩)).setCell ⟨w.heap.size, 4, none⟩ (.slice none 0 0)).setCell ⟨w.heap.size, 5, none⟩ (.slice pl kl cl)).heap[w.heap.size]? = some (.cells #[.int .i64 (k : Int), .int .i64 va, .int .i64 0, .string ⟨#[]⟩, .slice none 0 0, .slice pl kl cl] 38 (0, 0)) ∧ Kept (fun j => j = w.heap.size) W5 ((((((W5.setCell ⟨w.heap.size, 0, none⟩ (.int .i64 (k : Int))).setCell ⟨w.heap.size, 1, none⟩ (.int .i64 va)).setCell ⟨w.heap.size, 2, none⟩ (.int .i64 0)).setCell ⟨w.heap.size, 3, none⟩ (.string ⟨#[]⟩)).setCell ⟨w.heap.size, 4, none⟩ (.slice none 0 0)).setCell ⟨w.heap.size, 5, none⟩ (.slice pl kl cl))) := set6 P5.out.1 _ _ _ _ _ _
    have AN : Hid (SO w.heap.size ((((((W5.setCell ⟨w.heap.size, 0, none⟩ (.int .i64 (k : Int))).setCell ⟨w.heap.size, 1, none⟩ (.int .i64 va)).setCell ⟨w.heap.size, 2, none⟩ (.int .i64 0)).setCell ⟨w.heap.size, 3, none⟩ (.string ⟨#[]⟩)).setCell ⟨w.heap.size, 4, none⟩ (.slice none 0 0)).setCell ⟨w.heap.size, 5, none⟩ (.slice pl kl cl)) ⟨(k : Int), va, 0, ⟨#[]⟩, none, 0, 0, pl, kl, cl⟩ G ∧ Kept (fun _ => False) w ((((((W5.setCell ⟨w.heap.size, 0, none⟩ (.int .i64 (k : Int))).setCell ⟨w.heap.size, 1, none⟩ (.int .i64 va)).setCell ⟨w.heap.size, 2, none⟩ (.int .i64 0)).setCell ⟨w.heap.size, 3, none⟩ (.string ⟨#[]⟩)).setCell ⟨w.heap.size, 4, none⟩ (.slice none 0 0)).setCell ⟨w.heap.size, 5, none⟩ (.slice pl kl cl))) := by
      have hGv : G = ⟨(k : Int), va, 0, [], [], ll⟩ := by
        rw [← HG.out]
        unfold gsU
        simp only []
        rw [← hva, ← hll, ← ht4]
        rfl
      rw [hGv]
      refine ⟨⟨rfl, rfl, rfl, rfl, rfl, ?_, P5.out.2.2.2.2.2, ?_⟩, P5.out.2.2.1.trans FN.out.2 (fun j hj z => by omega)⟩
      · exact (RN.out _).1
      · exact own_off P5.out.2.2.2.2.1 P5.out.1 (by decide) FN.out.2
    clear HG
    go_wp2_with fail
    refine bodyPost_ret (results_cell_row (P := Tryd.prog) rfl _ _ w.heap.size 38 _ (0, 0) _ rfl FN.out.1 Tryd.underlying38 rfl (by kernel_rfl)) rfl ?_
    exact ⟨⟨(k : Int), va, 0, ⟨#[]⟩, none, 0, 0, pl, kl, cl⟩, rfl, AN.out⟩
  · rw [hu] at HG ⊢
    clear hu
    obtain ⟨vb, hvb⟩ : ∃ v, atoiV (cutE 32 t0.data.toList).1 = v := ⟨_, rfl⟩
    obtain ⟨t4, ht4⟩ : ∃ v, ofL (cutE 32 t0.data.toList).2 = v := ⟨_, rfl⟩
    have C4 : Hid (Calls Tryd.prog 53 #[.pointer (some ⟨w.heap.size + 1, 0, none⟩)] W3 fun o w' => o = .returned (.int .i64 vb) ∧ w'.heap[w.heap.size + 1]? = some (.cells #[.string t4] 75 (0, 0)) ∧ Kept (fun j => j = w.heap.size + 1) W3 w') := by rw [← hvb, ← ht4]; exact hNumE (by have := HT0.out; omega) S3.out.rd VV.out.1 S3.out.kept (Nat.le_succ _)
    have HT4 : Hid (t4.size ≤ 33554432) := by rw [← ht4]; exact cut_size HT0.out
    go_wp2_with fail
    refine C4.out.mono ?_
    rintro o w4 ⟨rfl, r, K⟩
    have Q4 : Hid (GT w w4 t4 B #[.int .i64 (k : Int), .int .i64 0, .int .i64 0, .string ⟨#[]⟩, .slice none 0 0, .slice none 0 0]) := S3.out.call K r
    clear r K C4
    have x0 := cell_blk Q4.out.bx 2 (v := .int .i64 0) rfl
    have xs := soft_blk Q4.out.bx 2
    obtain ⟨W4, hW4⟩ : ∃ W, W = w4.setCell ⟨B, 2, none⟩ (.int .i64 vb) := ⟨_, rfl⟩
    have S4 : Hid (GT w W4 t4 B #[.int .i64 (k : Int), .int .i64 0, .int .i64 vb, .string ⟨#[]⟩, .slice none 0 0, .slice none 0 0] ∧ Kept (fun j => j = B) w4 W4) := by rw [hW4]; exact Q4.out.set 2 _
    have P4 : Hid (GT w W4 t4 B #[.int .i64 (k : Int), .int .i64 0, .int .i64 vb, .string ⟨#[]⟩, .slice none 0 0, .slice none 0 0]) := S4.out.1
    go_upto_region 8 with fail
    rw [← hW4]
    clear hW4 x0 xs
    obtain ⟨ll, hll⟩ : ∃ v, numsL t4.data.toList = v := ⟨_, rfl⟩
    have C5 : Hid (Calls Tryd.prog 58 #[.pointer (some ⟨w.heap.size + 1, 0, none⟩)] W4 fun o w' => ∃ p k c, o = .returned (.slice p k c) ∧ NX W4 w' p k c ll ∧ Kept (fun j => j = w.heap.size + 1) W4 w') := by rw [← hll]; exact hNumbers HT4.out P4.out.rd VV.out.1 P4.out.kept (Nat.le_succ _)
    go_wp2_with fail
    refine C5.out.mono ?_
    rintro o w5 ⟨pl, kl, cl, rfl, T, K⟩
    have lq5 : Hid (w5.ownsRow w.heap.size 3 1 (.slice pl kl cl) kl (intC ll) ∧ kl = ll.length) := ⟨owns_mono T.row P4.out.kept.size, T.len⟩
    have Q5 : Hid (w5.heap[w.heap.size]? = some (.cells #[.int .i64 0, .int .i64 0, .int .i64 0, .string ⟨#[]⟩, .slice none 0 0, .slice none 0 0] 38 (0, 0)) ∧ w5.heap[B]? = some (.cells #[.int .i64 (k : Int), .int .i64 0, .int .i64 vb, .string ⟨#[]⟩, .slice none 0 0, .slice none 0 0] 38 (0, 0)) ∧ Kept (fun _ => False) w w5 ∧ w.heap.size + 1 < B) := ⟨K.get P4.out.an (by show ¬ w.heap.size = w.heap.size + 1; omega), K.get P4.out.bx (by have := P4.out.lo; show ¬ B = _; omega), P4.out.kept.trans K (fun j hj z => by omega), P4.out.lo⟩
    clear K T C5
    have x0 := cell_blk Q5.out.2.1 5 (v := .slice none 0 0) rfl
    have xs := soft_blk Q5.out.2.1 5
    obtain ⟨W5, hW5⟩ : ∃ W, W = w5.setCell ⟨B, 5, none⟩ (.slice pl kl cl) := ⟨_, rfl⟩
    have P5 : Hid (W5.heap[w.heap.size]? = some (.cells #[.int .i64 0, .int .i64 0, .int .i64 0, .string ⟨#[]⟩, .slice none 0 0, .slice none 0 0] 38 (0, 0)) ∧ W5.heap[B]? = some (.cells #[.int .i64 (k : Int), .int .i64 0, .int .i64 vb, .string ⟨#[]⟩, .slice none 0 0, .slice pl kl cl] 38 (0, 0)) ∧ Kept (fun _ => False) w W5 ∧ w.heap.size + 1 < B ∧ W5.ownsRow w.heap.size 3 1 (.slice pl kl cl) kl (intC ll) ∧ kl = ll.length) := by
      have K : Kept (fun j => j = B) w5 W5 := by rw [hW5]; exact (Kept.refl (fun j => j = B) w5).setCell (p := ⟨B, 5, none⟩) (fun _ => rfl) _
      have lo := Q5.out.2.2.2
      exact ⟨K.get Q5.out.1 (by omega), by rw [hW5]; exact set_heap Q5.out.2.1 5 _, Q5.out.2.2.1.trans K (fun j hj z => by omega), lo, own_off lq5.out.1 Q5.out.2.1 (by decide) K, lq5.out.2⟩
    go_upto_region 14 with fail
    rw [← hW5]
    clear hW5 x0 xs
    have b0 := cell_blk P5.out.2.1 0 (v := .int .i64 (k : Int)) rfl
    have a0 := cell_blk P5.out.1 0 (v := .int .i64 0) rfl
    have s0 := soft_blk P5.out.1 0
    have b1 := cell_blk P5.out.2.1 1 (v := .int .i64 0) rfl
    have a1 := cell_blk P5.out.1 1 (v := .int .i64 0) rfl
    have s1 := soft_blk P5.out.1 1
    have b2 := cell_blk P5.out.2.1 2 (v := .int .i64 vb) rfl
    have a2 := cell_blk P5.out.1 2 (v := .int .i64 0) rfl
    have s2 := soft_blk P5.out.1 2
    have b3 := cell_blk P5.out.2.1 3 (v := .string ⟨#[]⟩) rfl
    have a3 := cell_blk P5.out.1 3 (v := .string ⟨#[]⟩) rfl
    have s3 := soft_blk P5.out.1 3
    have b4 := cell_blk P5.out.2.1 4 (v := .slice none 0 0) rfl
    have a4 := cell_blk P5.out.1 4 (v := .slice none 0 0) rfl
    have s4 := soft_blk P5.out.1 4
    have b5 := cell_blk P5.out.2.1 5 (v := .slice pl kl cl) rfl
    have a5 := cell_blk P5.out.1 5 (v := .slice none 0 0) rfl
    have s5 := soft_blk P5.out.1 5
    have FN : Hid (((((((W5.setCell ⟨w.heap.size, 0, none⟩ (.int .i64 (k : Int))).setCell ⟨w.heap.size, 1, none⟩ (.int .i64 0)).setCell ⟨w.heap.size, 2, none⟩ (.int .i64 vb)).setCell ⟨w.heap.size, 3, none⟩ (.string ⟨#[]⟩)).setCell ⟨w.heap.size, 4, none⟩ (.slice none 0 0)).setCell ⟨w.heap.size, 5, none⟩ (.slice pl kl cl)).heap[w.heap.size]? = some (.cells #[.int .i64 (k : Int), .int .i64 0, .int .i64 vb, .string ⟨#[]⟩, .slice none 0 0, .slice pl kl cl] 38 (0, 0)) ∧ Kept (fun j => j = w.heap.size) W5 ((((((W5.setCell ⟨w.heap.size, 0, none⟩ (.int .i64 (k : Int))).setCell ⟨w.heap.size, 1, none⟩ (.int .i64 0)).setCell ⟨w.heap.size, 2, none⟩ (.int .i64 vb)).setCell ⟨w.heap.size, 3, none⟩ (.string ⟨#[]⟩)).setCell ⟨w.heap.size, 4, none⟩ (.slice none 0 0)).setCell ⟨w.heap.size, 5, none⟩ (.slice pl kl cl))) := set6 P5.out.1 _ _ _ _ _ _
    have AN : Hid (SO w.heap.size ((((((W5.setCell ⟨w.heap.size, 0, none⟩ (.int .i64 (k : Int))).setCell ⟨w.heap.size, 1, none⟩ (.int .i64 0)).setCell ⟨w.heap.size, 2, none⟩ (.int .i64 vb)).setCell ⟨w.heap.size, 3, none⟩ (.string ⟨#[]⟩)).setCell ⟨w.heap.size, 4, none⟩ (.slice none 0 0)).setCell ⟨w.heap.size, 5, none⟩ (.slice pl kl cl)) ⟨(k : Int), 0, vb, ⟨#[]⟩, none, 0, 0, pl, kl, cl⟩ G ∧ Kept (fun _ => False) w ((((((W5.setCell ⟨w.heap.size, 0, none⟩ (.int .i64 (k : Int))).setCell ⟨w.heap.size, 1, none⟩ (.int .i64 0)).setCell ⟨w.heap.size, 2, none⟩ (.int .i64 vb)).setCell ⟨w.heap.size, 3, none⟩ (.string ⟨#[]⟩)).setCell ⟨w.heap.size, 4, none⟩ (.slice none 0 0)).setCell ⟨w.heap.size, 5, none⟩ (.slice pl kl cl))) := by
      have hGv : G = ⟨(k : Int), 0, vb, [], [], ll⟩ := by
        rw [← HG.out]
        unfold gsU
        simp only []
        rw [← hvb, ← hll, ← ht4]
        rfl
      rw [hGv]
      refine ⟨⟨rfl, rfl, rfl, rfl, rfl, ?_, P5.out.2.2.2.2.2, ?_⟩, P5.out.2.2.1.trans FN.out.2 (fun j hj z => by omega)⟩
      · exact (RN.out _).1
      · exact own_off P5.out.2.2.2.2.1 P5.out.1 (by decide) FN.out.2
    clear HG
    go_wp2_with fail
    refine bodyPost_ret (results_cell_row (P := Tryd.prog) rfl _ _ w.heap.size 38 _ (0, 0) _ rfl FN.out.1 Tryd.underlying38 rfl (by kernel_rfl)) rfl ?_
    exact ⟨⟨(k : Int), 0, vb, ⟨#[]⟩, none, 0, 0, pl, kl, cl⟩, rfl, AN.out⟩
  · rw [hu] at HG ⊢
    clear hu
    obtain ⟨va, hva⟩ : ∃ v, atoiV (cutE 32 t0.data.toList).1 = v := ⟨_, rfl⟩
    obtain ⟨t4, ht4⟩ : ∃ v, ofL (cutE 32 t0.data.toList).2 = v := ⟨_, rfl⟩
    have C4 : Hid (Calls Tryd.prog 53 #[.pointer (some ⟨w.heap.size + 1, 0, none⟩)] W3 fun o w' => o = .returned (.int .i64 va) ∧ w'.heap[w.heap.size + 1]? = some (.cells #[.string t4] 75 (0, 0)) ∧ Kept (fun j => j = w.heap.size + 1) W3 w') := by rw [← hva, ← ht4]; exact hNumE (by have := HT0.out; omega) S3.out.rd VV.out.1 S3.out.kept (Nat.le_succ _)
    have HT4 : Hid (t4.size ≤ 33554432) := by rw [← ht4]; exact cut_size HT0.out
    go_wp2_with fail
    refine C4.out.mono ?_
    rintro o w4 ⟨rfl, r, K⟩
    have Q4 : Hid (GT w w4 t4 B #[.int .i64 (k : Int), .int .i64 0, .int .i64 0, .string ⟨#[]⟩, .slice none 0 0, .slice none 0 0]) := S3.out.call K r
    clear r K C4
    have x0 := cell_blk Q4.out.bx 1 (v := .int .i64 0) rfl
    have xs := soft_blk Q4.out.bx 1
    obtain ⟨W4, hW4⟩ : ∃ W, W = w4.setCell ⟨B, 1, none⟩ (.int .i64 va) := ⟨_, rfl⟩
    have S4 : Hid (GT w W4 t4 B #[.int .i64 (k : Int), .int .i64 va, .int .i64 0, .string ⟨#[]⟩, .slice none 0 0, .slice none 0 0] ∧ Kept (fun j => j = B) w4 W4) := by rw [hW4]; exact Q4.out.set 1 _
    have P4 : Hid (GT w W4 t4 B #[.int .i64 (k : Int), .int .i64 va, .int .i64 0, .string ⟨#[]⟩, .slice none 0 0, .slice none 0 0]) := S4.out.1
    go_upto_region 6 with fail
    rw [← hW4]
    clear hW4 x0 xs
    obtain ⟨vb, hvb⟩ : ∃ v, atoiV (cutE 32 t4.data.toList).1 = v := ⟨_, rfl⟩
    obtain ⟨t5, ht5⟩ : ∃ v, ofL (cutE 32 t4.data.toList).2 = v := ⟨_, rfl⟩
    have C5 : Hid (Calls Tryd.prog 53 #[.pointer (some ⟨w.heap.size + 1, 0, none⟩)] W4 fun o w' => o = .returned (.int .i64 vb) ∧ w'.heap[w.heap.size + 1]? = some (.cells #[.string t5] 75 (0, 0)) ∧ Kept (fun j => j = w.heap.size + 1) W4 w') := by rw [← hvb, ← ht5]; exact hNumE (by have := HT4.out; omega) P4.out.rd VV.out.1 P4.out.kept (Nat.le_succ _)
    have HT5 : Hid (t5.size ≤ 33554432) := by rw [← ht5]; exact cut_size HT4.out
    go_wp2_with fail
    refine C5.out.mono ?_
    rintro o w5 ⟨rfl, r, K⟩
    have Q5 : Hid (GT w w5 t5 B #[.int .i64 (k : Int), .int .i64 va, .int .i64 0, .string ⟨#[]⟩, .slice none 0 0, .slice none 0 0]) := P4.out.call K r
    clear r K C5
    have x0 := cell_blk Q5.out.bx 2 (v := .int .i64 0) rfl
    have xs := soft_blk Q5.out.bx 2
    obtain ⟨W5, hW5⟩ : ∃ W, W = w5.setCell ⟨B, 2, none⟩ (.int .i64 vb) := ⟨_, rfl⟩
    have S5 : Hid (GT w W5 t5 B #[.int .i64 (k : Int), .int .i64 va, .int .i64 vb, .string ⟨#[]⟩, .slice none 0 0, .slice none 0 0] ∧ Kept (fun j => j = B) w5 W5) := by rw [hW5]; exact Q5.out.set 2 _
    have P5 : Hid (GT w W5 t5 B #[.int .i64 (k : Int), .int .i64 va, .int .i64 vb, .string ⟨#[]⟩, .slice none 0 0, .slice none 0 0]) := S5.out.1
    go_upto_region 8 with fail
    rw [← hW5]
    clear hW5 x0 xs
    obtain ⟨ll, hll⟩ : ∃ v, numsL t5.data.toList = v := ⟨_, rfl⟩
    have C6 : Hid (Calls Tryd.prog 58 #[.pointer (some ⟨w.heap.size + 1, 0, none⟩)] W5 fun o w' => ∃ p k c, o = .returned (.slice p k c) ∧ NX W5 w' p k c ll ∧ Kept (fun j => j = w.heap.size + 1) W5 w') := by rw [← hll]; exact hNumbers HT5.out P5.out.rd VV.out.1 P5.out.kept (Nat.le_succ _)
    go_wp2_with fail
    refine C6.out.mono ?_
    rintro o w6 ⟨pl, kl, cl, rfl, T, K⟩
    have lq6 : Hid (w6.ownsRow w.heap.size 3 1 (.slice pl kl cl) kl (intC ll) ∧ kl = ll.length) := ⟨owns_mono T.row P5.out.kept.size, T.len⟩
    have Q6 : Hid (w6.heap[w.heap.size]? = some (.cells #[.int .i64 0, .int .i64 0, .int .i64 0, .string ⟨#[]⟩, .slice none 0 0, .slice none 0 0] 38 (0, 0)) ∧ w6.heap[B]? = some (.cells #[.int .i64 (k : Int), .int .i64 va, .int .i64 vb, .string ⟨#[]⟩, .slice none 0 0, .slice none 0 0] 38 (0, 0)) ∧ Kept (fun _ => False) w w6 ∧ w.heap.size + 1 < B) := ⟨K.get P5.out.an (by show ¬ w.heap.size = w.heap.size + 1; omega), K.get P5.out.bx (by have := P5.out.lo; show ¬ B = _; omega), P5.out.kept.trans K (fun j hj z => by omega), P5.out.lo⟩
    clear K T C6
    have x0 := cell_blk Q6.out.2.1 5 (v := .slice none 0 0) rfl
    have xs := soft_blk Q6.out.2.1 5
    obtain ⟨W6, hW6⟩ : ∃ W, W = w6.setCell ⟨B, 5, none⟩ (.slice pl kl cl) := ⟨_, rfl⟩
    have P6 : Hid (W6.heap[w.heap.size]? = some (.cells #[.int .i64 0, .int .i64 0, .int .i64 0, .string ⟨#[]⟩, .slice none 0 0, .slice none 0 0] 38 (0, 0)) ∧ W6.heap[B]? = some (.cells #[.int .i64 (k : Int), .int .i64 va, .int .i64 vb, .string ⟨#[]⟩, .slice none 0 0, .slice pl kl cl] 38 (0, 0)) ∧ Kept (fun _ => False) w W6 ∧ w.heap.size + 1 < B ∧ W6.ownsRow w.heap.size 3 1 (.slice pl kl cl) kl (intC ll) ∧ kl = ll.length) := by
      have K : Kept (fun j => j = B) w6 W6 := by rw [hW6]; exact (Kept.refl (fun j => j = B) w6).setCell (p := ⟨B, 5, none⟩) (fun _ => rfl) _
      have lo := Q6.out.2.2.2
      exact ⟨K.get Q6.out.1 (by omega), by rw [hW6]; exact set_heap Q6.out.2.1 5 _, Q6.out.2.2.1.trans K (fun j hj z => by omega), lo, own_off lq6.out.1 Q6.out.2.1 (by decide) K, lq6.out.2⟩
    go_upto_region 14 with fail
    rw [← hW6]
    clear hW6 x0 xs
    have b0 := cell_blk P6.out.2.1 0 (v := .int .i64 (k : Int)) rfl
    have a0 := cell_blk P6.out.1 0 (v := .int .i64 0) rfl
    have s0 := soft_blk P6.out.1 0
    have b1 := cell_blk P6.out.2.1 1 (v := .int .i64 va) rfl
    have a1 := cell_blk P6.out.1 1 (v := .int .i64 0) rfl
    have s1 := soft_blk P6.out.1 1
    have b2 := cell_blk P6.out.2.1 2 (v := .int .i64 vb) rfl
    have a2 := cell_blk P6.out.1 2 (v := .int .i64 0) rfl
    have s2 := soft_blk P6.out.1 2
    have b3 := cell_blk P6.out.2.1 3 (v := .string ⟨#[]⟩) rfl
    have a3 := cell_blk P6.out.1 3 (v := .string ⟨#[]⟩) rfl
    have s3 := soft_blk P6.out.1 3
    have b4 := cell_blk P6.out.2.1 4 (v := .slice none 0 0) rfl
    have a4 := cell_blk P6.out.1 4 (v := .slice none 0 0) rfl
    have s4 := soft_blk P6.out.1 4
    have b5 := cell_blk P6.out.2.1 5 (v := .slice pl kl cl) rfl
    have a5 := cell_blk P6.out.1 5 (v := .slice none 0 0) rfl
    have s5 := soft_blk P6.out.1 5
    have FN : Hid (((((((W6.setCell ⟨w.heap.size, 0, none⟩ (.int .i64 (k : Int))).setCell ⟨w.heap.size, 1, none⟩ (.int .i64 va)).setCell ⟨w.heap.size, 2, none⟩ (.int .i64 vb)).setCell ⟨w.heap.size, 3, none⟩ (.string ⟨#[]⟩)).setCell ⟨w.heap.size, 4, none⟩ (.slice none 0 0)).setCell ⟨w.heap.size, 5, none⟩ (.slice pl kl cl)).heap[w.heap.size]? = some (.cells #[.int .i64 (k : Int), .int .i64 va, .int .i64 vb, .string ⟨#[]⟩, .slice none 0 0, .slice pl kl cl] 38 (0, 0)) ∧ Kept (fun j => j = w.heap.size) W6 ((((((W6.setCell ⟨w.heap.size, 0, none⟩ (.int .i64 (k : Int))).setCell ⟨w.heap.size, 1, none⟩ (.int .i64 va)).setCell ⟨w.heap.size, 2, none⟩ (.int .i64 vb)).setCell ⟨w.heap.size, 3, none⟩ (.string ⟨#[]⟩)).setCell ⟨w.heap.size, 4, none⟩ (.slice none 0 0)).setCell ⟨w.heap.size, 5, none⟩ (.slice pl kl cl))) := set6 P6.out.1 _ _ _ _ _ _
    have AN : Hid (SO w.heap.size ((((((W6.setCell ⟨w.heap.size, 0, none⟩ (.int .i64 (k : Int))).setCell ⟨w.heap.size, 1, none⟩ (.int .i64 va)).setCell ⟨w.heap.size, 2, none⟩ (.int .i64 vb)).setCell ⟨w.heap.size, 3, none⟩ (.string ⟨#[]⟩)).setCell ⟨w.heap.size, 4, none⟩ (.slice none 0 0)).setCell ⟨w.heap.size, 5, none⟩ (.slice pl kl cl)) ⟨(k : Int), va, vb, ⟨#[]⟩, none, 0, 0, pl, kl, cl⟩ G ∧ Kept (fun _ => False) w ((((((W6.setCell ⟨w.heap.size, 0, none⟩ (.int .i64 (k : Int))).setCell ⟨w.heap.size, 1, none⟩ (.int .i64 va)).setCell ⟨w.heap.size, 2, none⟩ (.int .i64 vb)).setCell ⟨w.heap.size, 3, none⟩ (.string ⟨#[]⟩)).setCell ⟨w.heap.size, 4, none⟩ (.slice none 0 0)).setCell ⟨w.heap.size, 5, none⟩ (.slice pl kl cl))) := by
      have hGv : G = ⟨(k : Int), va, vb, [], [], ll⟩ := by
        rw [← HG.out]
        unfold gsU
        simp only []
        rw [← hva, ← hvb, ← hll, ← ht5, ← ht4]
        rfl
      rw [hGv]
      refine ⟨⟨rfl, rfl, rfl, rfl, rfl, ?_, P6.out.2.2.2.2.2, ?_⟩, P6.out.2.2.1.trans FN.out.2 (fun j hj z => by omega)⟩
      · exact (RN.out _).1
      · exact own_off P6.out.2.2.2.2.1 P6.out.1 (by decide) FN.out.2
    clear HG
    go_wp2_with fail
    refine bodyPost_ret (results_cell_row (P := Tryd.prog) rfl _ _ w.heap.size 38 _ (0, 0) _ rfl FN.out.1 Tryd.underlying38 rfl (by kernel_rfl)) rfl ?_
    exact ⟨⟨(k : Int), va, vb, ⟨#[]⟩, none, 0, 0, pl, kl, cl⟩, rfl, AN.out⟩
end Go.Proofs.YtonfefhegghapaaDoor
