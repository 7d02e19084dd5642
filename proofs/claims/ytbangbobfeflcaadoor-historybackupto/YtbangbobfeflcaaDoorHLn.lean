import Derived.Test.YtbangbobfeflcaaDoorHGu
namespace Go.Proofs.YtbangbobfeflcaaDoor
open Go.RowKit 

/-- Where line is: the event in its box. -/
structure LnS (w W : World) (vs : Array Value) : Prop where
  ev : W.heap[w.heap.size]? = some (.cells vs 45 (0, 0))
  tab0 : Tab w
  kw0 : KWs w
  kept : Kept (fun _ => False) w W
theorem LnS.tab {w W : World} {vs : Array Value} (h : LnS w W vs) : Tab W := h.tab0.kept h.kept
theorem LnS.kw {w W : World} {vs : Array Value} (h : LnS w W vs) : KWs W := h.kw0.kept h.kept (fun z => z)
theorem LnS.keep {w W W' : World} {vs : Array Value} (h : LnS w W vs) (K : Kept (fun _ => False) W W') : LnS w W' vs := ⟨K.get h.ev (fun z => z), h.tab0, h.kw0, h.kept.trans K (fun _ _ z => z)⟩
theorem LnS.by {w W W' : World} {vs : Array Value} (h : LnS w W vs) (B : Below W.heap.size W W') : LnS w W' vs := h.keep (kept_below B)
theorem LnS.at {w W W' : World} {vs : Array Value} (h : LnS w W vs) {S : Nat → Prop} (K : Kept S W W') (hS : ∀ j, S j → w.heap.size < j) : LnS w W' vs :=
  ⟨K.get h.ev (fun z => by have := hS _ z; omega), h.tab0, h.kw0, h.kept.trans K (fun j hj z => by have := hS _ z; omega)⟩
theorem LnS.start (w : World) (vs : Array Value) (V : Tab w) (kw : KWs w) : LnS w (w.alloc (.cells vs 45)) vs := ⟨alloc_new _ _, V, kw, (Kept.refl _ _).alloc _⟩
def strs (l : List ByteArray) : List Value := l.map .string
/-- The words so far, a row of one's own. -/
structure LnW (w W : World) (vs : Array Value) (P : Option Addr) (k cap : Nat) (xs : List ByteArray) : Prop where
  st : LnS w W vs
  row : W.ownsRow (w.heap.size + 1) 9 1 (.slice P k cap) k (strs xs)
theorem LnW.keep {w W W' : World} {vs : Array Value} {P : Option Addr} {k cap : Nat} {xs : List ByteArray} (h : LnW w W vs P k cap xs) (K : Kept (fun _ => False) W W') : LnW w W' vs P k cap xs := ⟨h.st.keep K, K.owns h.row (fun _ _ z => z)⟩
theorem LnW.more {w W W' : World} {vs : Array Value} {P Q : Option Addr} {k k' cap cap' : Nat} {xs ys : List ByteArray} (h : LnW w W vs P k cap xs) (g : W.grownBy W' (Value.slice P k cap).ownBlock) (o : W'.ownsRow (w.heap.size + 1) 9 1 (.slice Q k' cap') k' (strs ys)) : LnW w W' vs Q k' cap' ys := by
  refine ⟨h.st.at ((Kept.refl (fun j => blockOf P = some j) W).grown g (fun j _ z => by rw [blockOf_own] at z; exact z)) (fun j z => ?_), o⟩
  have := own_lt h.row j z
  omega
theorem Tryd.info9c : (Tryd.prog.info? 9).map (fun i => (i.zero, i.size, i.bytes)) = some (some (.string ⟨#[]⟩), 1, 16) := by kernel_rfl
theorem src_str {w : World} {g : Nat} {s : ByteArray} (h : w.heap[g]? = some (.cells #[.string s] 9 (0, 0))) : Src Tryd.prog 1 84 (.slice (some ⟨g, 0, none⟩) 1 1) 1 (strs [s]) w := by
  refine Src.ofSlice w Tryd.underlying84 ⟨g, 0, none⟩ 1 1 (strs [s]) rfl (fun j u hu => ?_) (fun u hu => ?_)
  · have : j = 0 := by
      have := (List.getElem?_eq_some_iff.1 hu).1
      simp [strs] at this
      exact this
    subst this
    rw [Addr.add_none]
    have e : u = .string s := by simpa [strs] using hu.symm
    rw [e]
    exact cell_blk h 0 rfl
  · have e : u = .string s := by simpa [strs] using hu
    rw [e]
    rfl
theorem LnW.join {w W : World} {vs : Array Value} {P : Option Addr} {k cap : Nat} {xs : List ByteArray} (h : LnW w W vs P k cap xs) (hk : k = xs.length) (h0 : 0 < k) (h1 : k ≤ 100) {r : ByteArray} (hr : (⟨(Lib.join (xs.map (·.data.toList)) [32]).toArray⟩ : ByteArray) = r) (hl : (Lib.join (xs.map (·.data.toList)) [32]).length ≤ 140737488355328) : Calls Tryd.prog 36 #[.slice P k cap, .string ⟨#[32]⟩] W fun o w' => o = .returned (.string r) ∧ Kept (fun _ => False) W w' := by
  have rm := own_room h.row
  rcases h.row.2 with ⟨_, z⟩ | ⟨g, cap', cur, z, _, hg, _⟩
  · omega
  · have z : Value.slice P k cap = .slice (some ⟨g, 0, none⟩) k cap' := z
    injection z with z1 _ z3
    subst z1
    subst z3
    have hc := h.row.cells (g := g) rfl
    subst hk
    refine (Tryd.strings_Join g 0 cap xs ⟨#[32]⟩ W (fun j x hx => ?_) (block_lt hg) (by omega) rm.1 hl).mono ?_
    · have := hc j (.string x) (by unfold strs; rw [List.getElem?_map, hx]; rfl)
      rw [Addr.add_none] at this
      exact this
    · rintro o w' ⟨rfl, B⟩
      exact ⟨by rw [← hr], kept_below B⟩
theorem itoaAt {v : Int} {s : ByteArray} (h0 : -9223372036854775808 ≤ v) (h1 : v ≤ 9223372036854775807) (hs : (⟨(Lib.itoa v).toArray⟩ : ByteArray) = s) (w : World) (V : Tab w) : Calls Tryd.prog 30 #[.int .i64 v] w fun x w' => x = .returned (.string s) ∧ Below w.heap.size w w' := by
  refine (Tryd.strconv_Itoa v h0 h1 w V).mono ?_
  rintro x w2 ⟨rfl, k, os, rfl⟩
  exact ⟨by rw [hs], grow_below w k os⟩
theorem formatAt {v : Int} {s : ByteArray} (h0 : -9223372036854775808 ≤ v) (h1 : v ≤ 9223372036854775807) (hs : (⟨(Lib.itoa v).toArray⟩ : ByteArray) = s) (w : World) (V : Tab w) : Calls Tryd.prog 31 #[.int .i64 v, .int .i64 10] w fun x w' => x = .returned (.string s) ∧ Below w.heap.size w w' := by
  refine (Tryd.strconv_FormatInt_10 v h0 h1 w V).mono ?_
  rintro x w2 ⟨rfl, k, os, rfl⟩
  exact ⟨by rw [hs], grow_below w k os⟩
theorem quotedAtK (U : World) : Calls Tryd.prog 32 #[.string ⟨#[107]⟩] U fun x w' => x = .returned (.string ⟨#[34, 107, 34]⟩) ∧ Below U.heap.size U w' := (hQuotedK U).mono fun _ _ h => ⟨h.1, below_kept h.2⟩
theorem quotedAtX (U : World) : Calls Tryd.prog 32 #[.string ⟨#[120]⟩] U fun x w' => x = .returned (.string ⟨#[34, 120, 34]⟩) ∧ Below U.heap.size U w' := (hQuotedX U).mono fun _ _ h => ⟨h.1, below_kept h.2⟩
set_option maxRecDepth 100000 in
theorem hLine1 (w : World) (V : Tab w) (kw : KWs w) (p : Option Addr) (c : Nat) (rv : Reads w p 1 c [120]) : Calls Tryd.prog 16 #[.agg #[.int .i64 1, .int .i64 1, .int .i64 1, .bool true, .string ⟨#[107]⟩, .slice p 1 c, .int .i64 0, .int .i64 0, .int .i64 0]] w fun o w' => o = .returned (.string ⟨#[105, 110, 118, 111, 107, 101, 32, 49, 32, 49, 32, 112, 117, 116, 32, 34, 107, 34, 32, 34, 120, 34]⟩) ∧ Kept (fun _ => False) w w' := by
  have S0 : Hid (LnS w _ #[.int .i64 1, .int .i64 1, .int .i64 1, .bool true, .string ⟨#[107]⟩, .slice p 1 c, .int .i64 0, .int .i64 0, .int .i64 0]) := LnS.start w #[.int .i64 1, .int .i64 1, .int .i64 1, .bool true, .string ⟨#[107]⟩, .slice p 1 c, .int .i64 0, .int .i64 0, .int .i64 0] V kw
  have S1 : Hid (LnS w (w.alloc (.cells #[.int .i64 1, .int .i64 1, .int .i64 1, .bool true, .string ⟨#[107]⟩, .slice p 1 c, .int .i64 0, .int .i64 0, .int .i64 0] 45)).drew #[.int .i64 1, .int .i64 1, .int .i64 1, .bool true, .string ⟨#[107]⟩, .slice p 1 c, .int .i64 0, .int .i64 0, .int .i64 0]) := S0.out.by ((Below.refl _ _).drew)
  have cI : Hid (∀ U, Tab U → Calls Tryd.prog 30 #[.int .i64 1] U fun x w' => x = .returned (.string ⟨#[49]⟩) ∧ Below U.heap.size U w') := fun U h => itoaAt (by omega) (by omega) (by kernel_rfl) U h
  have cF : Hid (∀ U, Tab U → Calls Tryd.prog 31 #[.int .i64 1, .int .i64 10] U fun x w' => x = .returned (.string ⟨#[49]⟩) ∧ Below U.heap.size U w') := fun U h => formatAt (by omega) (by omega) (by kernel_rfl) U h
  have cQ : Hid (∀ U, Calls Tryd.prog 32 #[.string ⟨#[107]⟩] U fun x w' => x = .returned (.string ⟨#[34, 107, 34]⟩) ∧ Below U.heap.size U w') := fun U => quotedAtK U
  have RV : Hid (Reads w p 1 c [120]) := rv
  clear S0 V kw rv
  have a0 := cell_blk S1.out.ev 0 (v := .int .i64 1) rfl
  have a1 := cell_blk S1.out.ev 1 (v := .int .i64 1) rfl
  have a2 := cell_blk S1.out.ev 2 (v := .int .i64 1) rfl
  have a4 := cell_blk S1.out.ev 4 (v := .string ⟨#[107]⟩) rfl
  have ak := S1.out.kw.c1
  go_enter Tryd.func16, Tryd.ntmps16
  go_upto_region 1 with fail
  go_region_held3 (fun w' => w'.cell? ⟨w.heap.size, 0, none⟩ = some (.int .i64 1) ∧ w'.cell? ⟨w.heap.size, 1, none⟩ = some (.int .i64 1) ∧ w'.cell? ⟨w.heap.size, 2, none⟩ = some (.int .i64 1) ∧ w'.cell? ⟨w.heap.size, 4, none⟩ = some (.string ⟨#[107]⟩) ∧ w'.cell? ⟨0, 1, none⟩ = some (.string ⟨#[105, 110, 118, 111, 107, 101]⟩)) (go_keep)
    (first
      | (go_at_call 30; refine (cI.out _ S1.out.tab).mono ?_; rintro x w2 ⟨rfl, B2⟩; have S2 : Hid (LnS w w2 #[.int .i64 1, .int .i64 1, .int .i64 1, .bool true, .string ⟨#[107]⟩, .slice p 1 c, .int .i64 0, .int .i64 0, .int .i64 0]) := S1.out.by B2; clear B2; have b0 := cell_blk S2.out.ev 0 (v := .int .i64 1) rfl; have b1 := cell_blk S2.out.ev 1 (v := .int .i64 1) rfl; have b2 := cell_blk S2.out.ev 2 (v := .int .i64 1) rfl; have b4 := cell_blk S2.out.ev 4 (v := .string ⟨#[107]⟩) rfl; have bk := S2.out.kw.c1;  skip)
      | (go_at_call 31; refine (cF.out _ S2.out.tab).mono ?_; rintro x w3 ⟨rfl, B3⟩; have S3 : Hid (LnS w w3 #[.int .i64 1, .int .i64 1, .int .i64 1, .bool true, .string ⟨#[107]⟩, .slice p 1 c, .int .i64 0, .int .i64 0, .int .i64 0]) := S2.out.by B3; clear B3; have c0 := cell_blk S3.out.ev 0 (v := .int .i64 1) rfl; have c1 := cell_blk S3.out.ev 1 (v := .int .i64 1) rfl; have c2 := cell_blk S3.out.ev 2 (v := .int .i64 1) rfl; have c4 := cell_blk S3.out.ev 4 (v := .string ⟨#[107]⟩) rfl; have ck := S3.out.kw.c1;  skip)
      | (go_at_call 32; refine (cQ.out _).mono ?_; rintro x w4 ⟨rfl, B4⟩; have S4 : Hid (LnS w w4 #[.int .i64 1, .int .i64 1, .int .i64 1, .bool true, .string ⟨#[107]⟩, .slice p 1 c, .int .i64 0, .int .i64 0, .int .i64 0]) := S3.out.by B4; clear B4; have d0 := cell_blk S4.out.ev 0 (v := .int .i64 1) rfl; have d1 := cell_blk S4.out.ev 1 (v := .int .i64 1) rfl; have d2 := cell_blk S4.out.ev 2 (v := .int .i64 1) rfl; have d4 := cell_blk S4.out.ev 4 (v := .string ⟨#[107]⟩) rfl; have dk := S4.out.kw.c1;  skip)
      | fail)
  have S5 : Hid (LnS w (w4.alloc (.cells #[.string ⟨#[105, 110, 118, 111, 107, 101]⟩, .string ⟨#[49]⟩, .string ⟨#[49]⟩, .string ⟨#[103, 101, 116]⟩, .string ⟨#[34, 107, 34]⟩] 9)) #[.int .i64 1, .int .i64 1, .int .i64 1, .bool true, .string ⟨#[107]⟩, .slice p 1 c, .int .i64 0, .int .i64 0, .int .i64 0]) := S4.out.keep ((Kept.refl _ _).alloc _)
  have Z5 : Hid ((w4.alloc (.cells #[.string ⟨#[105, 110, 118, 111, 107, 101]⟩, .string ⟨#[49]⟩, .string ⟨#[49]⟩, .string ⟨#[103, 101, 116]⟩, .string ⟨#[34, 107, 34]⟩] 9)).heap[w4.heap.size]? = some (.cells #[.string ⟨#[105, 110, 118, 111, 107, 101]⟩, .string ⟨#[49]⟩, .string ⟨#[49]⟩, .string ⟨#[103, 101, 116]⟩, .string ⟨#[34, 107, 34]⟩] 9 (0, 0))) := alloc_new _ _
  have LT : Hid (w.heap.size < w4.heap.size) := block_lt S4.out.ev
  have z3 := cell_blk Z5.out 3 (v := .string ⟨#[103, 101, 116]⟩) rfl
  have zs := soft_blk Z5.out 3
  have f3 := cell_blk S5.out.ev 3 (v := .bool true) rfl
  have S6 : Hid (LnS w (w4.alloc (.cells #[.string ⟨#[105, 110, 118, 111, 107, 101]⟩, .string ⟨#[49]⟩, .string ⟨#[49]⟩, .string ⟨#[112, 117, 116]⟩, .string ⟨#[34, 107, 34]⟩] 9)) #[.int .i64 1, .int .i64 1, .int .i64 1, .bool true, .string ⟨#[107]⟩, .slice p 1 c, .int .i64 0, .int .i64 0, .int .i64 0]) := S4.out.keep ((Kept.refl _ _).alloc _)
  have g0 := cell_blk S6.out.ev 0 (v := .int .i64 1) rfl
  have g1 := cell_blk S6.out.ev 1 (v := .int .i64 1) rfl
  have g2 := cell_blk S6.out.ev 2 (v := .int .i64 1) rfl
  have g3 := cell_blk S6.out.ev 3 (v := .bool true) rfl
  have g4 := cell_blk S6.out.ev 4 (v := .string ⟨#[107]⟩) rfl
  have g5 := cell_blk S6.out.ev 5 (v := .slice p 1 c) rfl
  have g6 := cell_blk S6.out.ev 6 (v := .int .i64 0) rfl
  have g7 := cell_blk S6.out.ev 7 (v := .int .i64 0) rfl
  have g8 := cell_blk S6.out.ev 8 (v := .int .i64 0) rfl
  go_wp2_with fail
  have CF : Hid (∀ V, Calls Tryd.prog 34 #[.agg #[.int .i64 1, .int .i64 1, .int .i64 1, .bool true, .string ⟨#[107]⟩, .slice p 1 c, .int .i64 0, .int .i64 0, .int .i64 0]] V fun o w' => o = .returned (.int .i64 1) ∧ Kept (fun _ => False) V w') := fun V => hForm ⟨1, 1, 1, true, ⟨#[107]⟩, p, 1, c, 0, 0, 0, []⟩ V
  refine (CF.out _).mono ?_
  rintro o w7 ⟨rfl, K7⟩
  have N7 : Hid (LnW w w7 #[.int .i64 1, .int .i64 1, .int .i64 1, .bool true, .string ⟨#[107]⟩, .slice p 1 c, .int .i64 0, .int .i64 0, .int .i64 0] (some ⟨w4.heap.size, 0, none⟩) 5 5 [⟨#[105, 110, 118, 111, 107, 101]⟩, ⟨#[49]⟩, ⟨#[49]⟩, ⟨#[112, 117, 116]⟩, ⟨#[34, 107, 34]⟩]) := by
    have N6 : LnW w (w4.alloc (.cells #[.string ⟨#[105, 110, 118, 111, 107, 101]⟩, .string ⟨#[49]⟩, .string ⟨#[49]⟩, .string ⟨#[112, 117, 116]⟩, .string ⟨#[34, 107, 34]⟩] 9)) #[.int .i64 1, .int .i64 1, .int .i64 1, .bool true, .string ⟨#[107]⟩, .slice p 1 c, .int .i64 0, .int .i64 0, .int .i64 0] (some ⟨w4.heap.size, 0, none⟩) 5 5 [⟨#[105, 110, 118, 111, 107, 101]⟩, ⟨#[49]⟩, ⟨#[49]⟩, ⟨#[112, 117, 116]⟩, ⟨#[34, 107, 34]⟩] := ⟨S6.out, rfl, .inr ⟨w4.heap.size, 5, #[.string ⟨#[105, 110, 118, 111, 107, 101]⟩, .string ⟨#[49]⟩, .string ⟨#[49]⟩, .string ⟨#[112, 117, 116]⟩, .string ⟨#[34, 107, 34]⟩], rfl, LT.out, alloc_new _ _, Nat.le_refl _, by unfold maxLen; omega, rfl, rfl⟩⟩
    exact N6.keep K7
  clear K7 CF S6 S5 Z5 z3 zs f3 LT S1 S2 S3 S4
  clear g0 g1 g2 g3 g4 g5 g6 g7 g8 a0 a1 a2 a4 ak b0 b1 b2 b4 bk c0 c1 c2 c4 ck d0 d1 d2 d4 dk
  have h5 := cell_blk N7.out.st.ev 5 (v := .slice p 1 c) rfl
  have cv : (convert 41 9 (.slice p 1 c)).run Tryd.prog w7 = .ok (.string ⟨#[120]⟩) w7 := (RV.out.kept N7.out.st.kept (fun _ _ z => z)).string
  go_wp2_with fail
  have CX : Hid (∀ U, Calls Tryd.prog 32 #[.string ⟨#[120]⟩] U fun x w' => x = .returned (.string ⟨#[34, 120, 34]⟩) ∧ Kept (fun _ => False) U w') := fun U => hQuotedX U
  refine (CX.out _).mono ?_
  rintro o w8 ⟨rfl, K8⟩
  have N8 : Hid (LnW w (w8.alloc (.cells #[.string ⟨#[34, 120, 34]⟩] 9)) #[.int .i64 1, .int .i64 1, .int .i64 1, .bool true, .string ⟨#[107]⟩, .slice p 1 c, .int .i64 0, .int .i64 0, .int .i64 0] (some ⟨w4.heap.size, 0, none⟩) 5 5 [⟨#[105, 110, 118, 111, 107, 101]⟩, ⟨#[49]⟩, ⟨#[49]⟩, ⟨#[112, 117, 116]⟩, ⟨#[34, 107, 34]⟩]) := N7.out.keep (K8.alloc _)
  have SR : Hid (Src Tryd.prog 1 84 (.slice (some ⟨w8.heap.size, 0, none⟩) 1 1) 1 (strs [⟨#[34, 120, 34]⟩]) (w8.alloc (.cells #[.string ⟨#[34, 120, 34]⟩] 9))) := src_str (alloc_new _ _)
  clear K8 CX N7 h5 cv
  go_wp2_with
    (first
      | (at_builtin; refine wpList_append_all _ rfl (.tmp 59) (.tmp 64) 84 9 84 _ 1 16 rfl Tryd.underlying84 Tryd.info9c rfl (w.heap.size + 1) (.slice (some ⟨w4.heap.size, 0, none⟩) 5 5) 5 (strs [⟨#[105, 110, 118, 111, 107, 101]⟩, ⟨#[49]⟩, ⟨#[49]⟩, ⟨#[112, 117, 116]⟩, ⟨#[34, 107, 34]⟩]) rfl N8.out.row _ 1 (strs [⟨#[34, 120, 34]⟩]) rfl SR.out (by unfold maxLen; omega) (by omega) (Nat.succ_le_of_lt (block_lt N8.out.st.ev)) ?_; intro p9 c9 w9 ho hg hn9)
      | fail)
  have N9 : Hid (LnW w w9 #[.int .i64 1, .int .i64 1, .int .i64 1, .bool true, .string ⟨#[107]⟩, .slice p 1 c, .int .i64 0, .int .i64 0, .int .i64 0] p9 6 c9 [⟨#[105, 110, 118, 111, 107, 101]⟩, ⟨#[49]⟩, ⟨#[49]⟩, ⟨#[112, 117, 116]⟩, ⟨#[34, 107, 34]⟩, ⟨#[34, 120, 34]⟩]) := N8.out.more hg.out ho.out
  clear ho hg hn9 N8 SR
  have CJ : Hid (Calls Tryd.prog 36 #[.slice p9 6 c9, .string ⟨#[32]⟩] w9 fun o w' => o = .returned (.string ⟨#[105, 110, 118, 111, 107, 101, 32, 49, 32, 49, 32, 112, 117, 116, 32, 34, 107, 34, 32, 34, 120, 34]⟩) ∧ Kept (fun _ => False) w9 w') := N9.out.join rfl (by omega) (by omega) (by kernel_rfl) (by decide)
  refine CJ.out.mono ?_
  rintro o w10 ⟨rfl, K10⟩
  have F : Hid (Kept (fun _ => False) w w10) := N9.out.st.kept.trans K10 (fun _ _ z => z)
  clear CJ K10 N9
  go_wp2_with fail
  go_ret
  exact ⟨by first | rfl | simp, F.out⟩
end Go.Proofs.YtbangbobfeflcaaDoor
