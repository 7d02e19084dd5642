import Derived.Test.YtodmakcklacbfaaPSrcJ
namespace Go.Proofs.Ytodmakcklacbfaa
open Go.RowKit Go.Shelf Go.Lib Go.Sort

/-- Is the call of a number open? -/
def opnAt (ms : List Cm) (r : Nat) : Bool := match ms[r]? with | some m => m.opn | none => false
/-- The Puts that count among the calls of one tag, and what is silent behind them. -/
def putsX (ms : List Cm) (R : List Nat) (M : Int → Option Int) (ty : Int) : List Nat × (Int → Option Int) :=
  if getsOf ms R = [] then ((putsOf ms R).filter (fun r => !opnAt ms r), M)
  else if putsOf ms R = [] then (match M ty with | some l => ([l.toNat], delM M ty) | none => ([], M)) else (putsOf ms R, M)
/-- What the calls of one tag bring. -/
def oneX (ms : List Cm) (R : List Nat) (M : Int → Option Int) (tx ty : Int) : Option (List Nat) :=
  if (putsX ms R M ty).1 = [] ∧ getsOf ms R = [] then some [] else if (putsX ms R M ty).1.length ≠ 1 ∨ kIsProper tx ty = false then none else some ((putsX ms R M ty).1 ++ getsOf ms R)
structure OnX (w : World) (ms : List Cm) (R : List Nat) (M : Int → Option Int) (tx ty : Int) (mb bd : Nat) (q : Option Addr) (k c : Nat) (b : Bool) (w' : World) : Prop where
  ans : b = (oneX ms R M tx ty).isSome
  row : NRow w.heap.size w' q k c ((oneX ms R M tx ty).getD [])
  map : IsI w' mb (putsX ms R M ty).2 bd
  kept : Kept (fun j => j = mb) w w'
def RetX (Q : Option Addr → Nat → Nat → Bool → World → Prop) (o : Ending) (w : World) : Prop := ∃ (q : Option Addr) (k c : Nat) (b : Bool), o = .returned (.tuple #[.slice q k c, .bool b]) ∧ Q q k c b w
theorem RetX.mk {Q : Option Addr → Nat → Nat → Bool → World → Prop} {o : Ending} {w : World} (q : Option Addr) (k c : Nat) (b : Bool) (h : o = .returned (.tuple #[.slice q k c, .bool b])) (hq : Q q k c b w) : RetX Q o w := ⟨q, k, c, b, h, hq⟩
/-- Two rows and the map, once the Puts are known. -/
structure EndX (w : World) (ms : List Cm) (R : List Nat) (M : Int → Option Int) (ty : Int) (mb bd : Nat) (p1 : Option Addr) (k1 c1 : Nat) (p2 : Option Addr) (k2 c2 : Nat) (w' : World) : Prop where
  a : NRow w.heap.size w' p1 k1 c1 (putsX ms R M ty).1
  b : k2 = 0 ∧ getsOf ms R = [] ∨ NRow w.heap.size w' p2 k2 c2 (getsOf ms R) ∧ ∀ j, blockOf p1 = some j → ¬ blockOf p2 = some j
  map : IsI w' mb (putsX ms R M ty).2 bd
  kept : Kept (fun j => j = mb) w w'
theorem NRow.mono {b0 b1 : Nat} {w : World} {p : Option Addr} {k c : Nat} {R : List Nat} (h : NRow b0 w p k c R) (hb : b1 ≤ b0) : NRow b1 w p k c R := ⟨h.len, owns_mono h.row hb⟩
theorem EndX.glen {w : World} {ms : List Cm} {R : List Nat} {M : Int → Option Int} {ty : Int} {mb bd : Nat} {p1 : Option Addr} {k1 c1 : Nat} {p2 : Option Addr} {k2 c2 : Nat} {w' : World} (h : EndX w ms R M ty mb bd p1 k1 c1 p2 k2 c2 w') : (getsOf ms R).length = k2 := by
  rcases h.b with ⟨z, y⟩ | ⟨z, _⟩
  · rw [y, z]; rfl
  · exact z.len
theorem EndX.nil {w : World} {ms : List Cm} {R : List Nat} {M : Int → Option Int} {tx ty : Int} {mb bd : Nat} {p1 : Option Addr} {k1 c1 : Nat} {p2 : Option Addr} {k2 c2 : Nat} {w' : World} (h : EndX w ms R M ty mb bd p1 k1 c1 p2 k2 c2 w') (h1 : k1 = 0) (h2 : k2 = 0) : OnX w ms R M tx ty mb bd none 0 0 true w' := by
  have e1 : (putsX ms R M ty).1 = [] := List.length_eq_zero_iff.1 (by rw [h.a.len, h1])
  have e2 : getsOf ms R = [] := List.length_eq_zero_iff.1 (by rw [h.glen, h2])
  have e : oneX ms R M tx ty = some [] := by unfold oneX; rw [if_pos ⟨e1, e2⟩]
  exact ⟨by rw [e]; rfl, by rw [e]; exact NRow.nil _ _, h.map, h.kept⟩
theorem EndX.bad {w : World} {ms : List Cm} {R : List Nat} {M : Int → Option Int} {tx ty : Int} {mb bd : Nat} {p1 : Option Addr} {k1 c1 : Nat} {p2 : Option Addr} {k2 c2 : Nat} {w' w2 : World} (h : EndX w ms R M ty mb bd p1 k1 c1 p2 k2 c2 w') (h1 : ¬ (k1 = 0 ∧ k2 = 0)) (h2 : k1 ≠ 1 ∨ kIsProper tx ty = false) (K : Kept (fun _ => False) w' w2) : OnX w ms R M tx ty mb bd none 0 0 false w2 := by
  have e : oneX ms R M tx ty = none := by
    unfold oneX
    rw [if_neg (fun z => h1 ⟨by rw [← h.a.len, z.1]; rfl, by rw [← h.glen, z.2]; rfl⟩), if_pos (h2.imp (fun z => by rw [h.a.len]; exact z) id)]
  exact ⟨by rw [e]; rfl, by rw [e]; exact NRow.nil _ _, h.map.kept K (fun z => z), h.kept.trans K (fun _ _ z => z.elim)⟩
theorem EndX.src {w : World} {ms : List Cm} {R : List Nat} {M : Int → Option Int} {ty : Int} {mb bd : Nat} {p1 : Option Addr} {k1 c1 : Nat} {p2 : Option Addr} {k2 c2 : Nat} {w' : World} (h : EndX w ms R M ty mb bd p1 k1 c1 p2 k2 c2 w') : Src Try.prog 1 22 (.slice p2 k2 c2) k2 (intsN (getsOf ms R)) w' := by
  rcases h.b with ⟨rfl, z⟩ | ⟨z, _⟩
  · rw [z]
    cases p2 with
    | some ad => exact Src.ofSlice w' Try.underlying22 ad 0 c2 [] rfl (fun j u hj => by simp at hj) (fun v hv => by simp at hv)
    | none => exact Src.ofNil w' Try.underlying22 c2
  · exact z.src
theorem EndX.good {w : World} {ms : List Cm} {R : List Nat} {M : Int → Option Int} {tx ty : Int} {mb bd : Nat} {p1 p9 : Option Addr} {k1 c1 c9 : Nat} {p2 : Option Addr} {k2 c2 : Nat} {w' w9 : World} (h : EndX w ms R M ty mb bd p1 k1 c1 p2 k2 c2 w') (hm : mb < w.heap.size) (h1 : k1 = 1) (h2 : kIsProper tx ty = true) (ho : w9.ownsRow w.heap.size 3 1 (.slice p9 (k1 + k2) c9) (k1 + k2) (intsN (putsX ms R M ty).1 ++ intsN (getsOf ms R))) (hg : w'.grownBy w9 (Value.slice p1 k1 c1).ownBlock) : OnX w ms R M tx ty mb bd p9 (k1 + k2) c9 true w9 := by
  have e : oneX ms R M tx ty = some ((putsX ms R M ty).1 ++ getsOf ms R) := by
    unfold oneX
    rw [if_neg (fun z => by have := h.a.len; rw [z.1] at this; simp at this; omega), if_neg (fun z => z.elim (fun z => z (by rw [h.a.len]; exact h1)) (fun z => by rw [h2] at z; cases z))]
  have KG : Kept (fun j => blockOf p1 = some j) w' w9 := (Kept.refl _ w').grown hg (fun j _ z => by rw [blockOf_own] at z; exact z)
  refine ⟨by rw [e]; rfl, ?_, ?_, h.kept.trans KG (fun j hj z => ?_)⟩
  · rw [e]
    refine ⟨?_, ?_⟩
    · show ((putsX ms R M ty).1 ++ getsOf ms R).length = _
      rw [List.length_append, h.a.len, h.glen]
    · show w9.ownsRow _ 3 1 _ _ (intsN ((putsX ms R M ty).1 ++ getsOf ms R))
      rw [intsN_append]
      exact ho
  · exact h.map.kept KG (fun z => by have := (own_lt h.a.row mb z).1; omega)
  · have := (own_lt h.a.row j z).1
    omega
theorem EndX.k0 {w : World} {ms : List Cm} {R : List Nat} {M : Int → Option Int} {ty : Int} {mb bd : Nat} {p1 : Option Addr} {k1 c1 : Nat} {p2 : Option Addr} {k2 c2 : Nat} {w' w2 : World} (h : EndX w ms R M ty mb bd p1 k1 c1 p2 k2 c2 w') (K : Kept (fun _ => False) w' w2) : EndX w ms R M ty mb bd p1 k1 c1 p2 k2 c2 w2 :=
  ⟨h.a.k0 K, h.b.imp id (fun z => ⟨z.1.k0 K, z.2⟩), h.map.kept K (fun z => z), h.kept.trans K (fun _ _ z => z.elim)⟩
set_option maxRecDepth 100000 in
set_option maxHeartbeats 8000000 in
theorem oOneTag {w : World} {p0 : Option Addr} {n c0 : Nat} {ms : List Cm} (cr : CRd w p0 n c0 ms) {q : Option Addr} {k kc : Nat} {R : List Nat} (ir : IRd w q k kc (R.map fun x : Nat => (x : Int))) (hk : 0 < k) (hkb : k ≤ 1300000000000) (lt : ∀ r ∈ R, r < n) {mb bd : Nat} {M : Int → Option Int} (im : IsI w mb M bd) (vm : ∀ x l, M x = some l → 0 ≤ l) {r0 : Nat} {m0 : Cm} (hr0 : R[0]? = some r0) (hm0 : ms[r0]? = some m0) (kc0 : KI m0.ty) :
    Calls Try.prog 38 #[.slice p0 n c0, .slice q k kc, .map (some mb)] w (RetX (OnX w ms R M m0.tx m0.ty mb bd)) := by
  have rm := cr.room
  have sm := cr.small
  have rk := ir.room
  have sk := ir.small
  unfold maxLen at sm sk
  have hl : R.length = k := by have := ir.len; rw [List.length_map] at this; exact this
  obtain ⟨CB, hCB⟩ : ∃ CB, CB = w.heap.size := ⟨_, rfl⟩
  obtain ⟨W, hW⟩ : ∃ W, W = w.alloc (Obj.cells #[.slice p0 n c0] 27) := ⟨_, rfl⟩
  have H : Hid (CRd w p0 n c0 ms ∧ IRd w q k kc (R.map fun x : Nat => (x : Int)) ∧ R.length = k ∧ (∀ r ∈ R, r < n) ∧ IsI w mb M bd ∧ (∀ x l, M x = some l → 0 ≤ l) ∧ R[0]? = some r0 ∧ ms[r0]? = some m0 ∧ KI m0.ty ∧ mb < w.heap.size ∧ k ≤ 1300000000000) := ⟨cr, ir, hl, lt, im, vm, hr0, hm0, kc0, (let ⟨_, t, _⟩ := im.tm; t.lt), hkb⟩
  have J : Hid (Kept (fun _ => False) w W ∧ W.cell? ⟨CB, 0, none⟩ = some (.slice p0 n c0)) := by
    refine ⟨by rw [hW]; exact (Kept.refl _ _).alloc _, by rw [hW, hCB]; simp⟩
  have EW : Hid (W = w.alloc (Obj.cells #[.slice p0 n c0] 27) ∧ CB = w.heap.size) := ⟨hW, hCB⟩
  have S0 : Hid (PG W W (putsOf ms (R.take 0)) (getsOf ms (R.take 0)) none 0 0 none 0 0) := PG.nil W (Kept.refl _ _)
  clear cr ir hl lt im vm hr0 hm0 kc0 hCB hW
  go_enter Try.func38, Try.ntmps38
  go_wp2_with fail
  rw [← EW.out.1, ← EW.out.2]
  go_loopw [8, 9, 11, 17] (fun u8 u9 _ u17 wr => ∃ (j k1 c1 k2 c2 : Nat) (p1 p2 : Option Addr), u8 = .slice p1 k1 c1 ∧ u9 = .slice p2 k2 c2 ∧ u17 = .int .i64 (j : Int) ∧ j ≤ k ∧ Hid (PG W wr (putsOf ms (R.take j)) (getsOf ms (R.take j)) p1 k1 c1 p2 k2 c2)) (fun _ _ _ u17 _ => k - (intOf u17).toNat)
  case atStart => exact ⟨0, 0, 0, 0, 0, none, none, rfl, rfl, rfl, Nat.zero_le _, S0⟩
  case round =>
    obtain ⟨j, k1, c1, k2, c2, p1, p2, rfl, rfl, rfl, hj, S⟩ := hrel
    clear S0
    obtain ⟨wo, hwo⟩ : ∃ wo, wo = wr := ⟨_, rfl⟩
    rw [← hwo] at S ⊢
    clear hwo
    have KW : Hid (Kept (fun _ => False) w wo) := J.out.1.trans S.out.kept (fun _ _ z => z)
    have cb := S.out.kept.cell J.out.2 (fun z => z)
    by_cases hlt : j < k
    · have j1 : (j : Int) < (k : Int) := by omega
      obtain ⟨b, off, x, rfl, hx, cx⟩ := (H.out.2.1.k0 KW.out).at hlt
      rw [List.getElem?_map] at hx
      obtain ⟨r, hr, rfl⟩ := Option.map_eq_some_iff.1 hx
      have hrn := H.out.2.2.2.1 r (List.mem_of_getElem? hr)
      have r1 : (r : Int) < (n : Int) := by omega
      obtain ⟨b2, off2, m, rfl, hm, _, _, d2, _⟩ := (H.out.1.k0 KW.out).at hrn
      obtain ⟨pu, hpu⟩ : ∃ pu, m.put = pu := ⟨_, rfl⟩
      rw [hpu] at d2
      have HR : Hid (R[j]? = some r ∧ ms[r]? = some m ∧ m.put = pu) := ⟨hr, hm, hpu⟩
      have LN : Hid ((k1 + 1 ≤ maxLen ∧ ((k1 + 1) + (k1 + 1) / 4 + 192) * 8 ≤ 281474976710656) ∧ (k2 + 1 ≤ maxLen ∧ ((k2 + 1) + (k2 + 1) / 4 + 192) * 8 ≤ 281474976710656)) := by
        have l1 : k1 ≤ j := by
          rw [← S.out.a.len]
          unfold putsOf
          exact Nat.le_trans (List.length_filter_le _ _) (by rw [List.length_take]; omega)
        have l2 : k2 ≤ j := by
          rw [← S.out.b.len]
          unfold getsOf
          exact Nat.le_trans (List.length_filter_le _ _) (by rw [List.length_take]; omega)
        unfold maxLen
        exact ⟨⟨by omega, by omega⟩, ⟨by omega, by omega⟩⟩
      clear hx hr hm hpu
      cases pu
      · go_upto_region 8 with
          (first
            | (at_builtin; refine wpList_append_all _ rfl (.tmp 30) (.tmp 32) 22 3 22 _ 1 8 rfl Try.underlying22 Try.info3c rfl W.heap.size (.slice p2 k2 c2) k2 (intsN (getsOf ms (R.take j))) rfl (((Kept.refl (fun _ => False) wo).alloc _).owns S.out.b.row (fun _ _ z => z)) _ 1 (intsN [r]) rfl (src_one (heap_alloc_new wo _)) LN.out.2.1 LN.out.2.2 (Nat.le_trans S.out.kept.size ((Kept.refl (fun _ => False) wo).alloc _).size) ?_; intro p9 c9' w9 ho hg hn)
            | fail)
        have T9 : Hid (PG W w9 (putsOf ms (R.take (j + 1))) (getsOf ms (R.take (j + 1))) p1 k1 c1 p9 (k2 + 1) c9') := by
          have e := (parts_add HR.out.1 HR.out.2.1).2 HR.out.2.2
          rw [e.1, e.2]
          exact (S.out.swap.add ho.out rfl hg.out hn.out).swap
        clear ho hg hn
        go_wp2_with fail
        go_roundw
        case rel => exact ⟨j + 1, k1, c1, k2 + 1, c9', p1, p9, rfl, rfl, by go_num, by omega, T9⟩
        case measure => simp [intOf] <;> omega
      · go_upto_region 8 with
          (first
            | (at_builtin; refine wpList_append_all _ rfl (.tmp 26) (.tmp 28) 22 3 22 _ 1 8 rfl Try.underlying22 Try.info3c rfl W.heap.size (.slice p1 k1 c1) k1 (intsN (putsOf ms (R.take j))) rfl (((Kept.refl (fun _ => False) wo).alloc _).owns S.out.a.row (fun _ _ z => z)) _ 1 (intsN [r]) rfl (src_one (heap_alloc_new wo _)) LN.out.1.1 LN.out.1.2 (Nat.le_trans S.out.kept.size ((Kept.refl (fun _ => False) wo).alloc _).size) ?_; intro p9 c9' w9 ho hg hn)
            | fail)
        have T9 : Hid (PG W w9 (putsOf ms (R.take (j + 1))) (getsOf ms (R.take (j + 1))) p9 (k1 + 1) c9' p2 k2 c2) := by
          have e := (parts_add HR.out.1 HR.out.2.1).1 HR.out.2.2
          rw [e.1, e.2]
          exact S.out.add ho.out rfl hg.out hn.out
        clear ho hg hn
        go_wp2_with fail
        go_roundw
        case rel => exact ⟨j + 1, k1 + 1, c9', k2, c2, p9, p2, rfl, rfl, by go_num, by omega, T9⟩
        case measure => simp [intOf] <;> omega
    · have j1 : ¬ (j : Int) < (k : Int) := by omega
      have ej : j = k := by omega
      subst ej
      have ET : R.take j = R := List.take_of_length_le (by rw [H.out.2.2.1]; exact Nat.le_refl _)
      rw [ET] at S
      clear ET
      obtain ⟨b, off, x, rfl, hx, cx⟩ := (H.out.2.1.k0 KW.out).at hk
      rw [List.getElem?_map, H.out.2.2.2.2.2.2.1] at hx
      have hx : (r0 : Int) = x := by simpa using hx
      subst hx
      have hin := H.out.2.2.2.1 r0 (List.mem_of_getElem? H.out.2.2.2.2.2.2.1)
      obtain ⟨b2, off2, m, rfl, hm, _, _, _, _, _, _, _, _, _, d1, d2, _⟩ := (H.out.1.k0 KW.out).at hin
      rw [H.out.2.2.2.2.2.2.2.1] at hm
      have hm := Option.some.inj hm
      subst hm
      have i1 : (r0 : Int) < (n : Int) := by omega
      have i0 : (0 : Int) ≤ (r0 : Int) := by omega
      have k1' : (0 : Int) < (j : Int) := by omega
      rw [Nat.add_zero] at cx
      obtain ⟨x1, hx1⟩ : ∃ x, x = m0.tx := ⟨_, rfl⟩
      obtain ⟨x2, hx2⟩ : ∃ x, x = m0.ty := ⟨_, rfl⟩
      rw [← hx1] at d1
      rw [← hx2] at d2
      have HX : Hid (x1 = m0.tx ∧ x2 = m0.ty) := ⟨hx1, hx2⟩
      clear hx1 hx2
      go_wp2_with fail
      go_region_held3 (fun w' => w'.cell? ⟨CB, 0, none⟩ = some (.slice (some ⟨b2, off2, none⟩) n c0) ∧ w'.cell? ⟨b, off, none⟩ = some (.int .i64 (r0 : Int)) ∧ w'.cell? ⟨b2, off2 + r0 * 11 + 9, none⟩ = some (.int .i64 x1) ∧ w'.cell? ⟨b2, off2 + r0 * 11 + 10, none⟩ = some (.int .i64 x2))
        (go_keep) (first | fail)
      have KU : Hid (Kept (fun _ => False) w (wo.alloc (Obj.cells #[Value.int IntKind.i64 x1, Value.int IntKind.i64 x2] 35)).drew ∧ PG W (wo.alloc (Obj.cells #[Value.int IntKind.i64 x1, Value.int IntKind.i64 x2] 35)).drew (putsOf ms R) (getsOf ms R) p1 k1 c1 p2 k2 c2 ∧ (wo.alloc (Obj.cells #[Value.int IntKind.i64 x1, Value.int IntKind.i64 x2] 35)).drew.heap[wo.heap.size]? = some (Obj.cells #[Value.int IntKind.i64 x1, Value.int IntKind.i64 x2] 35 (0, 0)) ∧ ((∀ j, blockOf p1 = some j → j ≠ wo.heap.size) ∧ wo.heap.size ≠ mb)) := by
        have K : Kept (fun _ => False) wo (wo.alloc (Obj.cells #[Value.int IntKind.i64 x1, Value.int IntKind.i64 x2] 35)).drew := ((Kept.refl _ _).alloc _).drew
        refine ⟨KW.out.trans K (fun _ _ z => z), S.out.k0 K, heap_alloc_new wo _, fun j z => Nat.ne_of_lt (own_lt S.out.a.row j z).2, ?_⟩
        have h1 := KW.out.size
        have h2 := H.out.2.2.2.2.2.2.2.2.2.1
        omega
      generalize (wo.alloc (Obj.cells #[Value.int IntKind.i64 x1, Value.int IntKind.i64 x2] 35)).drew = U at KU ⊢
      obtain ⟨TB, hTB⟩ : ∃ TB, TB = wo.heap.size := ⟨_, rfl⟩
      rw [← hTB] at KU ⊢
      clear hTB cx d1 d2 cb S KW
      have t0 := cell_blk KU.out.2.2.1 0 (v := .int .i64 x1) rfl
      have t1 := cell_blk KU.out.2.2.1 1 (v := .int .i64 x2) rfl
      have WW : Hid (w.heap.size ≤ W.heap.size) := J.out.1.size
      by_cases nz2 : k2 = 0
      · have GE : Hid (getsOf ms R = []) := List.length_eq_zero_iff.1 (by rw [KU.out.2.1.b.len, nz2])
        subst nz2
        have CD : Hid (Calls Try.prog 66 #[.slice p1 k1 c1, .func (.func 67) #[] #[.pointer (some ⟨CB, 0, none⟩)]] U fun o w' => ∃ k', o = .returned (.slice p1 k' c1) ∧ Hid (NRow W.heap.size w' p1 k' c1 ((putsOf ms R).filter fun x => !opnAt ms x) ∧ Kept (fun _ => False) W w' ∧ Kept (fun j => blockOf p1 = some j) U w')) := by
          refine oDelete KU.out.2.1.a KU.out.2.1.kept (Nat.le_refl _) (opnAt ms) (fun x hx V K => ?_)
          have hxn := H.out.2.2.2.1 x (List.mem_filter.1 hx).1
          have hm2 : ms[x]? = some (ms[x]'(by rw [H.out.1.len]; exact hxn)) := List.getElem?_eq_getElem _
          have := closure67 ((H.out.1.k0 J.out.1).k0 K) (K.cell J.out.2 (fun z => z)) hm2
          have e : opnAt ms x = (ms[x]'(by rw [H.out.1.len]; exact hxn)).opn := by unfold opnAt; rw [hm2]
          rw [e]
          exact this
        go_wp2_with fail
        refine CD.out.mono ?_
        rintro o wx ⟨kA, rfl, FD⟩
        have EX : Hid (EndX w ms R M m0.ty mb bd p1 kA c1 p2 0 c2 wx) := by
          have e1 : putsX ms R M m0.ty = ((putsOf ms R).filter (fun r => !opnAt ms r), M) := by unfold putsX; rw [if_pos GE.out]
          have KF : Kept (fun _ => False) w wx := J.out.1.trans FD.out.2.1 (fun _ _ z => z)
          refine ⟨by rw [e1]; exact FD.out.1.mono WW.out, .inl ⟨rfl, GE.out⟩, by rw [e1]; exact H.out.2.2.2.2.1.kept KF (fun z => z), KF.mono (fun _ _ z => z.elim)⟩
        replace t0 := FD.out.2.2.cell t0 (fun z => KU.out.2.2.2.1 TB z rfl)
        replace t1 := FD.out.2.2.cell t1 (fun z => KU.out.2.2.2.1 TB z rfl)
        clear FD CD
        have lA : Hid ((putsX ms R M m0.ty).1.length = kA) := EX.out.a.len
        by_cases z1 : kA = 0
        · have F : Hid (OnX w ms R M m0.tx m0.ty mb bd none 0 0 true wx) := EX.out.nil z1 rfl
          subst z1
          go_wp2_with fail
          go_ret2
          exact RetX.mk none 0 0 true rfl F.out
        · have y1 : ¬ (kA : Int) = 0 := by omega
          by_cases z2 : kA = 1
          · subst z2
            obtain ⟨pp, hpp⟩ : ∃ pp, pp = kIsProper x1 x2 := ⟨_, rfl⟩
            have CP : Hid (∀ V, Calls Try.prog 68 #[.agg #[.int .i64 x1, .int .i64 x2]] V fun o w' => o = .returned (.bool pp) ∧ Kept (fun _ => False) V w') := fun V => by rw [hpp]; exact oProper x1 x2 V
            have HP : Hid (pp = kIsProper m0.tx m0.ty) := by rw [← HX.out.1, ← HX.out.2]; exact hpp
            clear hpp
            go_wp2_with fail
            refine (CP.out _).mono ?_
            rintro o w8 ⟨rfl, K8'⟩
            have K8 : Hid (Kept (fun _ => False) wx w8) := K8'
            clear K8' CP
            cases pp
            · have F : Hid (OnX w ms R M m0.tx m0.ty mb bd none 0 0 false w8) := EX.out.bad (fun z => by omega) (.inr HP.out.symm) K8.out
              go_wp2_with fail
              go_ret2
              exact RetX.mk none 0 0 false rfl F.out
            · have E8 : Hid (EndX w ms R M m0.ty mb bd p1 1 c1 p2 0 c2 w8) := EX.out.k0 K8.out
              have BL : Hid (1 + 0 ≤ maxLen ∧ ((1 + 0) + (1 + 0) / 4 + 192) * 8 ≤ 281474976710656) := by
                have h1 := E8.out.glen
                have h2 : (getsOf ms R).length ≤ R.length := List.length_filter_le _ _
                have h4 := H.out.2.2.1
                have h3 := H.out.2.2.2.2.2.2.2.2.2.2
                unfold maxLen
                exact ⟨by omega, by omega⟩
              go_wp2_with
                (first
                  | (at_builtin; refine wpList_append_all _ rfl (.tmp 84) (.tmp 85) 22 3 22 _ 1 8 rfl Try.underlying22 Try.info3c rfl w.heap.size (.slice p1 1 c1) 1 (intsN (putsX ms R M m0.ty).1) rfl E8.out.a.row _ 0 (intsN (getsOf ms R)) rfl E8.out.src BL.out.1 BL.out.2 (Nat.le_trans E8.out.kept.size (Nat.le_refl _)) ?_; intro p9 c9' w9 ho hg hn)
                  | fail)
              have F : Hid (OnX w ms R M m0.tx m0.ty mb bd p9 (1 + 0) c9' true w9) := E8.out.good H.out.2.2.2.2.2.2.2.2.2.1 rfl HP.out.symm ho.out hg.out
              go_ret2
              exact RetX.mk p9 (1 + 0) c9' true rfl F.out
          · have y2 : ¬ (kA : Int) = 1 := by omega
            have F : Hid (OnX w ms R M m0.tx m0.ty mb bd none 0 0 false wx) := EX.out.bad (fun z => by omega) (.inl z2) (Kept.refl _ _)
            go_wp2_with fail
            go_ret2
            exact RetX.mk none 0 0 false rfl F.out
      · have GE : Hid (getsOf ms R ≠ []) := fun z => nz2 (by rw [← KU.out.2.1.b.len, z]; rfl)
        have n2 : ¬ (k2 : Int) = 0 := by omega
        have KIx : Hid (KI x2) := by rw [HX.out.2]; exact H.out.2.2.2.2.2.2.2.2.1
        have IU : Hid (IsI U mb M bd) := H.out.2.2.2.2.1.kept KU.out.1 (fun z => z)
        obtain ⟨nn, tmU, hnn⟩ := IU.out.tm
        have lk := tmU.look2 intK KIx.out
        have TU : Hid (TM 3 (Lit.int .i64) KI (Value.int .i64) RI U mb nn M ∧ nn ≤ bd) := ⟨tmU, hnn⟩
        clear tmU hnn
        obtain ⟨mv, hmv⟩ : ∃ mv, M x2 = mv := ⟨_, rfl⟩
        rw [hmv] at lk
        cases mv with
        | none =>
          have HM : Hid (M x2 = none) := hmv
          clear hmv
          have EX : Hid (EndX w ms R M m0.ty mb bd p1 k1 c1 p2 k2 c2 U) := by
            have e1 : putsX ms R M m0.ty = (putsOf ms R, M) := by
              unfold putsX
              rw [if_neg GE.out]
              by_cases z : putsOf ms R = []
              · rw [if_pos z, ← HX.out.2, HM.out, z]
              · rw [if_neg z]
            refine ⟨by rw [e1]; exact KU.out.2.1.a.mono WW.out, .inr ⟨KU.out.2.1.b.mono WW.out, KU.out.2.1.apart⟩, by rw [e1]; exact IU.out, KU.out.1.mono (fun _ _ z => z.elim)⟩
          have lA : Hid ((putsX ms R M m0.ty).1.length = k1) := EX.out.a.len
          by_cases z1 : k1 = 0
          · have F : Hid (OnX w ms R M m0.tx m0.ty mb bd none 0 0 false U) := EX.out.bad (fun z => nz2 z.2) (.inl (by omega)) (Kept.refl _ _)
            subst z1
            go_wp2_with fail
            go_ret2
            exact RetX.mk none 0 0 false rfl F.out
          · have y1 : ¬ (k1 : Int) = 0 := by omega
            by_cases z2 : k1 = 1
            · subst z2
              obtain ⟨pp, hpp⟩ : ∃ pp, pp = kIsProper x1 x2 := ⟨_, rfl⟩
              have CP : Hid (∀ V, Calls Try.prog 68 #[.agg #[.int .i64 x1, .int .i64 x2]] V fun o w' => o = .returned (.bool pp) ∧ Kept (fun _ => False) V w') := fun V => by rw [hpp]; exact oProper x1 x2 V
              have HP : Hid (pp = kIsProper m0.tx m0.ty) := by rw [← HX.out.1, ← HX.out.2]; exact hpp
              clear hpp
              go_wp2_with fail
              refine (CP.out _).mono ?_
              rintro o w8 ⟨rfl, K8'⟩
              have K8 : Hid (Kept (fun _ => False) U w8) := K8'
              clear K8' CP
              cases pp
              · have F : Hid (OnX w ms R M m0.tx m0.ty mb bd none 0 0 false w8) := EX.out.bad (fun z => by omega) (.inr HP.out.symm) K8.out
                go_wp2_with fail
                go_ret2
                exact RetX.mk none 0 0 false rfl F.out
              · have E8 : Hid (EndX w ms R M m0.ty mb bd p1 1 c1 p2 k2 c2 w8) := EX.out.k0 K8.out
                have BL : Hid (1 + k2 ≤ maxLen ∧ ((1 + k2) + (1 + k2) / 4 + 192) * 8 ≤ 281474976710656) := by
                  have h1 := E8.out.glen
                  have h2 : (getsOf ms R).length ≤ R.length := List.length_filter_le _ _
                  have h4 := H.out.2.2.1
                  have h3 := H.out.2.2.2.2.2.2.2.2.2.2
                  unfold maxLen
                  exact ⟨by omega, by omega⟩
                go_wp2_with
                  (first
                    | (at_builtin; refine wpList_append_all _ rfl (.tmp 84) (.tmp 85) 22 3 22 _ 1 8 rfl Try.underlying22 Try.info3c rfl w.heap.size (.slice p1 1 c1) 1 (intsN (putsX ms R M m0.ty).1) rfl E8.out.a.row _ k2 (intsN (getsOf ms R)) rfl E8.out.src BL.out.1 BL.out.2 (Nat.le_trans E8.out.kept.size (Nat.le_refl _)) ?_; intro p9 c9' w9 ho hg hn)
                    | fail)
                have F : Hid (OnX w ms R M m0.tx m0.ty mb bd p9 (1 + k2) c9' true w9) := E8.out.good H.out.2.2.2.2.2.2.2.2.2.1 rfl HP.out.symm ho.out hg.out
                go_ret2
                exact RetX.mk p9 (1 + k2) c9' true rfl F.out
            · have y2 : ¬ (k1 : Int) = 1 := by omega
              have F : Hid (OnX w ms R M m0.tx m0.ty mb bd none 0 0 false U) := EX.out.bad (fun z => by omega) (.inl z2) (Kept.refl _ _)
              go_wp2_with fail
              go_ret2
              exact RetX.mk none 0 0 false rfl F.out
        | some l =>
          obtain ⟨ln, rfl⟩ : ∃ ln : Nat, l = (ln : Int) := ⟨l.toNat, by have := H.out.2.2.2.2.2.1 x2 l hmv; omega⟩
          have HM : Hid (M x2 = some (ln : Int)) := hmv
          clear hmv
          by_cases zk : k1 = 0
          · have PZ : Hid (putsOf ms R = []) := List.length_eq_zero_iff.1 (by rw [KU.out.2.1.a.len, zk])
            subst zk
            have LN : Hid (0 + 1 ≤ maxLen ∧ ((0 + 1) + (0 + 1) / 4 + 192) * 8 ≤ 281474976710656) := by
              unfold maxLen
              exact ⟨by omega, by omega⟩
            go_upto_region 15 with
              (first
                | (at_builtin; refine wpList_append_all _ rfl (.tmp 61) (.tmp 63) 22 3 22 _ 1 8 rfl Try.underlying22 Try.info3c rfl W.heap.size (.slice p1 0 c1) 0 (intsN (putsOf ms R)) rfl (((Kept.refl (fun _ => False) U).alloc _).owns KU.out.2.1.a.row (fun _ _ z => z)) _ 1 (intsN [ln]) rfl (src_one (heap_alloc_new U _)) LN.out.1 LN.out.2 (Nat.le_trans KU.out.2.1.kept.size ((Kept.refl (fun _ => False) U).alloc _).size) ?_; intro p9 c9' w9 ho hg hn)
                | fail)
            have T9 : Hid (PG W w9 (putsOf ms R ++ [ln]) (getsOf ms R) p9 (0 + 1) c9' p2 k2 c2 ∧ Kept (fun j => blockOf p1 = some j) U w9) := by
              refine ⟨KU.out.2.1.add ho.out rfl hg.out hn.out, ?_⟩
              exact ((Kept.refl (fun j => blockOf p1 = some j) U).alloc _).grown hg.out (fun j _ z => by rw [blockOf_own] at z; exact z)
            clear ho hg hn
            have TD : Hid (TM 3 (Lit.int .i64) KI (Value.int .i64) RI w9 mb nn M) := TU.out.1.kept T9.out.2 (fun z => by have h1 := (own_lt KU.out.2.1.a.row mb z).1; have h2 := H.out.2.2.2.2.2.2.2.2.2.1; have h3 := WW.out; omega)
            replace t0 := T9.out.2.cell t0 (fun z => KU.out.2.2.2.1 TB z rfl)
            replace t1 := T9.out.2.cell t1 (fun z => KU.out.2.2.2.1 TB z rfl)
            clear lk
            go_upto_region 16 with
              (first
                | (at_delete; refine wpList_del intK _ rfl (.tmp 65) (.tmp 67) rfl mb nn M rfl TD.out x2 KIx.out rfl ?_; intro wx htx hkx; go_frame)
                | fail)
            have EX : Hid (EndX w ms R M m0.ty mb bd p9 1 c9' p2 k2 c2 wx) := by
              have e1 : putsX ms R M m0.ty = ([ln], delM M m0.ty) := by
                unfold putsX
                rw [if_neg GE.out, if_pos PZ.out, ← HX.out.2, HM.out]
                rfl
              have mW : ¬ W.heap.size ≤ mb := by have h2 := H.out.2.2.2.2.2.2.2.2.2.1; have h3 := WW.out; omega
              have ra : NRow W.heap.size wx p9 1 c9' [ln] := by
                have := T9.out.1.a
                rw [PZ.out, List.nil_append] at this
                exact ⟨this.len, hkx.out.owns this.row (fun j z y => by rw [blockOf_own] at z; have h1 := (own_lt this.row j z).1; have y : j = mb := y; omega)⟩
              have rb : NRow W.heap.size wx p2 k2 c2 (getsOf ms R) := ⟨T9.out.1.b.len, hkx.out.owns T9.out.1.b.row (fun j z y => by rw [blockOf_own] at z; have h1 := (own_lt T9.out.1.b.row j z).1; have y : j = mb := y; omega)⟩
              refine ⟨by rw [e1]; exact ra.mono WW.out, .inr ⟨rb.mono WW.out, T9.out.1.apart⟩, ?_, ?_⟩
              · rw [e1, ← HX.out.2]
                obtain ⟨n', t, hn'⟩ := htx.out
                exact ⟨n', t, Nat.le_trans hn' TU.out.2⟩
              · refine ((J.out.1.trans T9.out.1.kept (fun _ _ z => z)).mono (fun _ _ z => z.elim)).trans hkx.out (fun j hj z => z)
            replace t0 := hkx.out.cell t0 (fun z => KU.out.2.2.2.2 z)
            replace t1 := hkx.out.cell t1 (fun z => KU.out.2.2.2.2 z)
            clear htx hkx TD
            obtain ⟨pp, hpp⟩ : ∃ pp, pp = kIsProper x1 x2 := ⟨_, rfl⟩
            have CP : Hid (∀ V, Calls Try.prog 68 #[.agg #[.int .i64 x1, .int .i64 x2]] V fun o w' => o = .returned (.bool pp) ∧ Kept (fun _ => False) V w') := fun V => by rw [hpp]; exact oProper x1 x2 V
            have HP : Hid (pp = kIsProper m0.tx m0.ty) := by rw [← HX.out.1, ← HX.out.2]; exact hpp
            clear hpp
            go_wp2_with fail
            refine (CP.out _).mono ?_
            rintro o w8 ⟨rfl, K8'⟩
            have K8 : Hid (Kept (fun _ => False) wx w8) := K8'
            clear K8' CP
            cases pp
            · have F : Hid (OnX w ms R M m0.tx m0.ty mb bd none 0 0 false w8) := EX.out.bad (fun z => by omega) (.inr HP.out.symm) K8.out
              go_wp2_with fail
              go_ret2
              exact RetX.mk none 0 0 false rfl F.out
            · have E8 : Hid (EndX w ms R M m0.ty mb bd p9 1 c9' p2 k2 c2 w8) := EX.out.k0 K8.out
              have BL : Hid (1 + k2 ≤ maxLen ∧ ((1 + k2) + (1 + k2) / 4 + 192) * 8 ≤ 281474976710656) := by
                have h1 := E8.out.glen
                have h2 : (getsOf ms R).length ≤ R.length := List.length_filter_le _ _
                have h4 := H.out.2.2.1
                have h3 := H.out.2.2.2.2.2.2.2.2.2.2
                unfold maxLen
                exact ⟨by omega, by omega⟩
              go_wp2_with
                (first
                  | (at_builtin; refine wpList_append_all _ rfl (.tmp 84) (.tmp 85) 22 3 22 _ 1 8 rfl Try.underlying22 Try.info3c rfl w.heap.size (.slice p9 1 c9') 1 (intsN (putsX ms R M m0.ty).1) rfl E8.out.a.row _ k2 (intsN (getsOf ms R)) rfl E8.out.src BL.out.1 BL.out.2 (Nat.le_trans E8.out.kept.size (Nat.le_refl _)) ?_; intro p9 c9' w9 ho hg hn)
                  | fail)
              have F : Hid (OnX w ms R M m0.tx m0.ty mb bd p9 (1 + k2) c9' true w9) := E8.out.good H.out.2.2.2.2.2.2.2.2.2.1 rfl HP.out.symm ho.out hg.out
              go_ret2
              exact RetX.mk p9 (1 + k2) c9' true rfl F.out
          · have zk' : ¬ (k1 : Int) = 0 := by omega
            have EX : Hid (EndX w ms R M m0.ty mb bd p1 k1 c1 p2 k2 c2 U) := by
              have e1 : putsX ms R M m0.ty = (putsOf ms R, M) := by
                unfold putsX
                rw [if_neg GE.out, if_neg (fun z => zk (by rw [← KU.out.2.1.a.len, z]; rfl))]
              refine ⟨by rw [e1]; exact KU.out.2.1.a.mono WW.out, .inr ⟨KU.out.2.1.b.mono WW.out, KU.out.2.1.apart⟩, by rw [e1]; exact IU.out, KU.out.1.mono (fun _ _ z => z.elim)⟩
            have lA : Hid ((putsX ms R M m0.ty).1.length = k1) := EX.out.a.len
            by_cases z1 : k1 = 0
            · exact absurd z1 zk
            · have y1 : ¬ (k1 : Int) = 0 := by omega
              by_cases z2 : k1 = 1
              · subst z2
                obtain ⟨pp, hpp⟩ : ∃ pp, pp = kIsProper x1 x2 := ⟨_, rfl⟩
                have CP : Hid (∀ V, Calls Try.prog 68 #[.agg #[.int .i64 x1, .int .i64 x2]] V fun o w' => o = .returned (.bool pp) ∧ Kept (fun _ => False) V w') := fun V => by rw [hpp]; exact oProper x1 x2 V
                have HP : Hid (pp = kIsProper m0.tx m0.ty) := by rw [← HX.out.1, ← HX.out.2]; exact hpp
                clear hpp
                go_wp2_with fail
                refine (CP.out _).mono ?_
                rintro o w8 ⟨rfl, K8'⟩
                have K8 : Hid (Kept (fun _ => False) U w8) := K8'
                clear K8' CP
                cases pp
                · have F : Hid (OnX w ms R M m0.tx m0.ty mb bd none 0 0 false w8) := EX.out.bad (fun z => by omega) (.inr HP.out.symm) K8.out
                  go_wp2_with fail
                  go_ret2
                  exact RetX.mk none 0 0 false rfl F.out
                · have E8 : Hid (EndX w ms R M m0.ty mb bd p1 1 c1 p2 k2 c2 w8) := EX.out.k0 K8.out
                  have BL : Hid (1 + k2 ≤ maxLen ∧ ((1 + k2) + (1 + k2) / 4 + 192) * 8 ≤ 281474976710656) := by
                    have h1 := E8.out.glen
                    have h2 : (getsOf ms R).length ≤ R.length := List.length_filter_le _ _
                    have h4 := H.out.2.2.1
                    have h3 := H.out.2.2.2.2.2.2.2.2.2.2
                    unfold maxLen
                    exact ⟨by omega, by omega⟩
                  go_wp2_with
                    (first
                      | (at_builtin; refine wpList_append_all _ rfl (.tmp 84) (.tmp 85) 22 3 22 _ 1 8 rfl Try.underlying22 Try.info3c rfl w.heap.size (.slice p1 1 c1) 1 (intsN (putsX ms R M m0.ty).1) rfl E8.out.a.row _ k2 (intsN (getsOf ms R)) rfl E8.out.src BL.out.1 BL.out.2 (Nat.le_trans E8.out.kept.size (Nat.le_refl _)) ?_; intro p9 c9' w9 ho hg hn)
                      | fail)
                  have F : Hid (OnX w ms R M m0.tx m0.ty mb bd p9 (1 + k2) c9' true w9) := E8.out.good H.out.2.2.2.2.2.2.2.2.2.1 rfl HP.out.symm ho.out hg.out
                  go_ret2
                  exact RetX.mk p9 (1 + k2) c9' true rfl F.out
              · have y2 : ¬ (k1 : Int) = 1 := by omega
                have F : Hid (OnX w ms R M m0.tx m0.ty mb bd none 0 0 false U) := EX.out.bad (fun z => by omega) (.inl z2) (Kept.refl _ _)
                go_wp2_with fail
                go_ret2
                exact RetX.mk none 0 0 false rfl F.out
end Go.Proofs.Ytodmakcklacbfaa
