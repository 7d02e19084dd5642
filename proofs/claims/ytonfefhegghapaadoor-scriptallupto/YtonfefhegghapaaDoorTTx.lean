import Derived.Test.YtonfefhegghapaaDoorTPa
namespace Go.Proofs.YtonfefhegghapaaDoor
open Go.RowKit 

/-- Steps that can be read. -/
structure SLs (w : World) (p : Option Addr) (k c : Nat) (L : List Sm) (ss : List St) : Prop where
  len : L.length = k
  slen : ss.length = k
  room : k ≤ c
  small : c ≤ maxLen
  cells : 0 < k → ∃ b off, p = some ⟨b, off, none⟩ ∧ ∀ (i : Nat) (h : i < L.length) (j : Nat) (v : Value), L[i].cs[j]? = some v → w.cell? ⟨b, off + i * 6 + j, none⟩ = some v
  rd : ∀ (i : Nat) (x : Sm) (s : St), L[i]? = some x → ss[i]? = some s → SRd w x s ∧ KI s.kind
theorem SLs.kept {w w' : World} {p : Option Addr} {k c : Nat} {L : List Sm} {ss : List St} (h : SLs w p k c L ss) (K : Kept (fun _ => False) w w') : SLs w' p k c L ss := ⟨h.len, h.slen, h.room, h.small, fun h0 => by
  obtain ⟨b, off, e, hc⟩ := h.cells h0
  exact ⟨b, off, e, fun i hi j v hv => K.cell (hc i hi j v hv) (fun z => z)⟩, fun i x s hx hs => ⟨(h.rd i x s hx hs).1.kept K, (h.rd i x s hx hs).2⟩⟩
theorem PX.sls {w wr : World} {p : Option Addr} {k c n : Nat} {L : List Sm} {ss : List St} (h : PX w wr p k c L ss) (g : ∀ s ∈ ss, GSm n s) (hn : n ≤ 33554432) : SLs wr p k c L ss := by
  obtain ⟨r1, r2⟩ := own_room h.row
  refine ⟨h.len, h.slen, r1, r2, fun h0 => ?_, fun i x s hx hs => ?_⟩
  · rcases h.row.2 with ⟨_, hn⟩ | ⟨g, cap, cur, z, _⟩
    · omega
    · have z : Value.slice p k c = .slice (some ⟨g, 0, none⟩) k cap := z
      injection z with z1 _ z3
      subst z1
      subst z3
      have hc := h.row.cells (g := g) rfl
      refine ⟨g, 0, rfl, fun i hi j v hv => ?_⟩
      have hj : j < 6 := by
        obtain ⟨h1, _⟩ := Array.getElem?_eq_some_iff.1 hv
        have : L[i].cs.size = 6 := rfl
        omega
      have := hc (i * 6 + j) v (by rw [scs_get L i hi j hj]; exact hv)
      rw [Addr.add_none, Nat.zero_add] at this
      rw [Nat.zero_add]
      exact this
  · have gk := (g s (List.mem_of_getElem? hs)).kind
    exact ⟨(h.so i x s hx hs).srd (g s (List.mem_of_getElem? hs)) hn, ⟨by omega, by omega⟩⟩
/-- A text's lines. -/
def lnsL (ss : List St) : List UInt8 := ss.flatMap fun s => lineL s ++ [10]
theorem lnsL_snoc (ss : List St) (s : St) : lnsL (ss ++ [s]) = lnsL ss ++ lineL s ++ [10] := by
  unfold lnsL
  rw [List.flatMap_append]
  simp
theorem lnsL_take (ss : List St) (i : Nat) : (lnsL (ss.take i)).length ≤ (lnsL ss).length := by
  conv => rhs; rw [← List.take_append_drop i ss]
  unfold lnsL
  rw [List.flatMap_append, List.length_append]
  omega
theorem lnsL_step {ss : List St} {i : Nat} {s : St} (h : ss[i]? = some s) : lnsL (ss.take (i + 1)) = lnsL (ss.take i) ++ lineL s ++ [10] := by
  have e1 : ss.take (i + 1) = ss.take i ++ [s] := by
    rw [List.take_add_one, h]
    rfl
  rw [e1, lnsL_snoc]
/-- The first fault of steps. -/
def fstE : List St → Int
  | [] => 0
  | s :: r => if chkS s = 0 then fstE r else chkS s
/-- Text, as a function. -/
def txtL (ss : List St) : ByteArray × Int := if 4096 < ss.length then (⟨#[]⟩, 2) else if fstE ss = 0 then (ofL (lnsL ss), 0) else (⟨#[]⟩, fstE ss)
theorem fst_at : ∀ (ss : List St) (i : Nat) (s : St), ss[i]? = some s → (∀ j t, j < i → ss[j]? = some t → chkS t = 0) → chkS s ≠ 0 → fstE ss = chkS s
  | [], i, s, h, _, _ => by cases h
  | a :: r, 0, s, h, _, hn => by
    have e : a = s := by simpa using h
    subst e
    unfold fstE
    rw [if_neg hn]
  | a :: r, i + 1, s, h, ho, hn => by
    unfold fstE
    rw [if_pos (ho 0 a (by omega) rfl)]
    exact fst_at r i s (by simpa using h) (fun j t hj ht => ho (j + 1) t (by omega) (by simpa using ht)) hn
theorem fst_none : ∀ (ss : List St), (∀ (j : Nat) (t : St), ss[j]? = some t → chkS t = 0) → fstE ss = 0
  | [], _ => rfl
  | a :: r, h => by
    unfold fstE
    rw [if_pos (h 0 a rfl)]
    exact fst_none r (fun j t ht => h (j + 1) t (by simpa using ht))
set_option maxRecDepth 100000 in
set_option maxHeartbeats 4000000 in
theorem hText {w : World} {p : Option Addr} {k c : Nat} {L : List Sm} {ss : List St} (R : SLs w p k c L ss) (V : Vars w) (F : FM w) (hb : (lnsL ss).length ≤ 100000000) : Calls Tryd.prog 12 #[.slice p k c] w fun o w' => o = .returned (.tuple #[.string (txtL ss).1, .int .i64 (txtL ss).2]) ∧ Kept (fun _ => False) w w' := by
  have hk : k ≤ 9223372036854775807 := by have h1 := R.room; have h2 := R.small; unfold maxLen at h2; omega
  have H : Hid (SLs w p k c L ss ∧ Vars w ∧ FM w ∧ (lnsL ss).length ≤ 100000000) := ⟨R, V, F, hb⟩
  obtain ⟨G, hG⟩ : ∃ G, txtL ss = G := ⟨_, rfl⟩
  rw [hG]
  unfold txtL at hG
  rw [R.slen] at hG
  have HG : Hid ((if 4096 < k then (⟨#[]⟩, 2) else if fstE ss = 0 then (ofL (lnsL ss), 0) else (⟨#[]⟩, fstE ss)) = G) := hG
  clear R V F hb hG
  by_cases h4 : 4096 < k
  · have h4i : (4096 : Int) < (k : Int) := by omega
    have e : G = (⟨#[]⟩, 2) := by rw [← HG.out, if_pos h4]
    subst e
    clear HG
    go_enter Tryd.func12, Tryd.ntmps12
    go_wp2_with fail
    go_ret2
    exact ⟨by first | rfl | simp, Kept.refl _ _⟩
  have h4i : ¬ (4096 : Int) < (k : Int) := by omega
  have HG2 : Hid ((if fstE ss = 0 then (ofL (lnsL ss), 0) else (⟨#[]⟩, fstE ss)) = G) := by have q := HG.out; rw [if_neg h4] at q; exact q
  clear HG
  go_enter Tryd.func12, Tryd.ntmps12
  go_upto_region 5 with fail
  go_loopw [4, 6, 7, 13] (fun u4 _ _ u13 wr => ∃ (i : Nat) (q : Option Addr) (n d : Nat), u4 = .slice q n d ∧ u13 = .int .i64 (i : Int) ∧ i ≤ k ∧ Hid (TX w wr q n d (lnsL (ss.take i)) ∧ ∀ (j : Nat) (t : St), j < i → ss[j]? = some t → chkS t = 0)) (fun _ _ _ u13 _ => k - (intOf u13).toNat)
  case atStart => exact ⟨0, none, 0, 0, rfl, rfl, Nat.zero_le _, TX.nil w, fun j t hj => absurd hj (by omega)⟩
  case round =>
    obtain ⟨i, q, n, d, rfl, rfl, hi, S⟩ := hrel
    obtain ⟨wo, hwo⟩ : ∃ wo, wo = wr := ⟨_, rfl⟩
    rw [← hwo] at S ⊢
    clear hwo
    by_cases hlt : i < k
    · have i1 : (i : Int) < (k : Int) := by omega
      obtain ⟨x, hx⟩ : ∃ x, L[i]? = some x := ⟨_, List.getElem?_eq_getElem (by rw [H.out.1.len]; exact hlt)⟩
      obtain ⟨s, hs⟩ : ∃ s, ss[i]? = some s := ⟨_, List.getElem?_eq_getElem (by rw [H.out.1.slen]; exact hlt)⟩
      obtain ⟨pb, po, rfl, hc⟩ := H.out.1.cells (by omega)
      have HX : Hid (SRd w x s ∧ KI s.kind ∧ ss[i]? = some s) := ⟨(H.out.1.rd i x s hx hs).1, (H.out.1.rd i x s hx hs).2, hs⟩
      have hx2 : L[i]'(by rw [H.out.1.len]; exact hlt) = x := by
        have := List.getElem?_eq_getElem (l := L) (i := i) (by rw [H.out.1.len]; exact hlt)
        rw [this] at hx
        simpa using hx
      have hcx : ∀ (j : Nat) (v : Value), x.cs[j]? = some v → wo.cell? ⟨pb, po + i * 6 + j, none⟩ = some v := fun j v hv => S.out.1.kept.cell (hc i (by rw [H.out.1.len]; exact hlt) j v (by rw [hx2]; exact hv)) (fun z => z)
      have C1 : Hid (∀ V, Kept (fun _ => False) w V → Calls Tryd.prog 13 #[.agg x.cs] V fun o w' => o = .returned (.int .i64 (chkS s)) ∧ Kept (fun _ => False) V w') := fun V K => hChk (HX.out.1.kept K) HX.out.2.1 (H.out.2.2.1.kept K)
      have C2 : Hid (∀ V, TX w V q n d (lnsL (ss.take i)) → chkS s = 0 → Calls Tryd.prog 31 #[.slice q n d, .agg x.cs] V (RetT fun p' k' c' w' => TX w w' p' k' c' (lnsL (ss.take i) ++ lineL s))) := fun V T z => hStep T H.out.2.1.tab H.out.2.2.1 HX.out.1 (chk_ok z) (Nat.le_trans (lnsL_take ss i) H.out.2.2.2)
      obtain ⟨kind, a, b, key, va, vn, vc, la, ln, lc⟩ := x
      have C1 : Hid (∀ V, Kept (fun _ => False) w V → Calls Tryd.prog 13 #[.agg #[.int .i64 kind, .int .i64 a, .int .i64 b, .string key, .slice va vn vc, .slice la ln lc]] V fun o w' => o = .returned (.int .i64 (chkS s)) ∧ Kept (fun _ => False) V w') := C1
      have C2 : Hid (∀ V, TX w V q n d (lnsL (ss.take i)) → chkS s = 0 → Calls Tryd.prog 31 #[.slice q n d, .agg #[.int .i64 kind, .int .i64 a, .int .i64 b, .string key, .slice va vn vc, .slice la ln lc]] V (RetT fun p' k' c' w' => TX w w' p' k' c' (lnsL (ss.take i) ++ lineL s))) := C2
      have x0 := hcx 0 (.int .i64 kind) rfl
      have x1 := hcx 1 (.int .i64 a) rfl
      have x2 := hcx 2 (.int .i64 b) rfl
      have x3 := hcx 3 (.string key) rfl
      have x4 := hcx 4 (.slice va vn vc) rfl
      have x5 := hcx 5 (.slice la ln lc) rfl
      rw [Nat.add_zero] at x0
      clear hcx hc hx hx2 hs
      obtain ⟨W, hW⟩ : ∃ W, wo.alloc (.cells #[.int .i64 kind, .int .i64 a, .int .i64 b, .string key, .slice va vn vc, .slice la ln lc] 38) = W := ⟨_, rfl⟩
      obtain ⟨B, hB⟩ : ∃ B, wo.heap.size = B := ⟨_, rfl⟩
      have S4 : Hid (TX w W q n d (lnsL (ss.take i)) ∧ W.heap[B]? = some (.cells #[.int .i64 kind, .int .i64 a, .int .i64 b, .string key, .slice va vn vc, .slice la ln lc] 38 (0, 0)) ∧ ∀ (j : Nat) (t : St), j < i → ss[j]? = some t → chkS t = 0) := by
        rw [← hW, ← hB]
        exact ⟨S.out.1.k0 ((Kept.refl _ _).alloc _), alloc_new _ _, S.out.2⟩
      have HW : Hid (wo.alloc (.cells #[.int .i64 kind, .int .i64 a, .int .i64 b, .string key, .slice va vn vc, .slice la ln lc] 38) = W ∧ wo.heap.size = B) := ⟨hW, hB⟩
      clear hW hB S
      go_upto_region 7 with fail
      rw [HW.out.1, HW.out.2]
      clear HW x0 x1 x2 x3 x4 x5
      have b0 := cell_blk S4.out.2.1 0 (v := .int .i64 kind) rfl
      have b1 := cell_blk S4.out.2.1 1 (v := .int .i64 a) rfl
      have b2 := cell_blk S4.out.2.1 2 (v := .int .i64 b) rfl
      have b3 := cell_blk S4.out.2.1 3 (v := .string key) rfl
      have b4 := cell_blk S4.out.2.1 4 (v := .slice va vn vc) rfl
      have b5 := cell_blk S4.out.2.1 5 (v := .slice la ln lc) rfl
      obtain ⟨ck, hck⟩ : ∃ ck, chkS s = ck := ⟨_, rfl⟩
      rw [hck] at C1 C2
      have HC : Hid (chkS s = ck) := hck
      clear hck
      go_wp2_with fail
      refine (C1.out _ S4.out.1.kept).mono ?_
      rintro o w5 ⟨rfl, K5⟩
      have S5 : Hid (TX w w5 q n d (lnsL (ss.take i)) ∧ w5.heap[B]? = some (.cells #[.int .i64 kind, .int .i64 a, .int .i64 b, .string key, .slice va vn vc, .slice la ln lc] 38 (0, 0)) ∧ ∀ (j : Nat) (t : St), j < i → ss[j]? = some t → chkS t = 0) := ⟨S4.out.1.k0 K5, K5.get S4.out.2.1 (fun z => z), S4.out.2.2⟩
      clear K5 C1 S4 b0 b1 b2 b3 b4 b5
      by_cases h0 : ck = 0
      · subst h0
        have b0 := cell_blk S5.out.2.1 0 (v := .int .i64 kind) rfl
        have b1 := cell_blk S5.out.2.1 1 (v := .int .i64 a) rfl
        have b2 := cell_blk S5.out.2.1 2 (v := .int .i64 b) rfl
        have b3 := cell_blk S5.out.2.1 3 (v := .string key) rfl
        have b4 := cell_blk S5.out.2.1 4 (v := .slice va vn vc) rfl
        have b5 := cell_blk S5.out.2.1 5 (v := .slice la ln lc) rfl
        go_wp2_with fail
        refine (C2.out _ S5.out.1 (by simp)).mono ?_
        rintro o w6 ⟨p6, k6, c6, rfl, T6⟩
        have A6 : Hid (TX w (w6.alloc (.cells #[.int .u8 10] 5)) p6 k6 c6 (lnsL (ss.take i) ++ lineL s) ∧ ∀ (j : Nat) (t : St), j < i → ss[j]? = some t → chkS t = 0) := ⟨T6.k0 ((Kept.refl _ _).alloc _), S5.out.2.2⟩
        have SR : Hid (Src Tryd.prog 1 35 (.slice (some ⟨w6.heap.size, 0, none⟩) 1 1) 1 (Lib.byteCells [10]) (w6.alloc (.cells #[.int .u8 10] 5))) := src_byte w6 10 (by omega)
        have LN : Hid (k6 + 1 ≤ maxLen ∧ ((k6 + 1) + (k6 + 1) / 4 + 192) * 1 ≤ 281474976710656) := by
          have h1 := T6.len
          have h2 := lnsL_take ss (i + 1)
          rw [lnsL_step HX.out.2.2, List.length_append] at h2
          have h3 := H.out.2.2.2
          unfold maxLen
          exact ⟨by omega, by omega⟩
        clear T6 C2 S5 b0 b1 b2 b3 b4 b5
        go_wp2_with
          (first
            | (at_builtin; refine wpList_append_all _ rfl (.tmp 24) (.tmp 25) 35 5 35 _ 1 1 rfl Tryd.underlying35 Tryd.info5 rfl w.heap.size (.slice p6 k6 c6) k6 (Lib.byteCells (lnsL (ss.take i) ++ lineL s)) rfl A6.out.1.row _ 1 (Lib.byteCells [10]) rfl SR.out LN.out.1 LN.out.2 A6.out.1.kept.size ?_; intro p9 c9 w9 ho hg hn9)
            | fail)
        have N9 : Hid (TX w w9 p9 (k6 + 1) c9 (lnsL (ss.take (i + 1))) ∧ ∀ (j : Nat) (t : St), j < i + 1 → ss[j]? = some t → chkS t = 0) := by
          refine ⟨?_, fun j t hj ht => ?_⟩
          · rw [lnsL_step HX.out.2.2]
            exact A6.out.1.more (x := [10]) rfl ho.out hg.out
          · by_cases hj2 : j < i
            · exact A6.out.2 j t hj2 ht
            · have e : j = i := by omega
              subst e
              rw [HX.out.2.2] at ht
              have e2 : s = t := by simpa using ht
              rw [← e2]
              exact HC.out
        clear ho hg hn9 A6 SR LN
        go_roundw
        case rel => exact ⟨i + 1, p9, k6 + 1, c9, rfl, by go_num, by omega, N9⟩
        case measure => simp [intOf] <;> omega
      · have FN : Hid (G = (⟨#[]⟩, ck) ∧ Kept (fun _ => False) w w5) := by
          have e := fst_at ss i s HX.out.2.2 S5.out.2.2 (by rw [HC.out]; exact h0)
          refine ⟨?_, S5.out.1.kept⟩
          rw [← HG2.out, e, HC.out, if_neg h0]
        clear S5 C2
        go_wp2_with fail
        go_ret2
        exact ⟨by rw [FN.out.1]; first | rfl | simp, FN.out.2⟩
    · have i1 : ¬ (i : Int) < (k : Int) := by omega
      have TS := S.out.1.string
      rw [List.take_of_length_le (by rw [H.out.1.slen]; omega)] at TS
      obtain ⟨TT, hTT⟩ : ∃ T, ofL (lnsL ss) = T := ⟨_, rfl⟩
      rw [hTT] at TS
      have FN : Hid (G = (TT, 0) ∧ Kept (fun _ => False) w wo) := by
        have e := fst_none ss (fun j t ht => S.out.2 j t (by
          have := (List.getElem?_eq_some_iff.1 ht).1
          rw [H.out.1.slen] at this
          omega) ht)
        refine ⟨?_, S.out.1.kept⟩
        rw [← HG2.out, e, if_pos rfl, hTT]
      clear S hTT
      go_wp2_with fail
      go_ret2
      exact ⟨by rw [FN.out.1]; first | rfl | simp, FN.out.2⟩
end Go.Proofs.YtonfefhegghapaaDoor
