import Derived.Test.YtbangbobfeflcaaGreatDoorHTkJ
import Derived.Deep.Cut
import Derived.BigQuiet
import Derived.Deep.RegionHeldLaw
import Derived.Laws.MakeOwn
namespace Go.Proofs.YtbangbobfeflcaaGreatDoor
open Go.RowKit 

/-- A text's bytes. -/
def bl (s : ByteArray) : List Nat := s.data.toList.map UInt8.toNat
theorem bl_len (s : ByteArray) : (bl s).length = s.size := by unfold bl; rw [List.length_map]; exact Array.length_toList
theorem bl_lt (s : ByteArray) : ∀ c ∈ bl s, c < 256 := fun c hc => by
  unfold bl at hc
  obtain ⟨b, _, rfl⟩ := List.mem_map.1 hc
  exact b.toNat_lt
theorem run_at {t : ByteArray} {j x : Nat} (h : (bl t)[j]? = some x) (w : World) : (Instr.index 9 (.string t) (.int .i64 (j : Int))).run Tryz.prog w = .ok (.int .u8 (x : Int)) w := by
  unfold bl at h
  rw [List.getElem?_map] at h
  obtain ⟨y, hy, rfl⟩ := Option.map_eq_some_iff.1 h
  have hj : j < t.size := by
    have := (List.getElem?_eq_some_iff.1 hy).1
    rw [Array.length_toList] at this
    exact this
  have hx : t.data[j]? = some y := by rw [← Array.getElem?_toList]; exact hy
  have e : t[j]'hj = y := by
    have h2 : t.data[j]'hj = y := by
      have := Array.getElem?_eq_getElem (xs := t.data) (i := j) hj
      rw [this] at hx
      simpa using hx
    exact h2
  rw [run_index_string w 9 t .i64 (j : Int) Tryz.underlying9]
  simp [hj, e]
def hxd (n : Nat) : Nat := if n < 10 then 48 + n else 87 + n
theorem hxd_lt (n : Nat) (h : n < 16) : hxd n < 256 := by unfold hxd; split <;> omega
theorem hexix (n : Nat) (h : n < 16) (w : World) : (Instr.index 9 (.string ⟨#[48, 49, 50, 51, 52, 53, 54, 55, 56, 57, 97, 98, 99, 100, 101, 102]⟩) (.int .u8 (n : Int))).run Tryz.prog w = .ok (.int .u8 (hxd n : Int)) w := by
  obtain rfl | rfl | rfl | rfl | rfl | rfl | rfl | rfl | rfl | rfl | rfl | rfl | rfl | rfl | rfl | rfl : n = 0 ∨ n = 1 ∨ n = 2 ∨ n = 3 ∨ n = 4 ∨ n = 5 ∨ n = 6 ∨ n = 7 ∨ n = 8 ∨ n = 9 ∨ n = 10 ∨ n = 11 ∨ n = 12 ∨ n = 13 ∨ n = 14 ∨ n = 15 := by omega
  all_goals kernel_rfl
/-- A byte as a line has it between quotation marks. -/
def escN (c : Nat) : List Nat := if plainB (c : Int) = true then [c] else [92, 120, hxd (c / 16), hxd (c % 16)]
def escL (l : List Nat) : List Nat := l.flatMap escN
def quoN (l : List Nat) : List Nat := 34 :: (escL l ++ [34])
theorem escL_snoc (l : List Nat) (c : Nat) : escL (l ++ [c]) = escL l ++ escN c := by unfold escL; rw [List.flatMap_append]; simp
theorem escN_len (c : Nat) : (escN c).length ≤ 4 := by unfold escN; split <;> simp
theorem escN_lt {c : Nat} (h : c < 256) : ∀ x ∈ escN c, x < 256 := fun x hx => by
  unfold escN at hx
  split at hx
  · rw [List.mem_singleton.1 hx]; exact h
  · have h1 := hxd_lt (c / 16) (by omega)
    have h2 := hxd_lt (c % 16) (by omega)
    simp at hx
    rcases hx with rfl | rfl | rfl | rfl <;> omega
theorem escL_len : ∀ l : List Nat, (escL l).length ≤ 4 * l.length
  | [] => Nat.zero_le _
  | c :: r => by
    have q := escL_len r
    have q2 := escN_len c
    show (escN c ++ escL r).length ≤ 4 * (r.length + 1)
    rw [List.length_append]
    omega
theorem escL_lt : ∀ {l : List Nat}, (∀ c ∈ l, c < 256) → ∀ x ∈ escL l, x < 256
  | [], _, x, hx => by cases hx
  | c :: r, h, x, hx => by
    have hx : x ∈ escN c ++ escL r := hx
    rcases List.mem_append.1 hx with z | z
    · exact escN_lt (h c List.mem_cons_self) x z
    · exact escL_lt (fun y hy => h y (List.mem_cons_of_mem _ hy)) x z
theorem quoN_lt {l : List Nat} (h : ∀ c ∈ l, c < 256) : ∀ x ∈ quoN l, x < 256 := fun x hx => by
  unfold quoN at hx
  rcases List.mem_cons.1 hx with rfl | z
  · omega
  · rcases List.mem_append.1 z with z | z
    · exact escL_lt h x z
    · rw [List.mem_singleton.1 z]; omega
theorem quoN_len (l : List Nat) : (quoN l).length ≤ 4 * l.length + 2 := by
  have := escL_len l
  unfold quoN
  rw [List.length_cons, List.length_append, List.length_singleton]
  omega
theorem QS.more {w w1 w2 : World} {l k : List Nat} {p p9 : Option Addr} {n m c c9 : Nat} (h : QS w l p n c w1) (ho : w2.ownsRow w.heap.size 5 1 (.slice p9 (n + m) c9) (n + m) (cellsOf l ++ cellsOf k)) (hg : w1.grownBy w2 (Value.slice p n c).ownBlock) : QS w (l ++ k) p9 (n + m) c9 w2 := ⟨by rw [cellsOf_append]; exact ho, h.grow hg⟩
theorem src_row {W : World} {B n : Nat} {cs : Array Value} {l : List Nat} (hB : W.heap[B]? = some (.cells cs 5 (0, 0))) (hc : cs.toList = cellsOf l) (hn : l.length = n) : Src Tryz.prog 1 34 (.slice (some ⟨B, 0, none⟩) n n) n (cellsOf l) W :=
  Src.ofSlice _ Tryz.underlying34 ⟨B, 0, none⟩ n n (cellsOf l) (by unfold cellsOf; rw [List.length_map]; omega) (fun j u hj => by
    rw [Addr.add_none, Nat.zero_add]
    exact cell_blk hB j (by rw [← Array.getElem?_toList, hc]; exact hj)) (fun v hv => by
    unfold cellsOf at hv
    obtain ⟨c, _, rfl⟩ := List.mem_map.1 hv
    rfl)
theorem w64q (z : Int) : IntKind.i64.wrap z = wrap64 z := by
  rw [IntKind.wrap_i64]
  unfold wrap64
  rfl
set_option maxRecDepth 100000 in
set_option maxHeartbeats 4000000 in
theorem hQuoted (t : ByteArray) (w : World) (ht : t.size ≤ 65536) : Calls Tryz.prog 62 #[.string t] w fun o w' => o = .returned (.string (str (quoN (bl t)))) ∧ Kept (fun _ => False) w w' := by
  obtain ⟨n, hn⟩ : ∃ n, t.size = n := ⟨_, rfl⟩
  obtain ⟨l, hl⟩ : ∃ l, bl t = l := ⟨_, rfl⟩
  rw [hl]
  have HL : Hid (bl t = l ∧ l.length = n ∧ ∀ c ∈ l, c < 256) := ⟨hl, by rw [← hl, bl_len, hn], by rw [← hl]; exact bl_lt t⟩
  have nb : n ≤ 65536 := by omega
  obtain ⟨i5, hi5, hz5, hs5, hb5⟩ := info_parts Tryz.info5
  obtain ⟨W, mk, ow, gr⟩ := run_make_own (P := Tryz.prog) (w := w) w.heap.size 34 5 i5 (.int .u8 0) 1 Tryz.underlying34 hi5 hz5 hs5 .i64 .i64 (n + 2) (by rw [hb5]; omega) (by unfold maxLen; omega) (Nat.le_refl _)
  have S : Hid (QS w [] (some ⟨w.heap.size, 0, none⟩) 0 (n + 2) W) := ⟨ow, (Kept.refl _ w).grown gr (fun j _ z => by simp at z)⟩
  have w2 : wrap64 ((n : Int) + 2) = ((n + 2 : Nat) : Int) := by rw [← w64q, IntKind.wrap_i64]; omega
  clear hi5 hz5 hs5 hb5 ow gr hl ht
  go_enter Tryz.func62, Tryz.ntmps62
  rw [show ((n + 2 : Nat) : Int) = (n : Int) + 2 by omega] at mk w2
  go_upto_region 2 with fail
  go_upto_region 4 with
    (first
      | (at_builtin; refine wpList_append_text _ rfl (.tmp 10) (.const (.string ⟨#[34]⟩)) rfl w.heap.size (.slice (some ⟨w.heap.size, 0, none⟩) 0 (n + 2)) 0 [] rfl S.out.row ⟨#[34]⟩ [34] rfl rfl (by decide) S.out.kept.size ?_; intro p1 c1 w1 ho hg)
      | fail)
  have S0 : Hid (QS w (34 :: escL (l.take 0)) p1 1 c1 w1) := ⟨ho.out, S.out.grow hg.out⟩
  clear ho hg mk S w2
  go_loopw [3, 4, 5, 14] (fun u3 _ _ u14 wr => ∃ (i : Nat) (p : Option Addr) (k c : Nat), u3 = .slice p k c ∧ u14 = .int .i64 (i : Int) ∧ i ≤ n ∧ k ≤ 4 * i + 1 ∧ Hid (QS w (34 :: escL (l.take i)) p k c wr)) (fun _ _ _ u14 _ => n - (intOf u14).toNat)
  case atStart => exact ⟨0, p1, 1, c1, rfl, rfl, Nat.zero_le _, by omega, S0⟩
  case round =>
    clear S0
    obtain ⟨i, p, k, c, rfl, rfl, hi, kb, S⟩ := hrel
    obtain ⟨wo, hwo⟩ : ∃ wo, wo = wr := ⟨_, rfl⟩
    rw [← hwo] at S ⊢
    clear hwo
    by_cases hlt : i < n
    · have lti : (i : Int) < (n : Int) := by omega
      obtain ⟨x, hx⟩ : ∃ x, l[i]? = some x := ⟨_, List.getElem?_eq_getElem (by rw [HL.out.2.1]; exact hlt)⟩
      have xl : x < 256 := HL.out.2.2 x (List.mem_of_getElem? hx)
      have TK : Hid (l.take (i + 1) = l.take i ++ [x]) := by
        show l.take (i + 1) = _
        rw [List.take_add_one, hx]
        rfl
      have ix := fun V => run_at (t := t) (j := i) (x := x) (by rw [HL.out.1]; exact hx) V
      obtain ⟨pl, hpl⟩ : ∃ pl, plainB (x : Int) = pl := ⟨_, rfl⟩
      have CP : Hid (∀ V, Calls Tryz.prog 91 #[.int .u8 (x : Int)] V fun o w' => o = .returned (.bool pl) ∧ w' = V) := fun V => by rw [← hpl]; exact hPlain x V
      clear hx
      go_wp2_with fail
      refine (CP.out _).mono ?_
      rintro o w5 ⟨rfl, rfl⟩
      clear CP ix
      cases pl with
      | true =>
        obtain ⟨V, hV⟩ : ∃ V, w5.alloc (.cells #[.int .u8 (x : Int)] 5) = V := ⟨_, rfl⟩
        have A1 : Hid (QS w (34 :: escL (l.take i)) p k c V) := by rw [← hV]; exact S.out.on ((Kept.refl _ _).alloc _)
        have SR : Hid (Src Tryz.prog 1 34 (.slice (some ⟨w5.heap.size, 0, none⟩) 1 1) 1 (cellsOf [x]) V) := by rw [← hV]; exact src_row (alloc_new _ _) rfl rfl
        have EV : Hid (w5.alloc (.cells #[.int .u8 (x : Int)] 5) = V) := hV
        have PL : Hid (plainB (x : Int) = true) := hpl
        clear hV hpl S
        go_upto_region 10 with
          (first
            | (at_builtin; rw [EV.out]; refine wpList_append_bytes _ rfl (.tmp 22) (.tmp 24) rfl w.heap.size (.slice p k c) k (34 :: escL (l.take i)) rfl A1.out.row _ 1 [x] rfl SR.out (by omega) A1.out.kept.size ?_; intro p9 c9 w9 ho hg hn9)
            | fail)
        have N9 : Hid (QS w (34 :: escL (l.take (i + 1))) p9 (k + 1) c9 w9) := by
          have e : 34 :: escL (l.take (i + 1)) = (34 :: escL (l.take i)) ++ [x] := by
            rw [TK.out, escL_snoc]
            unfold escN
            rw [if_pos PL.out]
            rfl
          show QS w (34 :: escL (l.take (i + 1))) p9 (k + 1) c9 w9
          rw [e]
          exact ⟨ho.out, A1.out.grow hg.out⟩
        clear ho hg hn9 A1 SR EV
        go_wp2_with fail
        go_roundw
        case rel => exact ⟨i + 1, p9, k + 1, c9, rfl, by go_num, by omega, by omega, N9⟩
        case measure => simp [intOf] <;> omega
      | false =>
        obtain ⟨h4, hh4⟩ : ∃ h4 : Nat, x / 16 = h4 := ⟨_, rfl⟩
        obtain ⟨l4, hl4⟩ : ∃ l4 : Nat, x % 16 = l4 := ⟨_, rfl⟩
        obtain ⟨d1, hd1⟩ : ∃ d1, hxd h4 = d1 := ⟨_, rfl⟩
        obtain ⟨d2, hd2⟩ : ∃ d2, hxd l4 = d2 := ⟨_, rfl⟩
        have x1 := fun V => hexix h4 (by omega) V
        have x2 := fun V => hexix l4 (by omega) V
        have HH : Hid (hxd (x / 16) = d1 ∧ hxd (x % 16) = d2) := by rw [hh4, hl4]; exact ⟨hd1, hd2⟩
        rw [hd1] at x1
        rw [hd2] at x2
        have b1 : (x : Int) / 16 = (h4 : Int) := by omega
        have b1' : (x : Int).tdiv 16 = (h4 : Int) := by rw [Int.tdiv_eq_ediv_of_nonneg (by omega)]; omega
        have b2 : (x : Int) % 16 = (l4 : Int) := by omega
        have b2' : (x : Int).tmod 16 = (l4 : Int) := by rw [Int.tmod_eq_emod_of_nonneg (by omega)]; omega
        have b3 : IntKind.u8.wrap (h4 : Int) = (h4 : Int) := by rw [IntKind.wrap_u8]; omega
        have b4 : IntKind.u8.wrap (l4 : Int) = (l4 : Int) := by rw [IntKind.wrap_u8]; omega
        have A4 : Hid (QS w (34 :: escL (l.take i)) p k c (w5.drew.alloc (.cells #[.int .u8 92, .int .u8 120, .int .u8 (d1 : Int), .int .u8 (d2 : Int)] 5))) := S.out.on ((Kept.refl _ _).drew.alloc _)
        have SR4 : Hid (Src Tryz.prog 1 34 (.slice (some ⟨w5.heap.size, 0, none⟩) 4 4) 4 (cellsOf [92, 120, d1, d2]) (w5.drew.alloc (.cells #[.int .u8 92, .int .u8 120, .int .u8 (d1 : Int), .int .u8 (d2 : Int)] 5))) := src_row (alloc_new w5.drew _) rfl rfl
        have LN4 : Hid (k + 4 ≤ maxLen ∧ ((k + 4) + (k + 4) / 4 + 192) * 1 ≤ 281474976710656) := by unfold maxLen; exact ⟨by omega, by omega⟩
        clear hh4 hl4 hd1 hd2 S
        go_upto_region 9 with fail
        refine wp_region_held_drew (S := (fun _ => True)) (by kernel_rfl) trivial (fun hHeld => ?_)
        refine wpAnyH_take (i := 0) (oi := { dst := some 26, op := Go.Op.move (Go.Operand.tmp 3), type := 34, pos := "quote.go:24", after := #[], guard := none }) (v := .slice p k c) rfl (by kernel_rfl) (by kernel_rfl) (by kernel_rfl) (fun _ _ _ h => h) (Or.inl ⟨by rfl, ?_⟩) (by assumption) ?_
        · intro w9 hSw
          (try dsimp only at hSw)
          go_simp
        (try simp only [Act.put, List.setIfInBounds_toArray, List.set_cons_zero, List.set_cons_succ])
        refine wpAnyH_take (i := 1) (oi := { dst := some 27, op := Go.Op.move (Go.Operand.tmp 5), type := 5, pos := "quote.go:24", after := #[], guard := none }) (v := .int .u8 (x : Int)) rfl (by kernel_rfl) (by kernel_rfl) (by kernel_rfl) (fun _ _ _ h => h) (Or.inl ⟨by rfl, ?_⟩) (by assumption) ?_
        · intro w9 hSw
          (try dsimp only at hSw)
          go_simp
        (try simp only [Act.put, List.setIfInBounds_toArray, List.set_cons_zero, List.set_cons_succ])
        refine wpAnyH_take (i := 2) (oi := { dst := some 28, op := Go.Op.binOp Go.BinOp.quo 5 (Go.Operand.tmp 27) (Go.Operand.const (Go.Value.int Go.IntKind.u8 16)) 5, type := 5, pos := "quote.go:24", after := #[{ on := 1, ground := Go.Ground.data }], guard := none }) (v := .int .u8 (h4 : Int)) rfl (by kernel_rfl) (by kernel_rfl) (by kernel_rfl) (fun _ _ _ h => h) (Or.inl ⟨by rfl, ?_⟩) (by assumption) ?_
        · intro w9 hSw
          (try dsimp only at hSw)
          go_simp
        (try simp only [Act.put, List.setIfInBounds_toArray, List.set_cons_zero, List.set_cons_succ])
        refine wpAnyH_take (i := 3) (oi := { dst := some 29, op := Go.Op.index 9 (Go.Operand.const (Go.Value.string { data := #[48, 49, 50, 51, 52, 53, 54, 55, 56, 57, 97, 98, 99, 100, 101, 102] })) (Go.Operand.tmp 28), type := 5, pos := "quote.go:24", after := #[{ on := 2, ground := Go.Ground.data }], guard := none }) (v := .int .u8 (d1 : Int)) rfl (by kernel_rfl) (by kernel_rfl) (by kernel_rfl) (fun _ _ _ h => h) (Or.inl ⟨by rfl, ?_⟩) (by assumption) ?_
        · intro w9 hSw
          (try dsimp only at hSw)
          go_simp
        (try simp only [Act.put, List.setIfInBounds_toArray, List.set_cons_zero, List.set_cons_succ])
        refine wpAnyH_take (i := 4) (oi := { dst := some 30, op := Go.Op.move (Go.Operand.tmp 5), type := 5, pos := "quote.go:24", after := #[], guard := none }) (v := .int .u8 (x : Int)) rfl (by kernel_rfl) (by kernel_rfl) (by kernel_rfl) (fun _ _ _ h => h) (Or.inl ⟨by rfl, ?_⟩) (by assumption) ?_
        · intro w9 hSw
          (try dsimp only at hSw)
          go_simp
        (try simp only [Act.put, List.setIfInBounds_toArray, List.set_cons_zero, List.set_cons_succ])
        refine wpAnyH_take (i := 5) (oi := { dst := some 31, op := Go.Op.binOp Go.BinOp.rem 5 (Go.Operand.tmp 30) (Go.Operand.const (Go.Value.int Go.IntKind.u8 16)) 5, type := 5, pos := "quote.go:24", after := #[{ on := 4, ground := Go.Ground.data }], guard := none }) (v := .int .u8 (l4 : Int)) rfl (by kernel_rfl) (by kernel_rfl) (by kernel_rfl) (fun _ _ _ h => h) (Or.inl ⟨by rfl, ?_⟩) (by assumption) ?_
        · intro w9 hSw
          (try dsimp only at hSw)
          go_simp
        (try simp only [Act.put, List.setIfInBounds_toArray, List.set_cons_zero, List.set_cons_succ])
        refine wpAnyH_take (i := 6) (oi := { dst := some 32, op := Go.Op.index 9 (Go.Operand.const (Go.Value.string { data := #[48, 49, 50, 51, 52, 53, 54, 55, 56, 57, 97, 98, 99, 100, 101, 102] })) (Go.Operand.tmp 31), type := 5, pos := "quote.go:24", after := #[{ on := 5, ground := Go.Ground.data }], guard := none }) (v := .int .u8 (d2 : Int)) rfl (by kernel_rfl) (by kernel_rfl) (by kernel_rfl) (fun _ _ _ h => h) (Or.inl ⟨by rfl, ?_⟩) (by assumption) ?_
        · intro w9 hSw
          (try dsimp only at hSw)
          go_simp
        (try simp only [Act.put, List.setIfInBounds_toArray, List.set_cons_zero, List.set_cons_succ])
        refine wpAnyH_ready (rs := [7]) (by kernel_rfl) (by simp) ?_
        refine (AllReadyH.cons (o := { dst := some 33, op := Go.Op.buildSlice 34 4 #[(0, Go.Operand.const (Go.Value.int Go.IntKind.u8 92)), (1, Go.Operand.const (Go.Value.int Go.IntKind.u8 120)), (2, Go.Operand.tmp 29), (3, Go.Operand.tmp 32)], type := 34, pos := "quote.go:24", after := #[{ on := 3, ground := Go.Ground.data }, { on := 6, ground := Go.Ground.data }], guard := none }) rfl (fun K hK => ?_) AllReadyH.nil)
        go_simp
        refine hK.out _ _ ?_ (fun hHeld => ?_)
        · exact trivial
        clear hK K
        (try simp only [Act.put, List.setIfInBounds_toArray, List.set_cons_zero, List.set_cons_succ])
        refine wpAnyH_ready (rs := [8]) (by kernel_rfl) (by simp) ?_
        refine (AllReadyH.cons (o := { dst := some 34, op := Go.Op.call { callee := Go.Callee.builtin Go.Builtin.append, args := #[Go.Operand.tmp 26, Go.Operand.tmp 33], argTypes := #[34, 34] }, type := 34, pos := "quote.go:24", after := #[{ on := 0, ground := Go.Ground.data }, { on := 7, ground := Go.Ground.data }], guard := none }) rfl (fun K hK => ?_) AllReadyH.nil)
        refine step_append_all _ rfl (.tmp 26) (.tmp 33) 34 5 34 _ 1 1 rfl Tryz.underlying34 Tryz.info5 rfl w.heap.size (.slice p k c) k (cellsOf (34 :: escL (l.take i))) rfl A4.out.row _ 4 (cellsOf [92, 120, d1, d2]) rfl SR4.out LN4.out.1 LN4.out.2 A4.out.kept.size ?_
        intro p9 c9 w9 ho hg hn9
        have N9 : Hid (QS w (34 :: escL (l.take (i + 1))) p9 (k + 4) c9 w9) := by
          have q := A4.out.more (k := [92, 120, d1, d2]) ho.out hg.out
          have e : 34 :: escL (l.take (i + 1)) = (34 :: escL (l.take i)) ++ [92, 120, d1, d2] := by
            rw [TK.out, escL_snoc]
            unfold escN
            rw [if_neg (by rw [hpl]; decide), HH.out.1, HH.out.2]
            rfl
          show QS w (34 :: escL (l.take (i + 1))) p9 (k + 4) c9 w9
          rw [e]
          exact q
        refine hK.out _ _ ?_ (fun hHeld => ?_)
        · exact trivial
        clear hK K
        (try simp only [Act.put, List.setIfInBounds_toArray, List.set_cons_zero, List.set_cons_succ])
        clear ho hg hn9 A4 SR4 LN4
        refine wpAnyH_take (i := 9) (oi := { dst := some 3, op := Go.Op.assign (Go.Operand.tmp 34), type := 34, pos := "quote.go:24", after := #[{ on := 8, ground := Go.Ground.data }, { on := 8, ground := Go.Ground.chain }, { on := 0, ground := Go.Ground.phase }, { on := 1, ground := Go.Ground.phase }, { on := 2, ground := Go.Ground.phase }, { on := 3, ground := Go.Ground.phase }, { on := 4, ground := Go.Ground.phase }, { on := 5, ground := Go.Ground.phase }, { on := 6, ground := Go.Ground.phase }, { on := 7, ground := Go.Ground.phase }, { on := 8, ground := Go.Ground.phase }], guard := none }) (v := .slice p9 (k + 4) c9) rfl (by kernel_rfl) (by kernel_rfl) (by kernel_rfl) (fun _ _ _ h => h) (Or.inl ⟨by rfl, ?_⟩) (by assumption) ?_
        · intro w9 hSw
          (try dsimp only at hSw)
          go_simp
        (try simp only [Act.put, List.setIfInBounds_toArray, List.set_cons_zero, List.set_cons_succ])
        refine wpAnyH_done (by kernel_rfl) ?_ _
        clear hHeld
        go_wp2_with fail
        go_roundw
        case rel => exact ⟨i + 1, p9, k + 4, c9, rfl, by go_num, by omega, by omega, N9⟩
        case measure => simp [intOf] <;> omega
    · have lti : ¬ (i : Int) < (n : Int) := by omega
      obtain rfl : i = n := by omega
      have eL : l.take i = l := List.take_of_length_le (by rw [HL.out.2.1]; exact Nat.le_refl _)
      rw [eL] at S
      clear eL
      go_wp2_with
        (first
          | (at_builtin; refine wpList_append_text _ rfl (.tmp 36) (.const (.string ⟨#[34]⟩)) rfl w.heap.size (.slice p k c) k (34 :: escL l) rfl S.out.row ⟨#[34]⟩ [34] rfl rfl (by show k + 1 ≤ _; omega) S.out.kept.size ?_; intro p9 c9 w9 ho hg; have cv : (convert 34 9 (.slice p9 (k + 1) c9)).run Tryz.prog w9 = .ok (.string (str (quoN l))) w9 := (reads_own (l := quoN l) ho.out (quoN_lt HL.out.2.2)).string)
          | fail)
      have F : Hid (Kept (fun _ => False) w w9) := S.out.grow hg.out
      go_ret
      exact ⟨rfl, F.out⟩
end Go.Proofs.YtbangbobfeflcaaGreatDoor
