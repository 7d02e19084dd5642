import Derived.Test.YtojepeefphbekabGreatSSmallJ
import Derived.Test.YtojepeefphbekabGreatUniqJ
import Derived.Test.YtojepeefphbekabGreatSDidJ
namespace Go.Proofs.YtojepeefphbekabGreat
open Go.RowKit 

def cntA (avs : List Av) : Nat := (avs.map fun v => v.2.length).sum
theorem cntA_snoc (l : List Av) (v : Av) : cntA (l ++ [v]) = cntA l + v.2.length := by
  unfold cntA
  simp
theorem cntA_le (l m : List Av) : cntA l ≤ cntA (l ++ m) := by
  unfold cntA
  simp
/-- What a shelf must find in a list that is told. -/
structure HoldsOk (vs : List Uv) (avs : List Av) : Prop where
  ne : ∀ v ∈ avs, 0 < v.2.length
  up : ∀ (i : Nat) (k : ByteArray) (es : List Ev) (k' : ByteArray) (es' : List Ev), avs[i]? = some (k, es) → avs[i + 1]? = some (k', es') → Op.bytesLess k.toList k'.toList = true
  find : ∀ (i : Nat) (k : ByteArray) (es : List Ev) (j : Nat) (v : Ev), avs[i]? = some (k, es) → es[j]? = some v → ∃ x : Nat, plc vs k v.1 0 = (x : Int) ∧ vs[x]? = some (k, v)
  rise : ∀ (i : Nat) (k : ByteArray) (es : List Ev) (j : Nat) (v v' : Ev), avs[i]? = some (k, es) → es[j]? = some v → es[j + 1]? = some v' → tc v.1 v'.1 < 0
  total : cntA avs = vs.length
set_option maxRecDepth 100000 in
set_option maxHeartbeats 16000000 in
/-- holds. -/
theorem sHolds (b0 sb : Nat) (delta : Int) (p : Option Addr) (n c : Nat) (L : List Ut) (vs : List Uv) (q : Option Addr) (m e : Nat) (avs : List Av) (w : World) (h : RTab b0 w sb delta p n c L vs) (hn : n ≤ 2199023255552) (r : AllRd w q m e avs) (ok : HoldsOk vs avs) :
    Calls Tryz.prog 11 #[.pointer (some ⟨sb, 0, none⟩), .slice q m e] w fun o w' => o = .returned (.bool true) ∧ Kept (fun _ => False) w w' := by
  obtain ⟨s1, s2⟩ := r.small
  unfold maxLen at s2
  have rmm := own_room h.row
  unfold maxLen at rmm
  obtain ⟨rm1, rm2⟩ := rmm
  have H : Hid (RTab b0 w sb delta p n c L vs ∧ AllRd w q m e avs ∧ HoldsOk vs avs) := ⟨h, r, ok⟩
  have N0 : Hid (0 = cntA (avs.take 0) ∧ Kept (fun _ => False) w w) := ⟨rfl, Kept.refl _ _⟩
  have vl : vs.length = n := h.vlen
  have VL : Hid (vs.length = n) := vl
  clear h r ok vl
  go_enter Tryz.func11, Tryz.ntmps11
  go_wp2_with fail
  go_loopw [4, 5, 6, 7, 8, 9, 10, 13] (fun _ t _ _ _ _ _ z wr => ∃ (i k : Nat), t = .int .i64 (k : Int) ∧ z = .int .i64 (i : Int) ∧ i ≤ m ∧ k ≤ n ∧ Hid (k = cntA (avs.take i) ∧ Kept (fun _ => False) w wr)) (fun _ _ _ _ _ _ _ z _ => m - (intOf z).toNat)
  case atStart => exact ⟨0, 0, rfl, rfl, Nat.zero_le _, Nat.zero_le _, N0⟩
  case round =>
    obtain ⟨i, ct, rfl, rfl, hi, hct, S⟩ := hrel
    obtain ⟨wq, hwq⟩ : ∃ wq, wq = wr := ⟨_, rfl⟩
    rw [← hwq] at S ⊢
    clear hwq
    by_cases hlt : i < m
    · have i1 : (i : Int) < (m : Int) := by omega
      have i0 : (0 : Int) ≤ (i : Int) := by omega
      obtain ⟨b, k, es, a, mm, cc, rfl, hv, d0, d1, en⟩ := (H.out.2.1.k0 S.out.2).at hlt
      have hel := en.len
      have hne : 0 < es.length := H.out.2.2.ne (k, es) (List.mem_of_getElem? hv)
      have tk : avs.take (i + 1) = avs.take i ++ [(k, es)] := by rw [List.take_add_one, hv]; rfl
      have ct1 : cntA (avs.take (i + 1)) = ct + mm := by rw [tk, cntA_snoc, ← S.out.1, ← hel]
      have ctn : ct + mm ≤ n := by
        rw [← ct1, ← VL.out, ← H.out.2.2.total]
        have := cntA_le (avs.take (i + 1)) (avs.drop (i + 1))
        rw [List.take_append_drop] at this
        exact this
      have CT : Hid (cntA (avs.take (i + 1)) = ct + mm) := ct1
      have HV : Hid (avs[i]? = some (k, es)) := hv
      obtain ⟨e1, e2⟩ := en.small
      unfold maxLen at e2
      have m0 : ¬ (mm : Int) = 0 := by omega
      have m0n : ¬ mm = 0 := by omega
      have m0p : 0 < mm := by omega
      obtain ⟨W1, hW1⟩ : ∃ W1, W1 = wq.alloc (.cells #[.string k, .slice a mm cc] 73) := ⟨_, rfl⟩
      obtain ⟨X1, hX1⟩ : ∃ X1, X1 = wq.heap.size := ⟨_, rfl⟩
      have J : Hid (W1.heap[X1]? = some (.cells #[.string k, .slice a mm cc] 73 (0, 0)) ∧ Kept (fun _ => False) w W1 ∧ EntRd W1 a mm cc es) := by
        rw [hW1, hX1]
        exact ⟨heap_alloc_new _ _, S.out.2.and0 (k0_alloc _ _), en.k0 (k0_alloc _ _)⟩
      have EW1 : Hid (W1 = wq.alloc (.cells #[.string k, .slice a mm cc] 73) ∧ X1 = wq.heap.size) := ⟨hW1, hX1⟩
      have AT : Hid (AllRd W1 (some ⟨b, 0, none⟩) m e avs) := by rw [hW1]; exact (H.out.2.1.k0 S.out.2).k0 (k0_alloc _ _)
      clear hW1 hX1 hv tk ct1 en hel hne
      go_upto_region 5 with fail
      rw [← EW1.out.1, ← EW1.out.2]
      clear d0 d1
      have g0 := cell_blk J.out.1 0 (v := .string k) rfl
      have g1 := cell_blk J.out.1 1 (v := .slice a mm cc) rfl
      go_cut [36] (fun u wc => u = .bool false ∧ Hid (Kept (fun _ => False) W1 wc))
      case first =>
        by_cases hi0 : i = 0
        · subst hi0
          refine wp_region_held_drew (S := (fun V => V.cell? ⟨X1, 0, none⟩ = some (.string k) ∧ V.cell? ⟨X1, 1, none⟩ = some (.slice a mm cc))) (by kernel_rfl) ?_ (fun hHeld => ?_)
          · exact ⟨g0, g1⟩
          refine wpAnyH_take (i := 0) (oi := { dst := some 18, op := Op.fieldAddr 73 (Operand.tmp 7) 1, type := 0, pos := "held.go:163", after := #[], guard := none }) (v := .pointer (some ⟨X1, 1, none⟩)) rfl (by kernel_rfl) (by kernel_rfl) (by kernel_rfl) (fun _ _ _ h => h) (Or.inl ⟨by rfl, ?_⟩) (by assumption) ?_
          · intro w9 hSw
            (try dsimp only at hSw)
            go_simp
          (try simp only [Act.put, List.setIfInBounds_toArray, List.set_cons_zero, List.set_cons_succ])
          refine wpAnyH_take (i := 1) (oi := { dst := some 19, op := Op.load 48 (Operand.tmp 18), type := 48, pos := "held.go:163", after := #[{ on := 0, ground := Ground.data }], guard := none }) (v := .slice a mm cc) rfl (by kernel_rfl) (by kernel_rfl) (by kernel_rfl) (fun _ _ _ h => h) (Or.inl ⟨by rfl, ?_⟩) (by assumption) ?_
          · intro w9 hSw
            (try dsimp only at hSw)
            go_simp
          (try simp only [Act.put, List.setIfInBounds_toArray, List.set_cons_zero, List.set_cons_succ])
          refine wpAnyH_take (i := 2) (oi := { dst := some 20, op := Op.call { callee := Callee.builtin Builtin.len, args := #[Operand.tmp 19], argTypes := #[48] }, type := 3, pos := "held.go:163", after := #[{ on := 1, ground := Ground.data }], guard := none }) (v := .int .i64 (mm : Int)) rfl (by kernel_rfl) (by kernel_rfl) (by kernel_rfl) (fun _ _ _ h => h) (Or.inl ⟨by rfl, ?_⟩) (by assumption) ?_
          · intro w9 hSw
            (try dsimp only at hSw)
            go_simp
          (try simp only [Act.put, List.setIfInBounds_toArray, List.set_cons_zero, List.set_cons_succ])
          refine wpAnyH_take (i := 3) (oi := { dst := some 21, op := Op.binOp BinOp.eql 3 (Operand.tmp 20) (Operand.const (Value.int IntKind.i64 0)) 3, type := 4, pos := "held.go:163", after := #[{ on := 2, ground := Ground.data }], guard := none }) (v := .bool false) rfl (by kernel_rfl) (by kernel_rfl) (by kernel_rfl) (fun _ _ _ h => h) (Or.inl ⟨by rfl, ?_⟩) (by assumption) ?_
          · intro w9 hSw
            (try dsimp only at hSw)
            go_simp
          (try simp only [Act.put, List.setIfInBounds_toArray, List.set_cons_zero, List.set_cons_succ])
          refine wpAnyH_take (i := 4) (oi := { dst := some 22, op := Op.move (Operand.tmp 21), type := 4, pos := "held.go:163", after := #[{ on := 3, ground := Ground.data }], guard := none }) (v := .bool false) rfl (by kernel_rfl) (by kernel_rfl) (by kernel_rfl) (fun _ _ _ h => h) (Or.inl ⟨by rfl, ?_⟩) (by assumption) ?_
          · intro w9 hSw
            (try dsimp only at hSw)
            go_simp
          (try simp only [Act.put, List.setIfInBounds_toArray, List.set_cons_zero, List.set_cons_succ])
          refine wpAnyH_take (i := 5) (oi := { dst := some 23, op := Op.move (Operand.tmp 6), type := 3, pos := "held.go:163", after := #[{ on := 4, ground := Ground.guard }], guard := some (4, false) }) (v := .int .i64 0) rfl (by kernel_rfl) (by kernel_rfl) (by kernel_rfl) (fun _ _ _ h => h) (Or.inl ⟨by rfl, ?_⟩) (by assumption) ?_
          · intro w9 hSw
            (try dsimp only at hSw)
            go_simp
          (try simp only [Act.put, List.setIfInBounds_toArray, List.set_cons_zero, List.set_cons_succ])
          refine wpAnyH_take (i := 6) (oi := { dst := some 24, op := Op.binOp BinOp.gtr 3 (Operand.tmp 23) (Operand.const (Value.int IntKind.i64 0)) 3, type := 4, pos := "held.go:163", after := #[{ on := 5, ground := Ground.data }, { on := 4, ground := Ground.guard }], guard := some (4, false) }) (v := .bool false) rfl (by kernel_rfl) (by kernel_rfl) (by kernel_rfl) (fun _ _ _ h => h) (Or.inl ⟨by rfl, ?_⟩) (by assumption) ?_
          · intro w9 hSw
            (try dsimp only at hSw)
            go_simp
          (try simp only [Act.put, List.setIfInBounds_toArray, List.set_cons_zero, List.set_cons_succ])
          refine wpAnyH_take (i := 7) (oi := { dst := some 25, op := Op.move (Operand.tmp 24), type := 4, pos := "held.go:163", after := #[{ on := 6, ground := Ground.data }, { on := 4, ground := Ground.chain }, { on := 4, ground := Ground.guard }], guard := some (4, false) }) (v := .bool false) rfl (by kernel_rfl) (by kernel_rfl) (by kernel_rfl) (fun _ _ _ h => h) (Or.inl ⟨by rfl, ?_⟩) (by assumption) ?_
          · intro w9 hSw
            (try dsimp only at hSw)
            go_simp
          (try simp only [Act.put, List.setIfInBounds_toArray, List.set_cons_zero, List.set_cons_succ])
          refine wpAnyH_take (i := 8) (oi := { dst := some 26, op := Op.move (Operand.tmp 1), type := 44, pos := "held.go:163", after := #[{ on := 7, ground := Ground.guard }], guard := some (7, true) }) (v := undef) rfl (by kernel_rfl) (by kernel_rfl) (by kernel_rfl) (fun _ _ _ h => h) (Or.inr ⟨by rfl, rfl⟩) (by assumption) ?_
          (try simp only [Act.put, List.setIfInBounds_toArray, List.set_cons_zero, List.set_cons_succ])
          refine wpAnyH_take (i := 9) (oi := { dst := some 27, op := Op.move (Operand.tmp 6), type := 3, pos := "held.go:163", after := #[{ on := 7, ground := Ground.guard }], guard := some (7, true) }) (v := undef) rfl (by kernel_rfl) (by kernel_rfl) (by kernel_rfl) (fun _ _ _ h => h) (Or.inr ⟨by rfl, rfl⟩) (by assumption) ?_
          (try simp only [Act.put, List.setIfInBounds_toArray, List.set_cons_zero, List.set_cons_succ])
          refine wpAnyH_take (i := 10) (oi := { dst := some 28, op := Op.binOp BinOp.sub 3 (Operand.tmp 27) (Operand.const (Value.int IntKind.i64 1)) 3, type := 3, pos := "held.go:163", after := #[{ on := 9, ground := Ground.data }, { on := 7, ground := Ground.guard }], guard := some (7, true) }) (v := undef) rfl (by kernel_rfl) (by kernel_rfl) (by kernel_rfl) (fun _ _ _ h => h) (Or.inr ⟨by rfl, rfl⟩) (by assumption) ?_
          (try simp only [Act.put, List.setIfInBounds_toArray, List.set_cons_zero, List.set_cons_succ])
          refine wpAnyH_take (i := 11) (oi := { dst := some 29, op := Op.indexAddr 44 (Operand.tmp 26) (Operand.tmp 28), type := 0, pos := "held.go:163", after := #[{ on := 8, ground := Ground.data }, { on := 10, ground := Ground.data }, { on := 7, ground := Ground.guard }], guard := some (7, true) }) (v := undef) rfl (by kernel_rfl) (by kernel_rfl) (by kernel_rfl) (fun _ _ _ h => h) (Or.inr ⟨by rfl, rfl⟩) (by assumption) ?_
          (try simp only [Act.put, List.setIfInBounds_toArray, List.set_cons_zero, List.set_cons_succ])
          refine wpAnyH_take (i := 12) (oi := { dst := some 30, op := Op.fieldAddr 73 (Operand.tmp 29) 0, type := 0, pos := "held.go:163", after := #[{ on := 11, ground := Ground.data }, { on := 7, ground := Ground.guard }], guard := some (7, true) }) (v := undef) rfl (by kernel_rfl) (by kernel_rfl) (by kernel_rfl) (fun _ _ _ h => h) (Or.inr ⟨by rfl, rfl⟩) (by assumption) ?_
          (try simp only [Act.put, List.setIfInBounds_toArray, List.set_cons_zero, List.set_cons_succ])
          refine wpAnyH_take (i := 13) (oi := { dst := some 31, op := Op.load 9 (Operand.tmp 30), type := 9, pos := "held.go:163", after := #[{ on := 12, ground := Ground.data }, { on := 7, ground := Ground.guard }], guard := some (7, true) }) (v := undef) rfl (by kernel_rfl) (by kernel_rfl) (by kernel_rfl) (fun _ _ _ h => h) (Or.inr ⟨by rfl, rfl⟩) (by assumption) ?_
          (try simp only [Act.put, List.setIfInBounds_toArray, List.set_cons_zero, List.set_cons_succ])
          refine wpAnyH_take (i := 14) (oi := { dst := some 32, op := Op.fieldAddr 73 (Operand.tmp 7) 0, type := 0, pos := "held.go:163", after := #[{ on := 7, ground := Ground.guard }], guard := some (7, true) }) (v := undef) rfl (by kernel_rfl) (by kernel_rfl) (by kernel_rfl) (fun _ _ _ h => h) (Or.inr ⟨by rfl, rfl⟩) (by assumption) ?_
          (try simp only [Act.put, List.setIfInBounds_toArray, List.set_cons_zero, List.set_cons_succ])
          refine wpAnyH_take (i := 15) (oi := { dst := some 33, op := Op.load 9 (Operand.tmp 32), type := 9, pos := "held.go:163", after := #[{ on := 14, ground := Ground.data }, { on := 7, ground := Ground.guard }], guard := some (7, true) }) (v := undef) rfl (by kernel_rfl) (by kernel_rfl) (by kernel_rfl) (fun _ _ _ h => h) (Or.inr ⟨by rfl, rfl⟩) (by assumption) ?_
          (try simp only [Act.put, List.setIfInBounds_toArray, List.set_cons_zero, List.set_cons_succ])
          refine wpAnyH_take (i := 16) (oi := { dst := some 34, op := Op.binOp BinOp.geq 9 (Operand.tmp 31) (Operand.tmp 33) 9, type := 4, pos := "held.go:163", after := #[{ on := 13, ground := Ground.data }, { on := 15, ground := Ground.data }, { on := 7, ground := Ground.guard }], guard := some (7, true) }) (v := undef) rfl (by kernel_rfl) (by kernel_rfl) (by kernel_rfl) (fun _ _ _ h => h) (Or.inr ⟨by rfl, rfl⟩) (by assumption) ?_
          (try simp only [Act.put, List.setIfInBounds_toArray, List.set_cons_zero, List.set_cons_succ])
          refine wpAnyH_take (i := 17) (oi := { dst := some 35, op := Op.pick (Operand.tmp 25) (Operand.tmp 34) (Operand.const (Value.bool false)), type := 4, pos := "held.go:163", after := #[{ on := 7, ground := Ground.data }, { on := 16, ground := Ground.data }, { on := 4, ground := Ground.guard }], guard := some (4, false) }) (v := .bool false) rfl (by kernel_rfl) (by kernel_rfl) (by kernel_rfl) (fun _ _ _ h => h) (Or.inl ⟨by rfl, ?_⟩) (by assumption) ?_
          · intro w9 hSw
            (try dsimp only at hSw)
            go_simp
          (try simp only [Act.put, List.setIfInBounds_toArray, List.set_cons_zero, List.set_cons_succ])
          refine wpAnyH_take (i := 18) (oi := { dst := some 36, op := Op.pick (Operand.tmp 22) (Operand.const (Value.bool true)) (Operand.tmp 35), type := 4, pos := "held.go:163", after := #[{ on := 4, ground := Ground.data }, { on := 17, ground := Ground.data }], guard := none }) (v := .bool false) rfl (by kernel_rfl) (by kernel_rfl) (by kernel_rfl) (fun _ _ _ h => h) (Or.inl ⟨by rfl, ?_⟩) (by assumption) ?_
          · intro w9 hSw
            (try dsimp only at hSw)
            go_simp
          (try simp only [Act.put, List.setIfInBounds_toArray, List.set_cons_zero, List.set_cons_succ])
          refine wpAnyH_done (by kernel_rfl) ?_ _
          go_wp2_with fail
          go_meet
          exact ⟨rfl, (Kept.refl _ _).drew⟩
        · obtain ⟨i', hi'⟩ : ∃ i', i = i' + 1 := ⟨i - 1, by omega⟩
          obtain ⟨bp, kp, ep, ap, mp, cp, ebp, hvp, dp0, dp1, _⟩ := AT.out.at (i := i') (by omega)
          have ebp2 : b = bp := congrArg Addr.block (Option.some.inj ebp)
          subst ebp2
          clear ebp dp1
          have BL : Op.bytesLess kp.toList k.toList = true := H.out.2.2.up i' kp ep k es hvp (by rw [← hi']; exact HV.out)
          have wi : IntKind.i64.wrap ((i : Int) - 1) = (i' : Int) := by rw [IntKind.wrap_i64]; omega
          have j0 : (0 : Int) ≤ (i' : Int) := by omega
          have j1 : (i' : Int) < (m : Int) := by omega
          have ip : 0 < i := by omega
          have ipd : decide (0 < i) = true := decide_eq_true ip
          clear hvp hi'
          refine wp_region_held_drew (S := (fun V => V.cell? ⟨X1, 0, none⟩ = some (.string k) ∧ V.cell? ⟨X1, 1, none⟩ = some (.slice a mm cc) ∧ V.cell? ⟨b, i' * 2, none⟩ = some (.string kp))) (by kernel_rfl) ?_ (fun hHeld => ?_)
          · exact ⟨g0, g1, dp0⟩
          refine wpAnyH_take (i := 0) (oi := { dst := some 18, op := Op.fieldAddr 73 (Operand.tmp 7) 1, type := 0, pos := "held.go:163", after := #[], guard := none }) (v := .pointer (some ⟨X1, 1, none⟩)) rfl (by kernel_rfl) (by kernel_rfl) (by kernel_rfl) (fun _ _ _ h => h) (Or.inl ⟨by rfl, ?_⟩) (by assumption) ?_
          · intro w9 hSw
            (try dsimp only at hSw)
            go_simp
          (try simp only [Act.put, List.setIfInBounds_toArray, List.set_cons_zero, List.set_cons_succ])
          refine wpAnyH_take (i := 1) (oi := { dst := some 19, op := Op.load 48 (Operand.tmp 18), type := 48, pos := "held.go:163", after := #[{ on := 0, ground := Ground.data }], guard := none }) (v := .slice a mm cc) rfl (by kernel_rfl) (by kernel_rfl) (by kernel_rfl) (fun _ _ _ h => h) (Or.inl ⟨by rfl, ?_⟩) (by assumption) ?_
          · intro w9 hSw
            (try dsimp only at hSw)
            go_simp
          (try simp only [Act.put, List.setIfInBounds_toArray, List.set_cons_zero, List.set_cons_succ])
          refine wpAnyH_take (i := 2) (oi := { dst := some 20, op := Op.call { callee := Callee.builtin Builtin.len, args := #[Operand.tmp 19], argTypes := #[48] }, type := 3, pos := "held.go:163", after := #[{ on := 1, ground := Ground.data }], guard := none }) (v := .int .i64 (mm : Int)) rfl (by kernel_rfl) (by kernel_rfl) (by kernel_rfl) (fun _ _ _ h => h) (Or.inl ⟨by rfl, ?_⟩) (by assumption) ?_
          · intro w9 hSw
            (try dsimp only at hSw)
            go_simp
          (try simp only [Act.put, List.setIfInBounds_toArray, List.set_cons_zero, List.set_cons_succ])
          refine wpAnyH_take (i := 3) (oi := { dst := some 21, op := Op.binOp BinOp.eql 3 (Operand.tmp 20) (Operand.const (Value.int IntKind.i64 0)) 3, type := 4, pos := "held.go:163", after := #[{ on := 2, ground := Ground.data }], guard := none }) (v := .bool false) rfl (by kernel_rfl) (by kernel_rfl) (by kernel_rfl) (fun _ _ _ h => h) (Or.inl ⟨by rfl, ?_⟩) (by assumption) ?_
          · intro w9 hSw
            (try dsimp only at hSw)
            go_simp
          (try simp only [Act.put, List.setIfInBounds_toArray, List.set_cons_zero, List.set_cons_succ])
          refine wpAnyH_take (i := 4) (oi := { dst := some 22, op := Op.move (Operand.tmp 21), type := 4, pos := "held.go:163", after := #[{ on := 3, ground := Ground.data }], guard := none }) (v := .bool false) rfl (by kernel_rfl) (by kernel_rfl) (by kernel_rfl) (fun _ _ _ h => h) (Or.inl ⟨by rfl, ?_⟩) (by assumption) ?_
          · intro w9 hSw
            (try dsimp only at hSw)
            go_simp
          (try simp only [Act.put, List.setIfInBounds_toArray, List.set_cons_zero, List.set_cons_succ])
          refine wpAnyH_take (i := 5) (oi := { dst := some 23, op := Op.move (Operand.tmp 6), type := 3, pos := "held.go:163", after := #[{ on := 4, ground := Ground.guard }], guard := some (4, false) }) (v := .int .i64 (i : Int)) rfl (by kernel_rfl) (by kernel_rfl) (by kernel_rfl) (fun _ _ _ h => h) (Or.inl ⟨by rfl, ?_⟩) (by assumption) ?_
          · intro w9 hSw
            (try dsimp only at hSw)
            go_simp
          (try simp only [Act.put, List.setIfInBounds_toArray, List.set_cons_zero, List.set_cons_succ])
          refine wpAnyH_take (i := 6) (oi := { dst := some 24, op := Op.binOp BinOp.gtr 3 (Operand.tmp 23) (Operand.const (Value.int IntKind.i64 0)) 3, type := 4, pos := "held.go:163", after := #[{ on := 5, ground := Ground.data }, { on := 4, ground := Ground.guard }], guard := some (4, false) }) (v := .bool true) rfl (by kernel_rfl) (by kernel_rfl) (by kernel_rfl) (fun _ _ _ h => h) (Or.inl ⟨by rfl, ?_⟩) (by assumption) ?_
          · intro w9 hSw
            (try dsimp only at hSw)
            go_simp
          (try simp only [Act.put, List.setIfInBounds_toArray, List.set_cons_zero, List.set_cons_succ])
          refine wpAnyH_take (i := 7) (oi := { dst := some 25, op := Op.move (Operand.tmp 24), type := 4, pos := "held.go:163", after := #[{ on := 6, ground := Ground.data }, { on := 4, ground := Ground.chain }, { on := 4, ground := Ground.guard }], guard := some (4, false) }) (v := .bool true) rfl (by kernel_rfl) (by kernel_rfl) (by kernel_rfl) (fun _ _ _ h => h) (Or.inl ⟨by rfl, ?_⟩) (by assumption) ?_
          · intro w9 hSw
            (try dsimp only at hSw)
            go_simp
          (try simp only [Act.put, List.setIfInBounds_toArray, List.set_cons_zero, List.set_cons_succ])
          refine wpAnyH_take (i := 8) (oi := { dst := some 26, op := Op.move (Operand.tmp 1), type := 44, pos := "held.go:163", after := #[{ on := 7, ground := Ground.guard }], guard := some (7, true) }) (v := .slice (some ⟨b, 0, none⟩) m e) rfl (by kernel_rfl) (by kernel_rfl) (by kernel_rfl) (fun _ _ _ h => h) (Or.inl ⟨by rfl, ?_⟩) (by assumption) ?_
          · intro w9 hSw
            (try dsimp only at hSw)
            go_simp
          (try simp only [Act.put, List.setIfInBounds_toArray, List.set_cons_zero, List.set_cons_succ])
          refine wpAnyH_take (i := 9) (oi := { dst := some 27, op := Op.move (Operand.tmp 6), type := 3, pos := "held.go:163", after := #[{ on := 7, ground := Ground.guard }], guard := some (7, true) }) (v := .int .i64 (i : Int)) rfl (by kernel_rfl) (by kernel_rfl) (by kernel_rfl) (fun _ _ _ h => h) (Or.inl ⟨by rfl, ?_⟩) (by assumption) ?_
          · intro w9 hSw
            (try dsimp only at hSw)
            go_simp
          (try simp only [Act.put, List.setIfInBounds_toArray, List.set_cons_zero, List.set_cons_succ])
          refine wpAnyH_take (i := 10) (oi := { dst := some 28, op := Op.binOp BinOp.sub 3 (Operand.tmp 27) (Operand.const (Value.int IntKind.i64 1)) 3, type := 3, pos := "held.go:163", after := #[{ on := 9, ground := Ground.data }, { on := 7, ground := Ground.guard }], guard := some (7, true) }) (v := .int .i64 (i' : Int)) rfl (by kernel_rfl) (by kernel_rfl) (by kernel_rfl) (fun _ _ _ h => h) (Or.inl ⟨by rfl, ?_⟩) (by assumption) ?_
          · intro w9 hSw
            (try dsimp only at hSw)
            go_simp
          (try simp only [Act.put, List.setIfInBounds_toArray, List.set_cons_zero, List.set_cons_succ])
          refine wpAnyH_take (i := 11) (oi := { dst := some 29, op := Op.indexAddr 44 (Operand.tmp 26) (Operand.tmp 28), type := 0, pos := "held.go:163", after := #[{ on := 8, ground := Ground.data }, { on := 10, ground := Ground.data }, { on := 7, ground := Ground.guard }], guard := some (7, true) }) (v := .pointer (some ⟨b, i' * 2, none⟩)) rfl (by kernel_rfl) (by kernel_rfl) (by kernel_rfl) (fun _ _ _ h => h) (Or.inl ⟨by rfl, ?_⟩) (by assumption) ?_
          · intro w9 hSw
            (try dsimp only at hSw)
            go_simp
          (try simp only [Act.put, List.setIfInBounds_toArray, List.set_cons_zero, List.set_cons_succ])
          refine wpAnyH_take (i := 12) (oi := { dst := some 30, op := Op.fieldAddr 73 (Operand.tmp 29) 0, type := 0, pos := "held.go:163", after := #[{ on := 11, ground := Ground.data }, { on := 7, ground := Ground.guard }], guard := some (7, true) }) (v := .pointer (some ⟨b, i' * 2, none⟩)) rfl (by kernel_rfl) (by kernel_rfl) (by kernel_rfl) (fun _ _ _ h => h) (Or.inl ⟨by rfl, ?_⟩) (by assumption) ?_
          · intro w9 hSw
            (try dsimp only at hSw)
            go_simp
          (try simp only [Act.put, List.setIfInBounds_toArray, List.set_cons_zero, List.set_cons_succ])
          refine wpAnyH_take (i := 13) (oi := { dst := some 31, op := Op.load 9 (Operand.tmp 30), type := 9, pos := "held.go:163", after := #[{ on := 12, ground := Ground.data }, { on := 7, ground := Ground.guard }], guard := some (7, true) }) (v := .string kp) rfl (by kernel_rfl) (by kernel_rfl) (by kernel_rfl) (fun _ _ _ h => h) (Or.inl ⟨by rfl, ?_⟩) (by assumption) ?_
          · intro w9 hSw
            (try dsimp only at hSw)
            go_simp
          (try simp only [Act.put, List.setIfInBounds_toArray, List.set_cons_zero, List.set_cons_succ])
          refine wpAnyH_take (i := 14) (oi := { dst := some 32, op := Op.fieldAddr 73 (Operand.tmp 7) 0, type := 0, pos := "held.go:163", after := #[{ on := 7, ground := Ground.guard }], guard := some (7, true) }) (v := .pointer (some ⟨X1, 0, none⟩)) rfl (by kernel_rfl) (by kernel_rfl) (by kernel_rfl) (fun _ _ _ h => h) (Or.inl ⟨by rfl, ?_⟩) (by assumption) ?_
          · intro w9 hSw
            (try dsimp only at hSw)
            go_simp
          (try simp only [Act.put, List.setIfInBounds_toArray, List.set_cons_zero, List.set_cons_succ])
          refine wpAnyH_take (i := 15) (oi := { dst := some 33, op := Op.load 9 (Operand.tmp 32), type := 9, pos := "held.go:163", after := #[{ on := 14, ground := Ground.data }, { on := 7, ground := Ground.guard }], guard := some (7, true) }) (v := .string k) rfl (by kernel_rfl) (by kernel_rfl) (by kernel_rfl) (fun _ _ _ h => h) (Or.inl ⟨by rfl, ?_⟩) (by assumption) ?_
          · intro w9 hSw
            (try dsimp only at hSw)
            go_simp
          (try simp only [Act.put, List.setIfInBounds_toArray, List.set_cons_zero, List.set_cons_succ])
          refine wpAnyH_take (i := 16) (oi := { dst := some 34, op := Op.binOp BinOp.geq 9 (Operand.tmp 31) (Operand.tmp 33) 9, type := 4, pos := "held.go:163", after := #[{ on := 13, ground := Ground.data }, { on := 15, ground := Ground.data }, { on := 7, ground := Ground.guard }], guard := some (7, true) }) (v := .bool false) rfl (by kernel_rfl) (by kernel_rfl) (by kernel_rfl) (fun _ _ _ h => h) (Or.inl ⟨by rfl, ?_⟩) (by assumption) ?_
          · intro w9 hSw
            (try dsimp only at hSw)
            go_simp
          (try simp only [Act.put, List.setIfInBounds_toArray, List.set_cons_zero, List.set_cons_succ])
          refine wpAnyH_take (i := 17) (oi := { dst := some 35, op := Op.pick (Operand.tmp 25) (Operand.tmp 34) (Operand.const (Value.bool false)), type := 4, pos := "held.go:163", after := #[{ on := 7, ground := Ground.data }, { on := 16, ground := Ground.data }, { on := 4, ground := Ground.guard }], guard := some (4, false) }) (v := .bool false) rfl (by kernel_rfl) (by kernel_rfl) (by kernel_rfl) (fun _ _ _ h => h) (Or.inl ⟨by rfl, ?_⟩) (by assumption) ?_
          · intro w9 hSw
            (try dsimp only at hSw)
            go_simp
          (try simp only [Act.put, List.setIfInBounds_toArray, List.set_cons_zero, List.set_cons_succ])
          refine wpAnyH_take (i := 18) (oi := { dst := some 36, op := Op.pick (Operand.tmp 22) (Operand.const (Value.bool true)) (Operand.tmp 35), type := 4, pos := "held.go:163", after := #[{ on := 4, ground := Ground.data }, { on := 17, ground := Ground.data }], guard := none }) (v := .bool false) rfl (by kernel_rfl) (by kernel_rfl) (by kernel_rfl) (fun _ _ _ h => h) (Or.inl ⟨by rfl, ?_⟩) (by assumption) ?_
          · intro w9 hSw
            (try dsimp only at hSw)
            go_simp
          (try simp only [Act.put, List.setIfInBounds_toArray, List.set_cons_zero, List.set_cons_succ])
          refine wpAnyH_done (by kernel_rfl) ?_ _
          go_wp2_with fail
          go_meet
          exact ⟨rfl, (Kept.refl _ _).drew⟩
      case rest =>
        obtain ⟨rfl, Q⟩ := hcut
        obtain ⟨wx, hwx⟩ : ∃ wx : World, wx = wc := ⟨_, rfl⟩
        rw [← hwx] at Q ⊢
        clear hwx
        have P1 : Hid (wx.heap[X1]? = some (.cells #[.string k, .slice a mm cc] 73 (0, 0)) ∧ Kept (fun _ => False) w wx ∧ EntRd wx a mm cc es) := ⟨Q.out.get J.out.1 (fun z => z), J.out.2.1.and0 Q.out, J.out.2.2.k0 Q.out⟩
        clear Q g0 g1
        have g1 := cell_blk P1.out.1 1 (v := .slice a mm cc) rfl
        have T0 : Hid (Kept (fun _ => False) wx wx) := Kept.refl _ _
        go_wp2_with fail
        go_loopw [4, 5, 8, 9, 10, 40] (fun _ t _ _ _ z wr => ∃ (j : Nat), t = .int .i64 ((ct + j : Nat) : Int) ∧ z = .int .i64 (j : Int) ∧ j ≤ mm ∧ Hid (Kept (fun _ => False) wx wr)) (fun _ _ _ _ _ z _ => mm - (intOf z).toNat)
        case atStart => exact ⟨0, rfl, rfl, Nat.zero_le _, T0⟩
        case round =>
          obtain ⟨j, rfl, rfl, hj, T⟩ := hrel
          obtain ⟨wy, hwy⟩ : ∃ wy, wy = wr := ⟨_, rfl⟩
          rw [← hwy] at T ⊢
          clear hwy T0
          by_cases hjl : j < mm
          · have j1 : (j : Int) < (mm : Int) := by omega
            have j0 : (0 : Int) ≤ (j : Int) := by omega
            obtain ⟨b2, x, y, f, g, l, a2, m2, c2, rfl, hv2, d0, d1, d2, d3, d4, rd2⟩ := (P1.out.2.2.k0 T.out).at hjl
            obtain ⟨x0, hx0, hvx⟩ := H.out.2.2.find i k es j (entV x y f g l) HV.out hv2
            have hxn : x0 < n := by
              obtain ⟨z, _⟩ := List.getElem?_eq_some_iff.1 hvx
              rw [← VL.out]
              exact z
            obtain ⟨W2, hW2⟩ : ∃ W2, W2 = wy.alloc (.cells #[.int .i64 x, .int .i64 y, .bool f, .bool g, .slice a2 m2 c2] 34) := ⟨_, rfl⟩
            obtain ⟨X2, hX2⟩ : ∃ X2, X2 = wy.heap.size := ⟨_, rfl⟩
            have K2 : Kept (fun _ => False) wy W2 := by rw [hW2]; exact k0_alloc _ _
            have J2 : Hid (W2.heap[X2]? = some (.cells #[.int .i64 x, .int .i64 y, .bool f, .bool g, .slice a2 m2 c2] 34 (0, 0)) ∧ Kept (fun _ => False) wx W2 ∧ Reads W2 a2 m2 c2 l ∧ RTab b0 W2 sb delta p n c L vs) := ⟨by rw [hW2, hX2]; exact heap_alloc_new _ _, T.out.and0 K2, rd2.kept K2 (fun _ _ z => z), H.out.1.k0 (P1.out.2.1.and0 (T.out.and0 K2))⟩
            have EW2 : Hid (W2 = wy.alloc (.cells #[.int .i64 x, .int .i64 y, .bool f, .bool g, .slice a2 m2 c2] 34) ∧ X2 = wy.heap.size) := ⟨hW2, hX2⟩
            have HX : Hid (plc vs k (x, y) 0 = (x0 : Int) ∧ vs[x0]? = some (k, (x, y), f, g, l) ∧ es[j]? = some (entV x y f g l)) := ⟨hx0, hvx, hv2⟩
            have RP : Hid (Calls Tryz.prog 28 #[.pointer (some ⟨sb, 0, none⟩), .string k, .agg #[.int .i64 x, .int .i64 y]] W2 fun o w' => o = .returned (.int .i64 (x0 : Int)) ∧ Kept (fun _ => False) W2 w') := by
              have := rPlace b0 sb delta p n c L vs k x y W2 J2.out.2.2.2
              rw [HX.out.1] at this
              exact this
            clear hW2 hX2 K2 hx0 hvx hv2 rd2
            go_upto_region 10 with fail
            rw [← EW2.out.1, ← EW2.out.2]
            clear d0 d1 d2 d3 d4
            have g0 := cell_blk (J2.out.2.1.get P1.out.1 (fun z => z)) 0 (v := .string k) rfl
            have z0 := cell_blk J2.out.1 0 (v := .int .i64 x) rfl
            have z1 := cell_blk J2.out.1 1 (v := .int .i64 y) rfl
            go_wp2_with fail
            refine RP.out.mono ?_
            rintro o w3 ⟨rfl, K3⟩
            have P3 : Hid (Kept (fun _ => False) wx w3 ∧ RTab b0 w3 sb delta p n c L vs ∧ Reads w3 a2 m2 c2 l ∧ w3.heap[X2]? = some (.cells #[.int .i64 x, .int .i64 y, .bool f, .bool g, .slice a2 m2 c2] 34 (0, 0)) ∧ w3.heap[X1]? = some (.cells #[.string k, .slice (some ⟨b2, 0, none⟩) mm cc] 73 (0, 0)) ∧ EntRd w3 (some ⟨b2, 0, none⟩) mm cc es) := ⟨J2.out.2.1.and0 K3, J2.out.2.2.2.k0 K3, J2.out.2.2.1.kept K3 (fun _ _ z => z), K3.get J2.out.1 (fun z => z), (J2.out.2.1.and0 K3).get P1.out.1 (fun z => z), P1.out.2.2.k0 (J2.out.2.1.and0 K3)⟩
            clear K3 g0 z0 z1 RP
            obtain ⟨g0, k9, u9, v9, f9, h9, a3, m3, c3, l9, ep, hv9, rd3, r0, r1, r2, r3, r4, r5⟩ := P3.out.2.1.rl.at hxn
            have ee := hv9.symm.trans HX.out.2.1
            injection ee with ee
            injection ee with ek ee
            injection ee with et ee
            injection et with eu ev
            injection ee with ef ee
            injection ee with eh el
            subst ek eu ev ef eh el ep
            clear hv9 r0
            have RE : Hid (∀ V, Kept (fun _ => False) w3 V → Calls Tryz.prog 27 #[.agg #[.int .i64 u9, .int .i64 v9, .bool f9, .bool h9, .slice a3 m3 c3], .agg #[.int .i64 u9, .int .i64 v9, .bool f9, .bool h9, .slice a2 m2 c2]] V fun o w' => o = .returned (.bool true) ∧ Kept (fun _ => False) V w') := by
              intro V K
              have := sEntry u9 v9 f9 h9 a3 m3 c3 l9 u9 v9 f9 h9 a2 m2 c2 l9 V (rd3.kept K (fun _ _ z => z)) (P3.out.2.2.1.kept K (fun _ _ z => z))
              rw [decide_eq_true rfl] at this
              exact this
            clear rd3
            have s1 := cell_blk P3.out.2.1.blk 1 (v := .slice (some ⟨g0, 0, none⟩) n c) rfl
            have z0 := cell_blk P3.out.2.2.2.1 0 (v := .int .i64 u9) rfl
            have z1 := cell_blk P3.out.2.2.2.1 1 (v := .int .i64 v9) rfl
            have z2 := cell_blk P3.out.2.2.2.1 2 (v := .bool f9) rfl
            have z3 := cell_blk P3.out.2.2.2.1 3 (v := .bool h9) rfl
            have z4 := cell_blk P3.out.2.2.2.1 4 (v := .slice a2 m2 c2) rfl
            have x1 : (x0 : Int) < (n : Int) := by omega
            have x2 : (0 : Int) ≤ (x0 : Int) := by omega
            have x3 : ¬ (x0 : Int) < 0 := by omega
            have hct1 : ct + j + 1 ≤ n := by omega
            go_upto_region 11 with fail
            by_cases hj0 : j = 0
            · subst hj0
              refine wp_region_held_drew (S := (fun V => V.cell? ⟨sb, 1, none⟩ = some (.slice (some ⟨g0, 0, none⟩) n c) ∧ V.cell? ⟨g0, x0 * 6 + 1, none⟩ = some (.int .i64 u9) ∧ V.cell? ⟨g0, x0 * 6 + 2, none⟩ = some (.int .i64 v9) ∧ V.cell? ⟨g0, x0 * 6 + 3, none⟩ = some (.bool f9) ∧ V.cell? ⟨g0, x0 * 6 + 4, none⟩ = some (.bool h9) ∧ V.cell? ⟨g0, x0 * 6 + 5, none⟩ = some (.slice a3 m3 c3) ∧ V.cell? ⟨X2, 0, none⟩ = some (.int .i64 u9) ∧ V.cell? ⟨X2, 1, none⟩ = some (.int .i64 v9) ∧ V.cell? ⟨X2, 2, none⟩ = some (.bool f9) ∧ V.cell? ⟨X2, 3, none⟩ = some (.bool h9) ∧ V.cell? ⟨X2, 4, none⟩ = some (.slice a2 m2 c2))) (by kernel_rfl) ?_ (fun hHeld => ?_)
              · exact ⟨s1, r1, r2, r3, r4, r5, z0, z1, z2, z3, z4⟩
              refine wpAnyH_take (i := 0) (oi := { dst := some 51, op := Op.move (Operand.tmp 10), type := 3, pos := "held.go:168", after := #[], guard := none }) (v := .int .i64 (x0 : Int)) rfl (by kernel_rfl) (by kernel_rfl) (by kernel_rfl) (fun _ _ _ h => h) (Or.inl ⟨by rfl, ?_⟩) (by assumption) ?_
              · intro w9 hSw
                (try dsimp only at hSw)
                go_simp
              (try simp only [Act.put, List.setIfInBounds_toArray, List.set_cons_zero, List.set_cons_succ])
              refine wpAnyH_take (i := 1) (oi := { dst := some 52, op := Op.binOp BinOp.lss 3 (Operand.tmp 51) (Operand.const (Value.int IntKind.i64 0)) 3, type := 4, pos := "held.go:168", after := #[{ on := 0, ground := Ground.data }], guard := none }) (v := .bool false) rfl (by kernel_rfl) (by kernel_rfl) (by kernel_rfl) (fun _ _ _ h => h) (Or.inl ⟨by rfl, ?_⟩) (by assumption) ?_
              · intro w9 hSw
                (try dsimp only at hSw)
                go_simp
              (try simp only [Act.put, List.setIfInBounds_toArray, List.set_cons_zero, List.set_cons_succ])
              refine wpAnyH_take (i := 2) (oi := { dst := some 53, op := Op.move (Operand.tmp 52), type := 4, pos := "held.go:168", after := #[{ on := 1, ground := Ground.data }], guard := none }) (v := .bool false) rfl (by kernel_rfl) (by kernel_rfl) (by kernel_rfl) (fun _ _ _ h => h) (Or.inl ⟨by rfl, ?_⟩) (by assumption) ?_
              · intro w9 hSw
                (try dsimp only at hSw)
                go_simp
              (try simp only [Act.put, List.setIfInBounds_toArray, List.set_cons_zero, List.set_cons_succ])
              refine wpAnyH_take (i := 3) (oi := { dst := some 54, op := Op.move (Operand.tmp 0), type := 66, pos := "held.go:168", after := #[{ on := 2, ground := Ground.guard }], guard := some (2, false) }) (v := .pointer (some ⟨sb, 0, none⟩)) rfl (by kernel_rfl) (by kernel_rfl) (by kernel_rfl) (fun _ _ _ h => h) (Or.inl ⟨by rfl, ?_⟩) (by assumption) ?_
              · intro w9 hSw
                (try dsimp only at hSw)
                go_simp
              (try simp only [Act.put, List.setIfInBounds_toArray, List.set_cons_zero, List.set_cons_succ])
              refine wpAnyH_take (i := 4) (oi := { dst := some 55, op := Op.nilCheck (Operand.tmp 54), type := 0, pos := "held.go:168", after := #[{ on := 3, ground := Ground.data }, { on := 2, ground := Ground.guard }], guard := some (2, false) }) (v := .pointer (some ⟨sb, 0, none⟩)) rfl (by kernel_rfl) (by kernel_rfl) (by kernel_rfl) (fun _ _ _ h => h) (Or.inl ⟨by rfl, ?_⟩) (by assumption) ?_
              · intro w9 hSw
                (try dsimp only at hSw)
                go_simp
              (try simp only [Act.put, List.setIfInBounds_toArray, List.set_cons_zero, List.set_cons_succ])
              refine wpAnyH_take (i := 5) (oi := { dst := some 56, op := Op.fieldAddr 29 (Operand.tmp 55) 1, type := 0, pos := "held.go:168", after := #[{ on := 4, ground := Ground.data }, { on := 2, ground := Ground.guard }], guard := some (2, false) }) (v := .pointer (some ⟨sb, 1, none⟩)) rfl (by kernel_rfl) (by kernel_rfl) (by kernel_rfl) (fun _ _ _ h => h) (Or.inl ⟨by rfl, ?_⟩) (by assumption) ?_
              · intro w9 hSw
                (try dsimp only at hSw)
                go_simp
              (try simp only [Act.put, List.setIfInBounds_toArray, List.set_cons_zero, List.set_cons_succ])
              refine wpAnyH_take (i := 6) (oi := { dst := some 57, op := Op.load 27 (Operand.tmp 56), type := 27, pos := "held.go:168", after := #[{ on := 5, ground := Ground.data }, { on := 2, ground := Ground.guard }], guard := some (2, false) }) (v := .slice (some ⟨g0, 0, none⟩) n c) rfl (by kernel_rfl) (by kernel_rfl) (by kernel_rfl) (fun _ _ _ h => h) (Or.inl ⟨by rfl, ?_⟩) (by assumption) ?_
              · intro w9 hSw
                (try dsimp only at hSw)
                go_simp
              (try simp only [Act.put, List.setIfInBounds_toArray, List.set_cons_zero, List.set_cons_succ])
              refine wpAnyH_take (i := 7) (oi := { dst := some 58, op := Op.move (Operand.tmp 10), type := 3, pos := "held.go:168", after := #[{ on := 2, ground := Ground.guard }], guard := some (2, false) }) (v := .int .i64 (x0 : Int)) rfl (by kernel_rfl) (by kernel_rfl) (by kernel_rfl) (fun _ _ _ h => h) (Or.inl ⟨by rfl, ?_⟩) (by assumption) ?_
              · intro w9 hSw
                (try dsimp only at hSw)
                go_simp
              (try simp only [Act.put, List.setIfInBounds_toArray, List.set_cons_zero, List.set_cons_succ])
              refine wpAnyH_take (i := 8) (oi := { dst := some 59, op := Op.indexAddr 27 (Operand.tmp 57) (Operand.tmp 58), type := 0, pos := "held.go:168", after := #[{ on := 6, ground := Ground.data }, { on := 7, ground := Ground.data }, { on := 2, ground := Ground.guard }], guard := some (2, false) }) (v := .pointer (some ⟨g0, x0 * 6, none⟩)) rfl (by kernel_rfl) (by kernel_rfl) (by kernel_rfl) (fun _ _ _ h => h) (Or.inl ⟨by rfl, ?_⟩) (by assumption) ?_
              · intro w9 hSw
                (try dsimp only at hSw)
                go_simp
              (try simp only [Act.put, List.setIfInBounds_toArray, List.set_cons_zero, List.set_cons_succ])
              refine wpAnyH_take (i := 9) (oi := { dst := some 60, op := Op.fieldAddr 70 (Operand.tmp 59) 1, type := 0, pos := "held.go:168", after := #[{ on := 8, ground := Ground.data }, { on := 2, ground := Ground.guard }], guard := some (2, false) }) (v := .pointer (some ⟨g0, x0 * 6 + 1, none⟩)) rfl (by kernel_rfl) (by kernel_rfl) (by kernel_rfl) (fun _ _ _ h => h) (Or.inl ⟨by rfl, ?_⟩) (by assumption) ?_
              · intro w9 hSw
                (try dsimp only at hSw)
                go_simp
              (try simp only [Act.put, List.setIfInBounds_toArray, List.set_cons_zero, List.set_cons_succ])
              refine wpAnyH_take (i := 10) (oi := { dst := some 61, op := Op.load 34 (Operand.tmp 60), type := 34, pos := "held.go:168", after := #[{ on := 9, ground := Ground.data }, { on := 2, ground := Ground.guard }], guard := some (2, false) }) (v := .agg #[.int .i64 u9, .int .i64 v9, .bool f9, .bool h9, .slice a3 m3 c3]) rfl (by kernel_rfl) (by kernel_rfl) (by kernel_rfl) (fun _ _ _ h => h) (Or.inl ⟨by rfl, ?_⟩) (by assumption) ?_
              · intro w9 hSw
                (try dsimp only at hSw)
                go_simp
              (try simp only [Act.put, List.setIfInBounds_toArray, List.set_cons_zero, List.set_cons_succ])
              refine wpAnyH_take (i := 11) (oi := { dst := some 62, op := Op.load 34 (Operand.tmp 9), type := 34, pos := "held.go:168", after := #[{ on := 2, ground := Ground.guard }], guard := some (2, false) }) (v := .agg #[.int .i64 u9, .int .i64 v9, .bool f9, .bool h9, .slice a2 m2 c2]) rfl (by kernel_rfl) (by kernel_rfl) (by kernel_rfl) (fun _ _ _ h => h) (Or.inl ⟨by rfl, ?_⟩) (by assumption) ?_
              · intro w9 hSw
                (try dsimp only at hSw)
                go_simp
              (try simp only [Act.put, List.setIfInBounds_toArray, List.set_cons_zero, List.set_cons_succ])
              refine wpAnyH_ready (rs := [12]) (by kernel_rfl) (by simp) ?_
              refine AllReadyH.cons (o := { dst := some 63, op := Op.call { callee := Callee.value (Operand.func 27), args := #[Operand.tmp 61, Operand.tmp 62], argTypes := #[34, 34] }, type := 4, pos := "held.go:168", after := #[{ on := 10, ground := Ground.data }, { on := 11, ground := Ground.data }, { on := 2, ground := Ground.chain }, { on := 2, ground := Ground.guard }], guard := some (2, false) }) rfl (fun K hK => ?_) AllReadyH.nil
              go_simp
              refine (RE.out w3.drew ((Kept.refl _ _).drew)).mono ?_
              rintro o w4 ⟨rfl, K4⟩
              have K5 : Hid (Kept (fun _ => False) w3 w4) := ((Kept.refl _ _).drew).and0 K4
              replace s1 := K5.out.cell s1 (fun z => z)
              replace r1 := K5.out.cell r1 (fun z => z)
              replace r2 := K5.out.cell r2 (fun z => z)
              replace r3 := K5.out.cell r3 (fun z => z)
              replace r4 := K5.out.cell r4 (fun z => z)
              replace r5 := K5.out.cell r5 (fun z => z)
              replace z0 := K5.out.cell z0 (fun z => z)
              replace z1 := K5.out.cell z1 (fun z => z)
              replace z2 := K5.out.cell z2 (fun z => z)
              replace z3 := K5.out.cell z3 (fun z => z)
              replace z4 := K5.out.cell z4 (fun z => z)
              clear K4
              refine hK.out _ _ ?_ (fun hHeld => ?_)
              · exact ⟨s1, r1, r2, r3, r4, r5, z0, z1, z2, z3, z4⟩
              clear hK K
              (try simp only [Act.put, List.setIfInBounds_toArray, List.set_cons_zero, List.set_cons_succ])
              refine wpAnyH_take (i := 13) (oi := { dst := some 64, op := Op.unOp UnOp.not 4 (Operand.tmp 63), type := 4, pos := "held.go:168", after := #[{ on := 12, ground := Ground.data }, { on := 2, ground := Ground.guard }], guard := some (2, false) }) (v := .bool false) rfl (by kernel_rfl) (by kernel_rfl) (by kernel_rfl) (fun _ _ _ h => h) (Or.inl ⟨by rfl, ?_⟩) (by assumption) ?_
              · intro w9 hSw
                (try dsimp only at hSw)
                go_simp
              (try simp only [Act.put, List.setIfInBounds_toArray, List.set_cons_zero, List.set_cons_succ])
              refine wpAnyH_take (i := 14) (oi := { dst := some 65, op := Op.pick (Operand.tmp 53) (Operand.const (Value.bool true)) (Operand.tmp 64), type := 4, pos := "held.go:168", after := #[{ on := 2, ground := Ground.data }, { on := 13, ground := Ground.data }], guard := none }) (v := .bool false) rfl (by kernel_rfl) (by kernel_rfl) (by kernel_rfl) (fun _ _ _ h => h) (Or.inl ⟨by rfl, ?_⟩) (by assumption) ?_
              · intro w9 hSw
                (try dsimp only at hSw)
                go_simp
              (try simp only [Act.put, List.setIfInBounds_toArray, List.set_cons_zero, List.set_cons_succ])
              refine wpAnyH_take (i := 15) (oi := { dst := some 66, op := Op.move (Operand.tmp 65), type := 4, pos := "held.go:168", after := #[{ on := 14, ground := Ground.data }, { on := 12, ground := Ground.chain }], guard := none }) (v := .bool false) rfl (by kernel_rfl) (by kernel_rfl) (by kernel_rfl) (fun _ _ _ h => h) (Or.inl ⟨by rfl, ?_⟩) (by assumption) ?_
              · intro w9 hSw
                (try dsimp only at hSw)
                go_simp
              (try simp only [Act.put, List.setIfInBounds_toArray, List.set_cons_zero, List.set_cons_succ])
              refine wpAnyH_take (i := 16) (oi := { dst := some 67, op := Op.move (Operand.tmp 8), type := 3, pos := "held.go:168", after := #[{ on := 15, ground := Ground.guard }], guard := some (15, false) }) (v := .int .i64 0) rfl (by kernel_rfl) (by kernel_rfl) (by kernel_rfl) (fun _ _ _ h => h) (Or.inl ⟨by rfl, ?_⟩) (by assumption) ?_
              · intro w9 hSw
                (try dsimp only at hSw)
                go_simp
              (try simp only [Act.put, List.setIfInBounds_toArray, List.set_cons_zero, List.set_cons_succ])
              refine wpAnyH_take (i := 17) (oi := { dst := some 68, op := Op.binOp BinOp.gtr 3 (Operand.tmp 67) (Operand.const (Value.int IntKind.i64 0)) 3, type := 4, pos := "held.go:168", after := #[{ on := 16, ground := Ground.data }, { on := 15, ground := Ground.guard }], guard := some (15, false) }) (v := .bool false) rfl (by kernel_rfl) (by kernel_rfl) (by kernel_rfl) (fun _ _ _ h => h) (Or.inl ⟨by rfl, ?_⟩) (by assumption) ?_
              · intro w9 hSw
                (try dsimp only at hSw)
                go_simp
              (try simp only [Act.put, List.setIfInBounds_toArray, List.set_cons_zero, List.set_cons_succ])
              refine wpAnyH_take (i := 18) (oi := { dst := some 69, op := Op.move (Operand.tmp 68), type := 4, pos := "held.go:168", after := #[{ on := 17, ground := Ground.data }, { on := 15, ground := Ground.chain }, { on := 15, ground := Ground.guard }], guard := some (15, false) }) (v := .bool false) rfl (by kernel_rfl) (by kernel_rfl) (by kernel_rfl) (fun _ _ _ h => h) (Or.inl ⟨by rfl, ?_⟩) (by assumption) ?_
              · intro w9 hSw
                (try dsimp only at hSw)
                go_simp
              (try simp only [Act.put, List.setIfInBounds_toArray, List.set_cons_zero, List.set_cons_succ])
              refine wpAnyH_take (i := 19) (oi := { dst := some 70, op := Op.fieldAddr 73 (Operand.tmp 7) 1, type := 0, pos := "held.go:168", after := #[{ on := 18, ground := Ground.guard }], guard := some (18, true) }) (v := undef) rfl (by kernel_rfl) (by kernel_rfl) (by kernel_rfl) (fun _ _ _ h => h) (Or.inr ⟨by rfl, rfl⟩) (by assumption) ?_
              (try simp only [Act.put, List.setIfInBounds_toArray, List.set_cons_zero, List.set_cons_succ])
              refine wpAnyH_take (i := 20) (oi := { dst := some 71, op := Op.load 48 (Operand.tmp 70), type := 48, pos := "held.go:168", after := #[{ on := 19, ground := Ground.data }, { on := 18, ground := Ground.guard }], guard := some (18, true) }) (v := undef) rfl (by kernel_rfl) (by kernel_rfl) (by kernel_rfl) (fun _ _ _ h => h) (Or.inr ⟨by rfl, rfl⟩) (by assumption) ?_
              (try simp only [Act.put, List.setIfInBounds_toArray, List.set_cons_zero, List.set_cons_succ])
              refine wpAnyH_take (i := 21) (oi := { dst := some 72, op := Op.move (Operand.tmp 8), type := 3, pos := "held.go:168", after := #[{ on := 18, ground := Ground.guard }], guard := some (18, true) }) (v := undef) rfl (by kernel_rfl) (by kernel_rfl) (by kernel_rfl) (fun _ _ _ h => h) (Or.inr ⟨by rfl, rfl⟩) (by assumption) ?_
              (try simp only [Act.put, List.setIfInBounds_toArray, List.set_cons_zero, List.set_cons_succ])
              refine wpAnyH_take (i := 22) (oi := { dst := some 73, op := Op.binOp BinOp.sub 3 (Operand.tmp 72) (Operand.const (Value.int IntKind.i64 1)) 3, type := 3, pos := "held.go:168", after := #[{ on := 21, ground := Ground.data }, { on := 18, ground := Ground.guard }], guard := some (18, true) }) (v := undef) rfl (by kernel_rfl) (by kernel_rfl) (by kernel_rfl) (fun _ _ _ h => h) (Or.inr ⟨by rfl, rfl⟩) (by assumption) ?_
              (try simp only [Act.put, List.setIfInBounds_toArray, List.set_cons_zero, List.set_cons_succ])
              refine wpAnyH_take (i := 23) (oi := { dst := some 74, op := Op.indexAddr 48 (Operand.tmp 71) (Operand.tmp 73), type := 0, pos := "held.go:168", after := #[{ on := 20, ground := Ground.data }, { on := 22, ground := Ground.data }, { on := 18, ground := Ground.guard }], guard := some (18, true) }) (v := undef) rfl (by kernel_rfl) (by kernel_rfl) (by kernel_rfl) (fun _ _ _ h => h) (Or.inr ⟨by rfl, rfl⟩) (by assumption) ?_
              (try simp only [Act.put, List.setIfInBounds_toArray, List.set_cons_zero, List.set_cons_succ])
              refine wpAnyH_take (i := 24) (oi := { dst := some 75, op := Op.fieldAddr 34 (Operand.tmp 74) 0, type := 0, pos := "held.go:168", after := #[{ on := 23, ground := Ground.data }, { on := 18, ground := Ground.guard }], guard := some (18, true) }) (v := undef) rfl (by kernel_rfl) (by kernel_rfl) (by kernel_rfl) (fun _ _ _ h => h) (Or.inr ⟨by rfl, rfl⟩) (by assumption) ?_
              (try simp only [Act.put, List.setIfInBounds_toArray, List.set_cons_zero, List.set_cons_succ])
              refine wpAnyH_take (i := 25) (oi := { dst := some 76, op := Op.load 31 (Operand.tmp 75), type := 31, pos := "held.go:168", after := #[{ on := 24, ground := Ground.data }, { on := 18, ground := Ground.guard }], guard := some (18, true) }) (v := undef) rfl (by kernel_rfl) (by kernel_rfl) (by kernel_rfl) (fun _ _ _ h => h) (Or.inr ⟨by rfl, rfl⟩) (by assumption) ?_
              (try simp only [Act.put, List.setIfInBounds_toArray, List.set_cons_zero, List.set_cons_succ])
              refine wpAnyH_take (i := 26) (oi := { dst := some 77, op := Op.fieldAddr 34 (Operand.tmp 9) 0, type := 0, pos := "held.go:168", after := #[{ on := 18, ground := Ground.guard }], guard := some (18, true) }) (v := undef) rfl (by kernel_rfl) (by kernel_rfl) (by kernel_rfl) (fun _ _ _ h => h) (Or.inr ⟨by rfl, rfl⟩) (by assumption) ?_
              (try simp only [Act.put, List.setIfInBounds_toArray, List.set_cons_zero, List.set_cons_succ])
              refine wpAnyH_take (i := 27) (oi := { dst := some 78, op := Op.load 31 (Operand.tmp 77), type := 31, pos := "held.go:168", after := #[{ on := 26, ground := Ground.data }, { on := 18, ground := Ground.guard }], guard := some (18, true) }) (v := undef) rfl (by kernel_rfl) (by kernel_rfl) (by kernel_rfl) (fun _ _ _ h => h) (Or.inr ⟨by rfl, rfl⟩) (by assumption) ?_
              (try simp only [Act.put, List.setIfInBounds_toArray, List.set_cons_zero, List.set_cons_succ])
              refine wpAnyH_take (i := 28) (oi := { dst := some 79, op := Op.call { callee := Callee.value (Operand.func 29), args := #[Operand.tmp 76, Operand.tmp 78], argTypes := #[31, 31] }, type := 4, pos := "held.go:168", after := #[{ on := 25, ground := Ground.data }, { on := 27, ground := Ground.data }, { on := 18, ground := Ground.chain }, { on := 18, ground := Ground.guard }], guard := some (18, true) }) (v := undef) rfl (by kernel_rfl) (by kernel_rfl) (by kernel_rfl) (fun _ _ _ h => h) (Or.inr ⟨by rfl, rfl⟩) (by assumption) ?_
              (try simp only [Act.put, List.setIfInBounds_toArray, List.set_cons_zero, List.set_cons_succ])
              refine wpAnyH_take (i := 29) (oi := { dst := some 80, op := Op.unOp UnOp.not 4 (Operand.tmp 79), type := 4, pos := "held.go:168", after := #[{ on := 28, ground := Ground.data }, { on := 18, ground := Ground.guard }], guard := some (18, true) }) (v := undef) rfl (by kernel_rfl) (by kernel_rfl) (by kernel_rfl) (fun _ _ _ h => h) (Or.inr ⟨by rfl, rfl⟩) (by assumption) ?_
              (try simp only [Act.put, List.setIfInBounds_toArray, List.set_cons_zero, List.set_cons_succ])
              refine wpAnyH_take (i := 30) (oi := { dst := some 81, op := Op.pick (Operand.tmp 69) (Operand.tmp 80) (Operand.const (Value.bool false)), type := 4, pos := "held.go:168", after := #[{ on := 18, ground := Ground.data }, { on := 29, ground := Ground.data }, { on := 15, ground := Ground.guard }], guard := some (15, false) }) (v := .bool false) rfl (by kernel_rfl) (by kernel_rfl) (by kernel_rfl) (fun _ _ _ h => h) (Or.inl ⟨by rfl, ?_⟩) (by assumption) ?_
              · intro w9 hSw
                (try dsimp only at hSw)
                go_simp
              (try simp only [Act.put, List.setIfInBounds_toArray, List.set_cons_zero, List.set_cons_succ])
              refine wpAnyH_take (i := 31) (oi := { dst := some 82, op := Op.pick (Operand.tmp 66) (Operand.const (Value.bool true)) (Operand.tmp 81), type := 4, pos := "held.go:168", after := #[{ on := 15, ground := Ground.data }, { on := 30, ground := Ground.data }], guard := none }) (v := .bool false) rfl (by kernel_rfl) (by kernel_rfl) (by kernel_rfl) (fun _ _ _ h => h) (Or.inl ⟨by rfl, ?_⟩) (by assumption) ?_
              · intro w9 hSw
                (try dsimp only at hSw)
                go_simp
              (try simp only [Act.put, List.setIfInBounds_toArray, List.set_cons_zero, List.set_cons_succ])
              refine wpAnyH_done (by kernel_rfl) ?_ _
              have G : Hid (Kept (fun _ => False) wx w4) := P3.out.1.and0 K5.out
              go_wp2_with fail
              go_roundw
              case rel => exact ⟨0 + 1, by go_num, by go_num, by omega, G⟩
              case measure => simp [intOf] <;> omega
            · obtain ⟨j', hj'⟩ : ∃ j', j = j' + 1 := ⟨j - 1, by omega⟩
              obtain ⟨b3, px, py, pf, pg, pl, pa, pm, pc, ebp, hvp, v0, v1, _, _, _, _⟩ := P3.out.2.2.2.2.2.at (i := j') (by omega)
              have ebp2 : b2 = b3 := congrArg Addr.block (Option.some.inj ebp)
              subst ebp2
              clear ebp
              have LT : tc (px, py) (u9, v9) < 0 := H.out.2.2.rise i _ es j' (entV px py pf pg pl) (entV u9 v9 f9 h9 l9) HV.out hvp (by rw [← hj']; exact HX.out.2.2)
              have RB : Hid (∀ V : World, Calls Tryz.prog 29 #[.agg #[.int .i64 px, .int .i64 py], .agg #[.int .i64 u9, .int .i64 v9]] V fun o w' => o = .returned (.bool true) ∧ Kept (fun _ => False) V w') := by
                have := rBelow px py u9 v9
                rw [decide_eq_true LT] at this
                exact this
              have h1 := cell_blk P3.out.2.2.2.2.1 1 (v := .slice (some ⟨b2, 0, none⟩) mm cc) rfl
              have wj : IntKind.i64.wrap ((j : Int) - 1) = (j' : Int) := by rw [IntKind.wrap_i64]; omega
              have q0 : (0 : Int) ≤ (j' : Int) := by omega
              have q1 : (j' : Int) < (mm : Int) := by omega
              have jp : 0 < j := by omega
              have jpd : decide (0 < j) = true := decide_eq_true jp
              clear hvp LT hj'
              go_region_held3 (fun V => V.cell? ⟨sb, 1, none⟩ = some (.slice (some ⟨g0, 0, none⟩) n c) ∧ V.cell? ⟨g0, x0 * 6 + 1, none⟩ = some (.int .i64 u9) ∧ V.cell? ⟨g0, x0 * 6 + 2, none⟩ = some (.int .i64 v9) ∧ V.cell? ⟨g0, x0 * 6 + 3, none⟩ = some (.bool f9) ∧ V.cell? ⟨g0, x0 * 6 + 4, none⟩ = some (.bool h9) ∧ V.cell? ⟨g0, x0 * 6 + 5, none⟩ = some (.slice a3 m3 c3) ∧ V.cell? ⟨X2, 0, none⟩ = some (.int .i64 u9) ∧ V.cell? ⟨X2, 1, none⟩ = some (.int .i64 v9) ∧ V.cell? ⟨X2, 2, none⟩ = some (.bool f9) ∧ V.cell? ⟨X2, 3, none⟩ = some (.bool h9) ∧ V.cell? ⟨X2, 4, none⟩ = some (.slice a2 m2 c2) ∧ V.cell? ⟨X1, 1, none⟩ = some (.slice (some ⟨b2, 0, none⟩) mm cc) ∧ V.cell? ⟨b2, j' * 5, none⟩ = some (.int .i64 px) ∧ V.cell? ⟨b2, j' * 5 + 1, none⟩ = some (.int .i64 py)) (first | go_keep)
                (first
                  | (go_at_call 27; refine (RE.out w3.drew ((Kept.refl _ _).drew)).mono ?_; rintro o w4 ⟨rfl, K4⟩
                     have K5 : Hid (Kept (fun _ => False) w3 w4) := ((Kept.refl _ _).drew).and0 K4
                     have s1 := K5.out.cell s1 (fun z => z)
                     have r1 := K5.out.cell r1 (fun z => z)
                     have r2 := K5.out.cell r2 (fun z => z)
                     have r3 := K5.out.cell r3 (fun z => z)
                     have r4 := K5.out.cell r4 (fun z => z)
                     have r5 := K5.out.cell r5 (fun z => z)
                     have z0 := K5.out.cell z0 (fun z => z)
                     have z1 := K5.out.cell z1 (fun z => z)
                     have z2 := K5.out.cell z2 (fun z => z)
                     have z3 := K5.out.cell z3 (fun z => z)
                     have z4 := K5.out.cell z4 (fun z => z)
                     have h1 := K5.out.cell h1 (fun z => z)
                     have v0 := K5.out.cell v0 (fun z => z)
                     have v1 := K5.out.cell v1 (fun z => z)
                     clear K4)
                  | (go_at_call 29; refine (RB.out _).mono ?_; rintro o w5 ⟨rfl, K6⟩
                     have K7 : Hid (Kept (fun _ => False) w3 w5) := K5.out.and0 K6
                     have s1 := K6.cell s1 (fun z => z)
                     have r1 := K6.cell r1 (fun z => z)
                     have r2 := K6.cell r2 (fun z => z)
                     have r3 := K6.cell r3 (fun z => z)
                     have r4 := K6.cell r4 (fun z => z)
                     have r5 := K6.cell r5 (fun z => z)
                     have z0 := K6.cell z0 (fun z => z)
                     have z1 := K6.cell z1 (fun z => z)
                     have z2 := K6.cell z2 (fun z => z)
                     have z3 := K6.cell z3 (fun z => z)
                     have z4 := K6.cell z4 (fun z => z)
                     have h1 := K6.cell h1 (fun z => z)
                     have v0 := K6.cell v0 (fun z => z)
                     have v1 := K6.cell v1 (fun z => z)
                     clear K6)
                  | fail)
              have G : Hid (∀ V, Kept (fun _ => False) w5 V → Kept (fun _ => False) wx V) := fun V K => (P3.out.1.and0 K7.out).and0 K
              go_wp2_with fail
              go_roundw
              case rel => exact ⟨j + 1, by go_num, by go_num, by omega, G.out _ (by first | exact Kept.refl _ _ | exact (Kept.refl _ _).drew | exact (Kept.refl _ _).drewN _)⟩
              case measure => simp [intOf] <;> omega
          · have j1 : ¬ (j : Int) < (mm : Int) := by omega
            have je : j = mm := by omega
            subst je
            have G : Hid (ct + j = cntA (avs.take (i + 1)) ∧ Kept (fun _ => False) w wy) := ⟨CT.out.symm, P1.out.2.1.and0 T.out⟩
            go_wp2_with fail
            go_roundw
            case rel => exact ⟨i + 1, ct + j, rfl, by go_num, by omega, ctn, G⟩
            case measure => simp [intOf] <;> omega
    · have i1 : ¬ (i : Int) < (m : Int) := by omega
      have G : Hid (Kept (fun _ => False) w wq) := S.out.2
      have d1 := cell_blk (S.out.2.get H.out.1.blk (fun z => z)) 1 (v := .slice p n c) rfl
      have ce : ct = n := by
        have := S.out.1
        rw [List.take_of_length_le (by rw [H.out.2.1.len]; omega), H.out.2.2.total, VL.out] at this
        exact this
      subst ce
      go_wp2_with fail
      go_ret
      exact ⟨by first | rfl | simp, G.out⟩
end Go.Proofs.YtojepeefphbekabGreat
