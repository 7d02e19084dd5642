import Derived.Test.YtojepeefphbekaaGreatPPlaceJ
import Derived.Test.YtojepeefphbekaaGreatInv
import Derived.Deep.CutRange
namespace Go.Proofs.YtojepeefphbekaaGreat
open Go.RowKit 

theorem Tryz.info37c : (Tryz.prog.info? 37).map (fun i => (i.zero, i.size, i.bytes)) = some (some (.agg #[.int .i64 0, .int .i64 0]), 2, 16) := by kernel_rfl
theorem src_tag {w : World} {b : Nat} {x y : Int} (h : w.heap[b]? = some (.cells #[.int .i64 x, .int .i64 y] 37 (0, 0))) : Src Tryz.prog 2 117 (.slice (some ⟨b, 0, none⟩) 1 1) 1 (tcells [(x, y)]) w :=
  Src.ofSlice w Tryz.underlying117 ⟨b, 0, none⟩ 1 1 (tcells [(x, y)]) rfl (fun j u hj => by
    rw [Addr.add_none, Nat.zero_add, cell_of_row w b j _ 37 (0, 0) h]
    simpa [tcells] using hj) (fun v hv => by simp [tcells] at hv; rcases hv with rfl | rfl <;> rfl)
theorem tcells_set : ∀ (L : List (Int × Int)) (j : Nat) (_ : j < L.length) (t : Int × Int), tcells (L.set j t) = ((tcells L).set (j * 2) (.int .i64 t.1)).set (j * 2 + 1) (.int .i64 t.2)
  | [], j, h, t => by simp at h
  | a :: L, 0, _, t => by simp [tcells]
  | a :: L, j + 1, h, t => by
    have ih := tcells_set L j (by simpa using h) t
    have e : ∀ (b : Int × Int) (M : List (Int × Int)), tcells (b :: M) = [.int .i64 b.1, .int .i64 b.2] ++ tcells M := fun b M => by simp [tcells]
    rw [List.set_cons_succ, e, ih, e, show (j + 1) * 2 = j * 2 + 2 by omega, show j * 2 + 2 + 1 = (j * 2 + 1) + 2 by omega]
    rfl
theorem own_tg {b0 : Nat} {w : World} {p : Option Addr} {n c : Nat} {F : List (Int × Int)} (ow : w.ownsRow b0 37 2 (.slice p n c) n (tcells F)) (hl : F.length = n) {i : Nat} (hi : i < n) : ∃ b, p = some ⟨b, 0, none⟩ ∧ w.cell? ⟨b, i * 2, none⟩ = some (.int .i64 (F.getD i (0, 0)).1) ∧ w.cell? ⟨b, i * 2 + 1, none⟩ = some (.int .i64 (F.getD i (0, 0)).2) := by
  rcases ow.2 with ⟨_, hn⟩ | ⟨b, cap, cur, z, _⟩
  · omega
  · have z : Value.slice p n c = .slice (some ⟨b, 0, none⟩) n cap := z
    injection z with z1 _ z3
    subst z1
    subst z3
    have hc := ow.cells (g := b) rfl
    obtain ⟨q1, q2⟩ := tcells_get F i (by omega)
    have h1 := hc (i * 2) _ q1
    have h2 := hc (i * 2 + 1) _ q2
    rw [Addr.add_none, Nat.zero_add] at h1 h2
    exact ⟨b, rfl, h1, h2⟩
/-- Falling tags. -/
def Falls (F : List (Int × Int)) : Prop := F.Pairwise fun a b => ¬ tc a b < 0
/-- One more tag on its way to its place. -/
structure FW (A B : List (Int × Int)) (x : Int × Int) : Prop where
  fall : Falls (A ++ B)
  low : ∀ b ∈ B, tc b x < 0
theorem FW.done {A B : List (Int × Int)} {x : Int × Int} (h : FW A B x) (e : ∀ a ∈ A, ¬ tc a x < 0) : Falls (A ++ x :: B) := by
  unfold Falls at *
  have f := h.fall
  rw [Falls, List.pairwise_append] at f
  rw [List.pairwise_append, List.pairwise_cons]
  refine ⟨f.1, ⟨fun b hb => tc_asym _ _ (h.low b hb), f.2.1⟩, fun a ha b hb => ?_⟩
  rcases List.mem_cons.1 hb with rfl | hb
  · exact e a ha
  · exact f.2.2 a ha b hb
theorem FW.stop {A B : List (Int × Int)} {x a : Int × Int} (h : FW (A ++ [a]) B x) (e : ¬ tc a x < 0) : Falls (A ++ [a] ++ x :: B) := by
  refine h.done (fun b hb => ?_)
  rcases List.mem_append.1 hb with z | z
  · have f := h.fall
    unfold Falls at f
    rw [List.pairwise_append] at f
    have f2 := f.1
    rw [List.pairwise_append] at f2
    have := f2.2.2 b z a (by simp)
    intro q
    rw [tc_lt] at *
    omega
  · rw [List.mem_singleton.1 z]
    exact e
theorem FW.next {A B : List (Int × Int)} {x a : Int × Int} (h : FW (A ++ [a]) B x) (e : tc a x < 0) : FW A (a :: B) x := by
  refine ⟨by have := h.fall; rw [List.append_assoc] at this; exact this, fun b hb => ?_⟩
  rcases List.mem_cons.1 hb with rfl | hb
  · exact e
  · exact h.low b hb
/-- The finalized tags of a key, in the rows' order. -/
def fins0 (key : ByteArray) (vs : List Uv) : List (Int × Int) := (vs.filter fun v => decide (v.1 = key) && v.2.2.1).map fun v => v.2.1
theorem fins0_snoc (key : ByteArray) (vs : List Uv) (v : Uv) : fins0 key (vs ++ [v]) = fins0 key vs ++ (if (decide (v.1 = key) && v.2.2.1) = true then [v.2.1] else []) := by
  unfold fins0
  rw [List.filter_append, List.map_append]
  congr 1
  cases h : (decide (v.1 = key) && v.2.2.1) <;> simp [h]
/-- The round's state. -/
structure Fzs (w wr : World) (p : Option Addr) (n c : Nat) (F : List (Int × Int)) (key : ByteArray) (vs : List Uv) : Prop where
  len : F.length = n
  row : wr.ownsRow w.heap.size 37 2 (.slice p n c) n (tcells F)
  fall : Falls F
  mem : F.Perm (fins0 key vs)
  kept : Kept (fun _ => False) w wr
theorem Fzs.few {w wr : World} {p : Option Addr} {n c : Nat} {F : List (Int × Int)} {key : ByteArray} {vs : List Uv} (h : Fzs w wr p n c F key vs) : n ≤ vs.length := by
  rw [← h.len, h.mem.length_eq]
  unfold fins0
  rw [List.length_map]
  exact List.length_filter_le _ _
set_option maxRecDepth 100000 in
set_option maxHeartbeats 8000000 in
/-- finalized. -/
theorem rFinalized (b0 tb : Nat) (delta : Int) (p : Option Addr) (n c : Nat) (L : List Ut) (vs : List Uv) (key : ByteArray) (w : World) (h : RTab b0 w tb delta p n c L vs) (hn : n ≤ 1099511627776) : Calls Tryz.prog 76 #[.pointer (some ⟨tb, 0, none⟩), .string key] w fun o w' => ∃ q m e, o = .returned (.slice q m e) ∧ Hid (∃ F, Fzs w w' q m e F key vs) := by
  have H : Hid (RTab b0 w tb delta p n c L vs) := h
  have rm := own_room h.row
  unfold maxLen at rm
  obtain ⟨rm1, rm2⟩ := rm
  have c1 := cell_blk h.blk 1 (v := .slice p n c) rfl
  have S0 : Hid (∃ F, Fzs w w none 0 0 F key (vs.take 0)) := ⟨[], rfl, ⟨rfl, .inl ⟨rfl, rfl⟩⟩, List.Pairwise.nil, List.Perm.refl _, Kept.refl _ _⟩
  clear h
  go_enter Tryz.func76, Tryz.ntmps76
  go_wp2_with fail
  go_loopw [5, 7, 8, 9, 15] (fun l _ _ _ z wr => ∃ (i m e : Nat) (q : Option Addr), l = .slice q m e ∧ z = .int .i64 (i : Int) ∧ i ≤ n ∧ Hid (∃ F, Fzs w wr q m e F key (vs.take i))) (fun _ _ _ _ z _ => n - (intOf z).toNat)
  case atStart => exact ⟨0, 0, 0, none, rfl, rfl, Nat.zero_le _, S0⟩
  case round =>
    obtain ⟨i, m, e, q, rfl, rfl, hi, S⟩ := hrel
    obtain ⟨wq, hwq⟩ : ∃ wq, wq = wr := ⟨_, rfl⟩
    rw [← hwq] at S ⊢
    clear hwq S0 c1
    by_cases hlt : i < n
    · have i1 : (i : Int) < (n : Int) := by omega
      obtain ⟨F, fs⟩ := S.out
      have R := H.out.k0 fs.kept
      obtain ⟨b, k, u, v, f, g, a, ml, ql, rfl, hv, e0, e1, e2, e3, e4, e5⟩ := own_rw R.row R.len hlt
      obtain ⟨hi2, uv⟩ := along_at R.rd hv
      have mf : m ≤ i := by have := fs.few; rw [List.length_take] at this; omega
      have TK2 : vs.take (i + 1) = vs.take i ++ [vs[i]] := by rw [List.take_add_one, List.getElem?_eq_getElem hi2]; rfl
      have ek : vs[i].1 = k := uv.key.symm
      have et : vs[i].2.1 = (u, v) := uv.ent.tag.symm
      have ef : vs[i].2.2.1 = f := uv.ent.fin.symm
      have NX0 : fins0 key (vs.take (i + 1)) = fins0 key (vs.take i) ++ (if (decide (k = key) && f) = true then [(u, v)] else []) := by
        rw [TK2, fins0_snoc, ek, et, ef]
      have NX : Hid (fins0 key (vs.take (i + 1)) = fins0 key (vs.take i) ++ (if (decide (k = key) && f) = true then [(u, v)] else [])) := NX0
      obtain ⟨W1, hW1⟩ : ∃ W1, W1 = wq.alloc (.cells #[.string k, .int .i64 u, .int .i64 v, .bool f, .bool g, .slice a ml ql] 109) := ⟨_, rfl⟩
      obtain ⟨X1, hX1⟩ : ∃ X1, X1 = wq.heap.size := ⟨_, rfl⟩
      have J : Hid (W1.heap[X1]? = some (.cells #[.string k, .int .i64 u, .int .i64 v, .bool f, .bool g, .slice a ml ql] 109 (0, 0)) ∧ Fzs w W1 q m e F key (vs.take i)) := by
        have K1 : Kept (fun _ => False) wq W1 := by rw [hW1]; exact k0_alloc _ _
        exact ⟨by rw [hW1, hX1]; exact heap_alloc_new _ _, ⟨fs.len, K1.owns fs.row (fun _ _ z => z), fs.fall, fs.mem, fs.kept.and0 K1⟩⟩
      have EW1 : Hid (W1 = wq.alloc (.cells #[.string k, .int .i64 u, .int .i64 v, .bool f, .bool g, .slice a ml ql] 109) ∧ X1 = wq.heap.size) := ⟨hW1, hX1⟩
      clear hW1 hX1 R hv hi2 uv fs S TK2 ek et ef NX0
      go_upto_region 5 with fail
      rw [← EW1.out.1, ← EW1.out.2]
      clear e0 e1 e2 e3 e4 e5
      have g0 := cell_blk J.out.1 0 (v := .string k) rfl
      have g1 := cell_blk J.out.1 1 (v := .int .i64 u) rfl
      have g2 := cell_blk J.out.1 2 (v := .int .i64 v) rfl
      have g3 := cell_blk J.out.1 3 (v := .bool f) rfl
      by_cases hk : k = key
      · subst hk
        cases f
        · have S2 : Hid (∃ F, Fzs w W1 q m e F k (vs.take (i + 1))) := by
            refine ⟨F, J.out.2.len, J.out.2.row, J.out.2.fall, ?_, J.out.2.kept⟩
            rw [NX.out]
            simpa using J.out.2.mem
          go_wp2_with fail
          go_roundw
          case rel => exact ⟨i + 1, m, e, q, rfl, by go_num, by omega, S2⟩
          case measure => simp [intOf] <;> omega
        · have NY : Hid (fins0 k (vs.take (i + 1)) = fins0 k (vs.take i) ++ [(u, v)]) := by
            have q := NX.out
            rw [if_pos (by simp)] at q
            exact q
          have BL : Hid (m + 1 ≤ maxLen ∧ ((m + 1) + (m + 1) / 4 + 192) * 16 ≤ 281474976710656) := by
            unfold maxLen
            exact ⟨by omega, by omega⟩
          go_upto_region 7 with
            (first
              | (at_builtin; refine wpList_append_all _ rfl (.tmp 29) (.tmp 33) 117 37 117 _ 2 16 rfl Tryz.underlying117 Tryz.info37c rfl w.heap.size (.slice q m e) m (tcells F) rfl ((k0_alloc W1 _).owns J.out.2.row (fun _ _ z => z)) _ 1 (tcells [(u, v)]) rfl (src_tag (heap_alloc_new W1 _)) BL.out.1 BL.out.2 (Nat.le_trans J.out.2.kept.size (k0_alloc W1 _).size) ?_; intro p9 c9 w9 ho hg hn')
              | fail)
          have G : Hid (∃ A B, FW A B (u, v) ∧ A ++ B = F ∧ A.length = m ∧ w9.ownsRow w.heap.size 37 2 (.slice p9 (m + 1) c9) (m + 1) (tcells (A ++ (u, v) :: B)) ∧ Kept (fun _ => False) w w9) := by
            have KG : Kept (fun k => blockOf q = some k) W1 w9 := ((Kept.refl (fun k => blockOf q = some k) W1).alloc _).grown hg.out (fun k _ z => by rw [blockOf_own] at z; exact z)
            refine ⟨F, [], ⟨by rw [List.append_nil]; exact J.out.2.fall, fun b hb => (by cases hb)⟩, List.append_nil F, J.out.2.len, by rw [tcells_append]; exact ho.out, J.out.2.kept.trans KG (fun j hj z => ?_)⟩
            have := (own_lt J.out.2.row j z).1
            omega
          clear ho hg hn'
          obtain ⟨N, hN⟩ : ∃ N, N = m + 1 := ⟨_, rfl⟩
          have G' : Hid (∃ A B, FW A B (u, v) ∧ A ++ B = F ∧ A.length = m ∧ w9.ownsRow w.heap.size 37 2 (.slice p9 N c9) N (tcells (A ++ (u, v) :: B)) ∧ Kept (fun _ => False) w w9) := by rw [hN]; exact G.out
          rw [← hN]
          have HN : Hid (N = m + 1) := hN
          have wN : IntKind.i64.wrap ((N : Int) - 1) = (m : Int) := by rw [IntKind.wrap_i64]; omega
          clear G hN
          go_wp2_with fail
          go_loopw [8, 9] (fun z _ wr => ∃ (j : Nat), z = .int .i64 (j : Int) ∧ j ≤ m ∧ Hid (∃ A B, FW A B (u, v) ∧ A ++ B = F ∧ A.length = j ∧ wr.ownsRow w.heap.size 37 2 (.slice p9 N c9) N (tcells (A ++ (u, v) :: B)) ∧ Kept (fun _ => False) w wr)) (fun z _ _ => (intOf z).toNat)
          case atStart => exact ⟨m, rfl, Nat.le_refl _, G'⟩
          case round =>
            obtain ⟨j, rfl, hj, S⟩ := hrel
            obtain ⟨wy, hwy⟩ : ∃ wy, wy = wr := ⟨_, rfl⟩
            rw [← hwy] at S ⊢
            clear G' hwy
            by_cases hj0 : j = 0
            · subst hj0
              have S2 : Hid (∃ F, Fzs w wy p9 N c9 F k (vs.take (i + 1))) := by
                obtain ⟨A, B, fw, ab, al, ow, kp⟩ := S.out
                have al : A = [] := List.eq_nil_of_length_eq_zero al
                subst al
                refine ⟨_, ?_, ow, fw.done (fun a ha => (by cases ha)), ?_, kp⟩
                · have := congrArg List.length ab
                  rw [List.length_append, J.out.2.len] at this
                  rw [List.length_append, List.length_cons, HN.out]
                  omega
                · rw [NY.out]
                  have p1 : ([] ++ (u, v) :: B).Perm (B ++ [(u, v)]) := List.perm_append_comm (l₁ := [(u, v)]) (l₂ := B)
                  have e2 : B = F := ab
                  rw [e2] at p1 ⊢
                  exact p1.trans (J.out.2.mem.append_right _)
              go_upto_region 8 with fail
              go_quiet (fail)
              have S3 : Hid (∃ F, Fzs w (wy.drewN nq) p9 N c9 F k (vs.take (i + 1))) := by
                obtain ⟨F2, f2⟩ := S2.out
                have K : Kept (fun _ => False) wy (wy.drewN nq) := k0_of (below_dN (Below.refl _ _) nq)
                exact ⟨F2, f2.len, K.owns f2.row (fun _ _ z => z), f2.fall, f2.mem, f2.kept.and0 K⟩
              go_wp2_with fail
              go_roundw
              case rel => exact ⟨i + 1, N, c9, p9, rfl, by go_num, by omega, S3⟩
              case measure => simp [intOf] <;> omega
            · obtain ⟨j', hj'⟩ : ∃ j', j = j' + 1 := ⟨j - 1, by omega⟩
              have HJ : Hid (j = j' + 1) := hj'
              have j1 : (0 : Int) < (j : Int) := by omega
              have jn : 0 < j := by omega
              have jd : decide (0 < j) = true := decide_eq_true jn

              have j2 : (j : Int) < (N : Int) := by have := HN.out; omega
              have j3 : (0 : Int) ≤ (j : Int) := by omega
              have j4 : (0 : Int) ≤ (j' : Int) := by omega
              have j5 : (j' : Int) < (N : Int) := by have := HN.out; omega
              have wj : IntKind.i64.wrap ((j : Int) - 1) = (j' : Int) := by rw [IntKind.wrap_i64]; omega
              obtain ⟨A, B, fw, ab, al, ow, kp⟩ := S.out
              obtain ⟨A', ⟨au, av⟩, rfl⟩ : ∃ A' z, A = A' ++ [z] := by
                rcases List.eq_nil_or_concat A with rfl | ⟨A', z, e⟩
                · exact absurd al.symm hj0
                · exact ⟨A', z, by rw [e, List.concat_eq_append]⟩
              have al2 : A'.length = j' := by rw [List.length_append, HJ.out] at al; simpa using al
              have F1 : (A' ++ [(au, av)] ++ (u, v) :: B).length = N := by
                have := congrArg List.length ab
                rw [List.length_append, J.out.2.len] at this
                rw [List.length_append, List.length_cons, HN.out]
                omega
              obtain ⟨gb, rfl, d0, d1⟩ := own_tg ow F1 (i := j') (by omega)
              obtain ⟨gb', eg, d2, d3⟩ := own_tg ow F1 (i := j) (by omega)
              have eg2 : gb = gb' := congrArg Addr.block (Option.some.inj eg)
              subst eg2
              have v0 : (A' ++ [(au, av)] ++ (u, v) :: B).getD j' (0, 0) = (au, av) := by
                rw [List.getD_eq_getElem?_getD, List.append_assoc, List.getElem?_append_right (by omega), al2, Nat.sub_self]
                rfl
              have v1 : (A' ++ [(au, av)] ++ (u, v) :: B).getD j (0, 0) = (u, v) := by
                rw [List.getD_eq_getElem?_getD, List.getElem?_append_right (by omega), al, Nat.sub_self]
                rfl
              rw [v0] at d0 d1
              rw [v1] at d2 d3
              have Z : Hid (FW (A' ++ [(au, av)]) B (u, v) ∧ A' ++ [(au, av)] ++ B = F ∧ A'.length = j' ∧ wy.ownsRow w.heap.size 37 2 (.slice (some ⟨gb, 0, none⟩) N c9) N (tcells (A' ++ [(au, av)] ++ (u, v) :: B)) ∧ Kept (fun _ => False) w wy ∧ (A' ++ [(au, av)] ++ (u, v) :: B).length = N ∧ j = j' + 1) := ⟨fw, ab, al2, ow, kp, F1, hj'⟩
              clear fw ab al al2 ow kp F1 eg v0 v1 S hj'
              dsimp only at d0 d1 d2 d3
              have rr := own_room Z.out.2.2.2.1
              unfold maxLen at rr
              obtain ⟨rr1, rr2⟩ := rr
              go_upto_region 8 with fail
              obtain ⟨bb, hbb⟩ : ∃ bb, bb = decide (tc (au, av) (u, v) < 0) := ⟨_, rfl⟩
              have RB : Hid (∀ V : World, Calls Tryz.prog 77 #[.agg #[.int .i64 au, .int .i64 av], .agg #[.int .i64 u, .int .i64 v]] V fun o w' => o = .returned (.bool bb) ∧ Kept (fun _ => False) V w') := by rw [hbb]; exact fun V => rBelow au av u v V
              have HB : Hid (bb = decide (tc (au, av) (u, v) < 0)) := hbb
              clear hbb
              cases bb
              · go_region_held3 (fun V => V.cell? ⟨gb, j' * 2, none⟩ = some (.int .i64 au) ∧ V.cell? ⟨gb, j' * 2 + 1, none⟩ = some (.int .i64 av) ∧ V.cell? ⟨gb, j * 2, none⟩ = some (.int .i64 u) ∧ V.cell? ⟨gb, j * 2 + 1, none⟩ = some (.int .i64 v)) (first | go_keep)
                  (first
                    | (go_at_call 77; refine (RB.out wy.drew).mono ?_; rintro o w2 ⟨rfl, K2⟩
                       have K3 : Hid (Kept (fun _ => False) wy w2) := ((Kept.refl _ _).drew).and0 K2
                       have d0 := K3.out.cell d0 (fun z => z)
                       have d1 := K3.out.cell d1 (fun z => z)
                       have d2 := K3.out.cell d2 (fun z => z)
                       have d3 := K3.out.cell d3 (fun z => z)
                       clear K2)
                    | fail)
                have S3 : Hid (∀ w3, Kept (fun _ => False) w2 w3 → ∃ F, Fzs w w3 (some ⟨gb, 0, none⟩) N c9 F k (vs.take (i + 1))) := by
                  intro w3 Kx
                  have K := K3.out.and0 Kx
                  have nb : ¬ tc (au, av) (u, v) < 0 := of_decide_eq_false HB.out.symm
                  refine ⟨_, Z.out.2.2.2.2.2.1, K.owns Z.out.2.2.2.1 (fun _ _ z => z), Z.out.1.stop nb, ?_, Z.out.2.2.2.2.1.and0 K⟩
                  rw [NY.out]
                  have p1 : (A' ++ [(au, av)] ++ (u, v) :: B).Perm (A' ++ [(au, av)] ++ B ++ [(u, v)]) := by
                    rw [List.append_assoc _ B]
                    exact List.Perm.append_left _ (List.perm_append_comm (l₁ := [(u, v)]) (l₂ := B))
                  rw [Z.out.2.1] at p1
                  exact p1.trans (J.out.2.mem.append_right _)
                go_wp2_with fail
                go_roundw
                case rel => exact ⟨i + 1, N, c9, _, rfl, by go_num, by omega, S3.out _ (by first | exact Kept.refl _ _ | exact (Kept.refl _ _).drew | exact (Kept.refl _ _).drew.drew | exact (Kept.refl _ _).drewN _)⟩
                case measure => simp [intOf] <;> omega
              · go_region_held3 (fun V => V.cell? ⟨gb, j' * 2, none⟩ = some (.int .i64 au) ∧ V.cell? ⟨gb, j' * 2 + 1, none⟩ = some (.int .i64 av) ∧ V.cell? ⟨gb, j * 2, none⟩ = some (.int .i64 u) ∧ V.cell? ⟨gb, j * 2 + 1, none⟩ = some (.int .i64 v)) (first | go_keep)
                  (first
                    | (go_at_call 77; refine (RB.out wy.drew).mono ?_; rintro o w2 ⟨rfl, K2⟩
                       have K3 : Hid (Kept (fun _ => False) wy w2) := ((Kept.refl _ _).drew).and0 K2
                       have d0 := K3.out.cell d0 (fun z => z)
                       have d1 := K3.out.cell d1 (fun z => z)
                       have d2 := K3.out.cell d2 (fun z => z)
                       have d3 := K3.out.cell d3 (fun z => z)
                       clear K2)
                    | fail)
                have ow2 := K3.out.owns Z.out.2.2.2.1 (fun _ _ z => z)
                obtain ⟨W3, hW3⟩ : ∃ W3, W3 = w2.alloc (.cells #[.int .i64 u, .int .i64 v] 37) := ⟨_, rfl⟩
                obtain ⟨X3, hX3⟩ : ∃ X3, X3 = w2.heap.size := ⟨_, rfl⟩
                have Q3 : Hid (W3.heap[X3]? = some (.cells #[.int .i64 u, .int .i64 v] 37 (0, 0)) ∧ W3.ownsRow w.heap.size 37 2 (.slice (some ⟨gb, 0, none⟩) N c9) N (tcells (A' ++ [(au, av)] ++ (u, v) :: B)) ∧ Kept (fun _ => False) w W3 ∧ gb ≠ X3 ∧ w.heap.size ≤ gb) := by
                  have K4 : Kept (fun _ => False) w2 W3 := by rw [hW3]; exact k0_alloc _ _
                  have gl := own_lt ow2 gb rfl
                  exact ⟨by rw [hW3, hX3]; exact heap_alloc_new _ _, K4.owns ow2 (fun _ _ z => z), (Z.out.2.2.2.2.1.and0 K3.out).and0 K4, by omega, gl.1⟩
                have EW3 : Hid (W3 = w2.alloc (.cells #[.int .i64 u, .int .i64 v] 37) ∧ X3 = w2.heap.size) := ⟨hW3, hX3⟩
                have D3 : Hid (∀ V, Kept (fun _ => False) w2 V → V.cell? ⟨gb, j' * 2, none⟩ = some (.int .i64 au) ∧ V.cell? ⟨gb, j' * 2 + 1, none⟩ = some (.int .i64 av) ∧ V.cell? ⟨gb, j * 2, none⟩ = some (.int .i64 u) ∧ V.cell? ⟨gb, j * 2 + 1, none⟩ = some (.int .i64 v)) := fun V K => ⟨K.cell d0 (fun z => z), K.cell d1 (fun z => z), K.cell d2 (fun z => z), K.cell d3 (fun z => z)⟩
                clear hW3 hX3 ow2
                go_upto_region 11 with fail
                rw [← EW3.out.1, ← EW3.out.2]
                clear d0 d1 d2 d3
                obtain ⟨d0, d1, d2, d3⟩ := D3.out W3 (by rw [EW3.out.1]; exact k0_alloc _ _)
                have f2 := Q3.out.2.1.frozenAt (j * 2)
                have f3 := Q3.out.2.1.frozenAt (j * 2 + 1)
                go_upto_region 12 with fail
                obtain ⟨W4, hW4⟩ : ∃ W4, W4 = (W3.setCell ⟨gb, j * 2, none⟩ (.int .i64 au)).setCell ⟨gb, j * 2 + 1, none⟩ (.int .i64 av) := ⟨_, rfl⟩
                have jl : j < (A' ++ [(au, av)] ++ (u, v) :: B).length := by have := Z.out.2.2.2.2.2.1; have := HN.out; omega
                have Q4 : Hid (W4.heap[X3]? = some (.cells #[.int .i64 u, .int .i64 v] 37 (0, 0)) ∧ W4.ownsRow w.heap.size 37 2 (.slice (some ⟨gb, 0, none⟩) N c9) N (tcells ((A' ++ [(au, av)] ++ (u, v) :: B).set j (au, av))) ∧ Kept (fun _ => False) w W4) := by
                  have K4 : Kept (fun k => k = gb) W3 W4 := by rw [hW4]; exact ((Kept.refl (fun k => k = gb) W3).setCell (p := ⟨gb, j * 2, none⟩) (fun _ => rfl) _).setCell (p := ⟨gb, j * 2 + 1, none⟩) (fun _ => rfl) _
                  refine ⟨K4.get Q3.out.1 (fun z => Q3.out.2.2.2.1 z.symm), ?_, Q3.out.2.2.1.trans K4 (fun x hx z => by have z : x = gb := z; have := Q3.out.2.2.2.2; omega)⟩
                  rw [tcells_set _ j jl, hW4]
                  exact ((Q3.out.2.1.stored _ _).1.stored _ _).1
                rw [← hW4]
                clear hW4 d0 d1 d2 d3 f2 f3
                have l4 : ((A' ++ [(au, av)] ++ (u, v) :: B).set j (au, av)).length = N := by rw [List.length_set]; exact Z.out.2.2.2.2.2.1
                obtain ⟨gb', eg, d0, d1⟩ := own_tg Q4.out.2.1 l4 (i := j') (by have := HN.out; omega)
                have eg2 : gb = gb' := congrArg Addr.block (Option.some.inj eg)
                subst eg2
                clear eg
                obtain ⟨⟨r0, r1⟩, hr⟩ : ∃ r, r = ((A' ++ [(au, av)] ++ (u, v) :: B).set j (au, av)).getD j' (0, 0) := ⟨_, rfl⟩
                rw [← hr] at d0 d1
                dsimp only at d0 d1
                clear hr
                have f0 := Q4.out.2.1.frozenAt (j' * 2)
                have f1 := Q4.out.2.1.frozenAt (j' * 2 + 1)
                have x0 := cell_blk Q4.out.1 0 (v := .int .i64 u) rfl
                have x1 := cell_blk Q4.out.1 1 (v := .int .i64 v) rfl
                have Q5 : Hid (∃ A2 B2, FW A2 B2 (u, v) ∧ A2 ++ B2 = F ∧ A2.length = j' ∧ ((W4.setCell ⟨gb, j' * 2, none⟩ (.int .i64 u)).setCell ⟨gb, j' * 2 + 1, none⟩ (.int .i64 v)).ownsRow w.heap.size 37 2 (.slice (some ⟨gb, 0, none⟩) N c9) N (tcells (A2 ++ (u, v) :: B2)) ∧ Kept (fun _ => False) w ((W4.setCell ⟨gb, j' * 2, none⟩ (.int .i64 u)).setCell ⟨gb, j' * 2 + 1, none⟩ (.int .i64 v))) := by
                  have K5 : Kept (fun k => k = gb) W4 ((W4.setCell ⟨gb, j' * 2, none⟩ (.int .i64 u)).setCell ⟨gb, j' * 2 + 1, none⟩ (.int .i64 v)) := ((Kept.refl (fun k => k = gb) W4).setCell (p := ⟨gb, j' * 2, none⟩) (fun _ => rfl) _).setCell (p := ⟨gb, j' * 2 + 1, none⟩) (fun _ => rfl) _
                  have el : A' ++ (u, v) :: (au, av) :: B = ((A' ++ [(au, av)] ++ (u, v) :: B).set j (au, av)).set j' (u, v) := by
                    have a1 := Z.out.2.2.1
                    have a2 := HJ.out
                    rw [List.append_assoc, List.set_append_right _ _ (by omega), List.set_append_right _ _ (by omega)]
                    have b1 : j - A'.length = 1 := by omega
                    have b2 : j' - A'.length = 0 := by omega
                    rw [b1, b2]
                    rfl
                  refine ⟨A', (au, av) :: B, Z.out.1.next (of_decide_eq_true HB.out.symm), ?_, Z.out.2.2.1, ?_, Q4.out.2.2.trans K5 (fun x hx z => by have z : x = gb := z; have := Q3.out.2.2.2.2; omega)⟩
                  · have := Z.out.2.1
                    rw [List.append_assoc] at this
                    exact this
                  · rw [el, tcells_set _ j' (by rw [l4]; have := HN.out; omega)]
                    exact ((Q4.out.2.1.stored _ _).1.stored _ _).1
                clear jl l4
                go_wp2_with fail
                go_roundw
                case rel => exact ⟨j', rfl, by have := HJ.out; omega, Q5⟩
                case measure => have := HJ.out; simp [intOf] <;> omega
      · have hk' := ba_ne hk
        have S2 : Hid (∃ F, Fzs w W1 q m e F key (vs.take (i + 1))) := by
          refine ⟨F, J.out.2.len, J.out.2.row, J.out.2.fall, ?_, J.out.2.kept⟩
          rw [NX.out]
          simpa [hk] using J.out.2.mem
        go_wp2_with fail
        go_roundw
        case rel => exact ⟨i + 1, m, e, q, rfl, by go_num, by omega, S2⟩
        case measure => simp [intOf] <;> omega
    · have i1 : ¬ (i : Int) < (n : Int) := by omega
      have G : Hid (∃ F, Fzs w wq q m e F key vs) := by
        have := S.out
        rw [List.take_of_length_le (by rw [H.out.vlen]; omega)] at this
        exact this
      clear S
      go_wp2_with fail
      go_ret
      exact ⟨q, m, e, rfl, G⟩
end Go.Proofs.YtojepeefphbekaaGreat
