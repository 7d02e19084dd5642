import Derived.Test.YtojepeefphbekabGreatPFinJ
import Derived.BigRegion
namespace Go.Proofs.YtojepeefphbekabGreat
open Go.RowKit 

set_option maxRecDepth 100000 in
set_option maxHeartbeats 8000000 in
/-- finalized. -/
theorem rFinals (b0 tb : Nat) (delta : Int) (p : Option Addr) (n c : Nat) (L : List Ut) (vs : List Uv) (key : ByteArray) (w : World) (h : RTab b0 w tb delta p n c L vs) (hn : n ≤ 2199023255552) : Calls Tryz.prog 32 #[.pointer (some ⟨tb, 0, none⟩), .string key] w fun o w' => ∃ q m e, o = .returned (.slice q m e) ∧ Hid (∃ F, Fzs w w' q m e F key vs) := by
  have H : Hid (RTab b0 w tb delta p n c L vs) := h
  have rm := own_room h.row
  unfold maxLen at rm
  obtain ⟨rm1, rm2⟩ := rm
  have c1 := cell_blk h.blk 1 (v := .slice p n c) rfl
  have S0 : Hid (∃ F, Fzs w w none 0 0 F key (vs.take 0)) := ⟨[], rfl, ⟨rfl, .inl ⟨rfl, rfl⟩⟩, List.Pairwise.nil, List.Perm.refl _, Kept.refl _ _⟩
  clear h
  go_enter Tryz.func32, Tryz.ntmps32
  go_wp2_with fail
  go_loopw [5, 7, 8, 14] (fun l _ _ z wr => ∃ (i m e : Nat) (q : Option Addr), l = .slice q m e ∧ z = .int .i64 (i : Int) ∧ i ≤ n ∧ Hid (∃ F, Fzs w wr q m e F key (vs.take i))) (fun _ _ _ z _ => n - (intOf z).toNat)
  case atStart => exact ⟨0, 0, 0, none, rfl, rfl, Nat.zero_le _, S0⟩
  case round =>
    obtain ⟨i, m, e, q, rfl, rfl, hi, S⟩ := hrel
    obtain ⟨wq, hwq⟩ : ∃ wq, wq = wr := ⟨_, rfl⟩
    rw [← hwq] at S ⊢
    clear hwq S0 c1
    by_cases hlt : i < n
    · have i1 : (i : Int) < (n : Int) := by omega
      obtain ⟨F, fs⟩ := S.out
      have R := H.out.k0 fs.kept
      obtain ⟨b, k, u, v, f, g, a, ml, ql, rfl, hv, e0, e1, e2, e3, e4, e5⟩ := own_rw R.row R.len hlt
      obtain ⟨hi2, uv⟩ := along_at R.rd hv
      have mf : m ≤ i := by have := fs.few; rw [List.length_take] at this; omega
      have TK2 : vs.take (i + 1) = vs.take i ++ [vs[i]] := by rw [List.take_add_one, List.getElem?_eq_getElem hi2]; rfl
      have ek : vs[i].1 = k := uv.key.symm
      have et : vs[i].2.1 = (u, v) := uv.ent.tag.symm
      have ef : vs[i].2.2.1 = f := uv.ent.fin.symm
      have NX0 : fins0 key (vs.take (i + 1)) = fins0 key (vs.take i) ++ (if (decide (k = key) && f) = true then [(u, v)] else []) := by
        rw [TK2, fins0_snoc, ek, et, ef]
      have NX : Hid (fins0 key (vs.take (i + 1)) = fins0 key (vs.take i) ++ (if (decide (k = key) && f) = true then [(u, v)] else [])) := NX0
      obtain ⟨W1, hW1⟩ : ∃ W1, W1 = wq.alloc (.cells #[.string k, .int .i64 u, .int .i64 v, .bool f, .bool g, .slice a ml ql] 70) := ⟨_, rfl⟩
      obtain ⟨X1, hX1⟩ : ∃ X1, X1 = wq.heap.size := ⟨_, rfl⟩
      have J : Hid (W1.heap[X1]? = some (.cells #[.string k, .int .i64 u, .int .i64 v, .bool f, .bool g, .slice a ml ql] 70 (0, 0)) ∧ Fzs w W1 q m e F key (vs.take i)) := by
        have K1 : Kept (fun _ => False) wq W1 := by rw [hW1]; exact k0_alloc _ _
        exact ⟨by rw [hW1, hX1]; exact heap_alloc_new _ _, ⟨fs.len, K1.owns fs.row (fun _ _ z => z), fs.fall, fs.mem, fs.kept.and0 K1⟩⟩
      have EW1 : Hid (W1 = wq.alloc (.cells #[.string k, .int .i64 u, .int .i64 v, .bool f, .bool g, .slice a ml ql] 70) ∧ X1 = wq.heap.size) := ⟨hW1, hX1⟩
      clear hW1 hX1 R hv hi2 uv fs S TK2 ek et ef NX0
      go_upto_region 5 with fail
      rw [← EW1.out.1, ← EW1.out.2]
      clear e0 e1 e2 e3 e4 e5
      have g0 := cell_blk J.out.1 0 (v := .string k) rfl
      have g1 := cell_blk J.out.1 1 (v := .int .i64 u) rfl
      have g2 := cell_blk J.out.1 2 (v := .int .i64 v) rfl
      have g3 := cell_blk J.out.1 3 (v := .bool f) rfl
      by_cases hk : k = key
      · subst hk
        cases f
        · have S2 : Hid (∃ F, Fzs w W1 q m e F k (vs.take (i + 1))) := by
            refine ⟨F, J.out.2.len, J.out.2.row, J.out.2.fall, ?_, J.out.2.kept⟩
            rw [NX.out]
            simpa using J.out.2.mem
          go_wp2_with fail
          go_roundw
          case rel => exact ⟨i + 1, m, e, q, rfl, by go_num, by omega, S2⟩
          case measure => simp [intOf] <;> omega
        · have NY : Hid (fins0 k (vs.take (i + 1)) = fins0 k (vs.take i) ++ [(u, v)]) := by
            have q := NX.out
            rw [if_pos (by simp)] at q
            exact q
          have BL : Hid (m + 1 ≤ maxLen ∧ ((m + 1) + (m + 1) / 4 + 192) * 16 ≤ 281474976710656) := by
            unfold maxLen
            exact ⟨by omega, by omega⟩
          go_upto_region 7 with
            (first
              | (at_builtin; refine wpList_append_all _ rfl (.tmp 27) (.tmp 31) 79 31 79 _ 2 16 rfl Tryz.underlying79 Tryz.info31c rfl w.heap.size (.slice q m e) m (tcells F) rfl ((k0_alloc W1 _).owns J.out.2.row (fun _ _ z => z)) _ 1 (tcells [(u, v)]) rfl (src_tag (heap_alloc_new W1 _)) BL.out.1 BL.out.2 (Nat.le_trans J.out.2.kept.size (k0_alloc W1 _).size) ?_; intro p9 c9 w9 ho hg hn')
              | fail)
          have G : Hid (∃ A B, FW A B (u, v) ∧ A ++ B = F ∧ A.length = m ∧ w9.ownsRow w.heap.size 31 2 (.slice p9 (m + 1) c9) (m + 1) (tcells (A ++ (u, v) :: B)) ∧ Kept (fun _ => False) w w9) := by
            have KG : Kept (fun k => blockOf q = some k) W1 w9 := ((Kept.refl (fun k => blockOf q = some k) W1).alloc _).grown hg.out (fun k _ z => by rw [blockOf_own] at z; exact z)
            refine ⟨F, [], ⟨by rw [List.append_nil]; exact J.out.2.fall, fun b hb => (by cases hb)⟩, List.append_nil F, J.out.2.len, by rw [tcells_append]; exact ho.out, J.out.2.kept.trans KG (fun j hj z => ?_)⟩
            have := (own_lt J.out.2.row j z).1
            omega
          clear ho hg hn'
          obtain ⟨N, hN⟩ : ∃ N, N = m + 1 := ⟨_, rfl⟩
          have G' : Hid (∃ A B, FW A B (u, v) ∧ A ++ B = F ∧ A.length = m ∧ w9.ownsRow w.heap.size 31 2 (.slice p9 N c9) N (tcells (A ++ (u, v) :: B)) ∧ Kept (fun _ => False) w w9) := by rw [hN]; exact G.out
          rw [← hN]
          have HN : Hid (N = m + 1) := hN
          have wN : IntKind.i64.wrap ((N : Int) - 1) = (m : Int) := by rw [IntKind.wrap_i64]; omega
          clear G hN
          go_wp2_with fail
          go_loopw [8] (fun z wr => ∃ (j : Nat), z = .int .i64 (j : Int) ∧ j ≤ m ∧ Hid (∃ A B, FW A B (u, v) ∧ A ++ B = F ∧ A.length = j ∧ wr.ownsRow w.heap.size 31 2 (.slice p9 N c9) N (tcells (A ++ (u, v) :: B)) ∧ Kept (fun _ => False) w wr)) (fun z _ => (intOf z).toNat)
          case atStart => exact ⟨m, rfl, Nat.le_refl _, G'⟩
          case round =>
            obtain ⟨j, rfl, hj, S⟩ := hrel
            obtain ⟨wy, hwy⟩ : ∃ wy, wy = wr := ⟨_, rfl⟩
            rw [← hwy] at S ⊢
            clear G' hwy
            by_cases hj0 : j = 0
            · subst hj0
              have S2 : Hid (∃ F, Fzs w wy p9 N c9 F k (vs.take (i + 1))) := by
                obtain ⟨A, B, fw, ab, al, ow, kp⟩ := S.out
                have al : A = [] := List.eq_nil_of_length_eq_zero al
                subst al
                refine ⟨_, ?_, ow, fw.done (fun a ha => (by cases ha)), ?_, kp⟩
                · have := congrArg List.length ab
                  rw [List.length_append, J.out.2.len] at this
                  rw [List.length_append, List.length_cons, HN.out]
                  omega
                · rw [NY.out]
                  have p1 : ([] ++ (u, v) :: B).Perm (B ++ [(u, v)]) := List.perm_append_comm (l₁ := [(u, v)]) (l₂ := B)
                  have e2 : B = F := ab
                  rw [e2] at p1 ⊢
                  exact p1.trans (J.out.2.mem.append_right _)
              go_upto_region 8 with fail
              go_quiet (fail)
              have S3 : Hid (∃ F, Fzs w (wy.drewN nq) p9 N c9 F k (vs.take (i + 1))) := by
                obtain ⟨F2, f2⟩ := S2.out
                have K : Kept (fun _ => False) wy (wy.drewN nq) := k0_of (below_dN (Below.refl _ _) nq)
                exact ⟨F2, f2.len, K.owns f2.row (fun _ _ z => z), f2.fall, f2.mem, f2.kept.and0 K⟩
              go_wp2_with fail
              go_roundw
              case rel => exact ⟨i + 1, N, c9, p9, rfl, by go_num, by omega, S3⟩
              case measure => simp [intOf] <;> omega
            · obtain ⟨j', hj'⟩ : ∃ j', j = j' + 1 := ⟨j - 1, by omega⟩
              have HJ : Hid (j = j' + 1) := hj'
              have j1 : (0 : Int) < (j : Int) := by omega
              have jn : 0 < j := by omega
              have jd : decide (0 < j) = true := decide_eq_true jn

              have j2 : (j : Int) < (N : Int) := by have := HN.out; omega
              have j3 : (0 : Int) ≤ (j : Int) := by omega
              have j4 : (0 : Int) ≤ (j' : Int) := by omega
              have j5 : (j' : Int) < (N : Int) := by have := HN.out; omega
              have wj : IntKind.i64.wrap ((j : Int) - 1) = (j' : Int) := by rw [IntKind.wrap_i64]; omega
              obtain ⟨A, B, fw, ab, al, ow, kp⟩ := S.out
              obtain ⟨A', ⟨au, av⟩, rfl⟩ : ∃ A' z, A = A' ++ [z] := by
                rcases List.eq_nil_or_concat A with rfl | ⟨A', z, e⟩
                · exact absurd al.symm hj0
                · exact ⟨A', z, by rw [e, List.concat_eq_append]⟩
              have al2 : A'.length = j' := by rw [List.length_append, HJ.out] at al; simpa using al
              have F1 : (A' ++ [(au, av)] ++ (u, v) :: B).length = N := by
                have := congrArg List.length ab
                rw [List.length_append, J.out.2.len] at this
                rw [List.length_append, List.length_cons, HN.out]
                omega
              obtain ⟨gb, rfl, d0, d1⟩ := own_tg ow F1 (i := j') (by omega)
              obtain ⟨gb', eg, d2, d3⟩ := own_tg ow F1 (i := j) (by omega)
              have eg2 : gb = gb' := congrArg Addr.block (Option.some.inj eg)
              subst eg2
              have v0 : (A' ++ [(au, av)] ++ (u, v) :: B).getD j' (0, 0) = (au, av) := by
                rw [List.getD_eq_getElem?_getD, List.append_assoc, List.getElem?_append_right (by omega), al2, Nat.sub_self]
                rfl
              have v1 : (A' ++ [(au, av)] ++ (u, v) :: B).getD j (0, 0) = (u, v) := by
                rw [List.getD_eq_getElem?_getD, List.getElem?_append_right (by omega), al, Nat.sub_self]
                rfl
              rw [v0] at d0 d1
              rw [v1] at d2 d3
              have Z : Hid (FW (A' ++ [(au, av)]) B (u, v) ∧ A' ++ [(au, av)] ++ B = F ∧ A'.length = j' ∧ wy.ownsRow w.heap.size 31 2 (.slice (some ⟨gb, 0, none⟩) N c9) N (tcells (A' ++ [(au, av)] ++ (u, v) :: B)) ∧ Kept (fun _ => False) w wy ∧ (A' ++ [(au, av)] ++ (u, v) :: B).length = N ∧ j = j' + 1) := ⟨fw, ab, al2, ow, kp, F1, hj'⟩
              clear fw ab al al2 ow kp F1 eg v0 v1 S hj'
              dsimp only at d0 d1 d2 d3
              have rr := own_room Z.out.2.2.2.1
              unfold maxLen at rr
              obtain ⟨rr1, rr2⟩ := rr
              go_upto_region 8 with fail
              obtain ⟨bb, hbb⟩ : ∃ bb, bb = decide (tc (au, av) (u, v) < 0) := ⟨_, rfl⟩
              have RB : Hid (∀ V : World, Calls Tryz.prog 29 #[.agg #[.int .i64 au, .int .i64 av], .agg #[.int .i64 u, .int .i64 v]] V fun o w' => o = .returned (.bool bb) ∧ Kept (fun _ => False) V w') := by rw [hbb]; exact fun V => rBelow au av u v V
              have HB : Hid (bb = decide (tc (au, av) (u, v) < 0)) := hbb
              clear hbb
              cases bb
              · go_region_held3 (fun V => V.cell? ⟨gb, j' * 2, none⟩ = some (.int .i64 au) ∧ V.cell? ⟨gb, j' * 2 + 1, none⟩ = some (.int .i64 av) ∧ V.cell? ⟨gb, j * 2, none⟩ = some (.int .i64 u) ∧ V.cell? ⟨gb, j * 2 + 1, none⟩ = some (.int .i64 v)) (first | go_keep)
                  (first
                    | (go_at_call 29; refine (RB.out wy.drew).mono ?_; rintro o w2 ⟨rfl, K2⟩
                       have K3 : Hid (Kept (fun _ => False) wy w2) := ((Kept.refl _ _).drew).and0 K2
                       have d0 := K3.out.cell d0 (fun z => z)
                       have d1 := K3.out.cell d1 (fun z => z)
                       have d2 := K3.out.cell d2 (fun z => z)
                       have d3 := K3.out.cell d3 (fun z => z)
                       clear K2)
                    | fail)
                have S3 : Hid (∀ w3, Kept (fun _ => False) w2 w3 → ∃ F, Fzs w w3 (some ⟨gb, 0, none⟩) N c9 F k (vs.take (i + 1))) := by
                  intro w3 Kx
                  have K := K3.out.and0 Kx
                  have nb : ¬ tc (au, av) (u, v) < 0 := of_decide_eq_false HB.out.symm
                  refine ⟨_, Z.out.2.2.2.2.2.1, K.owns Z.out.2.2.2.1 (fun _ _ z => z), Z.out.1.stop nb, ?_, Z.out.2.2.2.2.1.and0 K⟩
                  rw [NY.out]
                  have p1 : (A' ++ [(au, av)] ++ (u, v) :: B).Perm (A' ++ [(au, av)] ++ B ++ [(u, v)]) := by
                    rw [List.append_assoc _ B]
                    exact List.Perm.append_left _ (List.perm_append_comm (l₁ := [(u, v)]) (l₂ := B))
                  rw [Z.out.2.1] at p1
                  exact p1.trans (J.out.2.mem.append_right _)
                go_wp2_with fail
                go_roundw
                case rel => exact ⟨i + 1, N, c9, _, rfl, by go_num, by omega, S3.out _ (by first | exact Kept.refl _ _ | exact (Kept.refl _ _).drew | exact (Kept.refl _ _).drew.drew | exact (Kept.refl _ _).drewN _)⟩
                case measure => simp [intOf] <;> omega
              · go_region_held3 (fun V => V.cell? ⟨gb, j' * 2, none⟩ = some (.int .i64 au) ∧ V.cell? ⟨gb, j' * 2 + 1, none⟩ = some (.int .i64 av) ∧ V.cell? ⟨gb, j * 2, none⟩ = some (.int .i64 u) ∧ V.cell? ⟨gb, j * 2 + 1, none⟩ = some (.int .i64 v)) (first | go_keep)
                  (first
                    | (go_at_call 29; refine (RB.out wy.drew).mono ?_; rintro o w2 ⟨rfl, K2⟩
                       have K3 : Hid (Kept (fun _ => False) wy w2) := ((Kept.refl _ _).drew).and0 K2
                       have d0 := K3.out.cell d0 (fun z => z)
                       have d1 := K3.out.cell d1 (fun z => z)
                       have d2 := K3.out.cell d2 (fun z => z)
                       have d3 := K3.out.cell d3 (fun z => z)
                       clear K2)
                    | fail)
                have ow2 := K3.out.owns Z.out.2.2.2.1 (fun _ _ z => z)
                obtain ⟨W3, hW3⟩ : ∃ W3, W3 = w2.drew := ⟨_, rfl⟩
                have Q3 : Hid (W3.ownsRow w.heap.size 31 2 (.slice (some ⟨gb, 0, none⟩) N c9) N (tcells (A' ++ [(au, av)] ++ (u, v) :: B)) ∧ Kept (fun _ => False) w W3 ∧ w.heap.size ≤ gb) := by
                  have K4 : Kept (fun _ => False) w2 W3 := by rw [hW3]; exact (Kept.refl _ _).drew
                  have gl := own_lt ow2 gb rfl
                  exact ⟨K4.owns ow2 (fun _ _ z => z), (Z.out.2.2.2.2.1.and0 K3.out).and0 K4, gl.1⟩
                have f0 := ow2.frozenAt (j' * 2)
                have f1 := ow2.frozenAt (j' * 2 + 1)
                have f2 := ow2.frozenAt (j * 2)
                have f3 := ow2.frozenAt (j * 2 + 1)
                obtain ⟨W4, hW4⟩ : ∃ W4, W4 = (W3.setCell ⟨gb, j * 2, none⟩ (.int .i64 au)).setCell ⟨gb, j * 2 + 1, none⟩ (.int .i64 av) := ⟨_, rfl⟩
                have jl : j < (A' ++ [(au, av)] ++ (u, v) :: B).length := by have := Z.out.2.2.2.2.2.1; have := HN.out; omega
                have Q4 : Hid (W4.ownsRow w.heap.size 31 2 (.slice (some ⟨gb, 0, none⟩) N c9) N (tcells ((A' ++ [(au, av)] ++ (u, v) :: B).set j (au, av))) ∧ Kept (fun _ => False) w W4) := by
                  have K4 : Kept (fun k => k = gb) W3 W4 := by rw [hW4]; exact ((Kept.refl (fun k => k = gb) W3).setCell (p := ⟨gb, j * 2, none⟩) (fun _ => rfl) _).setCell (p := ⟨gb, j * 2 + 1, none⟩) (fun _ => rfl) _
                  refine ⟨?_, Q3.out.2.1.trans K4 (fun x hx z => by have z : x = gb := z; have := Q3.out.2.2; omega)⟩
                  rw [tcells_set _ j jl, hW4]
                  exact ((Q3.out.1.stored _ _).1.stored _ _).1
                have l4 : ((A' ++ [(au, av)] ++ (u, v) :: B).set j (au, av)).length = N := by rw [List.length_set]; exact Z.out.2.2.2.2.2.1
                have Q5 : Hid (∃ A2 B2, FW A2 B2 (u, v) ∧ A2 ++ B2 = F ∧ A2.length = j' ∧ ((W4.setCell ⟨gb, j' * 2, none⟩ (.int .i64 u)).setCell ⟨gb, j' * 2 + 1, none⟩ (.int .i64 v)).ownsRow w.heap.size 31 2 (.slice (some ⟨gb, 0, none⟩) N c9) N (tcells (A2 ++ (u, v) :: B2)) ∧ Kept (fun _ => False) w ((W4.setCell ⟨gb, j' * 2, none⟩ (.int .i64 u)).setCell ⟨gb, j' * 2 + 1, none⟩ (.int .i64 v))) := by
                  have K5 : Kept (fun k => k = gb) W4 ((W4.setCell ⟨gb, j' * 2, none⟩ (.int .i64 u)).setCell ⟨gb, j' * 2 + 1, none⟩ (.int .i64 v)) := ((Kept.refl (fun k => k = gb) W4).setCell (p := ⟨gb, j' * 2, none⟩) (fun _ => rfl) _).setCell (p := ⟨gb, j' * 2 + 1, none⟩) (fun _ => rfl) _
                  have el : A' ++ (u, v) :: (au, av) :: B = ((A' ++ [(au, av)] ++ (u, v) :: B).set j (au, av)).set j' (u, v) := by
                    have a1 := Z.out.2.2.1
                    have a2 := HJ.out
                    rw [List.append_assoc, List.set_append_right _ _ (by omega), List.set_append_right _ _ (by omega)]
                    have b1 : j - A'.length = 1 := by omega
                    have b2 : j' - A'.length = 0 := by omega
                    rw [b1, b2]
                    rfl
                  refine ⟨A', (au, av) :: B, Z.out.1.next (of_decide_eq_true HB.out.symm), ?_, Z.out.2.2.1, ?_, Q4.out.2.trans K5 (fun x hx z => by have z : x = gb := z; have := Q3.out.2.2; omega)⟩
                  · have := Z.out.2.1
                    rw [List.append_assoc] at this
                    exact this
                  · rw [el, tcells_set _ j' (by rw [l4]; have := HN.out; omega)]
                    exact ((Q4.out.1.stored _ _).1.stored _ _).1
                rw [hW4, hW3] at Q5
                clear hW4 hW3 ow2
                have jj := HJ.out
                have n1 : ¬ (j' * 2 = j * 2) := by omega
                have n2 : ¬ (j' * 2 = j * 2 + 1) := by omega
                have n3 : ¬ (j' * 2 + 1 = j * 2) := by omega
                have n4 : ¬ (j' * 2 + 1 = j * 2 + 1) := by omega
                have n5 : ¬ (j' + 1 = j') := by omega
                have m1 : ¬ (j * 2 = j' * 2) := by omega
                have m2 : ¬ (j * 2 + 1 = j' * 2) := by omega
                have m3 : ¬ (j * 2 = j' * 2 + 1) := by omega
                have m4 : ¬ (j * 2 + 1 = j' * 2 + 1) := by omega
                have nn : ¬ (j' = j) := by omega
                have mm : ¬ (j = j') := by omega
                clear jj n5
                go_upto_region 10 with fail
                go_region
                clear jl l4
                go_wp2_with fail
                go_roundw
                case rel => exact ⟨j', rfl, by have := HJ.out; omega, Q5⟩
                case measure => have := HJ.out; simp [intOf] <;> omega
      · have hk' := ba_ne hk
        have S2 : Hid (∃ F, Fzs w W1 q m e F key (vs.take (i + 1))) := by
          refine ⟨F, J.out.2.len, J.out.2.row, J.out.2.fall, ?_, J.out.2.kept⟩
          rw [NX.out]
          simpa [hk] using J.out.2.mem
        go_wp2_with fail
        go_roundw
        case rel => exact ⟨i + 1, m, e, q, rfl, by go_num, by omega, S2⟩
        case measure => simp [intOf] <;> omega
    · have i1 : ¬ (i : Int) < (n : Int) := by omega
      have G : Hid (∃ F, Fzs w wq q m e F key vs) := by
        have := S.out
        rw [List.take_of_length_le (by rw [H.out.vlen]; omega)] at this
        exact this
      clear S
      go_wp2_with fail
      go_ret
      exact ⟨q, m, e, rfl, G⟩
end Go.Proofs.YtojepeefphbekabGreat
