import Derived.Test.YtojepeefphbekaaGreatPFragRJ
import Derived.Deep.CutRange
namespace Go.Proofs.YtojepeefphbekaaGreat
open Go.RowKit 

theorem bl_iff (a b : ByteArray) : Op.bytesLess a.toList b.toList = decide (a.data.toList < b.data.toList) := by
  rw [bytesLess_eq, ba_toList, ba_toList]
/-- One more text on its way to its place. -/
structure KW (A B : List ByteArray) (x : ByteArray) : Prop where
  up : SortedS (A ++ B)
  hi : ∀ b ∈ B, x.data.toList ≤ b.data.toList
theorem KW.done {A B : List ByteArray} {x : ByteArray} (h : KW A B x) (e : ∀ a ∈ A, a.data.toList ≤ x.data.toList) : SortedS (A ++ x :: B) := by
  have f := h.up
  unfold SortedS at f ⊢
  rw [List.pairwise_append] at f
  rw [List.pairwise_append, List.pairwise_cons]
  refine ⟨f.1, ⟨h.hi, f.2.1⟩, fun a ha b hb => ?_⟩
  rcases List.mem_cons.1 hb with rfl | hb
  · exact e a ha
  · exact f.2.2 a ha b hb
theorem KW.stop {A B : List ByteArray} {x a : ByteArray} (h : KW (A ++ [a]) B x) (e : ¬ x.data.toList < a.data.toList) : SortedS (A ++ [a] ++ x :: B) := by
  refine h.done (fun b hb => ?_)
  have ea : a.data.toList ≤ x.data.toList := List.not_lt.1 e
  rcases List.mem_append.1 hb with z | z
  · have f := h.up
    unfold SortedS at f
    rw [List.pairwise_append] at f
    have f2 := f.1
    rw [List.pairwise_append] at f2
    exact List.le_trans (f2.2.2 b z a (by simp)) ea
  · rw [List.mem_singleton.1 z]
    exact ea
theorem KW.next {A B : List ByteArray} {x a : ByteArray} (h : KW (A ++ [a]) B x) (e : x.data.toList < a.data.toList) : KW A (a :: B) x := by
  refine ⟨by have := h.up; rw [List.append_assoc] at this; exact this, fun b hb => ?_⟩
  rcases List.mem_cons.1 hb with rfl | hb
  · exact List.le_of_lt e
  · exact h.hi b hb
/-- The round's state. -/
structure KS (w wr : World) (p : Option Addr) (n c : Nat) (ks : List ByteArray) (vs : List Uv) : Prop where
  len : ks.length = n
  row : wr.ownsRow w.heap.size 9 1 (.slice p n c) n (strs ks)
  keys : RKeys vs ks
  kept : Kept (fun _ => False) w wr
theorem RKeys.nil : RKeys [] [] := ⟨List.Pairwise.nil, List.Pairwise.nil, fun k => ⟨fun z => (by cases z), fun ⟨_, z, _⟩ => (by cases z)⟩⟩
theorem RKeys.old {vs : List Uv} {ks : List ByteArray} (h : RKeys vs ks) {v : Uv} (hv : v.1 ∈ ks) : RKeys (vs ++ [v]) ks := by
  refine ⟨h.one, h.srt, fun k => ?_⟩
  rw [h.mem]
  constructor
  · rintro ⟨u, hu, e⟩
    exact ⟨u, List.mem_append_left _ hu, e⟩
  · rintro ⟨u, hu, e⟩
    rcases List.mem_append.1 hu with z | z
    · exact ⟨u, z, e⟩
    · rw [List.mem_singleton.1 z] at e
      rw [e] at hv
      exact (h.mem k).1 hv
theorem RKeys.new {vs : List Uv} {ks A B : List ByteArray} (h : RKeys vs ks) {v : Uv} (hv : v.1 ∉ ks) (e : A ++ B = ks) (s : SortedS (A ++ v.1 :: B)) : RKeys (vs ++ [v]) (A ++ v.1 :: B) := by
  have pm : (A ++ v.1 :: B).Perm (v.1 :: ks) := by rw [← e]; exact List.perm_middle
  refine ⟨pm.nodup_iff.2 (List.nodup_cons.2 ⟨hv, h.one⟩), s, fun k => ?_⟩
  rw [pm.mem_iff, List.mem_cons, h.mem]
  constructor
  · rintro (z | ⟨u, hu, z⟩)
    · exact ⟨v, by simp, z.symm⟩
    · exact ⟨u, List.mem_append_left _ hu, z⟩
  · rintro ⟨u, hu, z⟩
    rcases List.mem_append.1 hu with q | q
    · exact .inr ⟨u, q, z⟩
    · rw [List.mem_singleton.1 q] at z
      exact .inl z.symm
theorem strs_set (L : List ByteArray) (j : Nat) (s : ByteArray) : strs (L.set j s) = (strs L).set j (.string s) := by unfold strs; rw [List.map_set]
set_option maxRecDepth 100000 in
set_option maxHeartbeats 8000000 in
/-- Keys of the document's table. -/
theorem rKeys (b0 tb : Nat) (delta : Int) (p : Option Addr) (n c : Nat) (L : List Ut) (vs : List Uv) (w : World) (h : RTab b0 w tb delta p n c L vs) (hn : n ≤ 1099511627776) : Calls Tryz.prog 53 #[.pointer (some ⟨tb, 0, none⟩)] w fun o w' => ∃ q m e, o = .returned (.slice q m e) ∧ ∃ ks, Hid (KS w w' q m e ks vs) := by
  have H : Hid (RTab b0 w tb delta p n c L vs) := h
  have rm := own_room h.row
  unfold maxLen at rm
  obtain ⟨rm1, rm2⟩ := rm
  have c1 := cell_blk h.blk 1 (v := .slice p n c) rfl
  have S0 : Hid (∃ ks, KS w w none 0 0 ks (vs.take 0)) := ⟨[], rfl, ⟨rfl, .inl ⟨rfl, rfl⟩⟩, RKeys.nil, Kept.refl _ _⟩
  clear h
  go_enter Tryz.func53, Tryz.ntmps53
  go_wp2_with fail
  go_loopw [3, 5, 6, 8, 9, 10, 19] (fun l _ _ _ _ _ z wr => ∃ (i m e : Nat) (q : Option Addr), l = .slice q m e ∧ z = .int .i64 (i : Int) ∧ i ≤ n ∧ Hid (∃ ks, KS w wr q m e ks (vs.take i))) (fun _ _ _ _ _ _ z _ => n - (intOf z).toNat)
  case atStart => exact ⟨0, 0, 0, none, rfl, rfl, Nat.zero_le _, S0⟩
  case round =>
    obtain ⟨i, m, e, q, rfl, rfl, hi, S⟩ := hrel
    obtain ⟨wq, hwq⟩ : ∃ wq, wq = wr := ⟨_, rfl⟩
    rw [← hwq] at S ⊢
    clear hwq S0 c1
    by_cases hlt : i < n
    · have i1 : (i : Int) < (n : Int) := by omega
      obtain ⟨ks, fs⟩ := S.out
      have R := H.out.k0 fs.kept
      obtain ⟨b, k, u, v, f, g, a, ml, ql, rfl, hv, e0, e1, e2, e3, e4, e5⟩ := own_rw R.row R.len hlt
      obtain ⟨hi2, uv⟩ := along_at R.rd hv
      have mf : m ≤ i := by have := fs.keys.few; rw [List.length_take, fs.len] at this; omega
      have TK2 : Hid (vs.take (i + 1) = vs.take i ++ [vs[i]] ∧ vs[i].1 = k) := ⟨by rw [List.take_add_one, List.getElem?_eq_getElem hi2]; rfl, uv.key.symm⟩
      have room := own_room fs.row
      unfold maxLen at room
      obtain ⟨room1, room2⟩ := room
      obtain ⟨W1, hW1⟩ : ∃ W1, W1 = wq.alloc (.cells #[.string k, .int .i64 u, .int .i64 v, .bool f, .bool g, .slice a ml ql] 109) := ⟨_, rfl⟩
      obtain ⟨X1, hX1⟩ : ∃ X1, X1 = wq.heap.size := ⟨_, rfl⟩
      have J : Hid (W1.heap[X1]? = some (.cells #[.string k, .int .i64 u, .int .i64 v, .bool f, .bool g, .slice a ml ql] 109 (0, 0)) ∧ KS w W1 q m e ks (vs.take i)) := by
        have K1 : Kept (fun _ => False) wq W1 := by rw [hW1]; exact k0_alloc _ _
        exact ⟨by rw [hW1, hX1]; exact heap_alloc_new _ _, ⟨fs.len, K1.owns fs.row (fun _ _ z => z), fs.keys, fs.kept.and0 K1⟩⟩
      have EW1 : Hid (W1 = wq.alloc (.cells #[.string k, .int .i64 u, .int .i64 v, .bool f, .bool g, .slice a ml ql] 109) ∧ X1 = wq.heap.size) := ⟨hW1, hX1⟩
      clear hW1 hX1 R hv uv fs S
      go_upto_region 7 with fail
      rw [← EW1.out.1, ← EW1.out.2]
      clear e0 e1 e2 e3 e4 e5
      have g0 := cell_blk J.out.1 0 (v := .string k) rfl
      have N0 : Hid (false = true ↔ k ∈ ks.take 0) := ⟨fun z => (by cases z), fun z => (by simp at z)⟩
      go_wp2_with fail
      go_loop [6, 8, 25] (fun t _ z => ∃ (j : Nat) (th : Bool), z = .int .i64 (j : Int) ∧ t = .bool th ∧ j ≤ m ∧ Hid (th = true ↔ k ∈ ks.take j)) (fun _ _ z => m - (intOf z).toNat)
      case atStart => exact ⟨0, false, rfl, rfl, Nat.zero_le _, N0⟩
      case round =>
        obtain ⟨j, th, rfl, rfl, hj, T⟩ := hrel
        clear N0
        by_cases hjl : j < m
        · have j1 : (j : Int) < (m : Int) := by omega
          obtain ⟨gb, rfl, d0⟩ := own_str J.out.2.row J.out.2.len hjl
          obtain ⟨kj, hkj⟩ : ∃ kj, ks[j]'(by rw [J.out.2.len]; exact hjl) = kj := ⟨_, rfl⟩
          rw [hkj] at d0
          have NX : Hid (ks.take (j + 1) = ks.take j ++ [kj]) := by
            rw [List.take_add_one, List.getElem?_eq_getElem (by rw [J.out.2.len]; exact hjl), hkj]
            rfl
          clear hkj
          cases th
          · by_cases hk : kj = k
            · subst hk
              have T2 : Hid (true = true ↔ kj ∈ ks.take (j + 1)) := ⟨fun _ => by rw [NX.out]; simp, fun _ => rfl⟩
              go_wp2_with fail
              go_round
              case rel => exact ⟨j + 1, true, by go_num, rfl, by omega, T2⟩
              case measure => simp [intOf] <;> omega
            · have hk' := ba_ne hk
              have hkb : (kj.toList == k.toList) = false := beq_false_of_ne hk'
              have T2 : Hid (false = true ↔ k ∈ ks.take (j + 1)) := by
                refine ⟨fun z => (by cases z), fun z => ?_⟩
                rw [NX.out, List.mem_append, List.mem_singleton] at z
                rcases z with z | z
                · exact T.out.2 z
                · exact absurd z.symm hk
              go_wp2_with fail
              go_round
              case rel => exact ⟨j + 1, false, by go_num, rfl, by omega, T2⟩
              case measure => simp [intOf] <;> omega
          · have T2 : Hid (true = true ↔ k ∈ ks.take (j + 1)) := by
              refine ⟨fun _ => ?_, fun _ => rfl⟩
              rw [NX.out, List.mem_append]
              exact .inl (T.out.1 rfl)
            go_wp2_with fail
            go_round
            case rel => exact ⟨j + 1, true, by go_num, rfl, by omega, T2⟩
            case measure => simp [intOf] <;> omega
        · have j1 : ¬ (j : Int) < (m : Int) := by omega
          have T2 : Hid (th = true ↔ k ∈ ks) := by
            have := T.out
            rw [List.take_of_length_le (by rw [J.out.2.len]; omega)] at this
            exact this
          clear T
          cases th
          · have NK : Hid (k ∉ ks) := fun z => absurd (T2.out.2 z) (by decide)
            have BL : Hid (m + 1 ≤ maxLen ∧ ((m + 1) + (m + 1) / 4 + 192) * 16 ≤ 281474976710656) := by
              unfold maxLen
              exact ⟨by omega, by omega⟩
            go_upto_region 15 with
              (first
                | (at_builtin; refine wpList_append_all _ rfl (.tmp 38) (.tmp 41) 45 9 45 _ 1 16 rfl Tryz.underlying45 Tryz.info9c rfl w.heap.size (.slice q m e) m (strs ks) rfl ((k0_alloc W1 _).owns J.out.2.row (fun _ _ z => z)) _ 1 (strs [k]) rfl (src_str (heap_alloc_new W1 _)) BL.out.1 BL.out.2 (Nat.le_trans J.out.2.kept.size (k0_alloc W1 _).size) ?_; intro p9 c9 w9 ho hg hn')
                | fail)
            obtain ⟨N, hN⟩ : ∃ N, N = m + 1 := ⟨_, rfl⟩
            have G' : Hid (∃ A B, KW A B k ∧ A ++ B = ks ∧ A.length = m ∧ w9.ownsRow w.heap.size 9 1 (.slice p9 N c9) N (strs (A ++ k :: B)) ∧ Kept (fun _ => False) w w9) := by
              have KG : Kept (fun k => blockOf q = some k) W1 w9 := ((Kept.refl (fun k => blockOf q = some k) W1).alloc _).grown hg.out (fun k _ z => by rw [blockOf_own] at z; exact z)
              rw [hN]
              refine ⟨ks, [], ⟨by rw [List.append_nil]; exact J.out.2.keys.srt, fun b hb => (by cases hb)⟩, List.append_nil ks, J.out.2.len, by rw [strs_app]; exact ho.out, J.out.2.kept.trans KG (fun j hj z => ?_)⟩
              have := (own_lt J.out.2.row j z).1
              omega
            rw [← hN]
            have HN : Hid (N = m + 1) := hN
            have wN : IntKind.i64.wrap ((N : Int) - 1) = (m : Int) := by rw [IntKind.wrap_i64]; omega
            clear ho hg hn' hN
            go_wp2_with fail
            go_loopw [9, 10] (fun z _ wr => ∃ (j : Nat), z = .int .i64 (j : Int) ∧ j ≤ m ∧ Hid (∃ A B, KW A B k ∧ A ++ B = ks ∧ A.length = j ∧ wr.ownsRow w.heap.size 9 1 (.slice p9 N c9) N (strs (A ++ k :: B)) ∧ Kept (fun _ => False) w wr)) (fun z _ _ => (intOf z).toNat)
            case atStart => exact ⟨m, rfl, Nat.le_refl _, G'⟩
            case round =>
              obtain ⟨j2, rfl, hj2, S⟩ := hrel
              obtain ⟨wy, hwy⟩ : ∃ wy, wy = wr := ⟨_, rfl⟩
              rw [← hwy] at S ⊢
              clear G' hwy
              have FIN : Hid (∀ A B w3, A ++ B = ks → SortedS (A ++ k :: B) → w3.ownsRow w.heap.size 9 1 (.slice p9 N c9) N (strs (A ++ k :: B)) → Kept (fun _ => False) w w3 → ∃ ks, KS w w3 p9 N c9 ks (vs.take (i + 1))) := by
                intro A B w3 ab srt ow kp
                refine ⟨A ++ k :: B, ?_, ow, ?_, kp⟩
                · have := congrArg List.length ab
                  rw [List.length_append, J.out.2.len] at this
                  rw [List.length_append, List.length_cons, HN.out]
                  omega
                · have e1 := TK2.out.2
                  have NK' := NK.out
                  rw [TK2.out.1]
                  rw [← e1] at srt NK' ⊢
                  exact J.out.2.keys.new NK' ab srt
              by_cases hj0 : j2 = 0
              · subst hj0
                go_upto_region 16 with fail
                go_quiet (fail)
                have S3 : Hid (∃ ks, KS w (wy.drewN nq) p9 N c9 ks (vs.take (i + 1))) := by
                  obtain ⟨A, B, fw, ab, al, ow, kp⟩ := S.out
                  have al : A = [] := List.eq_nil_of_length_eq_zero al
                  subst al
                  have K : Kept (fun _ => False) wy (wy.drewN nq) := k0_of (below_dN (Below.refl _ _) nq)
                  exact FIN.out [] B _ ab (fw.done (fun a ha => (by cases ha))) (K.owns ow (fun _ _ z => z)) (kp.and0 K)
                go_wp2_with fail
                go_roundw
                case rel => exact ⟨i + 1, N, c9, p9, rfl, by go_num, by omega, S3⟩
                case measure => simp [intOf] <;> omega
              · obtain ⟨j', hj'⟩ : ∃ j', j2 = j' + 1 := ⟨j2 - 1, by omega⟩
                have HJ : Hid (j2 = j' + 1) := hj'
                have k1 : (0 : Int) < (j2 : Int) := by omega
                have jn : 0 < j2 := by omega
                have jd : decide (0 < j2) = true := decide_eq_true jn
                have k2 : (j2 : Int) < (N : Int) := by have := HN.out; omega
                have k3 : (0 : Int) ≤ (j2 : Int) := by omega
                have k4 : (0 : Int) ≤ (j' : Int) := by omega
                have k5 : (j' : Int) < (N : Int) := by have := HN.out; omega
                have wj : IntKind.i64.wrap ((j2 : Int) - 1) = (j' : Int) := by rw [IntKind.wrap_i64]; omega
                obtain ⟨A, B, fw, ab, al, ow, kp⟩ := S.out
                obtain ⟨A', ax, rfl⟩ : ∃ A' z, A = A' ++ [z] := by
                  rcases List.eq_nil_or_concat A with rfl | ⟨A', z, e⟩
                  · exact absurd al.symm hj0
                  · exact ⟨A', z, by rw [e, List.concat_eq_append]⟩
                have al2 : A'.length = j' := by rw [List.length_append, HJ.out] at al; simpa using al
                have F1 : (A' ++ [ax] ++ k :: B).length = N := by
                  have := congrArg List.length ab
                  rw [List.length_append, J.out.2.len] at this
                  rw [List.length_append, List.length_cons, HN.out]
                  omega
                obtain ⟨gb, eg0, d0⟩ := own_str ow F1 (i := j') (by omega)
                obtain ⟨gb', eg, d2⟩ := own_str ow F1 (i := j2) (by omega)
                have eg2 : gb = gb' := by rw [eg0] at eg; exact congrArg Addr.block (Option.some.inj eg)
                subst eg2
                have v0 : (A' ++ [ax] ++ k :: B)[j']'(by omega) = ax := by
                  rw [List.getElem_append_left (by simp; omega), List.getElem_append_right (by omega)]
                  simp
                have v1 : (A' ++ [ax] ++ k :: B)[j2]'(by omega) = k := by
                  rw [List.getElem_append_right (by omega)]
                  simp [al]
                rw [v0] at d0
                rw [v1] at d2
                have Z : Hid (KW (A' ++ [ax]) B k ∧ A' ++ [ax] ++ B = ks ∧ A'.length = j' ∧ wy.ownsRow w.heap.size 9 1 (.slice p9 N c9) N (strs (A' ++ [ax] ++ k :: B)) ∧ Kept (fun _ => False) w wy ∧ (A' ++ [ax] ++ k :: B).length = N ∧ j2 = j' + 1 ∧ p9 = some ⟨gb, 0, none⟩) := ⟨fw, ab, al2, ow, kp, F1, hj', eg0⟩
                clear fw ab al al2 ow kp F1 eg v0 v1 S hj'
                subst eg0
                have rr := own_room Z.out.2.2.2.1
                unfold maxLen at rr
                obtain ⟨rr1, rr2⟩ := rr
                obtain ⟨bb, hbb⟩ : ∃ bb, Op.bytesLess k.toList ax.toList = bb := ⟨_, rfl⟩
                have HB : Hid (bb = decide (k.data.toList < ax.data.toList)) := by rw [← hbb]; exact bl_iff _ _
                cases bb
                · go_upto_region 16 with fail
                  go_quiet (fail)
                  have S3 : Hid (∃ ks, KS w (wy.drewN nq) (some ⟨gb, 0, none⟩) N c9 ks (vs.take (i + 1))) := by
                    have K : Kept (fun _ => False) wy (wy.drewN nq) := k0_of (below_dN (Below.refl _ _) nq)
                    exact FIN.out _ B _ Z.out.2.1 (Z.out.1.stop (of_decide_eq_false HB.out.symm)) (K.owns Z.out.2.2.2.1 (fun _ _ z => z)) (Z.out.2.2.2.2.1.and0 K)
                  go_wp2_with fail
                  go_roundw
                  case rel => exact ⟨i + 1, N, c9, _, rfl, by go_num, by omega, S3⟩
                  case measure => simp [intOf] <;> omega
                · go_upto_region 16 with fail
                  go_quiet (fail)
                  obtain ⟨W3, hW3⟩ : ∃ W3, W3 = wy.drewN nq := ⟨_, rfl⟩
                  have K3 : Hid (Kept (fun _ => False) wy W3) := by rw [hW3]; exact k0_of (below_dN (Below.refl _ _) nq)
                  rw [← hW3]
                  replace d0 := K3.out.cell d0 (fun z => z)
                  replace d2 := K3.out.cell d2 (fun z => z)
                  have Q3 : Hid (W3.ownsRow w.heap.size 9 1 (.slice (some ⟨gb, 0, none⟩) N c9) N (strs (A' ++ [ax] ++ k :: B)) ∧ Kept (fun _ => False) w W3 ∧ w.heap.size ≤ gb) := by
                    have ow := K3.out.owns Z.out.2.2.2.1 (fun _ _ z => z)
                    exact ⟨ow, Z.out.2.2.2.2.1.and0 K3.out, (own_lt ow gb rfl).1⟩
                  have f2 := Q3.out.1.frozenAt j2
                  clear hW3
                  go_upto_region 20 with fail
                  obtain ⟨W4, hW4⟩ : ∃ W4, W4 = W3.setCell ⟨gb, j2, none⟩ (.string ax) := ⟨_, rfl⟩
                  have Q4 : Hid (W4.ownsRow w.heap.size 9 1 (.slice (some ⟨gb, 0, none⟩) N c9) N (strs ((A' ++ [ax] ++ k :: B).set j2 ax)) ∧ Kept (fun _ => False) w W4) := by
                    have K4 : Kept (fun k => k = gb) W3 W4 := by rw [hW4]; exact (Kept.refl (fun k => k = gb) W3).setCell (p := ⟨gb, j2, none⟩) (fun _ => rfl) _
                    refine ⟨?_, Q3.out.2.1.trans K4 (fun x hx z => by have z : x = gb := z; have := Q3.out.2.2; omega)⟩
                    rw [strs_set, hW4]
                    exact (Q3.out.1.stored _ _).1
                  rw [← hW4]
                  clear hW4 d0 d2 f2
                  obtain ⟨gb', eg, d0⟩ := own_str Q4.out.1 (by rw [List.length_set]; exact Z.out.2.2.2.2.2.1) (i := j') (by have := HN.out; omega)
                  have eg2 : gb = gb' := congrArg Addr.block (Option.some.inj eg)
                  subst eg2
                  clear eg
                  obtain ⟨r0, hr⟩ : ∃ r, r = ((A' ++ [ax] ++ k :: B).set j2 ax)[j']'(by rw [List.length_set, Z.out.2.2.2.2.2.1]; have := HN.out; omega) := ⟨_, rfl⟩
                  rw [← hr] at d0
                  clear hr
                  have f0 := Q4.out.1.frozenAt j'
                  have Q5 : Hid (∃ A2 B2, KW A2 B2 k ∧ A2 ++ B2 = ks ∧ A2.length = j' ∧ (W4.setCell ⟨gb, j', none⟩ (.string k)).ownsRow w.heap.size 9 1 (.slice (some ⟨gb, 0, none⟩) N c9) N (strs (A2 ++ k :: B2)) ∧ Kept (fun _ => False) w (W4.setCell ⟨gb, j', none⟩ (.string k))) := by
                    have K5 : Kept (fun k => k = gb) W4 (W4.setCell ⟨gb, j', none⟩ (.string k)) := (Kept.refl (fun k => k = gb) W4).setCell (p := ⟨gb, j', none⟩) (fun _ => rfl) _
                    have el : A' ++ k :: ax :: B = ((A' ++ [ax] ++ k :: B).set j2 ax).set j' k := by
                      have a1 := Z.out.2.2.1
                      have a2 := HJ.out
                      rw [List.append_assoc, List.set_append_right _ _ (by omega), List.set_append_right _ _ (by omega)]
                      have b1 : j2 - A'.length = 1 := by omega
                      have b2 : j' - A'.length = 0 := by omega
                      rw [b1, b2]
                      rfl
                    refine ⟨A', ax :: B, Z.out.1.next (of_decide_eq_true HB.out.symm), ?_, Z.out.2.2.1, ?_, Q4.out.2.trans K5 (fun x hx z => by have z : x = gb := z; have := Q3.out.2.2; omega)⟩
                    · have := Z.out.2.1
                      rw [List.append_assoc] at this
                      exact this
                    · rw [el, strs_set]
                      exact (Q4.out.1.stored _ _).1
                  go_wp2_with fail
                  go_roundw
                  case rel => exact ⟨j', rfl, by have := HJ.out; omega, Q5⟩
                  case measure => have := HJ.out; simp [intOf] <;> omega
          · have S2 : Hid (∃ ks, KS w W1 q m e ks (vs.take (i + 1))) := by
              refine ⟨ks, J.out.2.len, J.out.2.row, ?_, J.out.2.kept⟩
              rw [TK2.out.1]
              exact J.out.2.keys.old (by rw [TK2.out.2]; exact T2.out.1 rfl)
            go_wp2_with fail
            go_roundw
            case rel => exact ⟨i + 1, m, e, q, rfl, by go_num, by omega, S2⟩
            case measure => simp [intOf] <;> omega
    · have i1 : ¬ (i : Int) < (n : Int) := by omega
      have G : Hid (∃ ks, KS w wq q m e ks vs) := by
        have := S.out
        rw [List.take_of_length_le (by rw [H.out.vlen]; omega)] at this
        exact this
      clear S
      go_wp2_with fail
      go_ret
      obtain ⟨ks, G⟩ := G.out
      exact ⟨q, m, e, rfl, ks, G⟩
end Go.Proofs.YtojepeefphbekaaGreat
