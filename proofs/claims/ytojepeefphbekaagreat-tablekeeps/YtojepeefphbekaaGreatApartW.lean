import Derived.Test.YtojepeefphbekaaGreatApart1J
namespace Go.Proofs.YtojepeefphbekaaGreat
open Go.RowKit 

theorem Tryz.info5c : (Tryz.prog.info? 5).map (fun i => (i.zero, i.size, i.bytes)) = some (some (.int .u8 0), 1, 1) := by kernel_rfl
theorem Tryz.info38c : (Tryz.prog.info? 38).map (fun i => (i.zero, i.size, i.bytes)) = some (some (.slice none 0 0), 1, 24) := by kernel_rfl
theorem src_byte {w : World} {b : Nat} {x : Int} (h : w.heap[b]? = some (.cells #[.int .u8 x] 5 (0, 0))) : Src Tryz.prog 1 38 (.slice (some ⟨b, 0, none⟩) 1 1) 1 [.int .u8 x] w :=
  Src.ofSlice w Tryz.underlying38 ⟨b, 0, none⟩ 1 1 [.int .u8 x] rfl (fun j u hj => by
    rw [Addr.add_none, Nat.zero_add, cell_of_row w b j _ 5 (0, 0) h]
    simpa using hj) (fun v hv => by simp at hv; rw [hv]; rfl)
theorem src_sl {w : World} {b : Nat} {a : Option Addr} {n c : Nat} (h : w.heap[b]? = some (.cells #[.slice a n c] 38 (0, 0))) : Src Tryz.prog 1 30 (.slice (some ⟨b, 0, none⟩) 1 1) 1 [.slice a n c] w :=
  Src.ofSlice w Tryz.underlying30 ⟨b, 0, none⟩ 1 1 [.slice a n c] rfl (fun j u hj => by
    rw [Addr.add_none, Nat.zero_add, cell_of_row w b j _ 38 (0, 0) h]
    simpa using hj) (fun v hv => by simp at hv; rw [hv]; rfl)
set_option maxRecDepth 100000 in
set_option maxHeartbeats 8000000 in
/-- All lists are apart. -/
theorem apartW (b0 : Nat) (p : Option Addr) (n c : Nat) (T : List B3) (w : World) (h : OL b0 w T) (row : w.ownsRow b0 38 1 (.slice p n c) n (bcells T)) (hn : n ≤ 4096) (hb : b0 ≤ w.heap.size) : Calls Tryz.prog 16 #[.slice p n c] w fun o w' => o = .returned (.bool true) ∧ Kept (fun k => b0 ≤ k) w w' := by
  have hl : T.length = n := by have := own_len1 row; unfold bcells at this; rw [List.length_map] at this; exact this
  have H : Hid (w.ownsRow b0 38 1 (.slice p n c) n (bcells T) ∧ T.length = n ∧ b0 ≤ w.heap.size) := ⟨row, hl, hb⟩
  have rm := own_room row
  unfold maxLen at rm
  obtain ⟨rm1, rm2⟩ := rm
  have M0 : Hid (MKd b0 w T 0 ∧ w.ownsRow b0 38 1 (.slice p n c) n (bcells T) ∧ Kept (fun k => b0 ≤ k) w w) := ⟨h.mkd, row, Kept.refl _ _⟩
  clear h row hl hb
  go_enter Tryz.func16, Tryz.ntmps16
  go_wp2_with fail
  go_loopw [4, 5, 6, 13] (fun _ _ _ z wr => ∃ (i : Nat), z = .int .i64 (i : Int) ∧ i ≤ n ∧ Hid (MKd b0 wr T i ∧ wr.ownsRow b0 38 1 (.slice p n c) n (bcells T) ∧ Kept (fun k => b0 ≤ k) w wr)) (fun _ _ _ z _ => n - (intOf z).toNat)
  case atStart => exact ⟨0, rfl, Nat.zero_le _, M0⟩
  case round =>
    obtain ⟨i, rfl, hi, S⟩ := hrel
    obtain ⟨wo, hwo⟩ : ∃ wo, wo = wr := ⟨_, rfl⟩
    rw [← hwo] at S ⊢
    clear hwo M0
    by_cases hlt : i < n
    · have i1 : (i : Int) < (n : Int) := by omega
      have hT : i < T.length := by rw [H.out.2.1]; exact hlt
      obtain ⟨⟨ea, en, ec⟩, he⟩ : ∃ e, e = T[i] := ⟨_, rfl⟩
      obtain ⟨b, rfl, v, hv, hc⟩ := own_at S.out.2.1 hlt
      have hv : v = .slice ea en ec := by
        unfold bcells at hv
        rw [List.getElem?_map, List.getElem?_eq_getElem hT, ← he] at hv
        exact (Option.some.inj hv).symm
      subst hv
      obtain ⟨xs, ox⟩ := S.out.1.any hT
      rw [← he] at ox
      have ox : wo.ownsRow b0 5 1 (.slice ea en ec) en xs := ox
      have rx := own_room ox
      unfold maxLen at rx
      obtain ⟨rx1, rx2⟩ := rx
      have HX : Hid ((ea, en, ec) = T[i] ∧ xs.length = en) := ⟨he, own_len1 ox⟩
      have N0 : Hid (wo.ownsRow b0 5 1 (.slice ea en ec) en (List.replicate 0 (mark i) ++ xs.drop 0) ∧ Kept (fun k => blockOf ea = some k) wo wo) := ⟨ox, Kept.refl _ _⟩
      clear he ox
      go_wp2_with fail
      go_loopw [6, 20] (fun _ z wr => ∃ (j : Nat), z = .int .i64 (j : Int) ∧ j ≤ en ∧ Hid (wr.ownsRow b0 5 1 (.slice ea en ec) en (List.replicate j (mark i) ++ xs.drop j) ∧ Kept (fun k => blockOf ea = some k) wo wr)) (fun _ z _ => en - (intOf z).toNat)
      case atStart => exact ⟨0, rfl, Nat.zero_le _, N0⟩
      case round =>
        obtain ⟨j, rfl, hj, N⟩ := hrel
        clear N0
        by_cases hjl : j < en
        · have j1 : (j : Int) < (en : Int) := by omega
          obtain ⟨g, rfl, v0, _, c0⟩ := own_at N.out.1 hjl
          have f0 := N.out.1.frozenAt j
          have N1 : Hid ((wr.setCell ⟨g, j, none⟩ (.int .u8 ((i : Int) % 256))).ownsRow b0 5 1 (.slice (some ⟨g, 0, none⟩) en ec) en (List.replicate (j + 1) (mark i) ++ xs.drop (j + 1)) ∧ Kept (fun k => blockOf (some ⟨g, 0, none⟩) = some k) wo (wr.setCell ⟨g, j, none⟩ (.int .u8 ((i : Int) % 256)))) := by
            refine ⟨?_, N.out.2.setCell (p := ⟨g, j, none⟩) (fun _ => rfl) _⟩
            rw [← set_mark xs (mark i) j (by rw [HX.out.2]; exact hjl)]
            exact (N.out.1.stored j (mark i)).1
          go_wp2_with fail
          go_roundw
          case rel => exact ⟨j + 1, by go_num, by omega, N1⟩
          case measure => simp [intOf] <;> omega
        · have j1 : ¬ (j : Int) < (en : Int) := by omega
          have S2 : Hid (MKd b0 wr T (i + 1) ∧ wr.ownsRow b0 38 1 (.slice (some ⟨b, 0, none⟩) n c) n (bcells T) ∧ Kept (fun k => b0 ≤ k) w wr) := by
            have hT' : i < T.length := by rw [H.out.2.1]; exact hlt
            have e := HX.out.1
            have ej : j = en := by omega
            have ow := N.out.1
            rw [ej, List.drop_of_length_le (by rw [HX.out.2]; exact Nat.le_refl _), List.append_nil] at ow
            have K := N.out.2
            have e1 : ea = T[i].1 := congrArg (fun x : B3 => x.1) e
            have e2 : en = T[i].2.1 := congrArg (fun x : B3 => x.2.1) e
            have e3 : ec = T[i].2.2 := congrArg (fun x : B3 => x.2.2) e
            rw [e1, e2, e3] at ow
            rw [e1] at K
            refine ⟨S.out.1.step hT' K ow, K.owns S.out.2.1 (fun k hk z => ?_), S.out.2.2.trans (K.mono (fun k _ z => ?_)) (fun _ _ z => z)⟩
            · obtain ⟨c1, h1⟩ := own_typ S.out.2.1 (by rw [← blockOf_own]; exact hk)
              obtain ⟨xs, ox⟩ := S.out.1.any hT'
              obtain ⟨c2, h2⟩ := own_typ ox z
              rw [h1] at h2
              simp at h2
            · obtain ⟨xs, ox⟩ := S.out.1.any hT'
              exact (own_lt ox k z).1
          go_wp2_with fail
          go_roundw
          case rel => exact ⟨i + 1, by go_num, by omega, S2⟩
          case measure => simp [intOf] <;> omega
    · have i1 : ¬ (i : Int) < (n : Int) := by omega
      have A0 : Hid (∃ M, AP b0 wo T M 0 none 0 ∧ wo.ownsRow b0 38 1 (.slice p n c) n (bcells T) ∧ Kept (fun k => b0 ≤ k) w wo ∧ ∀ k, blockOf none = some k → w.heap.size ≤ k) := by
        have m := S.out.1
        have ei : i = T.length := by rw [H.out.2.1]; omega
        rw [ei] at m
        exact ⟨[], m.ap, S.out.2.1, S.out.2.2, fun k hk => (by cases hk)⟩
      clear S
      go_wp2_with fail
      go_loopw [3, 7, 8, 32] (fun y _ _ z wr => ∃ (j c2 : Nat) (p2 : Option Addr), y = .slice p2 j c2 ∧ z = .int .i64 (j : Int) ∧ j ≤ n ∧ Hid (∃ M, AP b0 wr T M j p2 c2 ∧ wr.ownsRow b0 38 1 (.slice p n c) n (bcells T) ∧ Kept (fun k => b0 ≤ k) w wr ∧ ∀ k, blockOf p2 = some k → w.heap.size ≤ k)) (fun _ _ _ z _ => n - (intOf z).toNat)
      case atStart => exact ⟨0, 0, none, rfl, rfl, Nat.zero_le _, A0⟩
      case round =>
        obtain ⟨j, c2, p2, rfl, rfl, hj, A⟩ := hrel
        obtain ⟨wq, hwq⟩ : ∃ wq, wq = wr := ⟨_, rfl⟩
        rw [← hwq] at A ⊢
        clear A0 hwq
        by_cases hjl : j < n
        · have j1 : (j : Int) < (n : Int) := by omega
          obtain ⟨M, ap, row, kp, mf⟩ := A.out
          have hT : j < T.length := by rw [H.out.2.1]; exact hjl
          obtain ⟨⟨ea, en, ec⟩, he⟩ : ∃ e, e = T[j] := ⟨_, rfl⟩
          obtain ⟨b, rfl, v, hv, hc⟩ := own_at row hjl
          have hv : v = .slice ea en ec := by
            unfold bcells at hv
            rw [List.getElem?_map, List.getElem?_eq_getElem hT, ← he] at hv
            exact (Option.some.inj hv).symm
          subst hv
          have ox := ap.own j hT (Nat.le_refl _)
          have sm := ap.small _ (List.getElem_mem hT)
          rw [← he] at ox sm
          have ox : wq.ownsRow b0 5 1 (.slice ea en ec) en (List.replicate en (mark j)) := ox
          have sm : en ≤ 140737488355328 := sm
          have HX : Hid ((ea, en, ec) = T[j] ∧ wq.ownsRow b0 5 1 (.slice ea en ec) en (List.replicate en (mark j)) ∧ AP b0 wq T M j p2 c2 ∧ wq.ownsRow b0 38 1 (.slice (some ⟨b, 0, none⟩) n c) n (bcells T) ∧ Kept (fun k => b0 ≤ k) w wq ∧ b0 ≤ wq.heap.size) := ⟨he, ox, ap, row, kp, Nat.le_trans H.out.2.2 kp.size⟩
          have MF : Hid (∀ k, blockOf p2 = some k → w.heap.size ≤ k) := mf
          have BL1 : Hid (en + 1 ≤ maxLen ∧ ((en + 1) + (en + 1) / 4 + 192) * 1 ≤ 281474976710656) := by
            unfold maxLen
            exact ⟨by omega, by omega⟩
          have BL2 : Hid (j + 1 ≤ maxLen ∧ ((j + 1) + (j + 1) / 4 + 192) * 24 ≤ 281474976710656) := by
            unfold maxLen
            exact ⟨by omega, by omega⟩
          obtain ⟨mk, hmk⟩ : ∃ mk : Int, mk = (j : Int) % 256 := ⟨_, rfl⟩
          clear he ox sm ap row kp mf
          go_wp2_with
            (first
              | (at_builtin; rw [← hmk]; refine wpList_append_all _ rfl (.tmp 38) (.tmp 41) 38 5 38 _ 1 1 rfl Tryz.underlying38 Tryz.info5c rfl b0 (.slice ea en ec) en (List.replicate en (mark j)) rfl ((k0_alloc wq _).owns HX.out.2.1 (fun _ _ z => z)) _ 1 [.int .u8 mk] rfl (src_byte (heap_alloc_new wq _)) BL1.out.1 BL1.out.2 (Nat.le_trans HX.out.2.2.2.2.2 (k0_alloc wq _).size) ?_; intro p9 c9 w9 ho9 hg9 hn9
                 have R9 : Hid (w9.ownsRow b0 38 1 (.slice p2 j c2) j (bcells M) ∧ b0 ≤ w9.heap.size) := by
                   have K1 : Kept (fun k => blockOf ea = some k) wq w9 := ((Kept.refl (fun k => blockOf ea = some k) wq).alloc _).grown hg9.out (fun k _ z => by rw [blockOf_own] at z; exact z)
                   refine ⟨K1.owns HX.out.2.2.1.row (fun k hk z => ?_), Nat.le_trans HX.out.2.2.2.2.2 K1.size⟩
                   obtain ⟨c1, h1⟩ := own_typ HX.out.2.2.1.row (by rw [← blockOf_own]; exact hk)
                   obtain ⟨c2, h2⟩ := own_typ HX.out.2.1 z
                   rw [h1] at h2
                   simp at h2)
              | (at_builtin; refine wpList_append_all _ rfl (.tmp 37) (.tmp 43) 30 38 30 _ 1 24 rfl Tryz.underlying30 Tryz.info38c rfl b0 (.slice p2 j c2) j (bcells M) rfl ((k0_alloc w9 _).owns R9.out.1 (fun _ _ z => z)) _ 1 [.slice p9 (en + 1) c9] rfl (src_sl (heap_alloc_new w9 _)) BL2.out.1 BL2.out.2 (Nat.le_trans R9.out.2 (k0_alloc w9 _).size) ?_; intro p10 c10 w10 ho10 hg10 hn10)
              | fail)
          have A9 : Hid (∃ M, AP b0 w10 T M (j + 1) p10 c10 ∧ w10.ownsRow b0 38 1 (.slice (some ⟨b, 0, none⟩) n c) n (bcells T) ∧ Kept (fun k => b0 ≤ k) w w10 ∧ ∀ k, blockOf p10 = some k → w.heap.size ≤ k) := by
            have hT' : j < T.length := by rw [H.out.2.1]; exact hjl
            have e := HX.out.1
            have e1 : ea = T[j].1 := congrArg (fun x : B3 => x.1) e
            have e2 : en = T[j].2.1 := congrArg (fun x : B3 => x.2.1) e
            have e3 : ec = T[j].2.2 := congrArg (fun x : B3 => x.2.2) e
            have em : Value.int .u8 mk = mark j := by rw [hmk]; rfl
            have q1 := ho9.out
            have q2 := hg9.out
            have q3 := hn9.out
            have q4 := ho10.out
            rw [e2, em] at q1
            rw [e1, e2, e3] at q2 q3
            rw [e2] at q4
            obtain ⟨s1, K1, K2⟩ := HX.out.2.2.1.step hT' q1 q2 q3 q4 hg10.out
            have lb : b < w.heap.size := (own_lt H.out.1 b rfl).2
            refine ⟨_, s1, K2.owns (K1.owns HX.out.2.2.2.1 (fun k hk z => ?_)) (fun k hk z => ?_), (HX.out.2.2.2.2.1.trans (K1.mono (fun k _ z => ?_)) (fun _ _ z => z)).trans K2 (fun k hk z => ?_), fun k hk => ?_⟩
            · obtain ⟨c1, h1⟩ := own_typ HX.out.2.2.2.1 (by rw [← blockOf_own]; exact hk)
              obtain ⟨c3, h3⟩ := own_typ (HX.out.2.2.1.own j hT' (Nat.le_refl _)) z
              rw [h1] at h3
              simp at h3
            · have hk : some b = some k := hk
              have := MF.out k z
              have := Option.some.inj hk
              omega
            · exact (own_lt (HX.out.2.2.1.own j hT' (Nat.le_refl _)) k z).1
            · exact (own_lt HX.out.2.2.1.row k z).1
            · rcases hn10.out with e | ⟨e, _⟩
              · rw [blockOf_own, blockOf_own, hk] at e
                exact MF.out k e.symm
              · rw [blockOf_own, hk] at e
                have e := Option.some.inj e
                have h1 := HX.out.2.2.2.2.1.size
                have h2 := K1.size
                have h3 := (k0_alloc w9 (.cells #[.slice p9 (en + 1) c9] 38)).size
                omega
          clear ho9 hg9 hn9 ho10 hg10 hn10 R9
          go_roundw
          case rel => exact ⟨j + 1, c10, p10, rfl, by go_num, by omega, A9⟩
          case measure => simp [intOf] <;> omega
        · have j1 : ¬ (j : Int) < (n : Int) := by omega
          obtain ⟨M, ap, row, kp, mf⟩ := A.out
          have ej : j = n := by omega
          subst ej
          have Z : Hid (AP b0 wq T M j p2 c2 ∧ wq.ownsRow b0 38 1 (.slice p j c) j (bcells T) ∧ Kept (fun k => b0 ≤ k) w wq) := ⟨ap, row, kp⟩
          have rr := own_room ap.row
          unfold maxLen at rr
          obtain ⟨rr1, rr2⟩ := rr
          clear ap row kp mf A hi hlt i1
          go_wp2_with fail
          go_loopw [9, 10, 48] (fun _ _ z wr => ∃ (m : Nat), z = .int .i64 (m : Int) ∧ m ≤ j ∧ wr = wq) (fun _ _ z _ => j - (intOf z).toNat)
          case atStart => exact ⟨0, rfl, Nat.zero_le _, rfl⟩
          case round =>
            obtain ⟨m, rfl, hm, hw⟩ := hrel
            rw [hw]
            clear hw
            by_cases hml : m < j
            · have m1 : (m : Int) < (j : Int) := by omega
              have hT : m < T.length := by rw [H.out.2.1]; exact hml
              have hM : m < M.length := by rw [Z.out.1.len]; exact hml
              obtain ⟨q1, q2, q3, q4⟩ := Z.out.1.ms m hM hT
              obtain ⟨⟨ea, en, ec⟩, he⟩ : ∃ e, e = T[m] := ⟨_, rfl⟩
              obtain ⟨⟨fa, fn, fc⟩, hf⟩ : ∃ e, e = M[m] := ⟨_, rfl⟩
              have tm := Z.out.1.ts m hT
              rw [← he] at tm q1
              rw [← hf] at q1 q2 q3 q4
              have q1 : fn = en + 1 := q1
              have q2 : fn ≤ fc := q2
              have q3 : fc ≤ maxLen := q3
              have HX : Hid (Mrk wq (fa, fn, fc) fn m ∧ Mrk wq (ea, en, ec) en m) := ⟨q4, tm⟩
              subst q1
              obtain ⟨b, eb, v, hv, hc⟩ := own_at Z.out.2.1 hml
              obtain ⟨b2, eb2, v2, hv2, hc2⟩ := own_at Z.out.1.row hml
              have hv : v = .slice ea en ec := by
                unfold bcells at hv
                rw [List.getElem?_map, List.getElem?_eq_getElem hT, ← he] at hv
                exact (Option.some.inj hv).symm
              have hv2 : v2 = .slice fa (en + 1) fc := by
                unfold bcells at hv2
                rw [List.getElem?_map, List.getElem?_eq_getElem hM, ← hf] at hv2
                exact (Option.some.inj hv2).symm
              subst hv hv2 eb eb2
              unfold maxLen at q3
              clear he hf tm q4
              go_wp2_with fail
              go_loopw [10, 56] (fun _ z wr => ∃ (q : Nat), z = .int .i64 (q : Int) ∧ q ≤ en + 1 ∧ wr = wq) (fun _ z _ => en + 1 - (intOf z).toNat)
              case atStart => exact ⟨0, rfl, Nat.zero_le _, rfl⟩
              case round =>
                obtain ⟨q, rfl, hq, hw⟩ := hrel
                rw [hw]
                clear hw
                by_cases hql : q < en + 1
                · have q1 : (q : Int) < (en : Int) + 1 := by omega
                  obtain ⟨b3, e3, c3⟩ := HX.out.1 q hql
                  have e3 : fa = some ⟨b3, 0, none⟩ := e3
                  subst e3
                  unfold mark at c3
                  by_cases hqe : q < en
                  · have q5 : (q : Int) < (en : Int) := by omega
                    obtain ⟨b4, e4, c4⟩ := HX.out.2 q hqe
                    have e4 : ea = some ⟨b4, 0, none⟩ := e4
                    subst e4
                    unfold mark at c4
                    go_wp2_with fail
                    go_roundw
                    case rel => exact ⟨q + 1, by go_num, by omega, trivial⟩
                    case measure => simp [intOf] <;> omega
                  · have q5 : ¬ (q : Int) < (en : Int) := by omega
                    go_wp2_with fail
                    go_roundw
                    case rel => exact ⟨q + 1, by go_num, by omega, trivial⟩
                    case measure => simp [intOf] <;> omega
                · have q1 : ¬ (q : Int) < (en : Int) + 1 := by omega
                  go_wp2_with fail
                  go_roundw
                  case rel => exact ⟨m + 1, by go_num, by omega, trivial⟩
                  case measure => simp [intOf] <;> omega
            · have m1 : ¬ (m : Int) < (j : Int) := by omega
              go_wp2_with fail
              go_ret
              exact ⟨rfl, Z.out.2.2⟩
end Go.Proofs.YtojepeefphbekaaGreat
