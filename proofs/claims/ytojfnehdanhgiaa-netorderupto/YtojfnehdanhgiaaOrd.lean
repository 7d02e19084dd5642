import Derived.Test.YtojfnehdanhgiaaOrdA
namespace Go.Proofs.Ytojfnehdanhgiaa
open Go.RowKit

set_option maxRecDepth 100000 in
set_option maxHeartbeats 4000000 in
theorem netOrder (q : Option Addr) (n cap : Nat) (D : List Sli) (q2 : Option Addr) (n2 cap2 : Nat) (P : List Int) (w : World) (hD : Datas w q n cap D) (hP : Picks w q2 n2 cap2 P) (hb : n + 300 ≤ Big) :
    Calls Try.prog 5 #[.slice q n cap, .slice q2 n2 cap2] w fun x w' => x = .returned (.bool true) ∧ Kept (fun _ => False) w w' := by
  have HD : Hid (Datas w q n cap D ∧ Picks w q2 n2 cap2 P ∧ n + 300 ≤ Big) := ⟨hD, hP, hb⟩
  have hr := hP.room
  have hs := hP.small
  have hln := hD.length
  unfold maxLen at hs
  clear hD hP hb
  go_enter Try.func5, Try.ntmps5
  go_wp2_with fail
  refine (flown q n cap D w HD.out.1 (Nat.le_trans (Nat.le_add_right _ _) HD.out.2.2)).mono ?_
  rintro x w1 ⟨C, g0, p0, c0, R0, rfl, F⟩
  have S1 : Hid (Fzs w w1 C g0 p0 c0 R0 (flownP D)) := F
  clear F
  go_upto_block 0 with fail
  go_cut [4, 6, 8, 9, 10, 11, 12] from 28 to 115 (fun _ y _ _ _ _ _ wc => ∃ (p : Option Addr) (m c : Nat) (g : Option Nat) (R : List Ent) (ps : List Pk), y = .slice p m c ∧ Hid (m = ps.length ∧ Fzs w wc C g p c R ps ∧ ps.length ≤ Big))
  case first =>
    go_wp2_with fail
    go_loopw [4, 6, 8, 9, 10, 11, 12, 28] (fun _ y _ _ _ _ _ x wr => ∃ (k : Nat) (p : Option Addr) (m c : Nat) (g : Option Nat) (R : List Ent) (ps : List Pk), x = .int .i64 (k : Int) ∧ y = .slice p m c ∧ k ≤ n2 ∧ k ≤ 201 ∧ Hid (m = ps.length ∧ Fzs w wr C g p c R ps ∧ ps.length ≤ n + k)) (fun _ _ _ _ _ _ _ x _ => n2 - (intOf x).toNat)
    case atStart => exact ⟨0, p0, n, c0, g0, R0, flownP D, rfl, rfl, Nat.zero_le _, Nat.zero_le _, by rw [flownP_length, hln], S1.out, by rw [flownP_length, hln]; exact Nat.le_add_right _ _⟩
    case round =>
      obtain ⟨k, p, m, c, g, R, ps, rfl, rfl, hk, hk2, S⟩ := hrel
      by_cases hlt : k < n2
      · have i1 : (k : Int) < (n2 : Int) := by omega
        obtain ⟨b, off, rfl, hc⟩ := HD.out.2.1.cells (by omega)
        have hkP : k < P.length := by rw [HD.out.2.1.length]; exact hlt
        obtain ⟨x, hx⟩ : ∃ x, P[k] = x := ⟨_, rfl⟩
        have d0 : wr.cell? ⟨b, off + k, none⟩ = some (.int .i64 x) := by rw [← hx]; exact S.out.2.1.kept.cell (hc k hkP) (fun q => q)
        clear hc hx hkP
        by_cases hk3 : 200 < k
        · have i2 : (200 : Int) < (k : Int) := by omega
          have SB : Hid (m = ps.length ∧ Fzs w wr C g p c R ps ∧ ps.length ≤ Big) := ⟨S.out.1, S.out.2.1, Nat.le_trans S.out.2.2 (Nat.le_trans (by omega) HD.out.2.2)⟩
          go_wp2_with fail
          go_meet
          case rel => exact ⟨p, m, c, g, R, ps, rfl, SB.out⟩
        · have i2 : ¬ (200 : Int) < (k : Int) := by omega
          have mB : Hid (m + 99 ≤ Big) := by
            have a := S.out.2.2
            have b := HD.out.2.2
            have d := S.out.1
            show m + 99 ≤ Big
            omega
          by_cases hm : m = 0
          · have SB : Hid (m = ps.length ∧ Fzs w wr C g p c R ps ∧ ps.length ≤ Big) := ⟨S.out.1, S.out.2.1, Nat.le_trans S.out.2.2 (Nat.le_trans (by omega) HD.out.2.2)⟩
            subst hm
            go_wp2_with fail
            go_meet
            case rel => exact ⟨p, 0, c, g, R, ps, rfl, SB.out⟩
          · have m1 : ¬ ((m : Int) = 0) := by omega
            have hmB : m ≤ 4611686018427387904 := by have := mB.out; unfold Big at this; omega
            obtain ⟨y, z, i, hy, hz, hq, hi⟩ := within x m (by omega) hmB
            have mi : (i : Int) < (m : Int) := by omega
            have hk0 : k % 3 = 0 ∨ k % 3 = 1 ∨ k % 3 = 2 := by omega
            have HI : Hid (i < ps.length ∧ m = ps.length) := ⟨by rw [← S.out.1]; exact hi, S.out.1⟩
            have FSR : Hid (Fzs w wr C g p c R ps) := S.out.2.1
            have LB : Hid (ps.length ≤ n + k) := S.out.2.2
            have LR : Hid (IsL w.heap.size wr p m c R) := by have := FSR.out.list; rw [← HI.out.2] at this; exact this
            clear S
            rcases hk0 with h3 | h3 | h3
            · have h3' : (k : Int) % 3 = 0 := by omega
              go_wp2_with fail
              refine (take_of w.heap.size C g ps i HI.out.1 wr FSR.out.net).mono ?_
              rintro x2 w2 ⟨e, rfl, hpe, ge, n2', m2⟩
              have S2 : Hid (Kept (fun _ => False) w w2 ∧ NetOf 67 w.heap.size w2 C g (ps.take i ++ ps.drop (i + 1)) ∧ IsL w.heap.size w2 p m c R ∧ Good w.heap.size w2 e ∧ ps[i]? = some e.p) := ⟨m2.kept0 FSR.out.net (Nat.le_refl _) FSR.out.kept, n2', m2.list FSR.out.net LR.out FSR.out.off, ge, hpe⟩
              clear ge n2' m2 hpe
              obtain ⟨W, hW⟩ : ∃ W, W = w2.alloc (.cells #[.int .i64 e.p.fk, .int .i64 e.p.fi, .int .i64 e.p.tk, .int .i64 e.p.ti, .slice e.a e.len e.cap, .bool e.p.lost] 39) := ⟨_, rfl⟩
              have KW : Kept (fun _ => False) w2 W := by rw [hW]; exact alloc_kept0 _ _
              have bW : Box W w2.heap.size (.int .i64 e.p.fk) (.int .i64 e.p.fi) (.int .i64 e.p.tk) (.int .i64 e.p.ti) (.slice e.a e.len e.cap) (.bool e.p.lost) := by unfold Box; rw [hW]; exact alloc_new _ _
              have LW := S2.out.2.2.1.kept0 KW
              obtain ⟨gl, ra, rl, rc, hgl, _, f0, f1, f2, f3, f4, f5, gr⟩ := LW.at i hi e.p (by rw [FSR.out.same]; exact S2.out.2.2.2.2)
              obtain ⟨b0, b1, b2, b3, b4, b5, _⟩ := cell6 _ _ _ _ _ _ _ _ bW
              have SW : Hid (Kept (fun _ => False) w W ∧ NetOf 67 w.heap.size W C g (ps.take i ++ ps.drop (i + 1)) ∧ IsL w.heap.size W p m c R ∧ Reads W e.a e.len e.cap e.p.data ∧ Reads W ra rl rc e.p.data) := ⟨S2.out.1.trans KW (fun _ _ q => q), S2.out.2.1.kept0 KW, LW, (S2.out.2.2.2.1.kept0 KW).reads, gr.reads⟩
              have EW : Hid (W = w2.alloc (.cells #[.int .i64 e.p.fk, .int .i64 e.p.fi, .int .i64 e.p.tk, .int .i64 e.p.ti, .slice e.a e.len e.cap, .bool e.p.lost] 39)) := hW
              clear hW KW bW LW gr S2
              subst hgl
              go_upto_region 12 with fail
              rw [← EW.out]
              go_region_held3 (fun w' => w'.cell? ⟨w2.heap.size, 0, none⟩ = some (.int .i64 e.p.fk) ∧ w'.cell? ⟨w2.heap.size, 1, none⟩ = some (.int .i64 e.p.fi) ∧ w'.cell? ⟨w2.heap.size, 2, none⟩ = some (.int .i64 e.p.tk) ∧ w'.cell? ⟨w2.heap.size, 3, none⟩ = some (.int .i64 e.p.ti) ∧ w'.cell? ⟨w2.heap.size, 4, none⟩ = some (.slice e.a e.len e.cap) ∧ w'.cell? ⟨w2.heap.size, 5, none⟩ = some (.bool e.p.lost) ∧
                  w'.cell? ⟨gl, i * 6, none⟩ = some (.int .i64 e.p.fk) ∧ w'.cell? ⟨gl, i * 6 + 1, none⟩ = some (.int .i64 e.p.fi) ∧ w'.cell? ⟨gl, i * 6 + 2, none⟩ = some (.int .i64 e.p.tk) ∧ w'.cell? ⟨gl, i * 6 + 3, none⟩ = some (.int .i64 e.p.ti) ∧ w'.cell? ⟨gl, i * 6 + 4, none⟩ = some (.slice ra rl rc) ∧ w'.cell? ⟨gl, i * 6 + 5, none⟩ = some (.bool e.p.lost)) (first | go_keep)
                (first
                  | (go_at_call 13; refine (samePacket e.p.fk e.p.fi e.p.tk e.p.ti e.p.lost e.p.data e.a e.len e.cap ra rl rc _ (SW.out.2.2.2.1.kept' ((Kept.refl (fun _ => False) W).drew) (fun _ _ q => q)) (SW.out.2.2.2.2.kept' ((Kept.refl (fun _ => False) W).drew) (fun _ _ q => q))).mono ?_; rintro x3 w3 ⟨rfl, K3⟩
                     have x0 := K3.cell f0 (fun q => q)
                     have x1 := K3.cell f1 (fun q => q)
                     have x2 := K3.cell f2 (fun q => q)
                     have x3 := K3.cell f3 (fun q => q)
                     have x4 := K3.cell f4 (fun q => q)
                     have x5 := K3.cell f5 (fun q => q)
                     have y0 := K3.cell b0 (fun q => q)
                     have y1 := K3.cell b1 (fun q => q)
                     have y2 := K3.cell b2 (fun q => q)
                     have y3 := K3.cell b3 (fun q => q)
                     have y4 := K3.cell b4 (fun q => q)
                     have y5 := K3.cell b5 (fun q => q)
                     have KK : Kept (fun _ => False) W w3 := ((Kept.refl (fun _ => False) W).drew).trans K3 (fun _ _ q => q)
                     have S3 : Hid (Kept (fun _ => False) w w3 ∧ NetOf 67 w.heap.size w3 C g (ps.take i ++ ps.drop (i + 1)) ∧ IsL w.heap.size w3 (some ⟨gl, 0, none⟩) m c R) := ⟨SW.out.1.trans KK (fun _ _ q => q), SW.out.2.1.kept0 KK, SW.out.2.2.1.kept0 KK⟩
                     clear K3 KK)
                  | fail)
              obtain ⟨hr1, hr2⟩ := own_room S3.out.2.2.own
              unfold maxLen at hr2
              obtain ⟨pt, ct, slt, hpt⟩ := slice27i gl m c i hi hr1
              have w1' : IntKind.i64.wrap ((i : Int) + 1) = (i : Int) + 1 := by rw [IntKind.wrap_i64]; omega
              have KE : Hid (Kept (fun _ => False) w3 (w3.alloc (.cells #[] 39)).drew) := (alloc_kept0 _ _).drew
              have OE : Hid ((w3.alloc (.cells #[] 39)).drew.ownsRow w3.heap.size 39 6 (.slice (some ⟨w3.heap.size, 0, none⟩) 0 0) 0 (rcells [])) := own_empty w3 w3.heap.size (Nat.le_refl _)
              have SE : Hid (Src Try.prog 6 27 (.slice (some ⟨gl, 0, none⟩) i c) i (rcells (R.take i)) (w3.alloc (.cells #[] 39)).drew) := (S3.out.2.2.kept0 KE.out).src_take i (by omega) c
              have HPT : Hid (i + 1 < m → pt = ⟨gl, (i + 1) * 6, none⟩) := hpt
              have m4 : i ≤ Big ∧ i + (m - (i + 1)) ≤ Big := by have := mB.out; omega
              have M4 : Hid (i ≤ Big ∧ i + (m - (i + 1)) ≤ Big) := m4
              have ic : i ≤ c := by omega
              clear hpt m4
              go_upto_region 14 with fail
              go_region_law
                (first
                  | (refine step_append_all _ (by rfl) (.tmp 71) (.tmp 74) 27 39 27 _ 6 64 (by rfl) Try.underlying27 Try.info39 rfl w3.heap.size (.slice (some ⟨w3.heap.size, 0, none⟩) 0 0) 0 (rcells []) (by rfl) OE.out (.slice (some ⟨gl, 0, none⟩) i c) i (rcells (R.take i)) (by rfl) SE.out (by rw [Nat.zero_add]; exact big_max M4.out.1) (by rw [Nat.zero_add]; exact big_wide M4.out.1) KE.out.size ?_; intro p5 c5 w5 ho hg hn
                     rw [Nat.zero_add] at ho ⊢
                     have O5 : Hid (w5.ownsRow w3.heap.size 39 6 (.slice p5 i c5) i (rcells (R.take i))) := ho
                     have K5 : Hid (Kept (fun _ => False) w3 w5) := KE.out.grown hg.out (fun j hj z => by simp [Value.ownBlock] at z; omega)
                     have S5 : Hid (Src Try.prog 6 27 (.slice (some pt) (m - (i + 1)) ct) (m - (i + 1)) (rcells (R.drop (i + 1))) w5) := (S3.out.2.2.kept0 K5.out).src_drop (i + 1) HPT.out ct
                     clear ho hg hn)
                  | (refine step_append_all _ (by rfl) (.tmp 75) (.tmp 79) 27 39 27 _ 6 64 (by rfl) Try.underlying27 Try.info39 rfl w3.heap.size (.slice p5 i c5) i (rcells (R.take i)) (by rfl) O5.out (.slice (some pt) (m - (i + 1)) ct) (m - (i + 1)) (rcells (R.drop (i + 1))) (by rfl) S5.out (big_max M4.out.2) (big_wide M4.out.2) K5.out.size ?_; intro p6 c6 w6 ho hg hn
                     have K6 : Kept (fun _ => False) w3 w6 := K5.out.grown hg.out (fun j hj z => by have := (O5.out.lt j z).1; omega)
                     have F6 : Hid (Fzs w w6 C g p6 c6 (R.take i ++ R.drop (i + 1)) (ps.take i ++ ps.drop (i + 1)) ∧ i + (m - (i + 1)) = (ps.take i ++ ps.drop (i + 1)).length) := by
                       have hlen : i + (m - (i + 1)) = (ps.take i ++ ps.drop (i + 1)).length := by rw [List.length_append, List.length_take, List.length_drop, ← HI.out.2]; omega
                       exact ⟨Fzs.relist S3.out.1 S3.out.2.1 S3.out.2.2 FSR.out.same K6 ho.out hlen, hlen⟩
                     clear ho hg hn K6)
                  | fail)
              all_goals (obtain ⟨mm, hmm⟩ : ∃ mm, i + (m - (i + 1)) = mm := ⟨_, rfl⟩)
              all_goals rw [hmm] at F6 ⊢
              all_goals clear hmm
              all_goals go_wp2_with fail
              all_goals refine (len_of w.heap.size C g _ _ F6.out.1.net).mono ?_
              all_goals rw [← F6.out.2]
              all_goals rintro x7 w7 ⟨rfl, rfl⟩
              all_goals go_wp2_with fail
              all_goals go_roundw
              case rel => exact ⟨k + 1, p6, mm, c6, g, _, _, by go_num, rfl, by omega, by omega, F6.out.2, F6.out.1, by have := LB.out; rw [List.length_append, List.length_take, List.length_drop]; omega⟩
              case measure => simp [intOf]; omega
            · have h3' : (k : Int) % 3 = 1 := by omega
              go_wp2_with fail
              refine (nDouble w.heap.size C g ps i wr FSR.out.net FSR.out.kept.size (by rw [← HI.out.2]; have := mB.out; omega)).mono ?_
              rintro x2 w2 ⟨v2, rfl, rfl, g2, n2', m2⟩
              have ad : aDouble ps (i : Int) = (ps ++ ps[i]?.toList, 0) := by rw [aDouble, if_pos (hasI_of HI.out.1), Int.toNat_natCast]
              rw [ad] at n2' ⊢
              clear ad
              obtain ⟨e, he⟩ : ∃ e, ps[i]? = some e := ⟨_, List.getElem?_eq_getElem HI.out.1⟩
              rw [he] at n2'
              have S2 : Hid (Kept (fun _ => False) w w2 ∧ NetOf 67 w.heap.size w2 C g2 (ps ++ [e]) ∧ IsL w.heap.size w2 p m c R ∧ ps[i]? = some e ∧ (∀ k, blockOf p = some k → g2 ≠ some k)) := ⟨m2.kept0 FSR.out.net (Nat.le_refl _) FSR.out.kept, n2', m2.list FSR.out.net LR.out FSR.out.off, he, fun j hj => m2.far (own_lt LR.out.own j hj).2 (FSR.out.off j hj)⟩
              clear n2' m2 he
              obtain ⟨gl, ra, rl, rc, rfl, hRi, f0, f1, f2, f3, f4, f5, gr⟩ := S2.out.2.2.1.at i hi e (by rw [FSR.out.same]; exact S2.out.2.2.2.1)
              obtain ⟨hr1, hr2⟩ := own_room S2.out.2.2.1.own
              unfold maxLen at hr2
              have lg : gl < w2.heap.size := (own_lt S2.out.2.2.1.own gl rfl).2
              obtain ⟨W, hW⟩ : ∃ W, W = w2.alloc (.cells #[.int .i64 e.fk, .int .i64 e.fi, .int .i64 e.tk, .int .i64 e.ti, .slice ra rl rc, .bool e.lost] 39) := ⟨_, rfl⟩
              have KW : Kept (fun _ => False) w2 W := by rw [hW]; exact alloc_kept0 _ _
              have SW : Hid (Kept (fun _ => False) w W ∧ NetOf 67 w.heap.size W C g2 (ps ++ [e]) ∧ IsL w.heap.size W (some ⟨gl, 0, none⟩) m c R ∧ Good w.heap.size W ⟨e, ra, rl, rc⟩ ∧ Src Try.prog 6 27 (.slice (some ⟨w2.heap.size, 0, none⟩) 1 1) 1 (Ent.cells ⟨e, ra, rl, rc⟩) W ∧ w.heap.size ≤ W.heap.size) := by
                have k3 := S2.out.1.trans KW (fun _ _ q => q)
                exact ⟨k3, S2.out.2.1.kept0 KW, S2.out.2.2.1.kept0 KW, gr.kept0 KW, src_one (by rw [hW]; exact alloc_new _ _), k3.size⟩
              have EW : Hid (W = w2.alloc (.cells #[.int .i64 e.fk, .int .i64 e.fi, .int .i64 e.tk, .int .i64 e.ti, .slice ra rl rc, .bool e.lost] 39)) := hW
              have M1 : Hid (m + 1 ≤ Big) := by have := mB.out; show m + 1 ≤ Big; omega
              clear hW KW gr hRi
              go_wp2_with (first | (at_builtin; rw [← EW.out]; refine wpList_append_all _ rfl (.tmp 87) (.tmp 92) 27 39 27 _ 6 64 rfl Try.underlying27 Try.info39 rfl w.heap.size (.slice (some ⟨gl, 0, none⟩) m c) m (rcells R) rfl SW.out.2.2.1.own _ 1 (Ent.cells ⟨e, ra, rl, rc⟩) rfl SW.out.2.2.2.2.1 (big_max M1.out) (big_wide M1.out) SW.out.2.2.2.2.2 ?_; intro p6 c6 w6 ho hg hn) | fail)
              have hL6 := IsL.more SW.out.2.2.1 (Kept.refl _ W) SW.out.2.2.2.1 ho.out hg.out hn.out
              have F6 : Hid (Fzs w w6 C g2 p6 c6 (R ++ [⟨e, ra, rl, rc⟩]) (ps ++ [e]) ∧ m + 1 = (ps ++ [e]).length) := by
                have hlen : m + 1 = (ps ++ [e]).length := by rw [List.length_append, ← HI.out.2]; rfl
                have off1 : ∀ k, blockOf (some (⟨gl, 0, none⟩ : Addr)) = some k → g2 ≠ some k := S2.out.2.2.2.2
                refine ⟨⟨SW.out.1.trans hL6.2.1 (fun j hj z => ?_), SW.out.2.1.beside SW.out.2.2.1 hL6.2.1 off1, by rw [← hlen]; exact hL6.1, by rw [List.map_append, FSR.out.same]; rfl, fun j hj z => ?_⟩, hlen⟩
                · have := (own_lt SW.out.2.2.1.own j z).1; omega
                · rcases hL6.2.2 j hj with y | y
                  · exact off1 j y z
                  · have := (SW.out.2.1.glt j z).1; omega
              clear ho hg hn hL6 SW
              refine (len_of w.heap.size C g2 _ _ F6.out.1.net).mono ?_
              rw [← F6.out.2]
              rintro x7 w7 ⟨rfl, rfl⟩
              go_wp2_with fail
              go_roundw
              case rel => exact ⟨k + 1, p6, m + 1, c6, g2, _, _, by go_num, rfl, by omega, by omega, F6.out.2, F6.out.1, by have := LB.out; rw [List.length_append]; simp; omega⟩
              case measure => simp [intOf]; omega
            · have h3' : (k : Int) % 3 = 2 := by omega
              go_wp2_with fail
              refine (nDrop w.heap.size C g ps i wr FSR.out.net).mono ?_
              rintro x2 w3 ⟨v2, rfl, rfl, g3, n2', m2⟩
              have ad : aDrop ps (i : Int) = (ps.take i ++ ps.drop (i + 1), 0) := by rw [aDrop, if_pos (hasI_of HI.out.1), Int.toNat_natCast]
              rw [ad] at n2' ⊢
              clear ad
              have S3' : Hid (Kept (fun _ => False) w w3 ∧ NetOf 67 w.heap.size w3 C g3 (ps.take i ++ ps.drop (i + 1)) ∧ IsL w.heap.size w3 p m c R) := ⟨m2.kept0 FSR.out.net (Nat.le_refl _) FSR.out.kept, n2', m2.list FSR.out.net LR.out FSR.out.off⟩
              clear n2' m2
              obtain ⟨gl, hgl, _⟩ := S3'.out.2.2.cells i hi
              subst hgl
              have S3 : Hid (Kept (fun _ => False) w w3 ∧ NetOf 67 w.heap.size w3 C g3 (ps.take i ++ ps.drop (i + 1)) ∧ IsL w.heap.size w3 (some ⟨gl, 0, none⟩) m c R) := S3'
              clear S3'
              obtain ⟨hr1, hr2⟩ := own_room S3.out.2.2.own
              unfold maxLen at hr2
              obtain ⟨pt, ct, slt, hpt⟩ := slice27i gl m c i hi hr1
              have w1' : IntKind.i64.wrap ((i : Int) + 1) = (i : Int) + 1 := by rw [IntKind.wrap_i64]; omega
              have KE : Hid (Kept (fun _ => False) w3 (w3.alloc (.cells #[] 39)).drew) := (alloc_kept0 _ _).drew
              have OE : Hid ((w3.alloc (.cells #[] 39)).drew.ownsRow w3.heap.size 39 6 (.slice (some ⟨w3.heap.size, 0, none⟩) 0 0) 0 (rcells [])) := own_empty w3 w3.heap.size (Nat.le_refl _)
              have SE : Hid (Src Try.prog 6 27 (.slice (some ⟨gl, 0, none⟩) i c) i (rcells (R.take i)) (w3.alloc (.cells #[] 39)).drew) := (S3.out.2.2.kept0 KE.out).src_take i (by omega) c
              have HPT : Hid (i + 1 < m → pt = ⟨gl, (i + 1) * 6, none⟩) := hpt
              have m4 : i ≤ Big ∧ i + (m - (i + 1)) ≤ Big := by have := mB.out; omega
              have M4 : Hid (i ≤ Big ∧ i + (m - (i + 1)) ≤ Big) := m4
              have ic : i ≤ c := by omega
              clear hpt m4
              go_upto_region 22 with fail
              go_region_law
                (first
                  | (refine step_append_all _ (by rfl) (.tmp 100) (.tmp 103) 27 39 27 _ 6 64 (by rfl) Try.underlying27 Try.info39 rfl w3.heap.size (.slice (some ⟨w3.heap.size, 0, none⟩) 0 0) 0 (rcells []) (by rfl) OE.out (.slice (some ⟨gl, 0, none⟩) i c) i (rcells (R.take i)) (by rfl) SE.out (by rw [Nat.zero_add]; exact big_max M4.out.1) (by rw [Nat.zero_add]; exact big_wide M4.out.1) KE.out.size ?_; intro p5 c5 w5 ho hg hn
                     rw [Nat.zero_add] at ho ⊢
                     have O5 : Hid (w5.ownsRow w3.heap.size 39 6 (.slice p5 i c5) i (rcells (R.take i))) := ho
                     have K5 : Hid (Kept (fun _ => False) w3 w5) := KE.out.grown hg.out (fun j hj z => by simp [Value.ownBlock] at z; omega)
                     have S5 : Hid (Src Try.prog 6 27 (.slice (some pt) (m - (i + 1)) ct) (m - (i + 1)) (rcells (R.drop (i + 1))) w5) := (S3.out.2.2.kept0 K5.out).src_drop (i + 1) HPT.out ct
                     clear ho hg hn)
                  | (refine step_append_all _ (by rfl) (.tmp 104) (.tmp 108) 27 39 27 _ 6 64 (by rfl) Try.underlying27 Try.info39 rfl w3.heap.size (.slice p5 i c5) i (rcells (R.take i)) (by rfl) O5.out (.slice (some pt) (m - (i + 1)) ct) (m - (i + 1)) (rcells (R.drop (i + 1))) (by rfl) S5.out (big_max M4.out.2) (big_wide M4.out.2) K5.out.size ?_; intro p6 c6 w6 ho hg hn
                     have K6 : Kept (fun _ => False) w3 w6 := K5.out.grown hg.out (fun j hj z => by have := (O5.out.lt j z).1; omega)
                     have F6 : Hid (Fzs w w6 C g3 p6 c6 (R.take i ++ R.drop (i + 1)) (ps.take i ++ ps.drop (i + 1)) ∧ i + (m - (i + 1)) = (ps.take i ++ ps.drop (i + 1)).length) := by
                       have hlen : i + (m - (i + 1)) = (ps.take i ++ ps.drop (i + 1)).length := by rw [List.length_append, List.length_take, List.length_drop, ← HI.out.2]; omega
                       exact ⟨Fzs.relist S3.out.1 S3.out.2.1 S3.out.2.2 FSR.out.same K6 ho.out hlen, hlen⟩
                     clear ho hg hn K6)
                  | fail)
              all_goals (obtain ⟨mm, hmm⟩ : ∃ mm, i + (m - (i + 1)) = mm := ⟨_, rfl⟩)
              all_goals rw [hmm] at F6 ⊢
              all_goals clear hmm
              all_goals go_wp2_with fail
              all_goals refine (len_of w.heap.size C g3 _ _ F6.out.1.net).mono ?_
              all_goals rw [← F6.out.2]
              all_goals rintro x7 w7 ⟨rfl, rfl⟩
              all_goals go_wp2_with fail
              all_goals go_roundw
              case rel => exact ⟨k + 1, p6, mm, c6, g3, _, _, by go_num, rfl, by omega, by omega, F6.out.2, F6.out.1, by have := LB.out; rw [List.length_append, List.length_take, List.length_drop]; omega⟩
              case measure => simp [intOf]; omega
      · have SB : Hid (m = ps.length ∧ Fzs w wr C g p c R ps ∧ ps.length ≤ Big) := ⟨S.out.1, S.out.2.1, Nat.le_trans S.out.2.2 (Nat.le_trans (by omega) HD.out.2.2)⟩
        have i1 : ¬ (k : Int) < (n2 : Int) := by omega
        go_wp2_with fail
        go_meet
        case rel => exact ⟨p, m, c, g, R, ps, rfl, SB.out⟩
  case rest =>
    obtain ⟨p, m, c, g, R, ps, rfl, S⟩ := hcut
    have hmB : m ≤ 4611686018427387904 := by have a := S.out.1; have b := S.out.2.2; unfold Big at b; omega
    go_wp2_with fail
    go_loopw [4, 13, 14, 15, 118] (fun _ _ _ _ x wr => ∃ (j : Nat), x = .int .i64 (j : Int) ∧ j ≤ m ∧ Hid (Kept (fun _ => False) w wr ∧ NetOf 67 w.heap.size wr C g (ps.drop j) ∧ IsL w.heap.size wr p m c R)) (fun _ _ _ _ x _ => m - (intOf x).toNat)
    case atStart => exact ⟨0, rfl, Nat.zero_le _, S.out.2.1.kept, by rw [List.drop_zero]; exact S.out.2.1.net, by have := S.out.2.1.list; rw [← S.out.1] at this; exact this⟩
    case round =>
      obtain ⟨i, rfl, hi, T⟩ := hrel
      by_cases hlt : i < m
      · have i1 : (i : Int) < (m : Int) := by omega
        have HI : Hid (i < ps.length ∧ m = ps.length) := ⟨by rw [← S.out.1]; exact hlt, S.out.1⟩
        have z0 : Hid (0 < (ps.drop i).length) := by show 0 < (ps.drop i).length; rw [List.length_drop]; have := HI.out.1; omega
        go_wp2_with fail
        refine (take_of w.heap.size C g (ps.drop i) 0 z0.out wr T.out.2.1).mono ?_
        rintro x2 w2 ⟨e, rfl, hpe, ge, n2', m2⟩
        have S2 : Hid (Kept (fun _ => False) w w2 ∧ NetOf 67 w.heap.size w2 C g (ps.drop (i + 1)) ∧ IsL w.heap.size w2 p m c R ∧ Good w.heap.size w2 e ∧ ps[i]? = some e.p) := by
          refine ⟨m2.kept0 T.out.2.1 (Nat.le_refl _) T.out.1, ?_, m2.list T.out.2.1 T.out.2.2 S.out.2.1.off, ge, ?_⟩
          · rw [List.take_zero, List.nil_append, List.drop_drop] at n2'
            exact n2'
          · rw [List.getElem?_drop] at hpe
            exact hpe
        clear ge n2' m2 hpe T
        obtain ⟨W, hW⟩ : ∃ W, W = w2.alloc (.cells #[.int .i64 e.p.fk, .int .i64 e.p.fi, .int .i64 e.p.tk, .int .i64 e.p.ti, .slice e.a e.len e.cap, .bool e.p.lost] 39) := ⟨_, rfl⟩
        have KW : Kept (fun _ => False) w2 W := by rw [hW]; exact alloc_kept0 _ _
        have bW : Box W w2.heap.size (.int .i64 e.p.fk) (.int .i64 e.p.fi) (.int .i64 e.p.tk) (.int .i64 e.p.ti) (.slice e.a e.len e.cap) (.bool e.p.lost) := by unfold Box; rw [hW]; exact alloc_new _ _
        have LW := S2.out.2.2.1.kept0 KW
        obtain ⟨gl, ra, rl, rc, rfl, _, f0, f1, f2, f3, f4, f5, gr⟩ := LW.at i hlt e.p (by rw [S.out.2.1.same]; exact S2.out.2.2.2.2)
        obtain ⟨b0, b1, b2, b3, b4, b5, _⟩ := cell6 _ _ _ _ _ _ _ _ bW
        have SW : Hid (Kept (fun _ => False) w W ∧ NetOf 67 w.heap.size W C g (ps.drop (i + 1)) ∧ IsL w.heap.size W (some ⟨gl, 0, none⟩) m c R ∧ Reads W e.a e.len e.cap e.p.data ∧ Reads W ra rl rc e.p.data) := ⟨S2.out.1.trans KW (fun _ _ q => q), S2.out.2.1.kept0 KW, LW, (S2.out.2.2.2.1.kept0 KW).reads, gr.reads⟩
        have EW : Hid (W = w2.alloc (.cells #[.int .i64 e.p.fk, .int .i64 e.p.fi, .int .i64 e.p.tk, .int .i64 e.p.ti, .slice e.a e.len e.cap, .bool e.p.lost] 39)) := hW
        obtain ⟨hr1, hr2⟩ := own_room LW.own
        unfold maxLen at hr2
        clear hW KW bW LW gr S2
        go_upto_region 30 with fail
        rw [← EW.out]
        go_region_held3 (fun w' => w'.cell? ⟨w2.heap.size, 0, none⟩ = some (.int .i64 e.p.fk) ∧ w'.cell? ⟨w2.heap.size, 1, none⟩ = some (.int .i64 e.p.fi) ∧ w'.cell? ⟨w2.heap.size, 2, none⟩ = some (.int .i64 e.p.tk) ∧ w'.cell? ⟨w2.heap.size, 3, none⟩ = some (.int .i64 e.p.ti) ∧ w'.cell? ⟨w2.heap.size, 4, none⟩ = some (.slice e.a e.len e.cap) ∧ w'.cell? ⟨w2.heap.size, 5, none⟩ = some (.bool e.p.lost) ∧
            w'.cell? ⟨gl, i * 6, none⟩ = some (.int .i64 e.p.fk) ∧ w'.cell? ⟨gl, i * 6 + 1, none⟩ = some (.int .i64 e.p.fi) ∧ w'.cell? ⟨gl, i * 6 + 2, none⟩ = some (.int .i64 e.p.tk) ∧ w'.cell? ⟨gl, i * 6 + 3, none⟩ = some (.int .i64 e.p.ti) ∧ w'.cell? ⟨gl, i * 6 + 4, none⟩ = some (.slice ra rl rc) ∧ w'.cell? ⟨gl, i * 6 + 5, none⟩ = some (.bool e.p.lost)) (first | go_keep)
          (first
            | (go_at_call 13; refine (samePacket e.p.fk e.p.fi e.p.tk e.p.ti e.p.lost e.p.data e.a e.len e.cap ra rl rc _ (SW.out.2.2.2.1.kept' ((Kept.refl (fun _ => False) W).drew) (fun _ _ q => q)) (SW.out.2.2.2.2.kept' ((Kept.refl (fun _ => False) W).drew) (fun _ _ q => q))).mono ?_; rintro x3 w3 ⟨rfl, K3⟩
               have x0 := K3.cell f0 (fun q => q)
               have x1 := K3.cell f1 (fun q => q)
               have x2 := K3.cell f2 (fun q => q)
               have x3 := K3.cell f3 (fun q => q)
               have x4 := K3.cell f4 (fun q => q)
               have x5 := K3.cell f5 (fun q => q)
               have y0 := K3.cell b0 (fun q => q)
               have y1 := K3.cell b1 (fun q => q)
               have y2 := K3.cell b2 (fun q => q)
               have y3 := K3.cell b3 (fun q => q)
               have y4 := K3.cell b4 (fun q => q)
               have y5 := K3.cell b5 (fun q => q)
               have KK : Kept (fun _ => False) W w3 := ((Kept.refl (fun _ => False) W).drew).trans K3 (fun _ _ q => q)
               have S3 : Hid (Kept (fun _ => False) w w3 ∧ NetOf 67 w.heap.size w3 C g (ps.drop (i + 1)) ∧ IsL w.heap.size w3 (some ⟨gl, 0, none⟩) m c R) := ⟨SW.out.1.trans KK (fun _ _ q => q), SW.out.2.1.kept0 KK, SW.out.2.2.1.kept0 KK⟩
               clear K3 KK)
            | fail)
        go_wp2_with fail
        go_roundw
        case rel => exact ⟨i + 1, by go_num, by omega, S3.out⟩
        case measure => simp [intOf]; omega
      · have he : i = m := by omega
        subst he
        have i1 : ¬ (i : Int) < (i : Int) := by omega
        have T2 : Hid (Kept (fun _ => False) w wr ∧ NetOf 67 w.heap.size wr C g []) := ⟨T.out.1, by have := T.out.2.1; rw [List.drop_of_length_le (by rw [← S.out.1]; exact Nat.le_refl _)] at this; exact this⟩
        clear T
        go_wp2_with fail
        refine (take_of_none w.heap.size C g [] 0 (by decide) wr T2.out.2).mono ?_
        rintro x2 w2 ⟨rfl, K2⟩
        have T3 : Hid (Kept (fun _ => False) w (w2.alloc (.cells #[.int .i64 0, .int .i64 0, .int .i64 0, .int .i64 0, .slice none 0 0, .bool false] 39)) ∧ NetOf 67 w.heap.size (w2.alloc (.cells #[.int .i64 0, .int .i64 0, .int .i64 0, .int .i64 0, .slice none 0 0, .bool false] 39)) C g []) := ⟨(T2.out.1.trans K2 (fun _ _ q => q)).alloc _, (T2.out.2.kept0 K2).kept0 (alloc_kept0 _ _)⟩
        clear K2 T2
        go_wp2_with fail
        refine (len_of w.heap.size C g [] _ T3.out.2).mono ?_
        rintro x3 w3 ⟨rfl, rfl⟩
        go_wp2_with fail
        refine (taken _).mono ?_
        rintro x4 w4 ⟨rfl, K4⟩
        have T4 : Hid (Kept (fun _ => False) w w4) := T3.out.1.trans K4 (fun _ _ q => q)
        clear K4 T3
        go_wp2_with fail
        go_ret
        exact ⟨by simp, T4.out⟩
end Go.Proofs.Ytojfnehdanhgiaa
