import Derived.Test.YtojfnehdanhgiaaKeepA
namespace Go.Proofs.Ytojfnehdanhgiaa
open Go.RowKit

theorem u8_mark (i : Nat) : IntKind.u8.wrap (i : Int) = ((i % 256 : Nat) : Int) := by rw [IntKind.wrap_u8]; omega
theorem rep_of {l : List Nat} {n v : Nat} (hl : l.length = n) (h : ∀ t, t < n → l[t]? = some v) : l = List.replicate n v := by
  apply List.ext_getElem?
  intro t
  by_cases ht : t < n
  · rw [h t ht, List.getElem?_replicate, if_pos ht]
  · rw [List.getElem?_eq_none (by omega), List.getElem?_replicate, if_neg ht]
set_option maxRecDepth 100000 in
set_option maxHeartbeats 2000000 in
theorem apart (base : Nat) (q : Option Addr) (len cap : Nat) (R : List Ent) (w : World) (h : IsL base w q len cap R) (ha : Apart R) (hb : len ≤ Big) (hbase : base ≤ w.heap.size) :
    Calls Try.prog 17 #[.slice q len cap] w fun x w' => x = .returned (.bool true) ∧ Kept (DB R) w w' := by
  have H : Hid (IsL base w q len cap R ∧ Apart R ∧ len ≤ Big ∧ base ≤ w.heap.size) := ⟨h, ha, hb, hbase⟩
  have hRl := h.length
  obtain ⟨hr1, hr2⟩ := own_room h.own
  unfold maxLen at hr2
  have hbb : len ≤ 2199023255552 := hb
  clear h ha hb hbase
  go_enter Try.func17, Try.ntmps17
  go_wp2_with fail
  go_loopw [4, 5, 11] (fun _ _ x wr => ∃ (i : Nat) (F : Nat → List Nat), x = .int .i64 (i : Int) ∧ i ≤ len ∧ Hid (AP base w wr q len cap R F ∧ ∀ k, k < i → Marked R F k)) (fun _ _ x _ => len - (intOf x).toNat)
  case atStart => exact ⟨0, _, rfl, Nat.zero_le _, AP.start H.out.1, fun k hk => absurd hk (by omega)⟩
  case round =>
    obtain ⟨i, F, rfl, hi, S⟩ := hrel
    by_cases hlt : i < len
    · have i1 : (i : Int) < (len : Int) := by omega
      obtain ⟨e, he⟩ : ∃ e, R[i]? = some e := ⟨_, List.getElem?_eq_getElem (by omega)⟩
      have HE : Hid (R[i]? = some e) := he
      obtain ⟨gq, rfl, f4⟩ := row4 S.out.1.row he
      obtain ⟨hs1, hs2⟩ := own_room (S.out.1.own i e he)
      have hs3 : e.len ≤ 66000 := (H.out.1.good e (List.mem_of_getElem? he)).short
      unfold maxLen at hs2
      clear he
      go_wp2_with fail
      go_loopw [5, 20] (fun _ x wr => ∃ (j : Nat) (F : Nat → List Nat), x = .int .i64 (j : Int) ∧ j ≤ e.len ∧ Hid (AP base w wr (some ⟨gq, 0, none⟩) len cap R F ∧ (∀ k, k < i → Marked R F k) ∧ ∀ t, t < j → (F i)[t]? = some (i % 256))) (fun _ x _ => e.len - (intOf x).toNat)
      case atStart => exact ⟨0, F, rfl, Nat.zero_le _, S.out.1, S.out.2, fun t ht => absurd ht (by omega)⟩
      case round =>
        obtain ⟨j, F2, rfl, hj, S2⟩ := hrel
        by_cases hlj : j < e.len
        · have j1 : (j : Int) < (e.len : Int) := by omega
          obtain ⟨gq', hq', g4⟩ := row4 S2.out.1.row HE.out
          cases hq'
          obtain ⟨g, hg, cur⟩ := own_byte (S2.out.1.own i e HE.out) (S2.out.1.bytes i) (by omega)
          obtain ⟨c1, c2⟩ := cur j hlj
          have HG : Hid (e.a = some ⟨g, 0, none⟩) := hg
          rw [hg] at g4
          have wv := u8_mark i
          obtain ⟨v, hv⟩ : ∃ v : Nat, i % 256 = v := ⟨_, rfl⟩
          rw [hv] at wv
          clear cur hg
          go_wp2_with fail
          have S3 : Hid (AP base w (wr.setCell ⟨g, j, none⟩ (.int .u8 (v : Int))) (some ⟨gq, 0, none⟩) len cap R (fun k => if k = i then (F2 i).set j v else F2 k)) := S2.out.1.store H.out.2.1 HE.out HG.out (by omega)
          go_roundw
          case rel =>
            refine ⟨j + 1, _, by go_num, by omega, S3.out, fun k hk => ?_, fun t ht => ?_⟩
            · have := S2.out.2.1 k hk
              intro e' he'
              simp only [if_neg (show ¬ k = i by omega)]
              exact this e' he'
            · simp only [if_pos]
              have hl := S2.out.1.length HE.out
              by_cases htj : t = j
              · subst htj
                rw [List.getElem?_set_self (by omega), hv]
              · rw [List.getElem?_set_ne (by omega)]
                exact S2.out.2.2 t (by omega)
          case measure => simp [intOf]; omega
        · have hje : j = e.len := by omega
          have j1 : ¬ (j : Int) < (e.len : Int) := by omega
          go_wp2_with fail
          go_roundw
          case rel =>
            refine ⟨i + 1, F2, by go_num, by omega, S2.out.1, fun k hk => ?_⟩
            by_cases hki : k = i
            · subst hki
              intro e' he'
              rw [HE.out] at he'
              cases he'
              exact rep_of (S2.out.1.length HE.out) (by rw [← hje]; exact S2.out.2.2)
            · exact S2.out.2.1 k (by omega)
          case measure => simp [intOf]; omega
    · have he : i = len := by omega
      have i1 : ¬ (i : Int) < (len : Int) := by omega
      have S1 : Hid (MO base w wr q len cap R 0 none 0 []) := MO.start S.out.1 H.out.1 (fun k hk => S.out.2 k (by omega))
      clear S
      go_wp2_with fail
      go_loopw [3, 6, 36] (fun y _ x wr => ∃ (i : Nat) (pm : Option Addr) (cm : Nat) (G : List Sli), x = .int .i64 (i : Int) ∧ y = .slice pm i cm ∧ i ≤ len ∧ Hid (MO base w wr q len cap R i pm cm G)) (fun _ _ x _ => len - (intOf x).toNat)
      case atStart => exact ⟨0, none, 0, [], rfl, rfl, Nat.zero_le _, S1.out⟩
      case round =>
        obtain ⟨i, pm, cm, G, rfl, rfl, hi, S⟩ := hrel
        by_cases hlt : i < len
        · have i1 : (i : Int) < (len : Int) := by omega
          obtain ⟨e, he⟩ : ∃ e, R[i]? = some e := ⟨_, List.getElem?_eq_getElem (by omega)⟩
          have HE : Hid (R[i]? = some e ∧ e.len ≤ 66000 ∧ i + 1 ≤ Big) := ⟨he, (H.out.1.good e (List.mem_of_getElem? he)).short, Nat.le_trans hlt H.out.2.2.1⟩
          obtain ⟨gq, rfl, f4⟩ := row4 S.out.row he
          have wv := u8_mark i
          obtain ⟨v, hv⟩ : ∃ v : Nat, i % 256 = v := ⟨_, rfl⟩
          rw [hv] at wv
          have SR : Hid (Src Try.prog 1 30 (.slice (some ⟨wr.heap.size, 0, none⟩) 1 1) 1 (cellsOf [v]) (wr.alloc (.cells #[.int .u8 (v : Int)] 5)) ∧ (wr.alloc (.cells #[.int .u8 (v : Int)] 5)).ownsRow base 5 1 (.slice e.a e.len e.cap) e.len (cellsOf (List.replicate e.len v)) ∧ Kept (fun _ => False) wr (wr.alloc (.cells #[.int .u8 (v : Int)] 5)) ∧ base ≤ (wr.alloc (.cells #[.int .u8 (v : Int)] 5)).heap.size) := by
            have K : Kept (fun _ => False) wr (wr.alloc (.cells #[.int .u8 (v : Int)] 5)) := alloc_kept0 _ _
            refine ⟨src_byte wr v (by omega), ?_, K, Nat.le_trans H.out.2.2.2 (Nat.le_trans S.out.kept.size K.size)⟩
            have := K.owns (S.out.own i e (Nat.le_refl _) he) (fun _ _ z => z)
            rw [hv] at this
            exact this
          clear he
          go_wp2_with
            (first
              | (at_builtin; refine wpList_append_all _ rfl (.tmp 39) (.tmp 49) 22 30 22 _ 1 24 rfl Try.underlying22 Try.info30 rfl w.heap.size (.slice pm i cm) i (dcells G) rfl (M2.out.2.2.1) (.slice (some ⟨w2.heap.size, 0, none⟩) 1 1) 1 [.slice p (e.len + 1) c] rfl (src_slice1 _ _ rfl) (big_max HE.out.2.2) (big_wide24 HE.out.2.2) M2.out.2.2.2 ?_; intro p3 c3 w3 ho hg hn
                 have M3 : Hid (MO base w w3 (some ⟨gq, 0, none⟩) len cap R (i + 1) p3 c3 (G ++ [⟨p, e.len + 1, c, List.replicate (e.len + 1) (i % 256)⟩])) := M2.out.1.done M2.out.2.1 ho.out hg.out
                 clear ho hg hn)
              | (at_builtin; refine wpList_append_bytes _ rfl (.tmp 44) (.tmp 47) rfl base (.slice e.a e.len e.cap) e.len (List.replicate e.len v) rfl SR.out.2.1 (.slice (some ⟨wr.heap.size, 0, none⟩) 1 1) 1 [v] rfl SR.out.1 (by have := HE.out.2.1; omega) SR.out.2.2.2 ?_; intro p c w2 ho hg hn
                 have M2 : Hid (MI base w w2 (some ⟨gq, 0, none⟩) len cap R i pm cm G p (e.len + 1) c ∧ Kept (fun _ => False) w2 (w2.alloc (.cells #[.slice p (e.len + 1) c] 30)) ∧ (w2.alloc (.cells #[.slice p (e.len + 1) c] 30)).ownsRow w.heap.size 30 1 (.slice pm i cm) i (dcells G) ∧ w.heap.size ≤ (w2.alloc (.cells #[.slice p (e.len + 1) c] 30)).heap.size) := by
                   have mi := S.out.mid H.out.2.1 HE.out.1 SR.out.2.2.1 (by rw [hv]; exact ho.out) hg.out hn.out
                   have K : Kept (fun _ => False) w2 (w2.alloc (.cells #[.slice p (e.len + 1) c] 30)) := alloc_kept0 _ _
                   exact ⟨mi, K, K.owns mi.more (fun _ _ z => z), Nat.le_trans mi.kept.size K.size⟩
                 clear ho hg hn)
              | fail)
          go_wp2_with fail
          go_roundw
          case rel => exact ⟨i + 1, p3, c3, _, by go_num, rfl, by omega, M3.out⟩
          case measure => simp [intOf]; omega
        · have he : i = len := by omega
          have i1 : ¬ (i : Int) < (len : Int) := by omega
          have S4 : Hid (MO base w wr q len cap R len pm cm G) := by have := S.out; rw [he] at this; exact this
          obtain ⟨hg1, hg2⟩ := own_room S4.out.more
          unfold maxLen at hg2
          subst he
          clear S S1
          go_wp2_with fail
          go_loopw [2, 7, 8, 54] (fun _ _ _ x wr => ∃ (k : Nat), x = .int .i64 (k : Int) ∧ k ≤ i ∧ Hid (MO base w wr q i cap R i pm cm G)) (fun _ _ _ x _ => i - (intOf x).toNat)
          case atStart => exact ⟨0, rfl, Nat.zero_le _, S4.out⟩
          case round =>
            obtain ⟨k, rfl, hk, S⟩ := hrel
            by_cases hlk : k < i
            · have k1 : (k : Int) < (i : Int) := by omega
              obtain ⟨e, he⟩ : ∃ e, R[k]? = some e := ⟨_, List.getElem?_eq_getElem (by omega)⟩
              obtain ⟨gm, g, rfl, hgk, gc⟩ := S.out.at hlk
              obtain ⟨hgl, hgr, _⟩ := S.out.grd k e g he hgk
              have HE : Hid (R[k]? = some e ∧ G[k]? = some g ∧ g.len = e.len + 1) := ⟨he, hgk, hgl⟩
              have hs3 : e.len ≤ 66000 := (H.out.1.good e (List.mem_of_getElem? he)).short
              have hc1 := hgr.room
              have hc2 := hgr.small
              unfold maxLen at hc2
              have wv := u8_mark k
              obtain ⟨v, hv⟩ : ∃ v : Nat, k % 256 = v := ⟨_, rfl⟩
              rw [hv] at wv
              clear he hgk hgr
              go_wp2_with fail
              go_loopw [2, 8, 62] (fun _ _ x wr => ∃ (j : Nat), x = .int .i64 (j : Int) ∧ j ≤ g.len ∧ Hid (MO base w wr q i cap R i (some ⟨gm, 0, none⟩) cm G)) (fun _ _ x _ => g.len - (intOf x).toNat)
              case atStart => exact ⟨0, rfl, Nat.zero_le _, S.out⟩
              case round =>
                obtain ⟨j, rfl, hj, S2⟩ := hrel
                by_cases hlj : j < g.len
                · have j1 : (j : Int) < (g.len : Int) := by omega
                  obtain ⟨gm', g', e1, e2, gc2⟩ := S2.out.at hlk
                  cases e1
                  rw [HE.out.2.1] at e2
                  cases e2
                  obtain ⟨gq, rfl, f4⟩ := row4 S2.out.row HE.out.1
                  obtain ⟨_, r2, _⟩ := S2.out.grd k e g HE.out.1 HE.out.2.1
                  have r1 := S2.out.rd k e hlk HE.out.1
                  have hd1 := r1.room
                  have hd2 := r1.small
                  unfold maxLen at hd2
                  obtain ⟨b2, o2, ea2, hc⟩ := r2.cells (by omega)
                  have d2 := hc j hlj
                  rw [List.getD_eq_getElem?_getD, List.getElem?_replicate, if_pos hlj, hv] at d2
                  simp only [Option.getD_some] at d2
                  rw [ea2] at gc2
                  by_cases hle : j < e.len
                  · have j2 : (j : Int) < (e.len : Int) := by omega
                    obtain ⟨b3, o3, ea3, hc3⟩ := r1.cells (by omega)
                    have d3 := hc3 j hle
                    rw [List.getD_eq_getElem?_getD, List.getElem?_replicate, if_pos hle, hv] at d3
                    simp only [Option.getD_some] at d3
                    rw [ea3] at f4
                    clear hc hc3 r1 r2 gc
                    go_wp2_with fail
                    go_roundw
                    case rel => exact ⟨j + 1, by go_num, by omega, S2.out⟩
                    case measure => simp [intOf]; omega
                  · have j2 : ¬ (j : Int) < (e.len : Int) := by omega
                    clear hc r1 r2 gc
                    go_wp2_with fail
                    go_roundw
                    case rel => exact ⟨j + 1, by go_num, by omega, S2.out⟩
                    case measure => simp [intOf]; omega
                · have j1 : ¬ (j : Int) < (g.len : Int) := by omega
                  go_wp2_with fail
                  go_roundw
                  case rel => exact ⟨k + 1, by go_num, by omega, S2.out⟩
                  case measure => simp [intOf]; omega
            · have k1 : ¬ (k : Int) < (i : Int) := by omega
              go_wp2_with fail
              go_ret
              exact ⟨rfl, S.out.kept⟩
end Go.Proofs.Ytojfnehdanhgiaa
