import Derived.Test.YtojfnehdanhgiaaRefC
namespace Go.Proofs.Ytojfnehdanhgiaa
open Go.RowKit

theorem enter48 (vs : Array Value) (w : World) : (callFunc 48 vs).run Try.prog w = .ok (.enter 48 vs) w := by kernel_rfl
set_option maxRecDepth 100000 in
set_option maxHeartbeats 1000000 in
theorem rburst_ok (base C : Nat) (q : Option Addr) (len cap : Nat) (R : List Ent) (w : World) (h : IsNet 71 base w C q len cap R) (hbase : base ≤ w.heap.size) (i : Nat) (hi : i < len) (bit pat : Nat) (hb : bit < 9223372036854775808) :
    Calls Try.prog 37 #[.pointer (some ⟨C, 0, none⟩), .int .i64 (i : Int), .int .i64 (bit : Int), .int .u32 (pat : Int)] w fun x w' => ∃ e : Ent, x = .returned (.int .i64 0) ∧ (∃ hl : i < R.length, e.p = { R[i].p with data := turned bit pat R[i].p.data }) ∧ IsNet 71 base w' C q len cap (R.set i e) ∧ Moved w w' C q q := by
  obtain ⟨hr1, hr2⟩ := own_room h.list.own
  have cC := h.cell
  obtain ⟨g, rfl, hlR, _, _, _, _, d4, _⟩ := h.list.cells i hi
  obtain ⟨e, he⟩ : ∃ e, R[i] = e := ⟨_, rfl⟩
  rw [he] at d4
  have HE : Hid (R[i] = e) := he
  have KD : Hid (Kept (fun _ => False) w w.drew) := (Kept.refl _ w).drew
  have HH : Hid (IsNet 71 base w C (some ⟨g, 0, none⟩) len cap R ∧ base ≤ w.heap.size) := ⟨h, hbase⟩
  have GE : Hid (Good base w.drew e) := by show Good base w.drew e; rw [← he]; exact (h.kept0 KD.out).list.good _ (List.getElem_mem _)
  have i1 : (i : Int) < (len : Int) := by omega
  have HI : Hid (hasI (i : Int) len = true) := hasI_of hi
  have n0 : ¬ (bit : Int) < 0 := by omega
  unfold maxLen at hr2
  clear h he hbase
  go_enter Try.func37, Try.ntmps37
  go_wp2_with fail
  refine (there C (some ⟨g, 0, none⟩) len cap i w cC).mono ?_
  rw [HI.out]
  rintro x w1 ⟨rfl, rfl⟩
  go_upto_region 7 with fail
  go_region_law
    (first
      | (refine step_call _ (by rfl) 48 [.tmp 29, .tmp 30, .tmp 31] _ (by rfl) [.slice e.a e.len e.cap, .int .i64 (bit : Int), .int .u32 (pat : Int)] (by rfl) (enter48 _ _) ((turnedR e.a e.len e.cap e.p.data bit pat _ GE.out.reads (Nat.le_trans GE.out.short (by omega)) hb).mono ?_); rintro x w3 ⟨p3, c3, rfl, o3, K3⟩; refine ⟨_, rfl, ?_⟩
         have N3 := HH.out.1.kept0 (KD.out.trans K3 (fun _ _ q => q))
         have k3 := N3.cell
         obtain ⟨_, q3, _, _, _, _, _, j4, _⟩ := N3.list.cells i hi
         cases q3
         have j4' : w3.cell? ⟨g, i * 6 + 4, none⟩ = some (.slice e.a e.len e.cap) := by rw [j4, HE.out]
         have fr : w3.frozen? ⟨g, i * 6 + 4, none⟩ = false := by
           obtain ⟨cs, hc⟩ := own_type N3.list.own g rfl
           exact soft_blk hc _
         have FIN : Hid (IsNet 71 base (w3.setCell ⟨g, i * 6 + 4, none⟩ (.slice p3 e.len c3)) C (some ⟨g, 0, none⟩) len cap (R.set i ⟨{ e.p with data := turned bit pat e.p.data }, p3, e.len, c3⟩) ∧ Moved w1 (w3.setCell ⟨g, i * 6 + 4, none⟩ (.slice p3 e.len c3)) C (some ⟨g, 0, none⟩) (some ⟨g, 0, none⟩)) :=
           HH.out.1.stored (KD.out.trans K3 (fun _ _ q => q)) i 4 hlR (by omega) ⟨{ e.p with data := turned bit pat e.p.data }, p3, e.len, c3⟩ (.slice p3 e.len c3) (by rw [HE.out]; rfl) (.inr ⟨owns_mono o3 (Nat.le_trans HH.out.2 KD.out.size), turnN_bytes _ _ _ GE.out.bytes 32, GE.out.short⟩)
         clear o3 K3 N3 j4)
      | fail)
  all_goals (go_wp2_with fail; go_ret)
  all_goals first | exact ⟨rfl, ⟨{ e.p with data := turned bit pat e.p.data }, p3, e.len, c3⟩, by rw [HE.out], FIN.out⟩ | exact ⟨rfl, ⟨{ e.p with data := turned bit pat e.p.data }, p3, e.len, c3⟩, ⟨hlR, by rw [HE.out]⟩, FIN.out⟩
set_option maxRecDepth 100000 in
theorem rburst_bad (C : Nat) (q : Option Addr) (len cap : Nat) (i bit pat : Int) (w : World) (c0 : w.cell? ⟨C, 0, none⟩ = some (.slice q len cap)) (hi : hasI i len = true) (hb : bit < 0) :
    Calls Try.prog 37 #[.pointer (some ⟨C, 0, none⟩), .int .i64 i, .int .i64 bit, .int .u32 pat] w fun x w' => x = .returned (.int .i64 1) ∧ w' = w := by
  go_enter Try.func37, Try.ntmps37
  go_wp2_with fail
  refine (there C q len cap i w c0).mono ?_
  rw [hi]
  rintro x w1 ⟨rfl, rfl⟩
  go_wp2_with fail
  go_ret
  exact ⟨rfl, rfl⟩
set_option maxRecDepth 100000 in
theorem rburst_none (C : Nat) (q : Option Addr) (len cap : Nat) (i bit pat : Int) (w : World) (c0 : w.cell? ⟨C, 0, none⟩ = some (.slice q len cap)) (hi : hasI i len = false) :
    Calls Try.prog 37 #[.pointer (some ⟨C, 0, none⟩), .int .i64 i, .int .i64 bit, .int .u32 pat] w fun x w' => x = .returned (.int .i64 50) ∧ w' = w := by
  go_enter Try.func37, Try.ntmps37
  go_wp2_with fail
  refine (there C q len cap i w c0).mono ?_
  rw [hi]
  rintro x w1 ⟨rfl, rfl⟩
  go_wp2_with fail
  go_ret
  exact ⟨rfl, rfl⟩
theorem rBurst (base C : Nat) (g : Option Nat) (ps : List Pk) (i bit : Int) (pat : Nat) (w : World) (h : NetOf 71 base w C g ps) (hbase : base ≤ w.heap.size) (hb : bit < 9223372036854775808) :
    Calls Try.prog 37 #[.pointer (some ⟨C, 0, none⟩), .int .i64 i, .int .i64 bit, .int .u32 (pat : Int)] w fun x w' => ∃ v, x = .returned v ∧ Did 71 base w C g (aBurst turned ps i bit pat) v w' := by
  obtain ⟨q, len, cap, R, h, rfl, e⟩ := h
  have hl := len_eq h.list.length e
  cases hh : hasI i ps.length with
  | false =>
    rw [aBurst, if_neg (by simp [hh])]
    rw [hl] at hh
    refine (rburst_none C q len cap i bit pat w h.cell hh).mono ?_
    rintro x w' ⟨rfl, rfl⟩
    exact ⟨_, rfl, Did.same ⟨q, len, cap, R, h, rfl, e⟩ (Kept.refl _ _) 50⟩
  | true =>
    rw [aBurst, if_pos hh]
    rw [hl] at hh
    by_cases hn : bit < 0
    · rw [if_pos hn]
      refine (rburst_bad C q len cap i bit pat w h.cell hh hn).mono ?_
      rintro x w' ⟨rfl, rfl⟩
      exact ⟨_, rfl, Did.same ⟨q, len, cap, R, h, rfl, e⟩ (Kept.refl _ _) 1⟩
    · rw [if_neg hn]
      obtain ⟨k, rfl, hk⟩ := hasI_nat hh
      obtain ⟨b, rfl⟩ : ∃ b : Nat, bit = (b : Int) := ⟨bit.toNat, by omega⟩
      refine (rburst_ok base C q len cap R w h hbase k hk b pat (by omega)).mono ?_
      rintro x w' ⟨en, rfl, ⟨hkR, hen⟩, n, m⟩
      refine ⟨_, rfl, ⟨rfl, blockOf q, ⟨q, len, cap, _, n, rfl, ?_⟩, m.mv⟩⟩
      rw [map_upd hkR (fun p => { p with data := turned b pat p.data }) hen, ← e, Int.toNat_natCast, Int.toNat_natCast]
set_option maxRecDepth 100000 in
set_option maxHeartbeats 1000000 in
theorem rcut_ok (base C : Nat) (q : Option Addr) (len cap : Nat) (R : List Ent) (w : World) (h : IsNet 71 base w C q len cap R) (i : Nat) (hi : i < len) (num : Nat) (hnum : num < 9223372036854775808) :
    Calls Try.prog 38 #[.pointer (some ⟨C, 0, none⟩), .int .i64 (i : Int), .int .i64 (num : Int)] w fun x w' => ∃ e : Ent, x = .returned (.int .i64 0) ∧ (∃ hl : i < R.length, e.p = { R[i].p with data := R[i].p.data.take num }) ∧ IsNet 71 base w' C q len cap (R.set i e) ∧ Moved w w' C q q := by
  obtain ⟨hr1, hr2⟩ := own_room h.list.own
  have cC := h.cell
  obtain ⟨g, rfl, hlR, _, _, _, _, d4, _⟩ := h.list.cells i hi
  obtain ⟨e, he⟩ : ∃ e, R[i] = e := ⟨_, rfl⟩
  have GE : Good base w e := by rw [← he]; exact h.list.good _ (List.getElem_mem _)
  obtain ⟨hc1, hc2⟩ := own_room GE.own
  have hs := GE.short
  have hlen := GE.length
  rw [he] at d4
  have fr : w.frozen? ⟨g, i * 6 + 4, none⟩ = false := by
    obtain ⟨cs, hc⟩ := own_type h.list.own g rfl
    exact soft_blk hc _
  have HE : Hid (R[i] = e) := he
  have i1 : (i : Int) < (len : Int) := by omega
  have HI : Hid (hasI (i : Int) len = true) := hasI_of hi
  have n0 : ¬ (num : Int) < 0 := by omega
  by_cases hn : num < e.len
  · have n1 : (num : Int) < (e.len : Int) := by omega
    have n2 : num ≤ e.cap := by omega
    have FIN : Hid (IsNet 71 base (w.drew.setCell ⟨g, i * 6 + 4, none⟩ (.slice e.a num e.cap)) C (some ⟨g, 0, none⟩) len cap (R.set i ⟨{ e.p with data := e.p.data.take num }, e.a, num, e.cap⟩) ∧ Moved w (w.drew.setCell ⟨g, i * 6 + 4, none⟩ (.slice e.a num e.cap)) C (some ⟨g, 0, none⟩) (some ⟨g, 0, none⟩)) := by
      refine h.stored ((Kept.refl _ w).drew) i 4 hlR (by omega) ⟨{ e.p with data := e.p.data.take num }, e.a, num, e.cap⟩ (.slice e.a num e.cap) (by rw [he]; rfl) (.inl ⟨?_, fun c hc => GE.bytes c (List.mem_of_mem_take hc), by show num ≤ 66000; omega⟩)
      refine ⟨by rw [cellsOf_length]; show (e.p.data.take num).length = num * 1; rw [List.length_take]; omega, ?_⟩
      rcases GE.own.2 with ⟨e0, e1⟩ | ⟨gd, cp, cur, e0, hb, hg, h1, h2, h3, h4⟩
      · omega
      · simp at e0
        refine .inr ⟨gd, cp, cur, by simp [e0.1, e0.2], hb, hg, by show num ≤ cp; omega, h2, h3, ?_⟩
        show cur.toList.take (num * 1) = cellsOf (e.p.data.take num)
        have := congrArg (List.take (num * 1)) h4
        rw [List.take_take, Nat.min_eq_left (by omega)] at this
        rw [this, Nat.mul_one]
        simp [cellsOf]
    unfold maxLen at hr2 hc2
    clear h he GE
    go_enter Try.func38, Try.ntmps38
    go_wp2_with fail
    refine (there C (some ⟨g, 0, none⟩) len cap i w cC).mono ?_
    rw [HI.out]
    rintro x w1 ⟨rfl, rfl⟩
    go_upto_region 8 with fail
    go_region_law (fail)
    all_goals (go_wp2_with fail; go_ret)
    all_goals first | exact ⟨⟨{ e.p with data := e.p.data.take num }, e.a, num, e.cap⟩, rfl, ⟨hlR, by rw [HE.out]⟩, FIN.out⟩ | exact ⟨rfl, ⟨{ e.p with data := e.p.data.take num }, e.a, num, e.cap⟩, by rw [HE.out], FIN.out⟩ | exact ⟨rfl, ⟨{ e.p with data := e.p.data.take num }, e.a, num, e.cap⟩, ⟨hlR, by rw [HE.out]⟩, FIN.out⟩
  · have n1 : ¬ (num : Int) < (e.len : Int) := by omega
    have FIN : Hid (IsNet 71 base w C (some ⟨g, 0, none⟩) len cap (R.set i e) ∧ e.p = { e.p with data := e.p.data.take num }) := by
      refine ⟨?_, by rw [List.take_of_length_le (by omega)]⟩
      rw [← he, List.set_getElem_self]
      exact h
    unfold maxLen at hr2 hc2
    clear h he GE
    go_enter Try.func38, Try.ntmps38
    go_wp2_with fail
    refine (there C (some ⟨g, 0, none⟩) len cap i w cC).mono ?_
    rw [HI.out]
    rintro x w1 ⟨rfl, rfl⟩
    go_wp2_with fail
    go_ret
    exact ⟨e, rfl, ⟨hlR, by rw [HE.out]; exact FIN.out.2⟩, FIN.out.1, Moved.of_below (Below.refl _ _) C _⟩
set_option maxRecDepth 100000 in
theorem rcut_bad (C : Nat) (q : Option Addr) (len cap : Nat) (i num : Int) (w : World) (c0 : w.cell? ⟨C, 0, none⟩ = some (.slice q len cap)) (hi : hasI i len = true) (hb : num < 0) :
    Calls Try.prog 38 #[.pointer (some ⟨C, 0, none⟩), .int .i64 i, .int .i64 num] w fun x w' => x = .returned (.int .i64 1) ∧ w' = w := by
  go_enter Try.func38, Try.ntmps38
  go_wp2_with fail
  refine (there C q len cap i w c0).mono ?_
  rw [hi]
  rintro x w1 ⟨rfl, rfl⟩
  go_wp2_with fail
  go_ret
  exact ⟨rfl, rfl⟩
set_option maxRecDepth 100000 in
theorem rcut_none (C : Nat) (q : Option Addr) (len cap : Nat) (i num : Int) (w : World) (c0 : w.cell? ⟨C, 0, none⟩ = some (.slice q len cap)) (hi : hasI i len = false) :
    Calls Try.prog 38 #[.pointer (some ⟨C, 0, none⟩), .int .i64 i, .int .i64 num] w fun x w' => x = .returned (.int .i64 50) ∧ w' = w := by
  go_enter Try.func38, Try.ntmps38
  go_wp2_with fail
  refine (there C q len cap i w c0).mono ?_
  rw [hi]
  rintro x w1 ⟨rfl, rfl⟩
  go_wp2_with fail
  go_ret
  exact ⟨rfl, rfl⟩
theorem rCut (base C : Nat) (g : Option Nat) (ps : List Pk) (i size : Int) (w : World) (h : NetOf 71 base w C g ps) (hb : size < 9223372036854775808) :
    Calls Try.prog 38 #[.pointer (some ⟨C, 0, none⟩), .int .i64 i, .int .i64 size] w fun x w' => ∃ v, x = .returned v ∧ Did 71 base w C g (aCut ps i size) v w' := by
  obtain ⟨q, len, cap, R, h, rfl, e⟩ := h
  have hl := len_eq h.list.length e
  cases hh : hasI i ps.length with
  | false =>
    rw [aCut, if_neg (by simp [hh])]
    rw [hl] at hh
    refine (rcut_none C q len cap i size w h.cell hh).mono ?_
    rintro x w' ⟨rfl, rfl⟩
    exact ⟨_, rfl, Did.same ⟨q, len, cap, R, h, rfl, e⟩ (Kept.refl _ _) 50⟩
  | true =>
    rw [aCut, if_pos hh]
    rw [hl] at hh
    by_cases hn : size < 0
    · rw [if_pos hn]
      refine (rcut_bad C q len cap i size w h.cell hh hn).mono ?_
      rintro x w' ⟨rfl, rfl⟩
      exact ⟨_, rfl, Did.same ⟨q, len, cap, R, h, rfl, e⟩ (Kept.refl _ _) 1⟩
    · rw [if_neg hn]
      obtain ⟨k, rfl, hk⟩ := hasI_nat hh
      obtain ⟨b, rfl⟩ : ∃ b : Nat, size = (b : Int) := ⟨size.toNat, by omega⟩
      refine (rcut_ok base C q len cap R w h k hk b (by omega)).mono ?_
      rintro x w' ⟨en, rfl, ⟨hkR, hen⟩, n, m⟩
      refine ⟨_, rfl, ⟨rfl, blockOf q, ⟨q, len, cap, _, n, rfl, ?_⟩, m.mv⟩⟩
      rw [map_upd hkR (fun p => { p with data := p.data.take b }) hen, ← e, Int.toNat_natCast, Int.toNat_natCast]
end Go.Proofs.Ytojfnehdanhgiaa
