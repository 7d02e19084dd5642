import Derived.Test.YtbnnmelkbjkkjaaAllDJ
namespace Go.Proofs.Ytbnnmelkbjkkjaa
open Go.RowKit

/-- A row that is filled with v, up to i. -/
structure FL (w wr : World) (a : Option Addr) (na ca v i : Nat) : Prop where
  ex : ∃ l, wr.ownsRow 0 5 1 (.slice a na ca) na (cellsOf l) ∧ (∀ c ∈ l, c < 256) ∧ ∀ k, k < i → l[k]? = some v
  kept : Kept (fun k => blockOf a = some k) w wr
theorem FL.step {w wr : World} {g na ca v i : Nat} (h : FL w wr (some ⟨g, 0, none⟩) na ca v i) (hi : i < na) (hv : v < 256) : FL w (wr.setCell ⟨g, i, none⟩ (.int .u8 (v : Int))) (some ⟨g, 0, none⟩) na ca v (i + 1) := by
  obtain ⟨l, o, hb, hk⟩ := h.ex
  have hl := len_own o
  refine ⟨⟨l.set i v, by rw [cellsOf_set]; exact owns_set o i _, fun c hc => ?_, fun k hk2 => ?_⟩, h.kept.setCell (p := ⟨g, i, none⟩) (fun _ => rfl) _⟩
  · rcases List.mem_or_eq_of_mem_set hc with z | z
    · exact hb c z
    · rw [z]; exact hv
  · rw [List.getElem?_set]
    split
    · rw [if_pos (by omega)]
    · exact hk k (by omega)
theorem FL.done {w wr : World} {a : Option Addr} {na ca v i : Nat} (h : FL w wr a na ca v i) (hi : na ≤ i) : wr.ownsRow 0 5 1 (.slice a na ca) na (cellsOf (List.replicate na v)) := by
  obtain ⟨l, o, hb, hk⟩ := h.ex
  have hl := len_own o
  have : l = List.replicate na v := by
    apply List.ext_getElem?
    intro k
    by_cases hlt : k < na
    · rw [hk k (by omega), List.getElem?_replicate, if_pos hlt]
    · rw [List.getElem?_eq_none (by omega), List.getElem?_eq_none (by simp; omega)]
  rw [← this]
  exact o
theorem rep_lt (n v : Nat) (hv : v < 256) : ∀ c ∈ List.replicate n v, c < 256 := fun c hc => by rw [(List.mem_replicate.1 hc).2]; exact hv
theorem rep_get (n v i : Nat) (hi : i < n) : (List.replicate n v).getD i 0 = v := by rw [List.getD_eq_getElem?_getD, List.getElem?_replicate, if_pos hi]; rfl
/-- A list that grew out of a row. -/
structure GR (w0 wr : World) (a : Option Addr) (na ca : Nat) (p : Option Addr) (n c : Nat) (v : Nat) : Prop where
  own : wr.ownsRow 0 5 1 (.slice p n c) n (cellsOf (List.replicate n v))
  rd : Reads wr a na ca (List.replicate na v)
  blk : ∀ k, blockOf p = some k → blockOf a = some k ∨ w0.heap.size ≤ k
  kept : Kept (fun k => blockOf a = some k) w0 wr
  le : na ≤ n
  at0 : ∀ ad, a = some ad → ad.off = 0 ∧ ad.spot = none
  lt : ∀ k, blockOf a = some k → k < w0.heap.size
theorem GR.start {w : World} {a : Option Addr} {na ca v : Nat} (o : w.ownsRow 0 5 1 (.slice a na ca) na (cellsOf (List.replicate na v))) (hv : v < 256) : GR w w a na ca a na ca v := by
  refine ⟨o, ?_, fun k hk => .inl hk, Kept.refl _ _, Nat.le_refl _, fun ad e => ?_, fun k hk => (own_lt o k hk).2⟩
  · obtain ⟨a', c', e, r, _⟩ := owns_reads o (rep_lt na v hv)
    simp at e
    obtain ⟨rfl, rfl⟩ := e
    exact r
  · rcases o.2 with ⟨e0, _⟩ | ⟨g, cap, cur, e0, _⟩
    · simp at e0; rw [e0.1] at e; cases e
    · simp at e0; rw [e0.1] at e; cases e; exact ⟨rfl, rfl⟩
theorem GR.step {w0 wr W w' : World} {a : Option Addr} {na ca : Nat} {p : Option Addr} {n c v : Nat} {p' : Option Addr} {c' : Nat} (h : GR w0 wr a na ca p n c v) (hv : v < 256) (K : Kept (fun _ => False) wr W) (ho : w'.ownsRow 0 5 1 (.slice p' (n + 1) c') (n + 1) (cellsOf (List.replicate n v ++ [v]))) (hg : W.grownBy w' (Value.slice p n c).ownBlock) (hn : (Value.slice p' (n + 1) c').ownBlock = (Value.slice p n c).ownBlock ∨ ((Value.slice p' (n + 1) c').ownBlock = some W.heap.size ∧ W.grownBy w' none)) : GR w0 w' a na ca p' (n + 1) c' v := by
  have er : List.replicate n v ++ [v] = List.replicate (n + 1) v := by rw [List.replicate_succ']
  rw [er] at ho
  rw [blockOf_own] at hg hn
  rw [blockOf_own] at hn
  have KW : Kept (fun k => blockOf p = some k) W w' := (Kept.refl _ _).grown hg (fun k _ z => z.symm ▸ rfl)
  have hs0 := h.kept.size
  have hs1 := K.size
  refine ⟨ho, ?_, fun k hk => ?_, (h.kept.trans K (fun _ _ z => z.elim)).trans KW (fun k hk z => ?_), by have := h.le; omega, h.at0, h.lt⟩
  · have rW := h.rd.kept' K (fun _ _ z => z)
    by_cases h0 : 0 < na
    · obtain ⟨b, off, ea, hc⟩ := rW.cells h0
      obtain ⟨z1, z2⟩ := h.at0 _ ea
      simp at z1
      subst z1
      by_cases hpb : blockOf p = some b
      · rcases hn with z | ⟨z, zg⟩
        · obtain ⟨g, hp', hcell⟩ := own_byte ho (rep_lt (n + 1) v hv) (by omega)
          have hgb : g = b := by rw [← z, hp'] at hpb; simpa [blockOf] using hpb
          subst hgb
          have hle := h.le
          refine ⟨rW.length, rW.room, rW.small, rW.bytes, fun _ => ⟨g, 0, ea, fun i hi => ?_⟩⟩
          rw [Nat.zero_add, (hcell i (by omega)).1, rep_get _ _ _ (by omega), rep_get _ _ _ hi]
        · have K0 : Kept (fun _ => False) W w' := (Kept.refl _ _).grown zg (fun k _ z => by cases z)
          exact rW.kept' K0 (fun _ _ z => z)
      · exact rW.off KW (fun k hk z => hpb (by rw [ea] at hk; simp [blockOf] at hk; rw [hk]; exact z))
    · exact ⟨rW.length, rW.room, rW.small, rW.bytes, fun q => absurd q h0⟩
  · rcases hn with z | ⟨z, _⟩
    · exact h.blk k (by rw [← z]; exact hk)
    · rw [z] at hk; simp at hk; exact .inr (by omega)
  · rcases h.blk k z with q | q
    · exact q
    · omega
set_option maxRecDepth 100000 in
set_option maxHeartbeats 4000000 in
/-- alone (52): two lists that share no memory. -/
theorem aloneOK (base : Nat) (a : Option Addr) (na ca : Nat) (la : List Nat) (b : Option Addr) (nb cb : Nat) (lb : List Nat) (w : World) (oa : w.ownsRow base 5 1 (.slice a na ca) na (cellsOf la)) (ob : w.ownsRow base 5 1 (.slice b nb cb) nb (cellsOf lb)) (ha : ∀ c ∈ la, c < 256) (hb : ∀ c ∈ lb, c < 256) (ne : ∀ k, blockOf a = some k → blockOf b ≠ some k) (na1 : na ≤ Lim) (nb1 : nb ≤ Lim) :
    Calls Try.prog 52 #[.slice a na ca, .slice b nb cb] w fun x w' => x = .returned (.bool true) ∧ Kept (fun k => blockOf a = some k ∨ blockOf b = some k) w w' := by
  have ra := own_room oa
  have rb := own_room ob
  obtain ⟨ra1, ra2⟩ := ra
  obtain ⟨rb1, rb2⟩ := rb
  unfold maxLen at ra2 rb2
  unfold Lim at na1 nb1
  have FA : Hid (FL w w a na ca 1 0) := ⟨⟨la, owns_mono oa (Nat.zero_le _), ha, fun k hk => by omega⟩, Kept.refl _ _⟩
  have OB : Hid (w.ownsRow 0 5 1 (.slice b nb cb) nb (cellsOf lb) ∧ (∀ c ∈ lb, c < 256) ∧ (∀ k, blockOf a = some k → blockOf b ≠ some k)) := ⟨owns_mono ob (Nat.zero_le _), hb, ne⟩
  clear oa ob ha hb ne
  go_enter Try.func52, Try.ntmps52
  go_wp2_with fail
  go_loopw [5] (fun x wr => ∃ i : Nat, x = .int .i64 (i : Int) ∧ i ≤ na ∧ Hid (FL w wr a na ca 1 i)) (fun x _ => na - (intOf x).toNat)
  case atStart => exact ⟨0, rfl, Nat.zero_le _, FA.out⟩
  case round =>
    obtain ⟨i, rfl, hi, S1⟩ := hrel
    by_cases hlt : i < na
    · have i1 : (i : Int) < (na : Int) := by omega
      obtain ⟨l, o, hbl, _⟩ := S1.out.ex
      obtain ⟨g, rfl, hcell⟩ := own_byte o hbl (by omega)
      have e1 := (hcell i hlt).1
      have e2 := (hcell i hlt).2
      have S2 : Hid (FL w (wr.setCell ⟨g, i, none⟩ (.int .u8 ((1 : Nat) : Int))) (some ⟨g, 0, none⟩) na ca 1 (i + 1)) := S1.out.step hlt (by omega)
      clear o hbl hcell
      go_wp2_with fail
      go_roundw
      case rel => exact ⟨i + 1, by go_num, by omega, S2.out⟩
      case measure => simp [intOf]; omega
    · have i1 : ¬ (i : Int) < (na : Int) := by omega
      obtain ⟨w1s, rfl⟩ : ∃ w1s, w1s = wr := ⟨_, rfl⟩
      have AF : Hid (w1s.ownsRow 0 5 1 (.slice a na ca) na (cellsOf (List.replicate na 1))) := S1.out.done (by omega)
      have K1s : Hid (Kept (fun k => blockOf a = some k) w w1s) := S1.out.kept
      have FB : Hid (FL w1s w1s b nb cb 2 0) := ⟨⟨lb, K1s.out.owns OB.out.1 (fun k hk z => OB.out.2.2 k z (by rw [← hk]; exact (blockOf_own ..).symm)), OB.out.2.1, fun k hk => by omega⟩, Kept.refl _ _⟩
      go_wp2_with fail
      go_loopw [6] (fun x wr => ∃ i : Nat, x = .int .i64 (i : Int) ∧ i ≤ nb ∧ Hid (FL w1s wr b nb cb 2 i)) (fun x _ => nb - (intOf x).toNat)
      case atStart => exact ⟨0, rfl, Nat.zero_le _, FB.out⟩
      case round =>
        obtain ⟨i, rfl, hi, S2⟩ := hrel
        by_cases hlt : i < nb
        · have i1 : (i : Int) < (nb : Int) := by omega
          obtain ⟨l, o, hbl, _⟩ := S2.out.ex
          obtain ⟨g, rfl, hcell⟩ := own_byte o hbl (by omega)
          have e1 := (hcell i hlt).1
          have e2 := (hcell i hlt).2
          have S2 : Hid (FL w1s (wr.setCell ⟨g, i, none⟩ (.int .u8 ((2 : Nat) : Int))) (some ⟨g, 0, none⟩) nb cb 2 (i + 1)) := S2.out.step hlt (by omega)
          clear o hbl hcell
          go_wp2_with fail
          go_roundw
          case rel => exact ⟨i + 1, by go_num, by omega, S2.out⟩
          case measure => simp [intOf]; omega
        · have i1 : ¬ (i : Int) < (nb : Int) := by omega
          obtain ⟨w2s, rfl⟩ : ∃ w2s, w2s = wr := ⟨_, rfl⟩
          have BF : Hid (w2s.ownsRow 0 5 1 (.slice b nb cb) nb (cellsOf (List.replicate nb 2))) := S2.out.done (by omega)
          have KB : Hid (Kept (fun k => blockOf a = some k ∨ blockOf b = some k) w w2s) := (K1s.out.mono (fun _ _ z => .inl z)).trans (S2.out.kept.mono (fun _ _ z => .inr z)) (fun _ _ z => z)
          have SA : Hid (GR w2s w2s a na ca a na ca 1) := GR.start (S2.out.kept.owns AF.out (fun k hk z => OB.out.2.2 k (by rw [← hk]; exact (blockOf_own ..).symm) z)) (by decide)
          go_wp2_with fail
          go_loopw [7, 9] (fun y x wr => ∃ (i : Nat) (p : Option Addr) (c : Nat), x = .int .i64 (i : Int) ∧ y = .slice p (na + i) c ∧ i ≤ 70 ∧ Hid (GR w2s wr a na ca p (na + i) c 1)) (fun _ x _ => 70 - (intOf x).toNat)
          case atStart => exact ⟨0, a, ca, rfl, by rw [Nat.add_zero], Nat.zero_le _, SA.out⟩
          case round =>
            obtain ⟨i, p, c, rfl, rfl, hi, G1⟩ := hrel
            by_cases hlt : i < 70
            · have i1 : (i : Int) < 70 := by omega
              have K1 : Hid (Kept (fun _ => False) wr (wr.alloc (.cells #[.int .u8 1] 5))) := alloc_kept0 _ _
              go_wp2_with
                (first
                  | (at_builtin; refine wpList_append_bytes _ rfl (.tmp 37) (.tmp 38) rfl 0 (.slice p (na + i) c) (na + i) (List.replicate (na + i) 1) rfl (K1.out.owns G1.out.own (fun _ _ z => z)) (.slice (some ⟨wr.heap.size, 0, none⟩) 1 1) 1 [1] rfl (src_byte wr 1 (by decide)) (by omega) (Nat.zero_le _) ?_; intro p2 c2 w2 ho hg hn
                     have G2 : Hid (GR w2s w2 a na ca p2 (na + (i + 1)) c2 1) := G1.out.step (by decide) K1.out ho.out hg.out hn.out
                     clear ho hg hn)
                  | fail)
              go_roundw
              case rel => exact ⟨i + 1, p2, c2, by go_num, by rw [Nat.add_assoc], by omega, G2.out⟩
              case measure => simp [intOf]; omega
            · have i1 : ¬ (i : Int) < 70 := by omega
              have i70 : i = 70 := by omega
              subst i70
              obtain ⟨px, rfl⟩ : ∃ px, px = p := ⟨_, rfl⟩
              obtain ⟨cx, rfl⟩ : ∃ cx, cx = c := ⟨_, rfl⟩
              obtain ⟨w3, rfl⟩ : ∃ w3, w3 = wr := ⟨_, rfl⟩
              have XR : Hid (GR w2s w3 a na ca px (na + 70) cx 1) := G1.out
              have KA : Hid (Kept (fun k => blockOf a = some k ∨ blockOf b = some k) w w3) := KB.out.trans (XR.out.kept.mono (fun _ _ z => .inl z)) (fun _ _ z => z)
              have SB : Hid (GR w3 w3 b nb cb b nb cb 2) := GR.start (XR.out.kept.owns BF.out (fun k hk z => OB.out.2.2 k z (by rw [← hk]; exact (blockOf_own ..).symm))) (by decide)
              have BL : Hid (∀ k, blockOf b = some k → k < w2s.heap.size) := fun k hk => (own_lt BF.out k hk).2
              go_wp2_with fail
              go_loopw [8, 10] (fun y x wr => ∃ (i : Nat) (p : Option Addr) (c : Nat), x = .int .i64 (i : Int) ∧ y = .slice p (nb + i) c ∧ i ≤ 70 ∧ Hid (GR w3 wr b nb cb p (nb + i) c 2)) (fun _ x _ => 70 - (intOf x).toNat)
              case atStart => exact ⟨0, b, cb, rfl, by rw [Nat.add_zero], Nat.zero_le _, SB.out⟩
              case round =>
                obtain ⟨i, p, c, rfl, rfl, hi, G2⟩ := hrel
                by_cases hlt : i < 70
                · have i1 : (i : Int) < 70 := by omega
                  have K1 : Hid (Kept (fun _ => False) wr (wr.alloc (.cells #[.int .u8 2] 5))) := alloc_kept0 _ _
                  go_wp2_with
                    (first
                      | (at_builtin; refine wpList_append_bytes _ rfl (.tmp 44) (.tmp 45) rfl 0 (.slice p (nb + i) c) (nb + i) (List.replicate (nb + i) 2) rfl (K1.out.owns G2.out.own (fun _ _ z => z)) (.slice (some ⟨wr.heap.size, 0, none⟩) 1 1) 1 [2] rfl (src_byte wr 2 (by decide)) (by omega) (Nat.zero_le _) ?_; intro p2 c2 w2 ho hg hn
                         have G2 : Hid (GR w3 w2 b nb cb p2 (nb + (i + 1)) c2 2) := G2.out.step (by decide) K1.out ho.out hg.out hn.out
                         clear ho hg hn)
                      | fail)
                  go_roundw
                  case rel => exact ⟨i + 1, p2, c2, by go_num, by rw [Nat.add_assoc], by omega, G2.out⟩
                  case measure => simp [intOf]; omega
                · have i1 : ¬ (i : Int) < 70 := by omega
                  have i70 : i = 70 := by omega
                  subst i70
                  have KF : Hid (Kept (fun k => blockOf a = some k ∨ blockOf b = some k) w wr) := KA.out.trans (G2.out.kept.mono (fun _ _ z => .inr z)) (fun _ _ z => z)
                  have FX : Hid (Reads wr px (na + 70) cx (List.replicate (na + 70) 1) ∧ Reads wr a na ca (List.replicate na 1)) := by
                    refine ⟨owned_reads' (G2.out.kept.owns XR.out.own (fun k hk z => ?_)) (rep_lt _ _ (by decide)), XR.out.rd.off G2.out.kept (fun k hk z => OB.out.2.2 k hk z)⟩
                    have hk2 : blockOf px = some k := by rw [← hk]; exact (blockOf_own ..).symm
                    rcases XR.out.blk k hk2 with q | q
                    · exact OB.out.2.2 k q z
                    · have := BL.out k z; omega
                  have FY : Hid (Reads wr p (nb + 70) c (List.replicate (nb + 70) 2) ∧ Reads wr b nb cb (List.replicate nb 2)) := ⟨owned_reads' G2.out.own (rep_lt _ _ (by decide)), G2.out.rd⟩
                  obtain ⟨py, rfl⟩ : ∃ py, py = p := ⟨_, rfl⟩
                  obtain ⟨WF, rfl⟩ : ∃ WF, WF = wr := ⟨_, rfl⟩
                  go_wp2_with fail
                  go_loopw [11] (fun x wr => ∃ i : Nat, x = .int .i64 (i : Int) ∧ i ≤ (na + 70) ∧ wr = WF) (fun x _ => (na + 70) - (intOf x).toNat)
                  case atStart => exact ⟨0, rfl, Nat.zero_le _, by first | rfl | trivial⟩
                  case round =>
                    obtain ⟨i, rfl, hi, hw⟩ := hrel
                    have hw2 := hw.symm
                    clear hw
                    subst hw2
                    by_cases hlt : i < (na + 70)
                    · have i1 : (i : Int) < (((na + 70) : Nat) : Int) := by omega
                      obtain ⟨bx, offx, hx, hcx⟩ := FX.out.1.cells (by omega)
                      have e1 := hcx i hlt
                      rw [rep_get _ _ _ hlt] at e1
                      rw [hx]
                      by_cases hla : i < na
                      · have i2 : (i : Int) < (na : Int) := by omega
                        obtain ⟨ba, offa, hax, hca⟩ := FX.out.2.cells (by omega)
                        have e2 := hca i hla
                        rw [rep_get _ _ _ hla] at e2
                        rw [hax]
                        go_wp2_with fail
                        go_roundw
                        case rel => exact ⟨i + 1, by go_num, by omega, by first | rfl | trivial⟩
                        case measure => simp [intOf]; omega
                      · have i2 : ¬ (i : Int) < (na : Int) := by omega
                        go_wp2_with fail
                        go_roundw
                        case rel => exact ⟨i + 1, by go_num, by omega, by first | rfl | trivial⟩
                        case measure => simp [intOf]; omega
                    · have i1 : ¬ (i : Int) < (((na + 70) : Nat) : Int) := by omega
                      go_wp2_with fail
                      go_loopw [12] (fun x wr => ∃ i : Nat, x = .int .i64 (i : Int) ∧ i ≤ (nb + 70) ∧ wr = WF) (fun x _ => (nb + 70) - (intOf x).toNat)
                      case atStart => exact ⟨0, rfl, Nat.zero_le _, by first | rfl | trivial⟩
                      case round =>
                        obtain ⟨i, rfl, hi, hw⟩ := hrel
                        have hw2 := hw.symm
                        clear hw
                        subst hw2
                        by_cases hlt : i < (nb + 70)
                        · have i1 : (i : Int) < (((nb + 70) : Nat) : Int) := by omega
                          obtain ⟨bx, offx, hx, hcx⟩ := FY.out.1.cells (by omega)
                          have e1 := hcx i hlt
                          rw [rep_get _ _ _ hlt] at e1
                          rw [hx]
                          by_cases hla : i < nb
                          · have i2 : (i : Int) < (nb : Int) := by omega
                            obtain ⟨ba, offa, hax, hca⟩ := FY.out.2.cells (by omega)
                            have e2 := hca i hla
                            rw [rep_get _ _ _ hla] at e2
                            rw [hax]
                            go_wp2_with fail
                            go_roundw
                            case rel => exact ⟨i + 1, by go_num, by omega, by first | rfl | trivial⟩
                            case measure => simp [intOf]; omega
                          · have i2 : ¬ (i : Int) < (nb : Int) := by omega
                            go_wp2_with fail
                            go_roundw
                            case rel => exact ⟨i + 1, by go_num, by omega, by first | rfl | trivial⟩
                            case measure => simp [intOf]; omega
                        · have i1 : ¬ (i : Int) < (((nb + 70) : Nat) : Int) := by omega
                          go_wp2_with fail
                          go_ret
                          exact ⟨rfl, KF.out⟩
end Go.Proofs.Ytbnnmelkbjkkjaa
