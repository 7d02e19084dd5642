import Derived.Test.YtginpoofeliimaaFMath
namespace Go.Proofs.Ytginpoofeliimaa
open Go.RowKit 

theorem fresh_less {n : Nat} {b : List Nat} {i : Nat} (hi : i < n) (h : i ∉ b) : ((List.range n).filter fun j => !(b ++ [i]).contains j).length < ((List.range n).filter fun j => !b.contains j).length := by
  refine filter_lt (fun j hj => ?_) hi (by simpa using h) (by simp)
  simp at hj ⊢
  exact hj.1
theorem src_ints {b0 : Nat} {w : World} {p : Option Addr} {k c : Nat} {R : List Nat} (h : NRow b0 w p k c R) (h0 : 0 < k) : Src Try.prog 1 25 (.slice p k c) k (intsN R) w := by
  obtain ⟨g, r, rfl, _, _⟩ := h.at h0
  refine Src.ofSlice w Try.underlying25 ⟨g, 0, none⟩ k c (intsN R) (by simp [intsN, h.len]) (fun j u hj => ?_) (fun v hv => ?_)
  · have hj2 := (List.getElem?_eq_some_iff.1 hj).1
    have hjk : j < k := by simp [intsN, h.len] at hj2; exact hj2
    obtain ⟨g', r', e, hr, cr⟩ := h.at hjk
    have e : g = g' := by simpa using e
    subst e
    rw [Addr.add_none, Nat.zero_add, cr]
    unfold intsN at hj
    rw [List.getElem?_map, hr] at hj
    exact hj
  · unfold intsN at hv
    obtain ⟨x, _, rfl⟩ := List.mem_map.1 hv
    rfl
theorem src_any {b0 : Nat} {w : World} {p : Option Addr} {k c : Nat} {R : List Nat} (h : NRow b0 w p k c R) : Src Try.prog 1 25 (.slice p k c) k (intsN R) w := by
  by_cases h0 : 0 < k
  · exact src_ints h h0
  · have hk : k = 0 := by omega
    subst hk
    have hR : R = [] := List.length_eq_zero_iff.1 h.len
    subst hR
    cases p with
    | none => exact Src.ofNil w Try.underlying25 c
    | some a => exact Src.ofSlice w Try.underlying25 a 0 c [] rfl (fun j u hj => by simp at hj) (fun v hv => by simp at hv)
/-- What least answers, in memory. -/
structure LsQ (cs : List Cl) (b : List Nat) (w : World) (p : Option Addr) (k c : Nat) (ok : Bool) (w' : World) : Prop where
  ans : ∃ R, NRow 0 w' p k c R ∧ LstQ cs b R ok
  kept : Kept (fun _ => False) w w'
/-- The contract of explains. -/
def ExpC (p0 : Option Addr) (n c0 : Nat) (ms : List Cm) : Prop := ∀ {w : World} {q0 : Option Addr} {k kc b1 : Nat} {R : List Nat}, CRd w p0 n c0 ms → NRow b1 w q0 k kc R → ∀ v : Bool, EH (ms.map Cm.cl) R v → n ≤ 1000000 → Calls Try.prog 14 #[.slice p0 n c0, .slice q0 k kc] w fun o w' => o = .returned (.bool v) ∧ Kept (fun _ => False) w w'
theorem own_k {w : World} {base : Nat} {p : Option Addr} {k c : Nat} {xs : List Value} (h : w.ownsRow base 3 1 (.slice p (0 + k) c) (0 + k) ([] ++ xs)) : w.ownsRow base 3 1 (.slice p k c) k xs := by
  rw [Nat.zero_add, List.nil_append] at h
  exact h
theorem own_empty (w : World) : (w.alloc (.cells #[] 3)).ownsRow w.heap.size 3 1 (.slice (some ⟨w.heap.size, 0, none⟩) 0 0) 0 [] :=
  ⟨rfl, .inr ⟨w.heap.size, 0, #[], rfl, Nat.le_refl _, heap_alloc_new _ _, Nat.le_refl _, by unfold maxLen; omega, rfl, rfl⟩⟩
theorem grown_kept {wo w8 : World} {o : Obj} {p : Option Addr} {k c : Nat} (hg : (wo.alloc o).grownBy w8 (Value.slice p k c).ownBlock) (hp : ∀ j, blockOf p = some j → wo.heap.size ≤ j) : Kept (fun _ => False) wo w8 := by
  have KG : Kept (fun j => blockOf p = some j) wo w8 := ((Kept.refl (fun j => blockOf p = some j) wo).alloc _).grown hg (fun j _ z => by rw [blockOf_own] at z; exact z)
  exact Kept.own (Kept.refl _ wo) KG hp
theorem grown_size {wo w8 : World} {o o' : Obj} {p : Option Addr} {k c : Nat} (hg : (wo.alloc o).grownBy w8 (Value.slice p k c).ownBlock) : wo.heap.size ≤ (w8.alloc o').heap.size := by
  have KG : Kept (fun j => blockOf p = some j) wo w8 := ((Kept.refl (fun j => blockOf p = some j) wo).alloc _).grown hg (fun j _ z => by rw [blockOf_own] at z; exact z)
  exact Nat.le_trans KG.size ((Kept.refl (fun _ => False) w8).alloc _).size
set_option maxRecDepth 100000 in
set_option maxHeartbeats 8000000 in
theorem leastC {p0 : Option Addr} {n c0 : Nat} {ms : List Cm} (ex : ExpC p0 n c0 ms) (nb : ∀ c ∈ ms.map Cm.cl, c.bad = false) (hb : n ≤ 1000000) (hn : (ms.map Cm.cl).length = n) :
    ∀ (d : Nat) {w : World} {q : Option Addr} {k kc : Nat} {b : List Nat}, CRd w p0 n c0 ms → NRow 0 w q k kc b → (∀ r ∈ b, r < n) → ((List.range n).filter fun j => !b.contains j).length ≤ d → k + d ≤ 1000000 → Calls Try.prog 15 #[.slice p0 n c0, .slice q k kc] w (RetF (LsQ (ms.map Cm.cl) b w)) := by
  intro d
  induction d using Nat.strongRecOn with
  | ind d ih =>
    intro w q k kc b cr nr lt hd hk
    have r4 := own_room nr.row
    unfold maxLen at r4
    obtain ⟨r41, r42⟩ := r4
    obtain ⟨v, hv⟩ : ∃ v : Bool, v = true ↔ XRun (ms.map Cm.cl) b [] none := by
      by_cases z : XRun (ms.map Cm.cl) b [] none
      · exact ⟨true, by simp [z]⟩
      · exact ⟨false, by simp [z]⟩
    have eh : EH (ms.map Cm.cl) b v := ⟨hv.trans (explain_iff nb), fun r hr => by rw [hn]; exact lt r hr⟩
    have CE : Hid (Calls Try.prog 14 #[.slice p0 n c0, .slice q k kc] w fun o w' => o = .returned (.bool v) ∧ Kept (fun _ => False) w w') := ex cr nr v eh hb
    have H : Hid (CRd w p0 n c0 ms ∧ NRow 0 w q k kc b ∧ (∀ r ∈ b, r < n) ∧ ((List.range n).filter fun j => !b.contains j).length ≤ d ∧ (v = true ↔ XRun (ms.map Cm.cl) b [] none)) := ⟨cr, nr, lt, hd, hv⟩
    have IH : Hid (∀ d' < d, ∀ {w : World} {q : Option Addr} {k kc : Nat} {b : List Nat}, CRd w p0 n c0 ms → NRow 0 w q k kc b → (∀ r ∈ b, r < n) → ((List.range n).filter fun j => !b.contains j).length ≤ d' → k + d' ≤ 1000000 → Calls Try.prog 15 #[.slice p0 n c0, .slice q k kc] w (RetF (LsQ (ms.map Cm.cl) b w))) := ih
    clear cr nr lt hd hv eh ih ex
    go_enter Try.func15, Try.ntmps15
    go_wp2_with fail
    refine CE.out.mono ?_
    rintro o w1 ⟨rfl, K1'⟩
    have K1 : Hid (Kept (fun _ => False) w w1) := K1'
    clear K1' CE
    cases v
    · have NX : Hid (¬ XRun (ms.map Cm.cl) b [] none) := fun z => by have := H.out.2.2.2.2.2 z; cases this
      have S0 : Hid (Kept (fun _ => False) w w1 ∧ ∀ j, j < 0 → ∀ t, ¬ XRun (ms.map Cm.cl) (b ++ j :: t) [] none) := ⟨K1.out, fun j hj => absurd hj (Nat.not_lt_zero _)⟩
      go_wp2_with fail
      go_loopw [6, 7, 9, 10, 11, 18] (fun _ _ _ _ _ u18 wx => ∃ i : Nat, u18 = .int .i64 (i : Int) ∧ i ≤ n ∧ Hid (Kept (fun _ => False) w wx ∧ ∀ j, j < i → ∀ t, ¬ XRun (ms.map Cm.cl) (b ++ j :: t) [] none)) (fun _ _ _ _ _ u18 _ => n - (intOf u18).toNat)
      case atStart => exact ⟨0, rfl, Nat.zero_le _, S0⟩
      case round =>
        obtain ⟨i, rfl, hi, S⟩ := hrel
        clear S0
        obtain ⟨wo, hwo⟩ : ∃ wo, wo = wr := ⟨_, rfl⟩
        rw [← hwo] at S ⊢
        clear hwo
        by_cases hlt : i < n
        · have i1 : (i : Int) < (n : Int) := by omega
          have S1 : Hid (false = decide (i ∈ b.take 0)) := by show false = decide (i ∈ b.take 0); simp
          go_wp2_with fail
          go_loopw [7, 9, 23] (fun u7 _ u23 wx => ∃ (j : Nat) (th : Bool), u7 = .bool th ∧ u23 = .int .i64 (j : Int) ∧ j ≤ k ∧ wx = wo ∧ Hid (th = decide (i ∈ b.take j))) (fun _ _ u23 _ => k - (intOf u23).toNat)
          case atStart => exact ⟨0, false, rfl, rfl, Nat.zero_le _, rfl, S1⟩
          case round =>
            obtain ⟨j, th, rfl, rfl, hj, hwx, HT⟩ := hrel
            rw [hwx]
            clear S1 hwx
            by_cases hlj : j < k
            · have j1 : (j : Int) < (k : Int) := by omega
              obtain ⟨g, r, rfl, hr, cr⟩ := (H.out.2.1.k0 S.out.1).at hlj
              have HR : Hid (b[j]? = some r) := hr
              clear hr
              have NXT : Hid (∀ z : Bool, z = (th || decide (i = r)) → z = decide (i ∈ b.take (j + 1))) := by
                intro z hz
                rw [hz, HT.out, take_add HR.out]
                simp
              cases th
              · by_cases e : i = r
                · have e1 : ((i : Int) == (r : Int)) = true := by simp [e]
                  go_wp2_with fail
                  go_roundw
                  case rel => exact ⟨j + 1, true, rfl, by go_num, by omega, (by first | rfl | trivial), NXT.out _ (by simp [e])⟩
                  case measure => simp [intOf] <;> omega
                · have e1 : ((i : Int) == (r : Int)) = false := by simp; omega
                  go_wp2_with fail
                  go_roundw
                  case rel => exact ⟨j + 1, false, rfl, by go_num, by omega, (by first | rfl | trivial), NXT.out _ (by simp [e])⟩
                  case measure => simp [intOf] <;> omega
              · go_wp2_with fail
                go_roundw
                case rel => exact ⟨j + 1, true, rfl, by go_num, by omega, (by first | rfl | trivial), NXT.out _ (by simp)⟩
                case measure => simp [intOf] <;> omega
            · have j1 : ¬ (j : Int) < (k : Int) := by omega
              have TH : Hid (th = decide (i ∈ b)) := by
                have e : b.length = j := by have := H.out.2.1.len; omega
                have := HT.out
                rw [← e, List.take_length] at this
                exact this
              clear HT
              cases th
              · have NI : Hid (i ∉ b) := by
                  have h1 := TH.out
                  intro z
                  rw [decide_eq_true z] at h1
                  cases h1
                have BLk : Hid ((0 + k ≤ maxLen ∧ ((0 + k) + (0 + k) / 4 + 192) * 8 ≤ 281474976710656) ∧ (k + 1 ≤ maxLen ∧ ((k + 1) + (k + 1) / 4 + 192) * 8 ≤ 281474976710656)) := by
                  unfold maxLen
                  exact ⟨⟨by omega, by omega⟩, ⟨by omega, by omega⟩⟩
                go_wp2_with
                  (first
                    | (at_builtin; refine wpList_append_all _ rfl (.tmp 37) (.tmp 38) 25 3 25 _ 1 8 rfl Try.underlying25 Try.info3c rfl wo.heap.size (.slice (some ⟨wo.heap.size, 0, none⟩) 0 0) 0 [] rfl (own_empty wo) _ k (intsN b) rfl (src_any (H.out.2.1.k0 (S.out.1.alloc _))) BLk.out.1.1 BLk.out.1.2 ((Kept.refl (fun _ => False) wo).alloc _).size ?_; intro p8 c8 w8 ho8 hg8 hn8; have hO : Hid (w8.ownsRow wo.heap.size 3 1 (.slice p8 k c8) k (intsN b)) := own_k ho8.out)
                    | (at_builtin; refine wpList_append_all _ rfl (.tmp 39) (.tmp 41) 25 3 25 _ 1 8 rfl Try.underlying25 Try.info3c rfl wo.heap.size (.slice p8 k c8) k (intsN b) rfl (((Kept.refl (fun _ => False) w8).alloc _).owns hO.out (fun _ _ z => z)) _ 1 (intsN [i]) rfl (src_one (heap_alloc_new w8 _)) BLk.out.2.1 BLk.out.2.2 (grown_size hg8.out) ?_; intro p9 c9 w9 ho hg hn)
                    | fail)
                have R9 : Hid (NRow 0 w9 p9 (k + 1) c9 (b ++ [i]) ∧ Kept (fun _ => False) wo w9) := by
                  have K8 : Kept (fun _ => False) wo w8 := grown_kept hg8.out (fun j z => by rw [show j = wo.heap.size by simpa [blockOf] using z.symm]; exact Nat.le_refl _)
                  have K9 : Kept (fun _ => False) wo w9 := Kept.own K8 (((Kept.refl (fun j => blockOf p8 = some j) w8).alloc _).grown hg.out (fun j _ z => by rw [blockOf_own] at z; exact z)) (fun j z => (own_lt hO.out j z).1)
                  refine ⟨⟨by rw [List.length_append, H.out.2.1.len]; rfl, ?_⟩, K9⟩
                  rw [intsN_append]
                  have h9 := ho.out
                  exact ⟨h9.1, h9.2.imp id (fun ⟨g, cap, cur, e1, e2, e3⟩ => ⟨g, cap, cur, e1, Nat.zero_le _, e3⟩)⟩
                clear ho8 hg8 hn8 hO ho hg hn
                have HL : Hid (((List.range n).filter fun j => !(b ++ [i]).contains j).length < d) := by
                  have h1 := fresh_less hlt NI.out
                  have h2 := H.out.2.2.2.1
                  show _ < d
                  omega
                refine (IH.out _ HL.out (H.out.1.k0 (S.out.1.trans R9.out.2 (fun _ _ z => z))) R9.out.1 (fun r hr => ?_) (Nat.le_refl _) (by have := HL.out; omega)).mono ?_
                · rcases List.mem_append.1 hr with z | z
                  · exact H.out.2.2.1 r z
                  · rw [List.mem_singleton.1 z]; exact hlt
                rintro o w10 ⟨p10, k10, c10, ok, rfl, Q⟩
                have Q10 : Hid (LsQ (ms.map Cm.cl) (b ++ [i]) w9 p10 k10 c10 ok w10) := Q
                clear Q
                have K10 : Hid (Kept (fun _ => False) w w10) := (S.out.1.trans R9.out.2 (fun _ _ z => z)).trans Q10.out.kept (fun _ _ z => z)
                obtain ⟨R, nr, lq⟩ := Q10.out.ans
                cases ok
                · have GO : Hid (Kept (fun _ => False) w w10 ∧ ∀ j, j < i + 1 → ∀ t, ¬ XRun (ms.map Cm.cl) (b ++ j :: t) [] none) := by
                    refine ⟨K10.out, fun x hx t r => ?_⟩
                    rcases Nat.lt_succ_iff_lt_or_eq.1 hx with z | z
                    · exact S.out.2 x z t r
                    · subst z
                      refine (lq.no rfl).2 t ?_
                      rw [List.append_assoc]
                      exact r
                  clear S nr lq Q10
                  go_wp2_with fail
                  go_roundw
                  case rel => exact ⟨i + 1, by go_num, by omega, GO⟩
                  case measure => simp [intOf] <;> omega
                · have G : Hid (LsQ (ms.map Cm.cl) b w p10 k10 c10 true w10) := ⟨⟨R, nr, LstQ.found NX.out S.out.2 lq⟩, K10.out⟩
                  clear nr lq Q10
                  go_wp2_with fail
                  go_ret2
                  exact RetF.mk p10 k10 c10 true rfl G.out
              · have GO : Hid (Kept (fun _ => False) w wo ∧ ∀ j, j < i + 1 → ∀ t, ¬ XRun (ms.map Cm.cl) (b ++ j :: t) [] none) := by
                  refine ⟨S.out.1, fun x hx t r => ?_⟩
                  rcases Nat.lt_succ_iff_lt_or_eq.1 hx with z | z
                  · exact S.out.2 x z t r
                  · subst z
                    have h1 := TH.out
                    simp at h1
                    exact (run_head r).1 h1
                clear S
                go_wp2_with fail
                go_roundw
                case rel => exact ⟨i + 1, by go_num, by omega, GO⟩
                case measure => simp [intOf] <;> omega
        · have i1 : ¬ (i : Int) < (n : Int) := by omega
          have G : Hid (LsQ (ms.map Cm.cl) b w none 0 0 false wo) := ⟨⟨[], NRow.nil _ _, LstQ.none' NX.out (fun j hj => S.out.2 j (by omega))⟩, S.out.1⟩
          go_wp2_with fail
          go_ret2
          exact RetF.mk none 0 0 false rfl G.out
    · have G : Hid (LsQ (ms.map Cm.cl) b w q k kc true w1) := ⟨⟨b, H.out.2.1.k0 K1.out, LstQ.here (H.out.2.2.2.2.1 rfl)⟩, K1.out⟩
      go_wp2_with fail
      go_ret2
      exact RetF.mk q k kc true rfl G.out
end Go.Proofs.Ytginpoofeliimaa
