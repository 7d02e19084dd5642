import Derived.Test.YtginpoofeliimaaOSmall
import Derived.Test.YtginpoofeliimaaFLeast
namespace Go.Proofs.Ytginpoofeliimaa
open Go.RowKit 

def boolsB (n : Nat) (b : List Nat) : List Value := (List.range n).map fun i => Value.bool (decide (i ∈ b))
theorem boolsB_get (n : Nat) (b : List Nat) (i : Nat) : (boolsB n b)[i]? = if i < n then some (.bool (decide (i ∈ b))) else none := by
  unfold boolsB
  rw [List.getElem?_map]
  by_cases h : i < n
  · rw [if_pos h, List.getElem?_range h]
    rfl
  · rw [if_neg h, List.getElem?_eq_none (by simp; omega)]
    rfl
theorem boolsB_on {n : Nat} {b : List Nat} {i : Nat} : (boolsB n b).set i (.bool true) = boolsB n (b ++ [i]) := by
  refine List.ext_getElem? fun j => ?_
  rw [List.getElem?_set, boolsB_get, boolsB_get]
  have hl : (boolsB n b).length = n := by simp [boolsB]
  by_cases e : i = j
  · subst e
    rw [if_pos rfl, hl]
    split
    · simp
    · rfl
  · rw [if_neg e]
    have : (j ∈ b ++ [i]) ↔ j ∈ b := by
      rw [List.mem_append, List.mem_singleton]
      exact ⟨fun z => z.elim id (fun z => absurd z.symm e), .inl⟩
    rw [decide_eq_decide.2 this]
theorem boolsB_off {n : Nat} {b : List Nat} {i : Nat} (hi : i ∉ b) : (boolsB n (b ++ [i])).set i (.bool false) = boolsB n b := by
  refine List.ext_getElem? fun j => ?_
  rw [List.getElem?_set, boolsB_get, boolsB_get]
  have hl : (boolsB n (b ++ [i])).length = n := by simp [boolsB]
  by_cases e : i = j
  · subst e
    rw [if_pos rfl, hl]
    split
    · rw [decide_eq_false hi]
    · rfl
  · rw [if_neg e]
    have : (j ∈ b ++ [i]) ↔ j ∈ b := by
      rw [List.mem_append, List.mem_singleton]
      exact ⟨fun z => z.elim id (fun z => absurd z.symm e), .inl⟩
    rw [decide_eq_decide.2 this]
/-- The search on its way. -/
structure SS (w0 wr : World) (sb : Nat) (p0 : Option Addr) (n c0 : Nat) (q : Option Addr) (k kc : Nat) (b : List Nat) (r : Option Addr) (rc : Nat) : Prop where
  kept : Kept (fun _ => False) w0 wr
  ge : w0.heap.size ≤ sb
  blk : wr.heap[sb]? = some (.cells #[.slice p0 n c0, .slice q k kc, .slice r n rc] 62 (0, 0))
  ord : NRow w0.heap.size wr q k kc b
  inn : wr.ownsRow w0.heap.size 4 1 (.slice r n rc) n (boolsB n b)
theorem SS.k0 {w0 wr w' : World} {sb : Nat} {p0 : Option Addr} {n c0 : Nat} {q : Option Addr} {k kc : Nat} {b : List Nat} {r : Option Addr} {rc : Nat} (h : SS w0 wr sb p0 n c0 q k kc b r rc) (K : Kept (fun _ => False) wr w') : SS w0 w' sb p0 n c0 q k kc b r rc :=
  ⟨h.kept.trans K (fun _ _ z => z), h.ge, K.get h.blk (fun z => z), h.ord.k0 K, K.owns h.inn (fun _ _ z => z)⟩
theorem SS.inAt {w0 wr : World} {sb : Nat} {p0 : Option Addr} {n c0 : Nat} {q : Option Addr} {k kc : Nat} {b : List Nat} {r : Option Addr} {rc : Nat} (h : SS w0 wr sb p0 n c0 q k kc b r rc) {i : Nat} (hi : i < n) : ∃ g, r = some ⟨g, 0, none⟩ ∧ wr.cell? ⟨g, i, none⟩ = some (.bool (decide (i ∈ b))) ∧ wr.frozen? ⟨g, i, none⟩ = false ∧ w0.heap.size ≤ g ∧ ∃ cs, wr.heap[g]? = some (.cells cs 4 (0, 0)) := by
  rcases h.inn.2 with ⟨_, e1⟩ | ⟨g, cap, cur, e0, hb, hg, _⟩
  · omega
  · have e0' := e0
    simp at e0'
    obtain ⟨rfl, rfl⟩ := e0'
    have hc := h.inn.cells (g := g) rfl i (.bool (decide (i ∈ b))) (by rw [boolsB_get, if_pos hi])
    rw [Addr.add_none, Nat.zero_add] at hc
    exact ⟨g, rfl, hc, soft_blk hg i, hb, cur, hg⟩
theorem own_cut {w : World} {base : Nat} {p : Option Addr} {k c i : Nat} {R : List Nat} (h : NRow base w p (k + 1) c (R ++ [i])) : NRow base w p k c R := by
  have hl : R.length = k := by have := h.len; rw [List.length_append] at this; simpa using this
  refine ⟨hl, ⟨by simp [intsN, hl], ?_⟩⟩
  rcases h.row.2 with ⟨_, e1⟩ | ⟨g, cap, cur, e0, hb, hg, h1, h2, h3, h4⟩
  · omega
  · simp at e0
    obtain ⟨rfl, rfl⟩ := e0
    refine .inr ⟨g, c, cur, rfl, hb, hg, by omega, h2, h3, ?_⟩
    have : cur.toList.take (k * 1) = (cur.toList.take ((k + 1) * 1)).take k := by rw [List.take_take]; congr 1; omega
    rw [this, h4, intsN_append, List.take_append_of_le_length (by simp [intsN, hl]), List.take_of_length_le (by simp [intsN, hl])]
/-- One call more. -/
theorem SS.push {w0 wr w9 : World} {sb : Nat} {p0 : Option Addr} {n c0 : Nat} {q q9 : Option Addr} {k kc c9 : Nat} {b : List Nat} {g rc i : Nat} {o : Obj} (h : SS w0 wr sb p0 n c0 q k kc b (some ⟨g, 0, none⟩) rc) (ho : w9.ownsRow w0.heap.size 3 1 (.slice q9 (k + 1) c9) (k + 1) (intsN b ++ intsN [i])) (hg : ((wr.setCell ⟨g, i, none⟩ (.bool true)).alloc o).grownBy w9 (Value.slice q k kc).ownBlock) : w9.heap[sb]? = some (.cells #[.slice p0 n c0, .slice q k kc, .slice (some ⟨g, 0, none⟩) n rc] 62 (0, 0)) ∧ SS w0 (w9.setCell ⟨sb, 1, none⟩ (.slice q9 (k + 1) c9)) sb p0 n c0 q9 (k + 1) c9 (b ++ [i]) (some ⟨g, 0, none⟩) rc := by
  obtain ⟨cs4, t4⟩ := own_type h.inn g rfl
  have g0 := (own_lt h.inn g rfl).1
  have nsg : sb ≠ g := fun z => by have := h.blk; rw [z, t4] at this; simp at this
  obtain ⟨A, hA⟩ : ∃ A, A = wr.setCell ⟨g, i, none⟩ (.bool true) := ⟨_, rfl⟩
  have KA : Kept (fun j => j = g) wr A := by rw [hA]; exact (Kept.refl (fun j => j = g) wr).setCell (p := ⟨g, i, none⟩) (fun _ => rfl) _
  rw [← hA] at hg
  have qt : ∀ j, blockOf q = some j → j ≠ g ∧ j ≠ sb := fun j hj => by
    obtain ⟨cs, hc⟩ := own_type h.ord.row j hj
    refine ⟨fun z => ?_, fun z => ?_⟩
    · rw [z, t4] at hc; simp at hc
    · rw [z, h.blk] at hc; simp at hc
  have ordA : NRow w0.heap.size A q k kc b := h.ord.off KA (fun j hj => (qt j hj).1)
  have innA : A.ownsRow w0.heap.size 4 1 (.slice (some ⟨g, 0, none⟩) n rc) n (boolsB n (b ++ [i])) := by
    rw [← boolsB_on, hA]
    exact owns_set h.inn i _
  have KG : Kept (fun j => blockOf q = some j) A w9 := ((Kept.refl (fun j => blockOf q = some j) A).alloc _).grown hg (fun j _ z => by rw [blockOf_own] at z; exact z)
  have b9 := KG.get (KA.get h.blk nsg) (fun z => (qt sb z).2 rfl)
  have inn9 := KG.owns innA (fun j hj z => by
    rw [blockOf_own] at hj
    have hj : g = j := by simpa [blockOf] using hj
    rw [← hj] at z
    exact (qt g z).1 rfl)
  have K9 : Kept (fun _ => False) w0 w9 := Kept.own (Kept.own h.kept KA (fun j z => by rw [z]; exact g0)) KG (fun j z => (own_lt ordA.row j z).1)
  refine ⟨b9, ⟨kept_set K9 h.ge _ _, h.ge, set_heap b9 1 _, ?_, ?_⟩⟩
  · refine NRow.off (S := fun j => j = sb) ⟨by rw [List.length_append, h.ord.len]; rfl, by rw [intsN_append]; exact ho⟩ ((Kept.refl (fun j => j = sb) w9).setCell (p := ⟨sb, 1, none⟩) (fun _ => rfl) _) (fun j hj z => ?_)
    obtain ⟨cs, hc⟩ := own_type ho j hj
    rw [z, b9] at hc
    simp at hc
  · refine ((Kept.refl (fun j => j = sb) w9).setCell (p := ⟨sb, 1, none⟩) (fun _ => rfl) _).owns inn9 (fun j hj z => ?_)
    rw [blockOf_own] at hj
    have hj : g = j := by simpa [blockOf] using hj
    exact nsg (by rw [← z, hj])
/-- One call less. -/
theorem SS.pop {w0 wr : World} {sb : Nat} {p0 : Option Addr} {n c0 : Nat} {q : Option Addr} {k kc : Nat} {b : List Nat} {g rc i : Nat} (h : SS w0 wr sb p0 n c0 q (k + 1) kc (b ++ [i]) (some ⟨g, 0, none⟩) rc) (hi : i ∉ b) : (wr.setCell ⟨g, i, none⟩ (.bool false)).heap[sb]? = some (.cells #[.slice p0 n c0, .slice q (k + 1) kc, .slice (some ⟨g, 0, none⟩) n rc] 62 (0, 0)) ∧ SS w0 ((wr.setCell ⟨g, i, none⟩ (.bool false)).setCell ⟨sb, 1, none⟩ (.slice q k kc)) sb p0 n c0 q k kc b (some ⟨g, 0, none⟩) rc := by
  obtain ⟨cs4, t4⟩ := own_type h.inn g rfl
  have g0 := (own_lt h.inn g rfl).1
  have nsg : sb ≠ g := fun z => by have := h.blk; rw [z, t4] at this; simp at this
  obtain ⟨A, hA⟩ : ∃ A, A = wr.setCell ⟨g, i, none⟩ (.bool false) := ⟨_, rfl⟩
  rw [← hA]
  have KA : Kept (fun j => j = g) wr A := by rw [hA]; exact (Kept.refl (fun j => j = g) wr).setCell (p := ⟨g, i, none⟩) (fun _ => rfl) _
  have qt : ∀ j, blockOf q = some j → j ≠ g ∧ j ≠ sb := fun j hj => by
    obtain ⟨cs, hc⟩ := own_type h.ord.row j hj
    refine ⟨fun z => ?_, fun z => ?_⟩
    · rw [z, t4] at hc; simp at hc
    · rw [z, h.blk] at hc; simp at hc
  have ordA := own_cut (h.ord.off KA (fun j hj => (qt j hj).1))
  have innA : A.ownsRow w0.heap.size 4 1 (.slice (some ⟨g, 0, none⟩) n rc) n (boolsB n b) := by
    rw [← boolsB_off hi, hA]
    exact owns_set h.inn i _
  have bA := KA.get h.blk nsg
  have K9 : Kept (fun _ => False) w0 A := Kept.own h.kept KA (fun j z => by rw [z]; exact g0)
  refine ⟨bA, ⟨kept_set K9 h.ge _ _, h.ge, set_heap bA 1 _, ?_, ?_⟩⟩
  · exact ordA.off ((Kept.refl (fun j => j = sb) A).setCell (p := ⟨sb, 1, none⟩) (fun _ => rfl) _) (fun j hj z => (qt j hj).2 z)
  · refine ((Kept.refl (fun j => j = sb) A).setCell (p := ⟨sb, 1, none⟩) (fun _ => rfl) _).owns innA (fun j hj z => ?_)
    rw [blockOf_own] at hj
    have hj : g = j := by simpa [blockOf] using hj
    exact nsg (by rw [← z, hj])
theorem lastF_put {cs : List Cl} {o : List Nat} {i : Nat} {c : Cl} (hc : cs[i]? = some c) (hp : c.put = true) : lastF cs (o ++ [i]) (-1) = (i : Int) := by
  rw [lastF_add, hc]
  show (if c.put = true then (i : Int) else lastF cs o (-1)) = _
  rw [if_pos hp]
theorem lastF_get {cs : List Cl} {o : List Nat} {i : Nat} {c : Cl} (hc : cs[i]? = some c) (hp : c.put = false) : lastF cs (o ++ [i]) (-1) = lastF cs o (-1) := by
  rw [lastF_add, hc]
  show (if c.put = true then (i : Int) else lastF cs o (-1)) = _
  rw [if_neg (by rw [hp]; simp)]
set_option maxRecDepth 100000 in
set_option maxHeartbeats 4000000 in
theorem rLast {w0 wr : World} {sb : Nat} {p0 : Option Addr} {n c0 : Nat} {q : Option Addr} {k kc : Nat} {b : List Nat} {r : Option Addr} {rc : Nat} {ms : List Cm} (cr : CRd w0 p0 n c0 ms) (h : SS w0 wr sb p0 n c0 q k kc b r rc) (lt : ∀ i ∈ b, i < n) (kb : k ≤ 24) : Calls Try.prog 42 #[.pointer (some ⟨sb, 0, none⟩)] wr fun o w' => o = .returned (.int .i64 (lastF (ms.map Cm.cl) b (-1))) ∧ Kept (fun _ => False) wr w' := by
  obtain ⟨l, hl⟩ : ∃ l, l = lastF (ms.map Cm.cl) b (-1) := ⟨_, rfl⟩
  rw [← hl]
  have H : Hid (CRd w0 p0 n c0 ms ∧ SS w0 wr sb p0 n c0 q k kc b r rc ∧ (∀ i ∈ b, i < n)) := ⟨cr, h, lt⟩
  have L0 : Hid (l = lastF (ms.map Cm.cl) (b.take k) (-1)) := by
    unfold Hid
    rw [List.take_of_length_le (by rw [h.ord.len]; exact Nat.le_refl _)]
    exact hl
  have rk := own_room h.ord.row
  unfold maxLen at rk
  have rn1 := cr.room
  have rn2 := cr.small
  unfold maxLen at rn2
  have s1 := cell_blk h.blk 1 (v := .slice q k kc) rfl
  have wk : wrap64 ((k : Int) - 1) = (k : Int) - 1 := by unfold wrap64; omega
  clear cr h lt hl
  go_enter Try.func42, Try.ntmps42
  go_wp2_with fail
  go_loopw [3] (fun u3 wx => ∃ j : Nat, u3 = .int .i64 ((j : Int) - 1) ∧ j ≤ k ∧ Hid (Kept (fun _ => False) wr wx) ∧ Hid (l = lastF (ms.map Cm.cl) (b.take j) (-1))) (fun u3 _ => (intOf u3 + 1).toNat)
  case atStart => exact ⟨k, rfl, Nat.le_refl _, Kept.refl _ _, L0⟩
  case round =>
    rename_i wx _
    obtain ⟨j, rfl, hj, K, L⟩ := hrel
    clear L0 s1
    cases j with
    | zero =>
      have e0 : ((0 : Nat) : Int) - 1 = -1 := by omega
      rw [e0]
      have hl : l = -1 := L.out
      subst hl
      go_wp2_with fail
      go_ret
      exact ⟨rfl, K.out⟩
    | succ j =>
      have e0 : ((j + 1 : Nat) : Int) - 1 = (j : Int) := by omega
      rw [e0]
      obtain ⟨g, x, rfl, hx, cx⟩ := (H.out.2.1.ord.k0 K.out).at (show j < k by omega)
      have xn : x < n := H.out.2.2 x (List.mem_of_getElem? hx)
      obtain ⟨b9, off9, m, rfl, hm, _, _, y2, _⟩ := (H.out.1.k0 (H.out.2.1.kept.trans K.out (fun _ _ z => z))).at xn
      have t0 := cell_blk ((H.out.2.1.k0 K.out).blk) 0 (v := .slice (some ⟨b9, off9, none⟩) n c0) rfl
      have t1 := cell_blk ((H.out.2.1.k0 K.out).blk) 1 (v := .slice (some ⟨g, 0, none⟩) k kc) rfl
      have j1 : (j : Int) < (k : Int) := by omega
      have x1 : (x : Int) < (n : Int) := by omega
      have wj : wrap64 ((j : Int) - 1) = (j : Int) - 1 := by unfold wrap64; omega
      have et : b.take (j + 1) = b.take j ++ [x] := by rw [List.take_add_one, hx]; rfl
      have hc : (ms.map Cm.cl)[x]? = some m.cl := by rw [List.getElem?_map, hm]; rfl
      obtain ⟨pu, hpu⟩ : ∃ pu, m.put = pu := ⟨_, rfl⟩
      rw [hpu] at y2
      cases pu
      · have LN : Hid (l = lastF (ms.map Cm.cl) (b.take j) (-1)) := by
          have := L.out
          rw [et, lastF_get hc hpu] at this
          exact this
        clear hx hm et hc hpu
        go_upto_region 4 with fail
        go_quiet (fail)
        go_wp2_with fail
        go_roundw
        case rel => exact ⟨j, rfl, by omega, K.out.drewN _, LN⟩
        case measure => simp [intOf] <;> omega
      · have LN : l = (x : Int) := by
          have := L.out
          rw [et, lastF_put hc hpu] at this
          exact this
        subst LN
        clear hx hm et hc hpu
        go_upto_region 4 with fail
        go_quiet (fail)
        go_wp2_with fail
        go_ret
        exact ⟨rfl, K.out.drewN _⟩
set_option maxRecDepth 100000 in
set_option maxHeartbeats 4000000 in
theorem rWhole {w0 wa : World} {sb : Nat} {p0 : Option Addr} {n c0 : Nat} {q : Option Addr} {k kc : Nat} {b : List Nat} {r : Option Addr} {rc : Nat} {ms : List Cm} (cr : CRd w0 p0 n c0 ms) (h : SS w0 wa sb p0 n c0 q k kc b r rc) : Calls Try.prog 35 #[.pointer (some ⟨sb, 0, none⟩)] wa (RetB fun v w' => (v = true ↔ XWhole (ms.map Cm.cl) b) ∧ Kept (fun _ => False) wa w') := by
  have H : Hid (CRd w0 p0 n c0 ms ∧ SS w0 wa sb p0 n c0 q k kc b r rc) := ⟨cr, h⟩
  have rr := own_room h.inn
  unfold maxLen at rr
  have rn1 := cr.room
  have rn2 := cr.small
  unfold maxLen at rn2
  have s0 := cell_blk h.blk 0 (v := .slice p0 n c0) rfl
  have L0 : Hid (∀ i, i < 0 → ∀ c, (ms.map Cm.cl)[i]? = some c → c.must = true → i ∈ b) := fun i hi => absurd hi (Nat.not_lt_zero _)
  clear cr h
  go_enter Try.func35, Try.ntmps35
  go_wp2_with fail
  go_loopw [3, 4, 10] (fun _ _ u10 wy => ∃ i : Nat, u10 = .int .i64 (i : Int) ∧ i ≤ n ∧ Hid (Kept (fun _ => False) wa wy) ∧ Hid (∀ j, j < i → ∀ c, (ms.map Cm.cl)[j]? = some c → c.must = true → j ∈ b)) (fun _ _ u10 _ => n - (intOf u10).toNat)
  case atStart => exact ⟨0, rfl, Nat.zero_le _, Kept.refl _ _, L0⟩
  case round =>
    obtain ⟨i, rfl, hi, K, L⟩ := hrel
    clear L0 s0
    obtain ⟨wo, hwo⟩ : ∃ wo, wo = wr := ⟨_, rfl⟩
    rw [← hwo] at K ⊢
    clear hwo
    by_cases hlt : i < n
    · have i1 : (i : Int) < (n : Int) := by omega
      obtain ⟨b9, off9, m, rfl, hm, y0, y1, y2, y3, y4, y5, y6, y7, y8, y9, y10, rd⟩ := (H.out.1.k0 (H.out.2.kept.trans K.out (fun _ _ z => z))).at hlt
      obtain ⟨mu, hmu⟩ : ∃ mu, m.cl.must = mu := ⟨_, rfl⟩
      have RM : Hid (∀ V, Calls Try.prog 34 #[m.agg] V fun o w' => o = .returned (.bool mu) ∧ Kept (fun _ => False) V w') := fun V => by rw [← hmu]; exact rMust m V
      have HM : Hid ((ms.map Cm.cl)[i]? = some m.cl ∧ m.cl.must = mu) := ⟨by rw [List.getElem?_map, hm]; rfl, hmu⟩
      unfold Cm.agg at RM
      clear hm hmu rd
      go_wp2_with fail
      refine (RM.out _).mono ?_
      rintro o w2 ⟨rfl, K2⟩
      have K3 : Hid (Kept (fun _ => False) wa w2) := (K.out.alloc _).trans K2 (fun _ _ z => z)
      clear K2 RM y0 y1 y2 y3 y4 y5 y6 y7 y8 y9 y10
      cases mu
      · have LN : Hid (∀ j, j < i + 1 → ∀ c, (ms.map Cm.cl)[j]? = some c → c.must = true → j ∈ b) := fun j hj c hc hm => by
          rcases Nat.lt_succ_iff_lt_or_eq.1 hj with z | z
          · exact L.out j z c hc hm
          · subst z
            rw [HM.out.1] at hc
            injection hc with hc
            rw [← hc, HM.out.2] at hm
            cases hm
        go_wp2_with fail
        go_roundw
        case rel => exact ⟨i + 1, by go_num, by omega, K3, LN⟩
        case measure => simp [intOf] <;> omega
      · obtain ⟨g, rfl, gi, _, _⟩ := (H.out.2.k0 K3.out).inAt hlt
        have t2 := cell_blk ((H.out.2.k0 K3.out).blk) 2 (v := .slice (some ⟨g, 0, none⟩) n rc) rfl
        by_cases ib : i ∈ b
        · rw [decide_eq_true ib] at gi
          have LN : Hid (∀ j, j < i + 1 → ∀ c, (ms.map Cm.cl)[j]? = some c → c.must = true → j ∈ b) := fun j hj c hc hm => by
            rcases Nat.lt_succ_iff_lt_or_eq.1 hj with z | z
            · exact L.out j z c hc hm
            · rw [z]; exact ib
          go_wp2_with fail
          go_roundw
          case rel => exact ⟨i + 1, by go_num, by omega, K3, LN⟩
          case measure => simp [intOf] <;> omega
        · rw [decide_eq_false ib] at gi
          go_wp2_with fail
          go_ret
          exact RetB.mk false rfl ⟨⟨fun z => (by cases z), fun z => absurd (z i _ HM.out.1 HM.out.2) ib⟩, K3.out⟩
    · have i1 : ¬ (i : Int) < (n : Int) := by omega
      go_wp2_with fail
      go_ret
      refine RetB.mk true rfl ⟨⟨fun _ j c hc hm => L.out j ?_ c hc hm, fun _ => rfl⟩, K.out⟩
      have := (List.getElem?_eq_some_iff.1 hc).1
      rw [List.length_map, H.out.1.len] at this
      omega
end Go.Proofs.Ytginpoofeliimaa
