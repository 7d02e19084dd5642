import Derived.Test.YtojfnehdanhgiaaRefB
namespace Go.Proofs.Ytojfnehdanhgiaa
open Go.RowKit

/-- Another list, made anew, is laid into the network's block. -/
theorem IsNet.swap {ty base : Nat} {w w2 : World} {C : Nat} {q p : Option Addr} {len cap m c : Nat} {R R' : List Ent} (h : IsNet ty base w C q len cap R) (K : Kept (fun _ => False) w w2) (hbase : base ≤ w.heap.size) (ho : w2.ownsRow w.heap.size 39 6 (.slice p m c) m (rcells R')) (hs : ∀ e ∈ R', e ∈ R) :
    IsNet ty base (w2.setCell ⟨C, 0, none⟩ (.slice p m c)) C p m c R' ∧ Moved w (w2.setCell ⟨C, 0, none⟩ (.slice p m c)) C q p := by
  have h1 := h.kept0 K
  have K3 : Kept (fun k => k = C) w2 (w2.setCell ⟨C, 0, none⟩ (.slice p m c)) := (Kept.refl (fun k => k = C) w2).setCell (p := ⟨C, 0, none⟩) (fun _ => rfl) _
  have pC : ∀ k, blockOf p = some k → k ≠ C := fun k hk e => by have := (own_lt ho k hk).1; have := h.lt; omega
  refine ⟨⟨set_heap h1.blk 0 _, ⟨owns_mono (K3.owns ho (fun k hk => pC k (by rw [← blockOf_own]; exact hk))) hbase, fun e he => (h1.list.good e (hs e he)).kept K3 (fun k _ z => by rw [z]; exact h1.notdata)⟩, h.low, h.t5, h.t39⟩, ⟨?_, fun k hk => .inr (own_lt ho k hk).1⟩⟩
  exact (K.mono (fun _ _ q => q.elim)).setCell (p := ⟨C, 0, none⟩) (fun _ => .inl rfl) _
set_option maxRecDepth 100000 in
set_option maxHeartbeats 1000000 in
theorem rtake_ok (base C : Nat) (q : Option Addr) (len cap : Nat) (R : List Ent) (i : Nat) (hi : i < len) (w : World) (h : IsNet 71 base w C q len cap R) (hbase : base ≤ w.heap.size) (hb : len ≤ Big) (e : Ent) (he : R[i]? = some e) :
    Calls Try.prog 34 #[.pointer (some ⟨C, 0, none⟩), .int .i64 (i : Int)] w fun x w' => ∃ p c a2 c2, x = .returned (.tuple #[.agg #[.int .i64 e.p.fk, .int .i64 e.p.fi, .int .i64 e.p.tk, .int .i64 e.p.ti, .slice a2 e.len c2, .bool e.p.lost], .int .i64 0]) ∧ Good base w' ⟨e.p, a2, e.len, c2⟩ ∧ IsNet 71 base w' C p (len - 1) c (R.take i ++ R.drop (i + 1)) ∧ Moved w w' C q p := by
  obtain ⟨hr1, hr2⟩ := own_room h.list.own
  obtain ⟨W1, hW1⟩ : ∃ W1, W1 = w.alloc (.cells #[.int .i64 0, .int .i64 0, .int .i64 0, .int .i64 0, .slice none 0 0, .bool false] 39) := ⟨_, rfl⟩
  obtain ⟨W, hW⟩ : ∃ W, W = W1.alloc (.cells #[.int .i64 e.p.fk, .int .i64 e.p.fi, .int .i64 e.p.tk, .int .i64 e.p.ti, .slice e.a e.len e.cap, .bool e.p.lost] 39) := ⟨_, rfl⟩
  have z1 : W1.heap.size = w.heap.size + 1 := by rw [hW1]; exact alloc_size _ _
  have z2 : W.heap.size = w.heap.size + 2 := by rw [hW, alloc_size, z1]
  have K1 : Kept (fun _ => False) w W1 := by rw [hW1]; exact alloc_kept0 _ _
  have KW : Kept (fun _ => False) w W := by rw [hW]; exact K1.alloc _
  have b1 : Box W w.heap.size (.int .i64 0) (.int .i64 0) (.int .i64 0) (.int .i64 0) (.slice none 0 0) (.bool false) := by unfold Box; rw [hW]; exact alloc_old _ (by rw [hW1]; exact alloc_new _ _)
  have b2 : Box W (w.heap.size + 1) (.int .i64 e.p.fk) (.int .i64 e.p.fi) (.int .i64 e.p.tk) (.int .i64 e.p.ti) (.slice e.a e.len e.cap) (.bool e.p.lost) := by unfold Box; rw [hW, ← z1]; exact alloc_new _ _
  have H1 := h.kept0 K1
  have H2 := h.kept0 KW
  have cC := H1.cell
  obtain ⟨g, rfl, hlR, d0, d1, d2, d3, d4, d5⟩ := H1.list.cells i hi
  have he' : R[i] = e := by rw [List.getElem?_eq_getElem hlR] at he; simpa using he
  rw [he'] at d0 d1 d2 d3 d4 d5
  have E1 : Hid (W1 = w.alloc (.cells #[.int .i64 0, .int .i64 0, .int .i64 0, .int .i64 0, .slice none 0 0, .bool false] 39)) := hW1
  have EW : Hid (W = W1.alloc (.cells #[.int .i64 e.p.fk, .int .i64 e.p.fi, .int .i64 e.p.tk, .int .i64 e.p.ti, .slice e.a e.len e.cap, .bool e.p.lost] 39)) := hW
  have HH : Hid (IsNet 71 base w C (some ⟨g, 0, none⟩) len cap R ∧ base ≤ w.heap.size ∧ len ≤ Big ∧ Kept (fun _ => False) w W ∧ IsNet 71 base W C (some ⟨g, 0, none⟩) len cap R ∧ W.heap.size = w.heap.size + 2) := ⟨h, hbase, hb, KW, H2, z2⟩
  have HB : Hid (Box W w.heap.size (.int .i64 0) (.int .i64 0) (.int .i64 0) (.int .i64 0) (.slice none 0 0) (.bool false) ∧ Box W (w.heap.size + 1) (.int .i64 e.p.fk) (.int .i64 e.p.fi) (.int .i64 e.p.tk) (.int .i64 e.p.ti) (.slice e.a e.len e.cap) (.bool e.p.lost)) := ⟨b1, b2⟩
  have GE : Hid (Good base W e) := by show Good base W e; rw [← he']; exact H2.list.good _ (List.getElem_mem _)
  have i1 : (i : Int) < (len : Int) := by omega
  have lC := h.lt
  have lg : g < w.heap.size := (own_lt h.list.own g rfl).2
  have HI : Hid (hasI (i : Int) len = true) := hasI_of hi
  have ZH : Hid (W1.heap.size = w.heap.size + 1) := z1
  unfold maxLen at hr2
  clear h H1 H2 hW hW1 z2 he he' b1 b2 KW K1 hb hbase
  go_enter Try.func34, Try.ntmps34
  go_wp2_with fail
  rw [← E1.out]
  refine (there C (some ⟨g, 0, none⟩) len cap i W1 cC).mono ?_
  rw [HI.out]
  rintro x w1 ⟨rfl, rfl⟩
  go_wp2_with fail
  rw [← EW.out]
  refine (without base C (some ⟨g, 0, none⟩) len cap R W HH.out.2.2.2.2.1 HH.out.2.2.1 i hi).mono ?_
  rintro x w2 ⟨p2, c2, rfl, ho2, K2⟩
  have hsw := HH.out.2.2.2.2.1.swap K2 (Nat.le_trans HH.out.2.1 HH.out.2.2.2.1.size) ho2 (fun f hf => by
    rcases List.mem_append.1 hf with z | z
    · exact List.mem_of_mem_take z
    · exact List.mem_of_mem_drop z)
  have N2 := HH.out.2.2.2.2.1.kept0 K2
  have FR : Hid (∀ k, blockOf p2 = some k → W.heap.size ≤ k) := fun k hk => (own_lt ho2 k hk).1
  have k2 := N2.cell
  have f2 := N2.soft
  have F3 : Hid (IsNet 71 base (w2.setCell ⟨C, 0, none⟩ (.slice p2 (len - 1) c2)) C p2 (len - 1) c2 (R.take i ++ R.drop (i + 1)) ∧ Moved W (w2.setCell ⟨C, 0, none⟩ (.slice p2 (len - 1) c2)) C (some ⟨g, 0, none⟩) p2) := hsw
  have B3 : Hid (Box (w2.setCell ⟨C, 0, none⟩ (.slice p2 (len - 1) c2)) w.heap.size (.int .i64 0) (.int .i64 0) (.int .i64 0) (.int .i64 0) (.slice none 0 0) (.bool false) ∧ Box (w2.setCell ⟨C, 0, none⟩ (.slice p2 (len - 1) c2)) (w.heap.size + 1) (.int .i64 e.p.fk) (.int .i64 e.p.fi) (.int .i64 e.p.tk) (.int .i64 e.p.ti) (.slice e.a e.len e.cap) (.bool e.p.lost)) := ⟨(HB.out.1.kept K2 (fun q => q)).setAt _ _ (by omega), (HB.out.2.kept K2 (fun q => q)).setAt _ _ (by omega)⟩
  have G3 : Hid (Good base (w2.setCell ⟨C, 0, none⟩ (.slice p2 (len - 1) c2)) e) := F3.out.2.good HH.out.2.2.2.2.1 GE.out
  obtain ⟨s1, s2, s3, s4, s5, s6, _⟩ := cell6 _ _ _ _ _ _ _ _ (HB.out.2.kept K2 (fun q => q))
  have lC2 : ¬ (w.heap.size + 1 = C) := by omega
  obtain ⟨W3, hW3⟩ : ∃ W3, W3 = w2.setCell ⟨C, 0, none⟩ (.slice p2 (len - 1) c2) := ⟨_, rfl⟩
  rw [← hW3] at F3 B3 G3
  have EW3 : Hid (W3 = w2.setCell ⟨C, 0, none⟩ (.slice p2 (len - 1) c2)) := hW3
  clear hsw N2 ho2 K2 hW3
  go_wp2_with fail
  rw [← EW3.out]
  refine (copied _ _ _ _ _ _ _ _ e.p.data W3 G3.out.reads (Nat.le_trans G3.out.short (by omega))).mono ?_
  rintro x w4 ⟨p4, c4, rfl, ho4, K4⟩
  have B4 : Hid (Box w4 w.heap.size (.int .i64 0) (.int .i64 0) (.int .i64 0) (.int .i64 0) (.slice none 0 0) (.bool false)) := B3.out.1.kept K4 (fun q => q)
  obtain ⟨t1, t2, t3, t4, t5, t6, tf⟩ := cell6 _ _ _ _ _ _ _ _ B4.out
  have N4 : Hid (IsNet 71 base w4 C p2 (len - 1) c2 (R.take i ++ R.drop (i + 1)) ∧ Moved W w4 C (some ⟨g, 0, none⟩) p2 ∧ Good base w4 ⟨e.p, p4, e.len, c4⟩ ∧ (∀ k, blockOf p2 = some k → W.heap.size ≤ k)) := by
    refine ⟨F3.out.1.kept0 K4, F3.out.2.trans (Moved.of_below (below_kept K4) C p2), ⟨owns_mono ho4 (Nat.le_trans HH.out.2.1 (Nat.le_trans HH.out.2.2.2.1.size F3.out.2.kept.size)), G3.out.bytes, G3.out.short⟩, fun k hk => ?_⟩
    exact Nat.le_of_not_lt (fun hlt => by
      have := FR.out k hk
      omega)
  clear ho4 K4
  go_wp2_with fail
  (try simp only [Exit.inBlock, Exit.then])
  refine bodyPost_ret (results_pk_tmp rfl _ _ w.heap.size _ _ _ _ _ _ rfl (B4.out.set _ _ _ _ _ _)) rfl ?_
  have K5 : Kept (fun k => k = w.heap.size) w4 ((((((w4.setCell ⟨w.heap.size, 0, none⟩ (.int .i64 e.p.fk)).setCell ⟨w.heap.size, 1, none⟩ (.int .i64 e.p.fi)).setCell ⟨w.heap.size, 2, none⟩ (.int .i64 e.p.tk)).setCell ⟨w.heap.size, 3, none⟩ (.int .i64 e.p.ti)).setCell ⟨w.heap.size, 4, none⟩ (.slice p4 e.len c4)).setCell ⟨w.heap.size, 5, none⟩ (.bool e.p.lost)) := (Kept.refl (fun k => k = w.heap.size) w4).set6 (fun _ => rfl) _ _ _ _ _ _
  have nd : ∀ k, k < w4.heap.size → k = w.heap.size → NotData w4 k := fun k _ z => by
    subst z
    intro cs f y
    rw [show w4.heap[w.heap.size]? = _ from B4.out] at y
    simp at y
  refine ⟨p2, c2, p4, c4, rfl, N4.out.2.2.1.kept K5 nd, N4.out.1.kept K5 (fun z => by have z : C = w.heap.size := z; omega) (fun k hk z => ?_) nd, ?_, fun k hk => ?_⟩
  · have a1 := N4.out.2.2.2 k hk
    have a2 := HH.out.2.2.2.2.2
    have z : k = w.heap.size := z
    omega
  · exact ((HH.out.2.2.2.1.mono (fun _ _ q => q.elim)).trans N4.out.2.1.kept (fun _ _ q => q)).set6 (fun q => absurd q (by omega)) _ _ _ _ _ _
  · have a1 := N4.out.2.2.2 k hk
    have a2 := HH.out.2.2.2.2.2
    exact .inr (by omega)
set_option maxRecDepth 100000 in
theorem rtake_none (C : Nat) (q : Option Addr) (len cap : Nat) (i : Int) (w : World) (c0 : w.cell? ⟨C, 0, none⟩ = some (.slice q len cap)) (hi : hasI i len = false) :
    Calls Try.prog 34 #[.pointer (some ⟨C, 0, none⟩), .int .i64 i] w fun x w' => x = .returned (.tuple #[.agg #[.int .i64 0, .int .i64 0, .int .i64 0, .int .i64 0, .slice none 0 0, .bool false], .int .i64 50]) ∧ Kept (fun _ => False) w w' := by
  have cC := (alloc_kept0 w (.cells #[.int .i64 0, .int .i64 0, .int .i64 0, .int .i64 0, .slice none 0 0, .bool false] 39)).cell c0 (fun q => q)
  go_enter Try.func34, Try.ntmps34
  go_wp2_with fail
  refine (there C q len cap i _ cC).mono ?_
  rw [hi]
  rintro x w1 ⟨rfl, rfl⟩
  go_wp2_with fail
  (try simp only [Exit.inBlock, Exit.then])
  exact bodyPost_ret (results_pk_tmp rfl _ _ w.heap.size _ _ _ _ _ _ rfl (alloc_new _ _)) rfl ⟨rfl, alloc_kept0 _ _⟩
set_option maxRecDepth 100000 in
theorem rtake_nil (i : Int) (w : World) :
    Calls Try.prog 34 #[.pointer none, .int .i64 i] w fun x w' => x = .returned (.tuple #[.agg #[.int .i64 0, .int .i64 0, .int .i64 0, .int .i64 0, .slice none 0 0, .bool false], .int .i64 0]) ∧ Kept (fun _ => False) w w' := by
  go_enter Try.func34, Try.ntmps34
  go_wp2_with fail
  (try simp only [Exit.inBlock, Exit.then])
  exact bodyPost_ret (results_pk_tmp rfl _ _ w.heap.size _ _ _ _ _ _ rfl (alloc_new _ _)) rfl ⟨rfl, alloc_kept0 _ _⟩
theorem rtake_of (base C : Nat) (g : Option Nat) (ps : List Pk) (k : Nat) (hk : k < ps.length) (w : World) (h : NetOf 71 base w C g ps) (hbase : base ≤ w.heap.size) (hb : ps.length ≤ Big) :
    Calls Try.prog 34 #[.pointer (some ⟨C, 0, none⟩), .int .i64 (k : Int)] w fun x w' => ∃ (e : Ent) (g' : Option Nat), x = .returned (.tuple #[.agg #[.int .i64 e.p.fk, .int .i64 e.p.fi, .int .i64 e.p.tk, .int .i64 e.p.ti, .slice e.a e.len e.cap, .bool e.p.lost], .int .i64 0]) ∧ ps[k]? = some e.p ∧ Good base w' e ∧ NetOf 71 base w' C g' (ps.take k ++ ps.drop (k + 1)) ∧ Mv w w' C g g' := by
  obtain ⟨q, len, cap, R, n, rfl, e⟩ := h
  have hl := len_eq n.list.length e
  have hkR : k < R.length := by rw [n.list.length, ← hl]; exact hk
  refine (rtake_ok base C q len cap R k (by omega) w n hbase (by omega) R[k] (List.getElem?_eq_getElem hkR)).mono ?_
  rintro x w' ⟨p, c, a2, c2, rfl, ge, n', m⟩
  refine ⟨⟨R[k].p, a2, R[k].len, c2⟩, blockOf p, rfl, ?_, ge, ⟨p, len - 1, c, _, n', rfl, ?_⟩, m.mv⟩
  · rw [← e, List.getElem?_map, List.getElem?_eq_getElem hkR]; rfl
  · rw [← e, List.map_append, List.map_take, List.map_drop]
set_option maxRecDepth 100000 in
theorem rDrop (base C : Nat) (g : Option Nat) (ps : List Pk) (i : Int) (w : World) (h : NetOf 71 base w C g ps) (hbase : base ≤ w.heap.size) (hb : ps.length ≤ Big) :
    Calls Try.prog 35 #[.pointer (some ⟨C, 0, none⟩), .int .i64 i] w fun x w' => ∃ v, x = .returned v ∧ Did 71 base w C g (aDrop ps i) v w' := by
  have HH : Hid (NetOf 71 base w C g ps ∧ base ≤ w.heap.size ∧ ps.length ≤ Big) := ⟨h, hbase, hb⟩
  cases hh : hasI i ps.length with
  | false =>
    rw [aDrop, if_neg (by simp [hh])]
    obtain ⟨q, cap, c0⟩ := h.cell
    clear h hbase hb
    go_enter Try.func35, Try.ntmps35
    go_wp2_with fail
    refine (rtake_none C q ps.length cap i w c0 hh).mono ?_
    rintro x w' ⟨rfl, K⟩
    have FH : Hid (Did 71 base w C g (ps, 50) (.int .i64 50) (w'.alloc (.cells #[.int .i64 0, .int .i64 0, .int .i64 0, .int .i64 0, .slice none 0 0, .bool false] 39))) := Did.same HH.out.1 (K.alloc _) 50
    clear K
    go_wp2_with fail
    go_ret
    exact ⟨_, rfl, FH.out⟩
  | true =>
    rw [aDrop, if_pos hh]
    obtain ⟨k, rfl, hk⟩ := hasI_nat hh
    rw [Int.toNat_natCast]
    clear h hbase hb hh
    go_enter Try.func35, Try.ntmps35
    go_wp2_with fail
    refine (rtake_of base C g ps k hk w HH.out.1 HH.out.2.1 HH.out.2.2).mono ?_
    rintro x w' ⟨e, g', rfl, _, _, n, m⟩
    have FH : Hid (Did 71 base w C g (ps.take k ++ ps.drop (k + 1), 0) (.int .i64 0) (w'.alloc (.cells #[.int .i64 e.p.fk, .int .i64 e.p.fi, .int .i64 e.p.tk, .int .i64 e.p.ti, .slice e.a e.len e.cap, .bool e.p.lost] 39))) := ⟨rfl, g', n.kept0 (alloc_kept0 _ _), m.trans (Mv.of_kept (alloc_kept0 _ _) C g')⟩
    clear n m
    go_wp2_with fail
    go_ret
    exact ⟨_, rfl, FH.out⟩
theorem bit_mod (pat i : Nat) : ((pat : Int) / 2 ^ i) % 2 = ((pat / 2 ^ i % 2 : Nat) : Int) := by simp
theorem bit_mod_on (pat i : Nat) (h : pat.testBit i = true) : ((pat : Int) / 2 ^ i) % 2 = 1 := by
  rw [bit_mod]
  rw [Nat.testBit_eq_decide_div_mod_eq] at h
  have := of_decide_eq_true h
  omega
theorem bit_mod_off (pat i : Nat) (h : ¬ pat.testBit i = true) : ((pat : Int) / 2 ^ i) % 2 = 0 := by
  rw [bit_mod]
  rw [Nat.testBit_eq_decide_div_mod_eq] at h
  have : ¬ pat / 2 ^ i % 2 = 1 := fun q => h (decide_eq_true q)
  omega
set_option maxRecDepth 100000 in
set_option maxHeartbeats 1000000 in
theorem turnedR (a : Option Addr) (len cap : Nat) (l : List Nat) (bit pat : Nat) (w : World) (r : Reads w a len cap l) (hs : len ≤ 140737488355328) (hb : bit < 9223372036854775808) :
    Calls Try.prog 48 #[.slice a len cap, .int .i64 (bit : Int), .int .u32 (pat : Int)] w fun x w' => ∃ p c, x = .returned (.slice p len c) ∧ w'.ownsRow w.heap.size 5 1 (.slice p len c) len (cellsOf (turned bit pat l)) ∧ Kept (fun _ => False) w w' := by
  have R : Hid (Reads w a len cap l ∧ len ≤ 140737488355328) := ⟨r, hs⟩
  have hl := r.length
  have SR : Hid (Src Try.prog 1 30 (.slice a len cap) len (cellsOf l) w) := r.src
  clear r hs
  go_enter Try.func48, Try.ntmps48
  go_wp2_with (first | (at_builtin; refine wpList_append_bytes _ rfl (.tmp 10) (.tmp 11) rfl w.heap.size (.slice none 0 0) 0 [] rfl (World.ownsRow_nil _ _ _ _) (.slice a len cap) len l rfl SR.out (by have := R.out.2; omega) (Nat.le_refl _) ?_; intro p c w1 ho hg nr; rw [Nat.zero_add] at ho ⊢; rw [List.nil_append] at ho; have K : Kept (fun _ => False) w w1 := (Kept.refl (fun _ => False) w).grown hg.out (fun k hk q => by simp [Value.ownBlock] at q); have HO : Hid (w1.ownsRow w.heap.size 5 1 (.slice p len c) len (cellsOf l) ∧ Kept (fun _ => False) w w1) := ⟨ho.out, K⟩; obtain ⟨hrm, hcm⟩ := own_room ho.out; unfold maxLen at hcm; clear ho hg nr K) | fail)
  go_loopw [8, 9] (fun x _ wr => ∃ (i : Nat), x = .int .i64 (i : Int) ∧ i ≤ 32 ∧ Hid (wr.ownsRow w.heap.size 5 1 (.slice p len c) len (cellsOf (turnN bit pat l i)) ∧ Kept (fun _ => False) w wr)) (fun x _ _ => 32 - (intOf x).toNat)
  case atStart => exact ⟨0, rfl, Nat.zero_le _, HO.out⟩
  case round =>
    obtain ⟨i, rfl, hi, S⟩ := hrel
    by_cases hlt : i < 32
    · have i1 : (i : Int) < 32 := by omega
      obtain ⟨t, ht⟩ : ∃ t, t = (bit + i) / 8 := ⟨_, rfl⟩
      obtain ⟨s, hsr⟩ : ∃ s, s = (bit + i) % 8 := ⟨_, rfl⟩
      have ht' : (bit : Int) / 8 + ((bit : Int) % 8 + (i : Int)) / 8 = (t : Int) := by omega
      have hs' : ((bit : Int) % 8 + (i : Int)) % 8 = (s : Int) := by omega
      have hs'' : ((bit : Int) + (i : Int)) % 8 = (s : Int) := by omega
      have hs8 : s < 8 := by omega
      have LN : Hid ((turnN bit pat l i).length = len) := (turnN_length bit pat l i).trans hl
      by_cases hbit : pat.testBit i = true
      · have e1 := bit_mod_on pat i hbit
        by_cases hin : t < len
        · obtain ⟨g, rfl, cur⟩ : ∃ g, p = some ⟨g, 0, none⟩ ∧ ∀ j, j < len → wr.cell? ⟨g, j, none⟩ = some (.int .u8 (((turnN bit pat l i).getD j 0 : Nat) : Int)) ∧ wr.frozen? ⟨g, j, none⟩ = false := by
            exact own_byte S.out.1 (turnN_bytes bit pat l R.out.1.bytes i) (by omega)
          obtain ⟨f1, f2⟩ := cur t hin
          obtain ⟨v, hv⟩ : ∃ v, v = (turnN bit pat l i).getD t 0 := ⟨_, rfl⟩
          rw [← hv] at f1
          have HV : Hid (v = (turnN bit pat l i).getD t 0 ∧ t = (bit + i) / 8 ∧ s = (bit + i) % 8) := ⟨hv, ht, hsr⟩
          have in1 : (t : Int) < (len : Int) := by omega
          clear hv ht hsr cur
          have FIN : Hid ((wr.drew.setCell ⟨g, t, none⟩ (.int .u8 (bits .xor .u8 (v : Int) (2 ^ s % 256)))).ownsRow w.heap.size 5 1 (.slice (some ⟨g, 0, none⟩) len c) len (cellsOf (turnN bit pat l (i + 1))) ∧ Kept (fun _ => False) w (wr.drew.setCell ⟨g, t, none⟩ (.int .u8 (bits .xor .u8 (v : Int) (2 ^ s % 256))))) := by
            refine ⟨?_, S.out.2.drew.setCell (p := ⟨g, t, none⟩) (fun q => ?_) _⟩
            · have e : turnN bit pat l (i + 1) = (turnN bit pat l i).set t (v ^^^ 2 ^ s) := by
                show (if pat.testBit i = true then flip (turnN bit pat l i) (bit + i) else turnN bit pat l i) = _
                rw [if_pos hbit, flip, if_pos (by rw [LN.out, ← HV.out.2.1]; exact hin), HV.out.1, ← HV.out.2.1, ← HV.out.2.2]
              have vl : v < 256 := by rw [HV.out.1]; exact getD_lt _ (turnN_bytes bit pat l R.out.1.bytes i) _
              rw [e, byte_xor v s vl hs8, cellsOf_set]
              have S1 : wr.drew.ownsRow w.heap.size 5 1 (.slice (some ⟨g, 0, none⟩) len c) len (cellsOf (turnN bit pat l i)) := S.out.1
              exact owns_set S1 t _
            · have := (own_lt S.out.1 g rfl).1
              have q : g < w.heap.size := q
              omega
          obtain ⟨r8, hr8⟩ : ∃ r8 : Nat, r8 = bit % 8 := ⟨_, rfl⟩
          have y1 : (bit : Int).tmod 8 = (r8 : Int) := by rw [Int.tmod_eq_emod_of_nonneg (by omega)]; omega
          have y2 : IntKind.i64.wrap ((r8 : Int) + (i : Int)) = ((r8 + i : Nat) : Int) := by rw [IntKind.wrap_i64]; omega
          have y3 : ((r8 + i : Nat) : Int).tmod 8 = (s : Int) := by rw [Int.tmod_eq_emod_of_nonneg (by omega)]; omega
          obtain ⟨u, hu⟩ : ∃ u : Nat, r8 + i = u := ⟨_, rfl⟩
          rw [hu] at y2 y3
          go_upto_region 8 with fail
          clear hu hr8 ht' hs' hs'' e1
          go_region_law (fail)
          all_goals (try simp only [])
          all_goals go_wp2_with fail
          all_goals go_roundw
          case rel => exact ⟨i + 1, by go_num, by omega, FIN.out⟩
          case measure => simp [intOf]; omega
        · have in1 : ¬ (t : Int) < (len : Int) := by omega
          have FIN : Hid (turnN bit pat l (i + 1) = turnN bit pat l i) := by
            show (if pat.testBit i = true then flip (turnN bit pat l i) (bit + i) else turnN bit pat l i) = _
            rw [if_pos hbit, flip, if_neg (by rw [LN.out, ← ht]; exact hin)]
          clear ht hsr
          go_wp2_with fail
          go_roundw
          case rel => exact ⟨i + 1, by go_num, by omega, by rw [FIN.out]; exact S.out⟩
          case measure => simp [intOf]; omega
      · have zb : (((pat : Int) / 2 ^ i) % 2 == 1) = false := by rw [bit_mod_off pat i hbit]; rfl
        have z2 : ¬ (((pat : Int) / 2 ^ i) % 2 = 1) := by rw [bit_mod_off pat i hbit]; omega
        have FIN : Hid (turnN bit pat l (i + 1) = turnN bit pat l i) := by
          show (if pat.testBit i = true then flip (turnN bit pat l i) (bit + i) else turnN bit pat l i) = _
          rw [if_neg hbit]
        clear ht hsr
        go_wp2_with fail
        go_roundw
        case rel => exact ⟨i + 1, by go_num, by omega, by rw [FIN.out]; exact S.out⟩
        case measure => simp [intOf]; omega
    · have he : i = 32 := by omega
      subst he
      go_wp2_with fail
      go_ret
      exact ⟨p, c, rfl, S.out⟩
end Go.Proofs.Ytojfnehdanhgiaa
