import Derived.Test.YtojfnehdanhgiaaPlayD
namespace Go.Proofs.Ytojfnehdanhgiaa
open Go.RowKit

set_option maxRecDepth 100000 in
set_option maxHeartbeats 1000000 in
/-- Send of one that may be sent. -/
theorem send_far (base C : Nat) (q : Option Addr) (len cap : Nat) (R : List Ent) (w : World) (h : IsNet 67 base w C q len cap R) (hbase : base ≤ w.heap.size) (hb : len + 1 ≤ Big)
    (fk fi tk ti : Int) (a : Option Addr) (dl dc : Nat) (lost : Bool) (l : List Nat) (r : Reads w a dl dc l) (h1 : isN fk fi = true) (h2 : isN tk ti = true) (h3 : dl ≤ 66000) :
    Calls Try.prog 27 #[.pointer (some ⟨C, 0, none⟩), .agg #[.int .i64 fk, .int .i64 fi, .int .i64 tk, .int .i64 ti, .slice a dl dc, .bool lost]] w fun x w' => ∃ p c e, x = .returned (.int .i64 0) ∧ e.p = ⟨fk, fi, tk, ti, l, lost⟩ ∧ IsNet 67 base w' C p (len + 1) c (R ++ [e]) ∧ Moved w w' C q p ∧ (∀ k, blockOf e.a = some k → w.heap.size ≤ k) := by
  have H : Hid (IsNet 67 base w C q len cap R ∧ base ≤ w.heap.size ∧ len + 1 ≤ Big ∧ Reads w a dl dc l) := ⟨h, hbase, hb, r⟩
  have hm := big_max hb
  obtain ⟨hr1, hr2⟩ := own_room h.list.own
  unfold maxLen at hm hr2
  have g3 : ¬ (66000 : Int) < (dl : Int) := by omega
  have lC := h.lt
  clear h hb hbase r
  go_enter Try.func27, Try.ntmps27
  go_wp2_with fail
  have B0 : Hid (Kept (fun _ => False) w (w.alloc (.cells #[.int .i64 fk, .int .i64 fi, .int .i64 tk, .int .i64 ti, .slice a dl dc, .bool lost] 39)) ∧ Box (w.alloc (.cells #[.int .i64 fk, .int .i64 fi, .int .i64 tk, .int .i64 ti, .slice a dl dc, .bool lost] 39)) w.heap.size (.int .i64 fk) (.int .i64 fi) (.int .i64 tk) (.int .i64 ti) (.slice a dl dc) (.bool lost)) := ⟨alloc_kept0 _ _, alloc_new _ _⟩
  refine (isNode fk fi _).mono ?_
  rintro x w1 ⟨rfl, K1⟩
  have B1 : Hid (Kept (fun _ => False) w w1 ∧ Box w1 w.heap.size (.int .i64 fk) (.int .i64 fi) (.int .i64 tk) (.int .i64 ti) (.slice a dl dc) (.bool lost)) := ⟨B0.out.1.trans K1 (fun _ _ q => q), B0.out.2.kept K1 (fun q => q)⟩
  obtain ⟨e1, e2, e3, e4, e5, e6, _⟩ := cell6 _ _ _ _ _ _ _ _ B1.out.2
  clear K1 B0
  go_wp2_with fail
  refine (isNode tk ti _).mono ?_
  rintro x w2 ⟨rfl, K2⟩
  have B2 : Hid (Kept (fun _ => False) w w2 ∧ Box w2 w.heap.size (.int .i64 fk) (.int .i64 fi) (.int .i64 tk) (.int .i64 ti) (.slice a dl dc) (.bool lost)) := ⟨B1.out.1.trans K2 (fun _ _ q => q), B1.out.2.kept K2 (fun q => q)⟩
  clear e1 e2 e3 e4 e5 e6 K2 B1
  obtain ⟨e1, e2, e3, e4, e5, e6, _⟩ := cell6 _ _ _ _ _ _ _ _ B2.out.2
  have cC := (H.out.1.kept0 B2.out.1).cell
  have D2 : Hid (Kept (fun _ => False) w w2.drew) := B2.out.1.drew
  go_upto_region 7 with fail
  go_region_law
    (first
      | (refine step_call _ (by rfl) 29 [.tmp 26] _ (by rfl) [.agg #[.int .i64 fk, .int .i64 fi, .int .i64 tk, .int .i64 ti, .slice a dl dc, .bool lost]] (by rfl) (enter29 _ _) ((second fk fi tk ti a dl dc lost l w2.drew (H.out.2.2.2.kept' D2.out (fun _ _ q => q)) (by omega)).mono ?_); rintro x w3 ⟨p3, c3, rfl, o3, K3⟩; refine ⟨_, rfl, ?_⟩; have k3 := K3.cell cC (fun q => q); have lt3 : C < w3.heap.size := World.block_lt_of_cell? w3 _ k3
         have Z3 : Hid (Kept (fun _ => False) w (w3.alloc (.cells #[.int .i64 fk, .int .i64 fi, .int .i64 tk, .int .i64 ti, .slice p3 dl c3, .bool lost] 39)) ∧ (w3.alloc (.cells #[.int .i64 fk, .int .i64 fi, .int .i64 tk, .int .i64 ti, .slice p3 dl c3, .bool lost] 39)).heap[w3.heap.size]? = some (.cells #[.int .i64 fk, .int .i64 fi, .int .i64 tk, .int .i64 ti, .slice p3 dl c3, .bool lost] 39 (0, 0)) ∧ Good w.heap.size (w3.alloc (.cells #[.int .i64 fk, .int .i64 fi, .int .i64 tk, .int .i64 ti, .slice p3 dl c3, .bool lost] 39)) ⟨⟨fk, fi, tk, ti, l, lost⟩, p3, dl, c3⟩) := ⟨(D2.out.trans K3 (fun _ _ q => q)).alloc _, alloc_new _ _, Good.kept0 ⟨owns_mono o3 D2.out.size, H.out.2.2.2.bytes, h3⟩ (alloc_kept0 _ _)⟩
         clear o3 K3)
      | (refine step_append_all _ (by rfl) (.tmp 25) (.tmp 28) 27 39 27 _ 6 64 (by rfl) Try.underlying27 Try.info39 rfl base (.slice q len cap) len (rcells R) (by rfl) (H.out.1.kept0 Z3.out.1).list.own _ 1 (Ent.cells ⟨⟨fk, fi, tk, ti, l, lost⟩, p3, dl, c3⟩) (by rfl) (src_one Z3.out.2.1) (big_max H.out.2.2.1) (big_wide H.out.2.2.1) (Nat.le_trans H.out.2.1 Z3.out.1.size) ?_; intro p4 c4 w4 ho hg hn
         obtain ⟨b4, n4, m4⟩ := H.out.1.more Z3.out.1 Z3.out.2.2 H.out.2.1 ho.out hg.out hn.out
         have F4 : Hid (IsNet 67 base (w4.setCell ⟨C, 0, none⟩ (.slice p4 (len + 1) c4)) C p4 (len + 1) c4 (R ++ [⟨⟨fk, fi, tk, ti, l, lost⟩, p3, dl, c3⟩]) ∧ Moved w (w4.setCell ⟨C, 0, none⟩ (.slice p4 (len + 1) c4)) C q p4 ∧ (∀ k, blockOf p3 = some k → w.heap.size ≤ k)) := ⟨n4, m4, fun k hk => (Z3.out.2.2.lt k hk).1⟩
         have k4 := cell_blk b4 0 (v := .slice q len cap) rfl
         have k5 := soft_blk b4 0
         clear b4 n4 m4 ho hg hn)
      | fail)
  all_goals (go_wp2_with fail; go_ret)
  all_goals exact ⟨p4, c4, _, rfl, rfl, F4.out⟩
/-- What Send makes of what is in flight, and what it answers. -/
def aSend (ps : List Pk) (o : Opv) : List Pk × Int := if isN o.fk o.fi = true ∧ isN o.tk o.ti = true ∧ o.dl ≤ 66000 then (ps ++ [⟨o.fk, o.fi, o.tk, o.ti, o.l, o.lost⟩], 0) else (ps, sendE o.fk o.fi o.tk o.ti o.dl)
theorem aSend_len (ps : List Pk) (o : Opv) : (aSend ps o).1.length ≤ ps.length + 1 := by
  unfold aSend
  split
  · simp
  · exact Nat.le_succ _
theorem rSend (base C : Nat) (g : Option Nat) (ps : List Pk) (o : Opv) (w : World) (h : NetOf 71 base w C g ps) (hbase : base ≤ w.heap.size) (hb : ps.length + 1 ≤ Big) (r : Reads w o.a o.dl o.dc o.l) :
    Calls Try.prog 31 #[.pointer (some ⟨C, 0, none⟩), .agg #[.int .i64 o.fk, .int .i64 o.fi, .int .i64 o.tk, .int .i64 o.ti, .slice o.a o.dl o.dc, .bool o.lost]] w fun x w' => ∃ v, x = .returned v ∧ Did 71 base w C g (aSend ps o) v w' := by
  by_cases hc : isN o.fk o.fi = true ∧ isN o.tk o.ti = true ∧ o.dl ≤ 66000
  · rw [aSend, if_pos hc]
    obtain ⟨q, len, cap, R, n, rfl, e⟩ := h
    have hl := len_eq n.list.length e
    refine (rsend_ok base C q len cap R w n hbase (by omega) o.fk o.fi o.tk o.ti o.a o.dl o.dc o.lost o.l r hc.1 hc.2.1 hc.2.2).mono ?_
    rintro x w' ⟨p, c, en, rfl, hen, n', m⟩
    refine ⟨_, rfl, rfl, blockOf p, ⟨p, len + 1, c, _, n', rfl, ?_⟩, m.mv⟩
    rw [← e, List.map_append]
    simp [hen]
  · rw [aSend, if_neg hc]
    refine (rsend_bad C w o.fk o.fi o.tk o.ti o.a o.dl o.dc o.lost (Nat.le_trans r.room r.small) hc).mono ?_
    rintro x w' ⟨rfl, K⟩
    exact ⟨_, rfl, Did.same h K _⟩
/-- The same of the network, and that no bytes lie in the blocks from L to where the call began. -/
theorem nSend (base C : Nat) (g : Option Nat) (ps : List Pk) (o : Opv) (w0 w : World) (h : NetOf 67 base w0 C g ps) (K0 : Kept (fun _ => False) w0 w) (hbase : base ≤ w.heap.size) (hb : ps.length + 1 ≤ Big) (a : Option Addr) (dc : Nat) (r : Reads w a o.dl dc o.l) :
    Calls Try.prog 27 #[.pointer (some ⟨C, 0, none⟩), .agg #[.int .i64 o.fk, .int .i64 o.fi, .int .i64 o.tk, .int .i64 o.ti, .slice a o.dl dc, .bool o.lost]] w fun x w' => ∃ q6 len6 cap6 R6, x = .returned (.int .i64 (aSend ps o).2) ∧ IsNet 67 base w' C q6 len6 cap6 R6 ∧ R6.map Ent.p = (aSend ps o).1 ∧ Mv w w' C g (blockOf q6) ∧ (∀ e ∈ R6, ∀ k, blockOf e.a = some k → k < w0.heap.size ∨ w.heap.size ≤ k) := by
  obtain ⟨q, len, cap, R, n, rfl, e⟩ := h
  have hl := len_eq n.list.length e
  have old : ∀ e ∈ R, ∀ k, blockOf e.a = some k → k < w0.heap.size := fun e he k hk => ((n.list.good e he).lt k hk).2
  by_cases hc : isN o.fk o.fi = true ∧ isN o.tk o.ti = true ∧ o.dl ≤ 66000
  · rw [aSend, if_pos hc]
    refine (send_far base C q len cap R w (n.kept0 K0) hbase (by omega) o.fk o.fi o.tk o.ti a o.dl dc o.lost o.l r hc.1 hc.2.1 hc.2.2).mono ?_
    rintro x w' ⟨p, c, en, rfl, hen, n', m, far⟩
    refine ⟨p, len + 1, c, _, rfl, n', ?_, m.mv, fun f hf k hk => ?_⟩
    · rw [← e, List.map_append]
      simp [hen]
    · rcases List.mem_append.1 hf with z | z
      · exact .inl (old f z k hk)
      · rw [List.mem_singleton.1 z] at hk
        exact .inr (far k hk)
  · rw [aSend, if_neg hc]
    refine (send_bad C w o.fk o.fi o.tk o.ti a o.dl dc o.lost (Nat.le_trans r.room r.small) hc).mono ?_
    rintro x w' ⟨rfl, K⟩
    exact ⟨q, len, cap, R, rfl, (n.kept0 K0).kept0 K, e, Mv.of_kept K C _, fun f hf k hk => .inl (old f hf k hk)⟩
/-- Bytes of another are written over. -/
theorem IsNet.keptD {ty base : Nat} {w w' : World} {C : Nat} {q : Option Addr} {len cap : Nat} {R : List Ent} (h : IsNet ty base w C q len cap R) {B : Nat} {cur : Array Value} (hB : w.heap[B]? = some (.cells cur 5 (0, 0))) (K : Kept (fun k => k = B) w w') (hR : ∀ e ∈ R, ∀ k, blockOf e.a = some k → k ≠ B) : IsNet ty base w' C q len cap R := by
  have nC : C ≠ B := fun e => by
    subst e
    rw [h.blk] at hB
    simp at hB
    exact h.t5 hB.2
  refine ⟨K.get h.blk nC, ⟨K.owns h.list.own (fun k hk z => ?_), fun e he => (h.list.good e he).kept' K (fun k hk => hR e he k (by rw [← blockOf_own]; exact hk))⟩, h.low, h.t5, h.t39⟩
  have z : k = B := z
  subst z
  obtain ⟨cs, hc⟩ := own_type h.list.own k (by rw [← blockOf_own]; exact hk)
  rw [hc] at hB
  simp at hB
/-- The network's Send, or none's; what it leaves bears that bytes which lie between are written over. -/
def SSent (base : Nat) (w0 w : World) (v : Value) (s : Option (Nat × Option Nat)) (ps : List Pk) (o : Opv) (x : Ending) (w' : World) : Prop :=
  ∃ s', x = .returned (.int .i64 (ansOf s (aSend ps o))) ∧ SMv w w' s s' ∧ ∀ (B : Nat) (cur : Array Value) (w2 : World), w'.heap[B]? = some (.cells cur 5 (0, 0)) → Kept (fun k => k = B) w' w2 → w0.heap.size ≤ B → B < w.heap.size → NSide 67 base w2 v s' (psOf s (aSend ps o) ps)
theorem side_send {base : Nat} {w0 w : World} {v : Value} {s : Option (Nat × Option Nat)} {ps : List Pk} (o : Opv) (h : NSide 67 base w0 v s ps) (K0 : Kept (fun _ => False) w0 w) (hbase : base ≤ w.heap.size) (hb : ps.length + 1 ≤ Big) (a : Option Addr) (dc : Nat) (r : Reads w a o.dl dc o.l) :
    Calls Try.prog 27 #[v, .agg #[.int .i64 o.fk, .int .i64 o.fi, .int .i64 o.tk, .int .i64 o.ti, .slice a o.dl dc, .bool o.lost]] w (SSent base w0 w v s ps o) := by
  rcases h with ⟨rfl, rfl⟩ | ⟨C, g, rfl, rfl, n⟩
  · refine (send_nil w o.fk o.fi o.tk o.ti a o.dl dc o.lost).mono ?_
    rintro x w' ⟨rfl, K⟩
    exact ⟨none, rfl, SMv.of_kept K none, fun _ _ _ _ _ _ _ => .inl ⟨rfl, rfl⟩⟩
  · refine (nSend base C g ps o w0 w n K0 hbase hb a dc r).mono ?_
    rintro x w' ⟨q6, len6, cap6, R6, rfl, n6, e6, m6, far⟩
    refine ⟨some (C, blockOf q6), rfl, m6.smv, fun B cur w2 hB K hlo hhi => .inr ⟨C, blockOf q6, rfl, rfl, q6, len6, cap6, R6, n6.keptD hB K (fun e he k hk z => ?_), rfl, e6⟩⟩
    rcases far e he k hk with y | y <;> omega
/-- A block of bytes, of which the first n may be written. -/
def Byt (w : World) (B n : Nat) : Prop := ∃ cur, w.heap[B]? = some (.cells cur 5 (0, 0)) ∧ n ≤ cur.size
theorem Byt.cell {w : World} {B n : Nat} (h : Byt w B n) (i : Nat) (hi : i < n) : ∃ u, w.cell? ⟨B, i, none⟩ = some u ∧ w.frozen? ⟨B, i, none⟩ = false := by
  obtain ⟨cur, hg, hs⟩ := h
  refine ⟨cur[i]!, ?_, soft_blk hg i⟩
  rw [cell_of_row w B i cur 5 (0, 0) hg]
  simp [show i < cur.size by omega]
theorem Byt.set {w : World} {B n : Nat} (h : Byt w B n) (i : Nat) (u : Value) : Byt (w.setCell ⟨B, i, none⟩ u) B n := by
  obtain ⟨cur, hg, hs⟩ := h
  exact ⟨_, set_heap hg i u, by simpa using hs⟩
set_option maxRecDepth 100000 in
set_option maxHeartbeats 2000000 in
theorem plays0 (base : Nat) (w : World) (vn vr : Value) (sn sr : Option (Nat × Option Nat)) (ps : List Pk) (o : Opv) (h : Pair base w vn vr sn sr ps) (ho : OpOk w o) (hb : ps.length + 1 ≤ Big) (hk : o.kd = 0) (hlow : 0 < o.dl → ∀ p, o.a = some p → p.block < base) :
    Calls Try.prog 23 #[vn, vr, .agg #[.int .i64 o.kd, .int .i64 o.nt, .int .i64 o.fk, .int .i64 o.fi, .int .i64 o.tk, .int .i64 o.ti, .slice o.a o.dl o.dc, .bool o.lost, .int .i64 o.i, .int .i64 o.n, .int .u32 (o.pat : Int)]] w fun x w' => x = .returned (.bool true) ∧ PDid base w vn vr sn sr ps w' := by
  have HH : Hid (Pair base w vn vr sn sr ps ∧ OpOk w o ∧ ps.length + 1 ≤ Big) := ⟨h, ho, hb⟩
  have BX : Hid (∀ w', Kept (fun k => FP sn k ∨ FP sr k) (w.alloc (.cells o.cs 58)) w' → w'.cell? ⟨w.heap.size, 2, none⟩ = some (.int .i64 o.fk) ∧ w'.cell? ⟨w.heap.size, 3, none⟩ = some (.int .i64 o.fi) ∧ w'.cell? ⟨w.heap.size, 4, none⟩ = some (.int .i64 o.tk) ∧ w'.cell? ⟨w.heap.size, 5, none⟩ = some (.int .i64 o.ti) ∧ w'.cell? ⟨w.heap.size, 6, none⟩ = some (.slice o.a o.dl o.dc) ∧ w'.cell? ⟨w.heap.size, 7, none⟩ = some (.bool o.lost)) := fun w' K => by
    have b := box_stays h o w' K
    exact ⟨cell_blk b 2 rfl, cell_blk b 3 rfl, cell_blk b 4 rfl, cell_blk b 5 rfl, cell_blk b 6 rfl, cell_blk b 7 rfl⟩
  have RD : Hid (∀ w', Kept (fun k => FP sn k ∨ FP sr k) (w.alloc (.cells o.cs 58)) w' → Reads w' o.a o.dl o.dc o.l) := fun w' K => by
    refine (ho.reads.kept' (alloc_kept0 w (.cells o.cs 58)) (fun _ _ q => q)).kept0 K (fun h0 p hp z => ?_)
    have a1 := hlow h0 p hp
    rcases z with z | z
    · have := (h.net.fp _ z).2.1; omega
    · have := (h.ref.fp _ z).2.1; omega
  obtain ⟨r, hr⟩ : ∃ r, r = aSend ps o := ⟨_, rfl⟩
  obtain ⟨an, han⟩ : ∃ an, ansOf sn r = an := ⟨_, rfl⟩
  have han2 : ansOf sr r = an := by rw [← han]; exact (ansOf_eq h.both r).symm
  have HA : Hid (ansOf sn r = an ∧ ansOf sr r = an ∧ r = aSend ps o ∧ psOf sn r ps = psOf sr r ps ∧ (psOf sn r ps).length ≤ ps.length + 1) := ⟨han, han2, hr, psOf_eq h.both r ps, by rw [hr]; exact psOf_len _ _ _ (aSend_len _ _)⟩
  have ST0 : Hid (ST base (w.alloc (.cells o.cs 58)) (w.alloc (.cells o.cs 58)) vn vr sn sr sn sr ps ps) := h.start (alloc_kept0 w _)
  have hdl := ho.reads.room
  have hdc := ho.reads.small
  unfold maxLen at hdc
  obtain ⟨W, hW⟩ : ∃ W, W = w.alloc (.cells o.cs 58) := ⟨_, rfl⟩
  rw [← hW] at ST0 BX RD
  have zW : Hid (W.heap.size = w.heap.size + 1) := by show W.heap.size = _; rw [hW]; exact alloc_size _ _
  have EW : Hid (W = w.alloc (.cells #[.int .i64 0, .int .i64 o.nt, .int .i64 o.fk, .int .i64 o.fi, .int .i64 o.tk, .int .i64 o.ti, .slice o.a o.dl o.dc, .bool o.lost, .int .i64 o.i, .int .i64 o.n, .int .u32 (o.pat : Int)] 58)) := by show W = _; rw [hW, Opv.cs, hk]
  clear h ho hb hr han han2 hW hlow
  go_enter Try.func23, Try.ntmps23
  go_wp2_with fail
  rw [← EW.out]
  refine (ST0.out.refDid (r := r) (by rw [HA.out.2.2.1]; exact side_did 31 (fun v => #[v, .agg #[.int .i64 o.fk, .int .i64 o.fi, .int .i64 o.tk, .int .i64 o.ti, .slice o.a o.dl o.dc, .bool o.lost]]) _ ST0.out.ref (rsend_nil W _ _ _ _ _ _ _ _) (fun C g n => rSend base C g ps o W n ST0.out.base HH.out.2.2 (RD.out W (Kept.refl _ _))))).mono ?_
  rw [HA.out.2.1]
  rintro x w2 ⟨s2, rfl, T2⟩
  have ST2 : Hid (ST base W w2 vn vr sn sr sn s2 ps (psOf sr r ps)) := T2
  obtain ⟨a2, a3, a4, a5, a6, a7⟩ := BX.out w2 T2.kept
  have lw2 : w.heap.size < w2.heap.size := World.block_lt_of_cell? w2 _ a2
  clear T2
  -- the copy that is sent: its box, its bytes
  obtain ⟨W3, hW3⟩ : ∃ W3, W3 = w2.alloc (.cells #[.int .i64 o.fk, .int .i64 o.fi, .int .i64 o.tk, .int .i64 o.ti, .slice o.a o.dl o.dc, .bool o.lost] 39) := ⟨_, rfl⟩
  have K3 : Hid (Kept (fun _ => False) w2 W3) := by show Kept _ w2 W3; rw [hW3]; exact alloc_kept0 _ _
  have B3 : Hid (Box W3 w2.heap.size (.int .i64 o.fk) (.int .i64 o.fi) (.int .i64 o.tk) (.int .i64 o.ti) (.slice o.a o.dl o.dc) (.bool o.lost)) := by show Box W3 _ _ _ _ _ _ _; unfold Box; rw [hW3]; exact alloc_new _ _
  have EW3 : Hid (W3 = w2.alloc (.cells #[.int .i64 o.fk, .int .i64 o.fi, .int .i64 o.tk, .int .i64 o.ti, .slice o.a o.dl o.dc, .bool o.lost] 39)) := hW3
  clear hW3
  go_wp2_with fail
  rw [← EW3.out]
  refine (roomy o.a o.dl o.dc o.l W3 ((RD.out w2 ST2.out.kept).kept' K3.out (fun _ _ q => q)) HH.out.2.1.room).mono ?_
  rintro x w4 ⟨g4, c4, rfl, ho4, K4⟩
  have B4 : Hid (Box w4 w2.heap.size (.int .i64 o.fk) (.int .i64 o.fi) (.int .i64 o.tk) (.int .i64 o.ti) (.slice o.a o.dl o.dc) (.bool o.lost)) := B3.out.kept K4 (fun q => q)
  obtain ⟨b0, b1, b2, b3, b4, b5, bf⟩ := cell6 _ _ _ _ _ _ _ _ B4.out
  have lg4 : W3.heap.size ≤ g4 ∧ g4 < w4.heap.size := own_lt ho4 g4 rfl
  have z3 : W3.heap.size = w2.heap.size + 1 := by rw [EW3.out]; exact alloc_size _ _
  obtain ⟨W5, hW5⟩ : ∃ W5, W5 = w4.setCell ⟨w2.heap.size, 4, none⟩ (.slice (some ⟨g4, 0, none⟩) o.dl c4) := ⟨_, rfl⟩
  have K5 : Kept (fun _ => False) w2 W5 := by rw [hW5]; exact (K3.out.trans K4 (fun _ _ q => q)).setCell (p := ⟨w2.heap.size, 4, none⟩) (fun q => absurd q (by simp)) _
  have O5 : W5.ownsRow W3.heap.size 5 1 (.slice (some ⟨g4, 0, none⟩) (o.dl + 1) c4) (o.dl + 1) (cellsOf (o.l ++ [90])) := by
    rw [hW5]
    have k : Kept (fun k => k = w2.heap.size) w4 (w4.setCell ⟨w2.heap.size, 4, none⟩ (.slice (some ⟨g4, 0, none⟩) o.dl c4)) := (Kept.refl (fun k => k = w2.heap.size) w4).setCell (p := ⟨w2.heap.size, 4, none⟩) (fun _ => rfl) _
    exact k.owns ho4 (fun k hk z => by simp [Value.ownBlock] at hk; have z : k = w2.heap.size := z; omega)
  have B5 : Box W5 w2.heap.size (.int .i64 o.fk) (.int .i64 o.fi) (.int .i64 o.tk) (.int .i64 o.ti) (.slice (some ⟨g4, 0, none⟩) o.dl c4) (.bool o.lost) := by rw [hW5]; exact B4.out.set4 _
  have S5 : Hid (Kept (fun _ => False) w2 W5 ∧ W5.ownsRow W3.heap.size 5 1 (.slice (some ⟨g4, 0, none⟩) (o.dl + 1) c4) (o.dl + 1) (cellsOf (o.l ++ [90])) ∧ Box W5 w2.heap.size (.int .i64 o.fk) (.int .i64 o.fi) (.int .i64 o.tk) (.int .i64 o.ti) (.slice (some ⟨g4, 0, none⟩) o.dl c4) (.bool o.lost) ∧ w2.heap.size + 1 ≤ g4 ∧ g4 < W5.heap.size) := ⟨K5, O5, B5, by omega, (own_lt O5 g4 rfl).2⟩
  have R5 : Hid (Reads W5 (some ⟨g4, 0, none⟩) o.dl c4 o.l) := by
    have hby : ∀ c ∈ o.l ++ [90], c < 256 := fun c hc => by
      rcases List.mem_append.1 hc with z | z
      · exact HH.out.2.1.reads.bytes c z
      · rw [List.mem_singleton.1 z]; omega
    obtain ⟨aa, cc, e, rr, _⟩ := owns_reads O5 hby
    simp at e
    obtain ⟨rfl, rfl⟩ := e
    have := rr.take o.dl (by omega)
    have el : (o.l ++ [90]).take o.dl = o.l := by rw [← HH.out.2.1.reads.length]; exact List.take_left
    rw [el] at this
    exact this
  obtain ⟨q1, q2⟩ := own_room O5
  unfold maxLen at q2
  have EW5 : Hid (W5 = w4.setCell ⟨w2.heap.size, 4, none⟩ (.slice (some ⟨g4, 0, none⟩) o.dl c4)) := hW5
  clear ho4 K4 hW5 K5 O5 B5 z3 lg4
  go_wp2_with fail
  rw [← EW5.out]
  refine (side_send o ST2.out.net S5.out.1 (Nat.le_trans ST2.out.base S5.out.1.size) HH.out.2.2 (some ⟨g4, 0, none⟩) c4 R5.out).mono ?_
  rintro x w6 ⟨s6, rfl, m6, cl6⟩
  rw [← HA.out.2.2.1, HA.out.1]
  rw [← HA.out.2.2.1] at cl6
  have CL : Hid (SMv W5 w6 sn s6 ∧ ∀ (B : Nat) (cur : Array Value) (w2' : World), w6.heap[B]? = some (.cells cur 5 (0, 0)) → Kept (fun k => k = B) w6 w2' → w2.heap.size ≤ B → B < W5.heap.size → NSide 67 base w2' vn s6 (psOf sn r ps)) := ⟨m6, cl6⟩
  have nf : ∀ k, w2.heap.size ≤ k → ¬ FP sn k := fun k hk z => by have := (ST2.out.net.fp k z).1; omega
  have K6 : Kept (fun k => FP sn k ∨ FP sr k) W w6 := (ST2.out.kept.trans S5.out.1 (fun _ _ q => q.elim)).trans m6.kept (fun _ _ z => .inl z)
  obtain ⟨e2, e3, e4, e5, e6, e7⟩ := BX.out w6 K6
  have B6 : Hid (Box w6 w2.heap.size (.int .i64 o.fk) (.int .i64 o.fi) (.int .i64 o.tk) (.int .i64 o.ti) (.slice (some ⟨g4, 0, none⟩) o.dl c4) (.bool o.lost)) := S5.out.2.2.1.kept m6.kept (nf _ (Nat.le_refl _))
  have O6 : Hid (w6.ownsRow W3.heap.size 5 1 (.slice (some ⟨g4, 0, none⟩) (o.dl + 1) c4) (o.dl + 1) (cellsOf (o.l ++ [90]))) := m6.kept.owns S5.out.2.1 (fun k hk => by simp [Value.ownBlock] at hk; subst hk; exact nf _ (by have := S5.out.2.2.2.1; omega))
  have R6 : Hid (Reads w6 o.a o.dl o.dc o.l) := RD.out w6 K6
  obtain ⟨f0, f1, f2, f3, f4, f5, _⟩ := cell6 _ _ _ _ _ _ _ _ B6.out
  clear m6 cl6 K6 nf
  go_wp2_with fail
  refine (untouched g4 o.dl c4 o.l o.a o.dc w6 (owns_mono O6.out (Nat.zero_le _)) R6.out).mono ?_
  rintro x w7 ⟨rfl, K7⟩
  have h0 := (B6.out.kept K7 (fun q => q))
  obtain ⟨j0, j1, j2, j3, j4, j5, _⟩ := cell6 _ _ _ _ _ _ _ _ h0
  obtain ⟨cur, hcur, hsz⟩ : ∃ cur, w6.heap[g4]? = some (.cells cur 5 (0, 0)) ∧ o.dl ≤ cur.size := by
    rcases O6.out.2 with ⟨e0, _⟩ | ⟨g', cp, cur, e0, _, hg, h1, _, h3, _⟩
    · simp at e0
    · simp at e0; obtain ⟨rfl, rfl⟩ := e0; exact ⟨cur, hg, by omega⟩
  have S7 : Hid (Kept (fun _ => False) w6 w7 ∧ Byt w7 g4 o.dl ∧ w6.heap[g4]? = some (.cells cur 5 (0, 0))) := ⟨K7, ⟨cur, K7.get hcur (fun q => q), hsz⟩, hcur⟩
  have ng : Hid (w2.heap.size ≠ g4) := by have := S5.out.2.2.2.1; show w2.heap.size ≠ g4; omega
  clear K7 h0 hcur hsz
  go_wp2_with fail
  go_loopw [11, 43] (fun _ x wr => ∃ (i : Nat), x = .int .i64 (i : Int) ∧ i ≤ o.dl ∧ Hid (Kept (fun k => k = g4) w7 wr ∧ Byt wr g4 o.dl)) (fun _ x _ => o.dl - (intOf x).toNat)
  case atStart => exact ⟨0, rfl, Nat.zero_le _, Kept.refl _ _, S7.out.2.1⟩
  case round =>
    obtain ⟨i, rfl, hi, T⟩ := hrel
    by_cases hlt : i < o.dl
    · have i1 : (i : Int) < (o.dl : Int) := by omega
      have y4 : wr.cell? ⟨w2.heap.size, 4, none⟩ = some (.slice (some ⟨g4, 0, none⟩) o.dl c4) := T.out.1.cell j4 ng.out
      obtain ⟨u, y5, y6⟩ := T.out.2.cell i hlt
      have FIN : Hid (Kept (fun k => k = g4) w7 (wr.setCell ⟨g4, i, none⟩ (.int .u8 238)) ∧ Byt (wr.setCell ⟨g4, i, none⟩ (.int .u8 238)) g4 o.dl) := ⟨T.out.1.setCell (p := ⟨g4, i, none⟩) (fun _ => rfl) _, T.out.2.set i _⟩
      go_wp2_with fail
      go_roundw
      case rel => exact ⟨i + 1, by go_num, by omega, FIN.out⟩
      case measure => simp [intOf]; omega
    · have he : o.dl = i := by omega
      have i1 : ¬ (i : Int) < (o.dl : Int) := by omega
      have ST8 : Hid (ST base W wr vn vr sn sr s6 s2 (psOf sn r ps) (psOf sr r ps)) := by
        have K8 : Kept (fun k => k = g4) w6 wr := (S7.out.1.mono (fun _ _ q => q.elim)).trans T.out.1 (fun _ _ q => q)
        have hg4 := S5.out.2.2.2.1
        have n8 := CL.out.2 g4 cur wr S7.out.2.2 K8 (by omega) S5.out.2.2.2.2
        refine ST2.out.netMv ⟨?_, fun k hk => ?_, CL.out.1.some⟩ n8
        · exact ((S5.out.1.mono (fun _ _ q => q.elim)).trans CL.out.1.kept (fun _ _ q => q)).trans K8 (fun j hj z => by have z : j = g4 := z; omega)
        · rcases CL.out.1.near k hk with y | y
          · exact .inl y
          · exact .inr (Nat.le_trans S5.out.1.size y)
      clear T
      go_wp2_with fail
      go_ret
      exact ⟨by simp, HH.out.1.done (W := W) (by rw [EW.out]; exact alloc_kept0 w _) ST8.out HA.out.2.2.2.1 HA.out.2.2.2.2⟩
end Go.Proofs.Ytojfnehdanhgiaa
