import Derived.Test.YtbangbobfeflcaaGreatDoorKItJ
import Derived.Test.YtbangbobfeflcaaGreatDoorKEqJ
import Derived.Test.YtbangbobfeflcaaGreatDoorRKrJ
import Derived.Test.YtbangbobfeflcaaGreatDoorTCoJ
import Derived.Test.YtbangbobfeflcaaGreatDoorRUa
import Derived.Test.YtbangbobfeflcaaGreatDoorRCd
import Derived.Test.YtbangbobfeflcaaGreatDoorROd
import Derived.Test.YtbangbobfeflcaaGreatDoorRLbJ
namespace Go.Proofs.YtbangbobfeflcaaGreatDoor
open Go.RowKit 

/-- The keys of events, sorted, in memory of one's own. -/
structure KY (w wr : World) (es : List Ev) (p : Option Addr) (n : Nat) (ks : List ByteArray) : Prop where
  len : ks.length = n
  small : n ≤ es.length
  cells : ∀ (i : Nat) (k : ByteArray), ks[i]? = some k → ∃ g, p = some ⟨g, 0, none⟩ ∧ wr.cell? ⟨g, i, none⟩ = some (.string k)
  rise : ∀ (i : Nat) (a b : ByteArray), ks[i]? = some a → ks[i + 1]? = some b → Op.bytesLess a.data.toList b.data.toList = true
  has : ∀ k ∈ ks, strF k ∧ 0 < (placesS es k).length
  all : (ks.map fun k => (placesS es k).length).sum = es.length
  kept : Kept (fun _ => False) w wr
def RetKy (Q : Option Addr → Nat → Nat → List ByteArray → World → Prop) (o : Ending) (w : World) : Prop := ∃ (p : Option Addr) (n c : Nat) (ks : List ByteArray), o = .returned (.slice p n c) ∧ Q p n c ks w
end Go.Proofs.YtbangbobfeflcaaGreatDoor

namespace Go.Proofs.YtbangbobfeflcaaGreatDoor
open Go.RowKit 

theorem keys_kyO {w w1 w' : World} {es : List Ev} {mb n n0 : Nat} {D : DataW Value} {Mp : ByteArray → Option Sl} {ss : List (List UInt8)} {v : Value} {b0 : Nat} (hl : es.length = n0) (ho : w1.ownsMap Tryz.prog 9 RSl mb n D) (s : Says strL strF Sl.v D Mp) (en : Maps.size D = n) (hn : n ≤ n0) (h1 : ∀ k, Mp k = none → placesS es k = []) (h2 : ∀ k s, Mp k = some s → s.n = (placesS es k).length ∧ 0 < s.n) (hp : ss.Perm (strKeys D)) (hr : w'.ownsRow b0 9 1 v ss.length ((ss.mergeSort (fun x y => decide (x ≤ y))).map encStr)) (K : Kept (fun _ => False) w w') (hb0 : w.heap.size ≤ b0) : RetKy (fun p n c ks w' => KY w w' es p n ks ∧ w'.ownsRow w.heap.size 9 1 (.slice p n c) n (strs ks)) (.returned v) w' := by
  obtain ⟨nd, mem⟩ := keys_of ho s hp
  have hlen : ss.length = n := by
    rw [hp.length_eq, ← en]
    obtain ⟨es', hD, _⟩ := ho.entries strLaw
    rw [hD]
    simp [strKeys, Maps.size]
  obtain ⟨p, c, hv⟩ : ∃ p c, v = .slice p ss.length c := by
    rcases hr.2 with ⟨rfl, e⟩ | ⟨g, cap, cur, rfl, _⟩
    · exact ⟨none, 0, by rw [e]⟩
    · exact ⟨_, _, rfl⟩
  subst hv
  have N : (ss.mergeSort leB).Nodup := (List.mergeSort_perm ss leB).nodup_iff.2 nd
  have ml : (ss.mergeSort leB).length = ss.length := (List.mergeSort_perm ss leB).length_eq
  have mm : ∀ k : ByteArray, k ∈ (ss.mergeSort leB).map baL ↔ (Mp k).isSome = true := fun k => by
    rw [List.mem_map]
    constructor
    · rintro ⟨x, hx, rfl⟩
      exact (mem x).1 ((List.mergeSort_perm ss leB).mem_iff.1 hx)
    · intro h
      exact ⟨k.data.toList, (List.mergeSort_perm ss leB).mem_iff.2 ((mem _).2 h), rfl⟩
  refine ⟨p, ss.length, c, (ss.mergeSort leB).map baL, rfl, ⟨by rw [List.length_map, ml], by omega, fun i k hk => ?_, fun i a b ha hb => ?_, fun k hk => ?_, ?_, K⟩, ?_⟩
  · rw [List.getElem?_map] at hk
    obtain ⟨x, hx, rfl⟩ := Option.map_eq_some_iff.1 hk
    have hi := (List.getElem?_eq_some_iff.1 hx).1
    rcases hr.2 with ⟨_, e⟩ | ⟨g, cap, cur, z, _⟩
    · rw [ml] at hi
      omega
    · injection z with z1 _ z3
      subst z1
      refine ⟨g, rfl, ?_⟩
      have hc := hr.cells (g := g) rfl
      have q := hc i (encStr x) (by rw [List.getElem?_map]; show Option.map encStr (ss.mergeSort leB)[i]? = _; rw [hx]; rfl)
      rw [Addr.add_none, Nat.zero_add] at q
      exact q
  · rw [List.getElem?_map] at ha hb
    obtain ⟨x, hx, rfl⟩ := Option.map_eq_some_iff.1 ha
    obtain ⟨y, hy, rfl⟩ := Option.map_eq_some_iff.1 hb
    exact leB_rise nd hx hy
  · obtain ⟨sl, hs⟩ := Option.isSome_iff_exists.1 ((mm k).1 hk)
    have q := h2 k sl hs
    exact ⟨s.2 _ _ hs, by omega⟩
  · refine sum_all _ ?_ es (fun e he => ?_)
    · exact List.pairwise_map.2 (N.imp fun {a b} hab e => hab (baL_inj e))
    · refine (mm e.key).2 ?_
      cases hq : Mp e.key with
      | some _ => rfl
      | none =>
        have q := places_pos he rfl
        rw [h1 _ hq] at q
        exact absurd q (Nat.lt_irrefl _)
  · have e : strs ((ss.mergeSort leB).map baL) = (ss.mergeSort leB).map encStr := by
      unfold strs
      rw [List.map_map]
      rfl
    rw [e]
    exact owns_mono hr hb0
set_option maxRecDepth 100000 in
set_option maxHeartbeats 2000000 in
theorem hKeysO {w : World} {p0 : Option Addr} {n0 c0 : Nat} {es : List Ev} (er : ERd w p0 n0 c0 es) (hb : n0 ≤ 1500000000000) (ck : ∀ e ∈ es, strF e.key) : Calls Tryz.prog 15 #[.slice p0 n0 c0] w (RetKy fun p n c ks w' => KY w w' es p n ks ∧ w'.ownsRow w.heap.size 9 1 (.slice p n c) n (strs ks)) := by
  have C38 : Hid (Calls Tryz.prog 38 #[.slice p0 n0 c0, .func (.func 39) #[] #[]] w fun o w' => ∃ mb, o = .returned (.map (some mb)) ∧ Hid (GT w es mb n0 w')) := hGrouS er hb ck
  have H : Hid (es.length = n0 ∧ n0 ≤ 1500000000000) := ⟨er.len, hb⟩
  clear er hb ck
  refine (callsIn_wide (n := 6)).1 ?_
  have hfK : Fence.wide.fn 37 := trivial
  have hfS : Fence.wide.fn 36 := trivial
  have hfG : Fence.wide.fn 38 := trivial
  refine callsIn_of_wp Tryz.func15 rfl trivial ?_ rfl
  simp only [Tryz.ntmps15, List.size_toArray, List.length_cons, List.length_nil, Nat.reduceAdd, Nat.reduceSub, Array.replicate_succ, Array.replicate_zero, List.push_toArray, List.append_toArray, List.nil_append, List.cons_append]
  gi_wp2_with (first
    | (gi_at_call 38; refine (callsIn_wide.2 C38.out).mono ?_; rintro e w1 ⟨mb, rfl, G⟩))
  obtain ⟨n, Mp, ⟨D, ho, sy, en⟩, hn, h1, h2, h3⟩ := G.out.ok
  have etk : es.take n0 = es := by rw [← H.out.1, List.take_length]
  rw [etk] at h1 h2
  have HD : Hid (w1.ownsMap Tryz.prog 9 RSl mb n D ∧ Says strL strF Sl.v D Mp ∧ Maps.size D = n ∧ n ≤ n0 ∧ (∀ k, Mp k = none → placesS es k = []) ∧ (∀ k s, Mp k = some s → s.n = (placesS es k).length ∧ 0 < s.n) ∧ Kept (fun _ => False) w w1) := ⟨ho, sy, en, hn, h1, fun k s hs => ⟨(h2 k s hs).2.1, (h2 k s hs).2.2.2⟩, G.out.kept⟩
  clear ho sy en hn h1 h2 h3 etk G C38
  refine (Tryz.maps_Keys_37 _ _).mono ?_
  rintro e w' ⟨rfl, rfl⟩
  gi_wp2_with (first | fail)
  refine (Tryz.slices_Sorted_keys_36_37 mb n D RSl w1 HD.out.1 (by have h3 := HD.out.2.2.1; have h4 := HD.out.2.2.2.1; have h5 := H.out.2; unfold maxLen; omega) (by have h3 := HD.out.2.2.1; have h4 := HD.out.2.2.2.1; have h5 := H.out.2; omega)).mono ?_
  rintro e w2 ⟨v, ss, rfl, hS, hrow, _, hbl⟩
  have KW : Kept (fun _ => False) w w2 := (HD.out.2.2.2.2.2.2.alloc _).trans (kept_below hbl) (fun _ _ z => z)
  have N : Hid (RetKy (fun p n c ks w' => KY w w' es p n ks ∧ w'.ownsRow w.heap.size 9 1 (.slice p n c) n (strs ks)) (.returned v) w2) := keys_kyO H.out.1 HD.out.1 HD.out.2.1 HD.out.2.2.1 HD.out.2.2.2.1 HD.out.2.2.2.2.1 HD.out.2.2.2.2.2.1 hS hrow KW (HD.out.2.2.2.2.2.2.alloc _).size
  clear hS hrow hbl KW HD
  gi_wp2_with (first | fail)
  go_ret
  exact N.out
end Go.Proofs.YtbangbobfeflcaaGreatDoor

namespace Go.Proofs.YtbangbobfeflcaaGreatDoor
open Go.RowKit 

def rwC (c : Ca) : Rw := ⟨c.va, c.vn, c.vc, cellsOf c.val⟩
/-- A list of events that Of told. -/
structure Ol where
  p : Option Addr
  n : Nat
  c : Nat
  l : List Ev
def rwO (x : Ol) : Rw := ⟨x.p, x.n, x.c, ecs x.l⟩
def vls (O : List Ol) : List Rw := O.flatMap fun x => x.l.map rwE
/-- A row stays where rows of another type change. -/
theorem own_off {b0 : Nat} {ty t' : TypeId} {s : Nat} {S : Nat → Prop} {W W' : World} {P : Option Addr} {n C : Nat} {xs : List Value} (h : W.ownsRow b0 ty s (.slice P n C) n xs) (K : Kept S W W') (hS : ∀ b, S b → ∃ cs, W.heap[b]? = some (.cells cs t' (0, 0))) (ht : ty ≠ t') : W'.ownsRow b0 ty s (.slice P n C) n xs := K.owns h (fun b z y => by
  rw [blockOf_own] at z
  obtain ⟨c1, e1⟩ := own_type h b z
  obtain ⟨c2, e2⟩ := hS b y
  rw [e1] at e2
  simp at e2
  exact ht e2.2)
theorem KaR.off {b0 : Nat} {t' : TypeId} {S : Nat → Prop} {W W' : World} {p : Option Addr} {k c : Nat} {L : List Ca} (h : KaR b0 W p k c L) (K : Kept S W W') (hS : ∀ b, S b → ∃ cs, W.heap[b]? = some (.cells cs t' (0, 0))) (h1 : (58 : TypeId) ≠ t') (h2 : (5 : TypeId) ≠ t') : KaR b0 W' p k c L := ⟨h.len, own_off h.row K hS h1, fun x hx => own_off (h.val x hx) K hS h2⟩
/-- Where tells stands: the lists that it makes, each value in a block of its own. -/
structure TA (w W : World) (Pa : Option Addr) (na Ka : Nat) (RA : List Rw) (q : Option Addr) (k c : Nat) (L : List Ca) (pk : Option Addr) (nk ck : Nat) (ks : List ByteArray) (Po : Option Addr) (no Co : Nat) (Os O : List Ol) : Prop where
  all : W.ownsRow w.heap.size 34 1 (.slice Pa na Ka) na (slv RA)
  cal : KaR w.heap.size W q k c L
  key : W.ownsRow w.heap.size 9 1 (.slice pk nk ck) nk (strs ks)
  ofs : W.ownsRow w.heap.size 22 1 (.slice Po no Co) no (slv (Os.map rwO))
  ev : ∀ x ∈ O, EaR w.heap.size W x.p x.n x.c x.l ∧ ∀ e ∈ x.l, W.ownsRow w.heap.size 5 1 (.slice e.va e.vn e.vc) e.vn (cellsOf e.val)
  ne : (O.map rwO).Pairwise Prt
  vs : (L.map rwC ++ vls O).Pairwise Prt
  kept : Kept (fun _ => False) w W
theorem ev_off {b0 : Nat} {t' : TypeId} {S : Nat → Prop} {W W' : World} {O : List Ol} (h : ∀ x ∈ O, EaR b0 W x.p x.n x.c x.l ∧ ∀ e ∈ x.l, W.ownsRow b0 5 1 (.slice e.va e.vn e.vc) e.vn (cellsOf e.val)) (K : Kept S W W') (hS : ∀ b, S b → ∃ cs, W.heap[b]? = some (.cells cs t' (0, 0))) (h1 : (39 : TypeId) ≠ t') (h2 : (5 : TypeId) ≠ t') : ∀ x ∈ O, EaR b0 W' x.p x.n x.c x.l ∧ ∀ e ∈ x.l, W'.ownsRow b0 5 1 (.slice e.va e.vn e.vc) e.vn (cellsOf e.val) := fun x hx => ⟨⟨(h x hx).1.len, own_off (h x hx).1.row K hS h1⟩, fun e he => own_off ((h x hx).2 e he) K hS h2⟩
theorem TA.k0 {w W W' : World} {Pa : Option Addr} {na Ka : Nat} {RA : List Rw} {q : Option Addr} {k c : Nat} {L : List Ca} {pk : Option Addr} {nk ck : Nat} {ks : List ByteArray} {Po : Option Addr} {no Co : Nat} {Os O : List Ol} (h : TA w W Pa na Ka RA q k c L pk nk ck ks Po no Co Os O) (K : Kept (fun _ => False) W W') : TA w W' Pa na Ka RA q k c L pk nk ck ks Po no Co Os O :=
  ⟨K.owns h.all (fun _ _ z => z), h.cal.k0 K, K.owns h.key (fun _ _ z => z), K.owns h.ofs (fun _ _ z => z), fun x hx => ⟨(h.ev x hx).1.k0 K, fun e he => K.owns ((h.ev x hx).2 e he) (fun _ _ z => z)⟩, h.ne, h.vs, h.kept.trans K (fun _ _ z => z)⟩
theorem slv_app (a b : List Rw) : slv (a ++ b) = slv a ++ slv b := by unfold slv; rw [List.map_append]
/-- One value more. -/
theorem TA.growA {w W W' : World} {Pa : Option Addr} {na Ka : Nat} {RA : List Rw} {q : Option Addr} {k c : Nat} {L : List Ca} {pk : Option Addr} {nk ck : Nat} {ks : List ByteArray} {Po : Option Addr} {no Co : Nat} {Os O : List Ol} (h : TA w W Pa na Ka RA q k c L pk nk ck ks Po no Co Os O) {r : Rw} {p9 : Option Addr} {c9 : Nat} (ho : W'.ownsRow w.heap.size 34 1 (.slice p9 (na + 1) c9) (na + 1) (slv RA ++ [.slice r.p r.n r.c])) (hg : W.grownBy W' (Value.slice Pa na Ka).ownBlock) : TA w W' p9 (na + 1) c9 (RA ++ [r]) q k c L pk nk ck ks Po no Co Os O := by
  have KG := kgr hg
  have hS : ∀ b, blockOf Pa = some b → ∃ cs, W.heap[b]? = some (.cells cs 34 (0, 0)) := fun b z => own_type h.all b z
  exact ⟨by rw [slv_app]; exact ho, h.cal.off KG hS (by decide) (by decide), own_off h.key KG hS (by decide), own_off h.ofs KG hS (by decide), ev_off h.ev KG hS (by decide) (by decide), h.ne, h.vs, Kept.own h.kept KG (fun j z => (own_lt h.all j z).1)⟩
/-- One list more. -/
theorem TA.growO {w W W' : World} {Pa : Option Addr} {na Ka : Nat} {RA : List Rw} {q : Option Addr} {k c : Nat} {L : List Ca} {pk : Option Addr} {nk ck : Nat} {ks : List ByteArray} {Po : Option Addr} {no Co : Nat} {Os O : List Ol} (h : TA w W Pa na Ka RA q k c L pk nk ck ks Po no Co Os O) {x : Ol} {p9 : Option Addr} {c9 : Nat} (ho : W'.ownsRow w.heap.size 22 1 (.slice p9 (no + 1) c9) (no + 1) (slv (Os.map rwO) ++ [.slice x.p x.n x.c])) (hg : W.grownBy W' (Value.slice Po no Co).ownBlock) : TA w W' Pa na Ka RA q k c L pk nk ck ks p9 (no + 1) c9 (Os ++ [x]) O := by
  have KG := kgr hg
  have hS : ∀ b, blockOf Po = some b → ∃ cs, W.heap[b]? = some (.cells cs 22 (0, 0)) := fun b z => own_type h.ofs b z
  exact ⟨own_off h.all KG hS (by decide), h.cal.off KG hS (by decide) (by decide), own_off h.key KG hS (by decide), by rw [List.map_append, slv_app]; exact ho, ev_off h.ev KG hS (by decide) (by decide), h.ne, h.vs, Kept.own h.kept KG (fun j z => (own_lt h.ofs j z).1)⟩
/-- One key written over. -/
theorem TA.setK {w W : World} {Pa : Option Addr} {na Ka : Nat} {RA : List Rw} {q : Option Addr} {k c : Nat} {L : List Ca} {g nk ck : Nat} {ks : List ByteArray} {Po : Option Addr} {no Co : Nat} {Os O : List Ol} (h : TA w W Pa na Ka RA q k c L (some ⟨g, 0, none⟩) nk ck ks Po no Co Os O) (j : Nat) (s : ByteArray) : TA w (W.setCell ⟨g, j, none⟩ (.string s)) Pa na Ka RA q k c L (some ⟨g, 0, none⟩) nk ck (ks.set j s) Po no Co Os O := by
  have K := (Kept.refl (fun b => b = g) W).setCell (p := ⟨g, j, none⟩) (fun _ => rfl) (.string s)
  obtain ⟨cs, hcs⟩ := own_type h.key g rfl
  have hS : ∀ b, b = g → ∃ cs, W.heap[b]? = some (.cells cs 9 (0, 0)) := fun b z => ⟨cs, by rw [z]; exact hcs⟩
  refine ⟨own_off h.all K hS (by decide), h.cal.off K hS (by decide) (by decide), ?_, own_off h.ofs K hS (by decide), ev_off h.ev K hS (by decide) (by decide), h.ne, h.vs, Kept.own h.kept K (fun b z => by have z : b = g := z; rw [z]; exact (own_lt h.key g rfl).1)⟩
  have e : strs (ks.set j s) = (strs ks).set j (.string s) := by unfold strs; rw [List.map_set]
  rw [e]
  exact owns_set h.key j (.string s)
theorem flat_snoc (O : List Ol) (x : Ol) : vls (O ++ [x]) = vls O ++ x.l.map rwE := by
  unfold vls
  rw [List.flatMap_append]
  simp
theorem TA.lts {w W : World} {Pa : Option Addr} {na Ka : Nat} {RA : List Rw} {q : Option Addr} {k c : Nat} {L : List Ca} {pk : Option Addr} {nk ck : Nat} {ks : List ByteArray} {Po : Option Addr} {no Co : Nat} {Os O : List Ol} (h : TA w W Pa na Ka RA q k c L pk nk ck ks Po no Co Os O) : (∀ r ∈ O.map rwO, ∀ b, blockOf r.p = some b → b < W.heap.size) ∧ ∀ r ∈ L.map rwC ++ vls O, W.ownsRow w.heap.size 5 1 (.slice r.p r.n r.c) r.n r.xs := by
  refine ⟨fun r hr b hb => ?_, fun r hr => ?_⟩
  · obtain ⟨x, hx, rfl⟩ := List.mem_map.1 hr
    exact (own_lt (h.ev x hx).1.row b hb).2
  · rcases List.mem_append.1 hr with hr | hr
    · obtain ⟨x, hx, rfl⟩ := List.mem_map.1 hr
      exact h.cal.val x hx
    · unfold vls at hr
      obtain ⟨x, hx, hr⟩ := List.mem_flatMap.1 hr
      obtain ⟨e, he, rfl⟩ := List.mem_map.1 hr
      exact (h.ev x hx).2 e he
/-- A list that Of told. -/
theorem TA.newO {w W W' : World} {Pa : Option Addr} {na Ka : Nat} {RA : List Rw} {q : Option Addr} {k c : Nat} {L : List Ca} {pk : Option Addr} {nk ck : Nat} {ks : List ByteArray} {Po : Option Addr} {no Co : Nat} {Os O : List Ol} (h : TA w W Pa na Ka RA q k c L pk nk ck ks Po no Co Os O) {x : Ol} (hp : PS W W' x.p x.n x.c x.l) (hd : Dst W' x.l) : TA w W' Pa na Ka RA q k c L pk nk ck ks Po no Co Os (O ++ [x]) := by
  have T := h.k0 hp.kept
  obtain ⟨l1, l2⟩ := h.lts
  refine ⟨T.all, T.cal, T.key, T.ofs, fun y hy => ?_, ?_, ?_, T.kept⟩
  · rcases List.mem_append.1 hy with m | m
    · exact T.ev y m
    · rw [List.mem_singleton.1 m]
      exact ⟨⟨hp.row.len, owns_mono hp.row.row h.kept.size⟩, fun e he => owns_mono (hp.val e he) h.kept.size⟩
  · rw [List.map_append]
    refine List.pairwise_append.2 ⟨h.ne, List.pairwise_singleton _ _, fun a ha b hb z e1 e2 => ?_⟩
    have hb : b = rwO x := List.mem_singleton.1 hb
    rw [hb] at e2
    have q1 := l1 a ha z e1
    have q2 := (own_lt hp.row.row z e2).1
    omega
  · rw [flat_snoc, ← List.append_assoc]
    refine List.pairwise_append.2 ⟨h.vs, ?_, fun a ha b hb z e1 e2 => ?_⟩
    · rw [List.pairwise_map]
      exact hd.1
    · obtain ⟨e, he, rfl⟩ := List.mem_map.1 hb
      have q1 := (own_lt (l2 a ha) z e1).2
      have q2 := (own_lt (hp.val e he) z e2).1
      omega
end Go.Proofs.YtbangbobfeflcaaGreatDoor
