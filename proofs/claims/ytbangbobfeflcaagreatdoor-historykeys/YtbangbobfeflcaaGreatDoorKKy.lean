import Derived.Test.YtbangbobfeflcaaGreatDoorKPu
import Derived.Test.YtbangbobfeflcaaGreatDoorKIt
import Derived.Test.YtbangbobfeflcaaGreatDoorKEq
namespace Go.Proofs.YtbangbobfeflcaaGreatDoor
open Go.RowKit 

/-- The keys of events, sorted, in memory of one's own. -/
structure KY (w wr : World) (es : List Ev) (p : Option Addr) (n : Nat) (ks : List ByteArray) : Prop where
  len : ks.length = n
  small : n ≤ es.length
  cells : ∀ (i : Nat) (k : ByteArray), ks[i]? = some k → ∃ g, p = some ⟨g, 0, none⟩ ∧ wr.cell? ⟨g, i, none⟩ = some (.string k)
  rise : ∀ (i : Nat) (a b : ByteArray), ks[i]? = some a → ks[i + 1]? = some b → Op.bytesLess a.data.toList b.data.toList = true
  has : ∀ k ∈ ks, strF k ∧ 0 < (placesS es k).length
  all : (ks.map fun k => (placesS es k).length).sum = es.length
  kept : Kept (fun _ => False) w wr
def RetKy (Q : Option Addr → Nat → Nat → List ByteArray → World → Prop) (o : Ending) (w : World) : Prop := ∃ (p : Option Addr) (n c : Nat) (ks : List ByteArray), o = .returned (.slice p n c) ∧ Q p n c ks w
theorem keys_ky {w w1 w' : World} {es : List Ev} {mb n n0 : Nat} {D : DataW Value} {Mp : ByteArray → Option Sl} {ss : List (List UInt8)} {v : Value} {b0 : Nat} (hl : es.length = n0) (ho : w1.ownsMap Tryz.prog 9 RSl mb n D) (s : Says strL strF Sl.v D Mp) (en : Maps.size D = n) (hn : n ≤ n0) (h1 : ∀ k, Mp k = none → placesS es k = []) (h2 : ∀ k s, Mp k = some s → s.n = (placesS es k).length ∧ 0 < s.n) (hp : ss.Perm (strKeys D)) (hr : w'.ownsRow b0 9 1 v ss.length ((ss.mergeSort (fun x y => decide (x ≤ y))).map encStr)) (K : Kept (fun _ => False) w w') : RetKy (fun p n _ ks w' => KY w w' es p n ks) (.returned v) w' := by
  obtain ⟨nd, mem⟩ := keys_of ho s hp
  have hlen : ss.length = n := by
    rw [hp.length_eq, ← en]
    obtain ⟨es', hD, _⟩ := ho.entries strLaw
    rw [hD]
    simp [strKeys, Maps.size]
  obtain ⟨p, c, hv⟩ : ∃ p c, v = .slice p ss.length c := by
    rcases hr.2 with ⟨rfl, e⟩ | ⟨g, cap, cur, rfl, _⟩
    · exact ⟨none, 0, by rw [e]⟩
    · exact ⟨_, _, rfl⟩
  subst hv
  have N : (ss.mergeSort leB).Nodup := (List.mergeSort_perm ss leB).nodup_iff.2 nd
  have ml : (ss.mergeSort leB).length = ss.length := (List.mergeSort_perm ss leB).length_eq
  have mm : ∀ k : ByteArray, k ∈ (ss.mergeSort leB).map baL ↔ (Mp k).isSome = true := fun k => by
    rw [List.mem_map]
    constructor
    · rintro ⟨x, hx, rfl⟩
      exact (mem x).1 ((List.mergeSort_perm ss leB).mem_iff.1 hx)
    · intro h
      exact ⟨k.data.toList, (List.mergeSort_perm ss leB).mem_iff.2 ((mem _).2 h), rfl⟩
  refine ⟨p, ss.length, c, (ss.mergeSort leB).map baL, rfl, by rw [List.length_map, ml], by omega, fun i k hk => ?_, fun i a b ha hb => ?_, fun k hk => ?_, ?_, K⟩
  · rw [List.getElem?_map] at hk
    obtain ⟨x, hx, rfl⟩ := Option.map_eq_some_iff.1 hk
    have hi := (List.getElem?_eq_some_iff.1 hx).1
    rcases hr.2 with ⟨_, e⟩ | ⟨g, cap, cur, z, _⟩
    · rw [ml] at hi
      omega
    · injection z with z1 _ z3
      subst z1
      refine ⟨g, rfl, ?_⟩
      have hc := hr.cells (g := g) rfl
      have q := hc i (encStr x) (by rw [List.getElem?_map]; show Option.map encStr (ss.mergeSort leB)[i]? = _; rw [hx]; rfl)
      rw [Addr.add_none, Nat.zero_add] at q
      exact q
  · rw [List.getElem?_map] at ha hb
    obtain ⟨x, hx, rfl⟩ := Option.map_eq_some_iff.1 ha
    obtain ⟨y, hy, rfl⟩ := Option.map_eq_some_iff.1 hb
    exact leB_rise nd hx hy
  · obtain ⟨sl, hs⟩ := Option.isSome_iff_exists.1 ((mm k).1 hk)
    have q := h2 k sl hs
    exact ⟨s.2 _ _ hs, by omega⟩
  · refine sum_all _ ?_ es (fun e he => ?_)
    · exact List.pairwise_map.2 (N.imp fun {a b} hab e => hab (baL_inj e))
    · refine (mm e.key).2 ?_
      cases hq : Mp e.key with
      | some _ => rfl
      | none =>
        have q := places_pos he rfl
        rw [h1 _ hq] at q
        exact absurd q (Nat.lt_irrefl _)
set_option maxRecDepth 100000 in
set_option maxHeartbeats 2000000 in
theorem hKeys {w : World} {p0 : Option Addr} {n0 c0 : Nat} {es : List Ev} (er : ERd w p0 n0 c0 es) (hb : n0 ≤ 1500000000000) (ck : ∀ e ∈ es, strF e.key) : Calls Tryz.prog 15 #[.slice p0 n0 c0] w (RetKy fun p n _ ks w' => KY w w' es p n ks) := by
  have C38 : Hid (Calls Tryz.prog 38 #[.slice p0 n0 c0, .func (.func 39) #[] #[]] w fun o w' => ∃ mb, o = .returned (.map (some mb)) ∧ Hid (GT w es mb n0 w')) := hGrouS er hb ck
  have H : Hid (es.length = n0 ∧ n0 ≤ 1500000000000) := ⟨er.len, hb⟩
  clear er hb ck
  refine (callsIn_wide (n := 6)).1 ?_
  have hfK : Fence.wide.fn 37 := trivial
  have hfS : Fence.wide.fn 36 := trivial
  have hfG : Fence.wide.fn 38 := trivial
  refine callsIn_of_wp Tryz.func15 rfl trivial ?_ rfl
  simp only [Tryz.ntmps15, List.size_toArray, List.length_cons, List.length_nil, Nat.reduceAdd, Nat.reduceSub, Array.replicate_succ, Array.replicate_zero, List.push_toArray, List.append_toArray, List.nil_append, List.cons_append]
  gi_wp2_with (first
    | (gi_at_call 38; refine (callsIn_wide.2 C38.out).mono ?_; rintro e w1 ⟨mb, rfl, G⟩))
  obtain ⟨n, Mp, ⟨D, ho, sy, en⟩, hn, h1, h2, h3⟩ := G.out.ok
  have etk : es.take n0 = es := by rw [← H.out.1, List.take_length]
  rw [etk] at h1 h2
  have HD : Hid (w1.ownsMap Tryz.prog 9 RSl mb n D ∧ Says strL strF Sl.v D Mp ∧ Maps.size D = n ∧ n ≤ n0 ∧ (∀ k, Mp k = none → placesS es k = []) ∧ (∀ k s, Mp k = some s → s.n = (placesS es k).length ∧ 0 < s.n) ∧ Kept (fun _ => False) w w1) := ⟨ho, sy, en, hn, h1, fun k s hs => ⟨(h2 k s hs).2.1, (h2 k s hs).2.2.2⟩, G.out.kept⟩
  clear ho sy en hn h1 h2 h3 etk G C38
  refine (Tryz.maps_Keys_37 _ _).mono ?_
  rintro e w' ⟨rfl, rfl⟩
  gi_wp2_with (first | fail)
  refine (Tryz.slices_Sorted_keys_36_37 mb n D RSl w1 HD.out.1 (by have h3 := HD.out.2.2.1; have h4 := HD.out.2.2.2.1; have h5 := H.out.2; unfold maxLen; omega) (by have h3 := HD.out.2.2.1; have h4 := HD.out.2.2.2.1; have h5 := H.out.2; omega)).mono ?_
  rintro e w2 ⟨v, ss, rfl, hS, hrow, _, hbl⟩
  have KW : Kept (fun _ => False) w w2 := (HD.out.2.2.2.2.2.2.alloc _).trans (kept_below hbl) (fun _ _ z => z)
  have N : Hid (RetKy (fun p n _ ks w' => KY w w' es p n ks) (.returned v) w2) := keys_ky H.out.1 HD.out.1 HD.out.2.1 HD.out.2.2.1 HD.out.2.2.2.1 HD.out.2.2.2.2.1 HD.out.2.2.2.2.2.1 hS hrow KW
  clear hS hrow hbl KW HD
  gi_wp2_with (first | fail)
  go_ret
  exact N.out
end Go.Proofs.YtbangbobfeflcaaGreatDoor
