import Derived.Test.YtodmakcklacbfaaPSorted
import Derived.Shelf.SlSortCmp.Whole1
namespace Go.Proofs.Ytodmakcklacbfaa
open Go.RowKit Go.Shelf Go.Lib Go.Sort

set_option maxRecDepth 100000 in
set_option maxHeartbeats 4000000 in
theorem len0 (w : World) : Calls Try.prog 86 #[.int .u64 0] w fun o w' => (∃ r : Int, o = .returned (.int .i64 r)) ∧ w' = w := by
  go_enter Try.func86, Try.ntmps86
  go_wp2_with (go_in)
  go_ret
  exact ⟨⟨_, rfl⟩, rfl⟩
set_option maxRecDepth 100000 in
set_option maxHeartbeats 4000000 in
theorem ins0 (q : Option Addr) (c : Nat) (cv : Value) (w : World) : Calls Try.prog 92 #[.slice q 0 c, .int .i64 0, .int .i64 0, cv] w fun o w' => o = .returned (.tuple #[]) ∧ w' = w := by
  go_enter Try.func92, Try.ntmps92
  go_wp2_with fail
  refine wp_loop_rounds 1 ?_
  rw [rounds_succ]
  go_wp2_with fail
  go_end0
  exact ⟨rfl, rfl⟩
set_option maxRecDepth 100000 in
set_option maxHeartbeats 4000000 in
theorem pdq0 (q : Option Addr) (c : Nat) (lim : Int) (cv : Value) (w : World) : Calls Try.prog 85 #[.slice q 0 c, .int .i64 0, .int .i64 0, .int .i64 lim, cv] w fun o w' => o = .returned (.tuple #[]) ∧ w' = w := by
  go_enter Try.func85, Try.ntmps85
  go_wp2_with fail
  refine wp_loop_rounds 1 ?_
  rw [rounds_succ]
  go_wp2_with (go_at_call 92; refine (ins0 _ _ _ _).mono ?_; rintro e w' ⟨rfl, rfl⟩)
  (try simp only [Exit.inBlock, Exit.then]); refine bodyPost_ret (results_none rfl _ _ _) rfl ?_
  exact ⟨rfl, rfl⟩
set_option maxRecDepth 100000 in
set_option maxHeartbeats 4000000 in
theorem sort0 (q : Option Addr) (c : Nat) (cv : Value) (w : World) : Calls Try.prog 62 #[.slice q 0 c, cv] w fun o w' => o = .returned (.tuple #[]) ∧ w' = w := by
  go_enter Try.func62, Try.ntmps62
  go_wp2_with (first | (go_at_call 86; refine (len0 _).mono ?_; rintro e w' ⟨⟨r, rfl⟩, rfl⟩) | (go_at_call 85; refine (pdq0 _ _ _ _ _).mono ?_; rintro e w' ⟨rfl, rfl⟩))
  go_end0
  exact ⟨rfl, rfl⟩
end Go.Proofs.Ytodmakcklacbfaa

namespace Go.Proofs.Ytodmakcklacbfaa
open Go.RowKit Go.Shelf Go.Lib Go.Sort

theorem ex_fin {N : Nat} : ∀ {R : List Nat}, (∀ x ∈ R, x < N) → ∃ L : List (Fin N), L.map (fun i => i.val) = R
  | [], _ => ⟨[], rfl⟩
  | x :: R, h => by
    obtain ⟨L, hL⟩ := ex_fin (R := R) (fun y hy => h y (List.mem_cons_of_mem _ hy))
    exact ⟨⟨x, h x List.mem_cons_self⟩ :: L, by rw [List.map_cons, hL]⟩
theorem intsN_at {R : List Nat} {j : Nat} : (intsN R)[j]? = (R[j]?).map fun x : Nat => Value.int .i64 (x : Int) := by
  unfold intsN
  rw [List.getElem?_map]
theorem put_ints {N : Nat} [Inhabited (Fin N)] {d : Array (Fin N)} {cur : Array Value} (h : d.size ≤ cur.size) : (putCells encF 0 d cur).toList.take d.size = intsN (d.toList.map fun i => i.val) := by
  apply List.ext_getElem?
  intro j
  rw [intsN_at]
  by_cases hj : j < d.size
  · rw [List.getElem?_take_of_lt hj]
    unfold putCells
    rw [Array.getElem?_toList, Array.getElem?_mapIdx]
    have hc : j < cur.size := by omega
    simp [hc, hj, encF]
  · rw [List.getElem?_eq_none (by rw [List.length_take]; omega), List.getElem?_eq_none (by simp; omega)]
    rfl
set_option maxHeartbeats 1000000 in
theorem sortsBy {w : World} {n : Nat} {ms : List Cm} (hn : ms.length = n) {gc : Nat} {cb : Array Value} (cf : Fin ms.length → Fin ms.length → Int) (swo : SWO (ltOf cf)) {Lt : Nat → Nat → Prop} (lt : ∀ x y : Fin ms.length, ltOf cf x y = true ↔ Lt x y) (eg : ∀ args w, (callFunc gc args).run Try.prog w = .ok (.enter gc args) w)
    (lays : ∀ [Inhabited (Fin ms.length)] (V : World) (blk off size : Nat), Kept (fun _ => False) w V → w.heap.size ≤ blk → CmpLays1 Try.prog gc cb encF cf blk off size V) : SortsBy w (.func (.func gc) #[] cb) n Lt := by
  intro V q k c R nr K hR kb
  by_cases k0 : k = 0
  · have e0 : R = [] := List.length_eq_zero_iff.1 (by rw [nr.len]; exact k0)
    subst k0
    refine (sort0 q c _ V).mono ?_
    rintro o w' ⟨rfl, rfl⟩
    exact ⟨rfl, R, List.Perm.refl _, by rw [e0]; exact List.Pairwise.nil, nr, K⟩
  · rcases nr.row.2 with ⟨_, hk⟩ | ⟨g, cap, cur, e, hg1, hg, hk1, hk2, hk3, hk4⟩
    · exact absurd hk k0
    · have e : Value.slice q k c = .slice (some ⟨g, 0, none⟩) k cap := e
      injection e with e1 _ e3
      subst e1
      subst e3
      obtain ⟨L, hL⟩ := ex_fin (N := ms.length) (R := R) (by rw [hn]; exact hR)
      have hl : L.length = k := by rw [← nr.len, ← hL, List.length_map]
      haveI : Inhabited (Fin ms.length) := ⟨L.head (fun z => k0 (by rw [← hl, z]; rfl))⟩
      have hc : cur.size = c := by omega
      have hk2' := hk2
      unfold maxLen at hk2'
      have hH : Holds encF V g 0 L.toArray := by
        intro j hj
        have hj2 : j < L.length := by simpa using hj
        refine ⟨?_, soft_blk hg _⟩
        refine cell_blk hg _ ?_
        rw [Nat.zero_add]
        have h1 : (cur.toList.take (k * 1))[j]? = (intsN R)[j]? := by rw [hk4]
        rw [List.getElem?_take_of_lt (by omega), Array.getElem?_toList, intsN_at, ← hL, List.getElem?_map, List.getElem?_eq_getElem hj2] at h1
        rw [h1]
        simp [encF, hj2]
      have hcon := Any.slices_SortFunc Try.sortI encF (fun _ => rfl) cf swo gc cb g 0 c L.toArray V eg (lays V g 0 _ K hg1) hH (block_lt hg) (by simp; omega)
      change Calls Try.prog 62 _ _ _ at hcon
      rw [List.size_toArray, hl] at hcon
      refine hcon.mono ?_
      rintro o w' ⟨rfl, d', m, os, ⟨hp1, _, hp⟩, hs, rfl⟩
      have hsz : d'.size = k := by rw [hp1, List.size_toArray, hl]
      have e1 : d'.extract 0 k = d' := by rw [← hsz]; exact Array.extract_size
      have e2 : L.toArray.extract 0 k = L.toArray := by rw [show k = L.toArray.size by rw [List.size_toArray]; exact hl.symm]; exact Array.extract_size
      rw [e1, e2] at hp
      have P : d'.toList.Perm L := by simpa using hp
      have SK := sort_kept encF V g 0 m d' os
      refine ⟨rfl, d'.toList.map (fun i => i.val), by rw [← hL]; exact P.map _, ?_, ⟨by simp [hsz], ⟨?_, .inr ⟨g, c, putCells encF 0 d' cur, rfl, hg1, sort_heap encF V g 0 m d' os hg, hk1, hk2, ?_, ?_⟩⟩⟩, K.trans SK (fun j hj z => ?_)⟩
      · rw [List.pairwise_map]
        refine List.pairwise_iff_getElem.2 (fun i j hi hj hij z => ?_)
        have hi' : i < d'.size := by simpa using hi
        have hj' : j < d'.size := by simpa using hj
        have h := hs i j (Nat.zero_le _) hij (by omega)
        rw [getElem!_pos d' j hj', getElem!_pos d' i hi'] at h
        have h2 := (lt d'[j] d'[i]).2 (by simpa using z)
        rw [h] at h2
        cases h2
      · simp [intsN, hsz]
      · unfold putCells
        rw [Array.size_mapIdx]
        exact hk3
      · have := put_ints (d := d') (cur := cur) (by omega)
        rw [hsz] at this
        rw [Nat.mul_one]
        exact this
      · have z : j = g := z
        omega
theorem sortsF {w : World} {p : Option Addr} {n c : Nat} {ms : List Cm} (h : CRd w p n c ms) {CB : Nat} (c1 : w.cell? ⟨CB, 0, none⟩ = some (.slice p n c)) : SortsBy w (.func (.func 29) #[] #[.pointer (some ⟨CB, 0, none⟩)]) n (FromLt ms) :=
  sortsBy h.len (cfF ms) (swoF ms) cfF_lt (enters_of Try.func29 (by kernel_rfl) rfl) (fun V blk off size K hb => laysF h c1 K hb off size)
theorem sortsT {w : World} {p : Option Addr} {n c : Nat} {ms : List Cm} (h : CRd w p n c ms) {CB FB : Nat} (c1 : w.cell? ⟨CB, 0, none⟩ = some (.slice p n c)) (c2 : w.cell? ⟨FB, 0, none⟩ = some (.func (.func 29) #[] #[.pointer (some ⟨CB, 0, none⟩)])) : SortsBy w (.func (.func 32) #[] #[.pointer (some ⟨CB, 0, none⟩), .pointer (some ⟨FB, 0, none⟩)]) n (TagLt ms) :=
  sortsBy h.len (cfT ms) (swoT ms) cfT_lt (enters_of Try.func32 (by kernel_rfl) rfl) (fun V blk off size K hb => laysT h c1 c2 K hb off size)
end Go.Proofs.Ytodmakcklacbfaa

namespace Go.Proofs.Ytodmakcklacbfaa
open Go.RowKit Go.Shelf Go.Lib Go.Sort

set_option maxRecDepth 100000 in
/-- Has a call another tag? -/
theorem closure65 {w : World} {p : Option Addr} {n c : Nat} {ms : List Cm} (h : CRd w p n c ms) {CB TB : Nat} {tx ty : Int} (c1 : w.cell? ⟨CB, 0, none⟩ = some (.slice p n c)) (t0 : w.cell? ⟨TB, 0, none⟩ = some (.int .i64 tx)) (t1 : w.cell? ⟨TB, 1, none⟩ = some (.int .i64 ty)) {i : Nat} {m : Cm} (hi : ms[i]? = some m) :
    Calls Try.prog 65 #[.int .i64 (i : Int), .pointer (some ⟨CB, 0, none⟩), .pointer (some ⟨TB, 0, none⟩)] w fun o w' => o = .returned (.bool (!decide (m.tx = tx ∧ m.ty = ty))) ∧ Kept (fun _ => False) w w' := by
  have hin : i < n := by rw [← h.len]; exact (List.getElem?_eq_some_iff.1 hi).1
  have rm := h.room
  have sm := h.small
  unfold maxLen at sm
  obtain ⟨b, off, m2, rfl, hm2, _, _, _, _, _, _, _, _, _, d1, d2, _⟩ := h.at hin
  rw [hi] at hm2
  have hm2 := Option.some.inj hm2
  subst hm2
  have i1 : (i : Int) < (n : Int) := by omega
  have i0 : (0 : Int) ≤ (i : Int) := by omega
  obtain ⟨x1, hx1⟩ : ∃ x, x = m.tx := ⟨_, rfl⟩
  obtain ⟨x2, hx2⟩ : ∃ x, x = m.ty := ⟨_, rfl⟩
  rw [← hx1] at d1 ⊢
  rw [← hx2] at d2 ⊢
  clear h hi hx1 hx2
  by_cases e1 : x1 = tx
  · by_cases e2 : x2 = ty
    · subst e1
      subst e2
      go_enter Try.func65, Try.ntmps65
      go_upto_region 1 with fail
      go_quiet (fail)
      go_wp2_with fail
      go_ret
      exact ⟨by simp, (Kept.refl _ _).drewN _⟩
    · subst e1
      go_enter Try.func65, Try.ntmps65
      go_upto_region 1 with fail
      go_quiet (fail)
      go_wp2_with fail
      go_ret
      exact ⟨by simp, (Kept.refl _ _).drewN _⟩
  · go_enter Try.func65, Try.ntmps65
    go_upto_region 1 with fail
    go_quiet (fail)
    go_wp2_with fail
    go_ret
    exact ⟨by simp, (Kept.refl _ _).drewN _⟩
/-- Where the first one stands. -/
def FirstAt (P : Int → Bool) (R : List Int) (a : Int) : Prop := (a = -1 ∧ ∀ x ∈ R, P x = false) ∨ ∃ (j : Nat) (x : Int), a = (j : Int) ∧ R[j]? = some x ∧ P x = true ∧ ∀ y ∈ R.take j, P y = false
set_option maxRecDepth 100000 in
set_option maxHeartbeats 4000000 in
theorem index65 {w : World} {q : Option Addr} {k kc : Nat} {R : List Int} (ir : IRd w q k kc R) {CB TB : Nat} (P : Int → Bool) (CC : ∀ x ∈ R, ∀ V, Kept (fun _ => False) w V → Calls Try.prog 65 #[.int .i64 x, .pointer (some ⟨CB, 0, none⟩), .pointer (some ⟨TB, 0, none⟩)] V fun o w' => o = .returned (.bool (P x)) ∧ Kept (fun _ => False) V w') :
    Calls Try.prog 64 #[.slice q k kc, .func (.func 65) #[] #[.pointer (some ⟨CB, 0, none⟩), .pointer (some ⟨TB, 0, none⟩)]] w fun o w' => ∃ a : Int, o = .returned (.int .i64 a) ∧ Hid (FirstAt P R a ∧ Kept (fun _ => False) w w') := by
  have rk := ir.room
  have sk := ir.small
  unfold maxLen at sk
  have H : Hid (IRd w q k kc R ∧ ∀ x ∈ R, ∀ V, Kept (fun _ => False) w V → Calls Try.prog 65 #[.int .i64 x, .pointer (some ⟨CB, 0, none⟩), .pointer (some ⟨TB, 0, none⟩)] V fun o w' => o = .returned (.bool (P x)) ∧ Kept (fun _ => False) V w') := ⟨ir, CC⟩
  have S0 : Hid ((∀ y ∈ R.take 0, P y = false) ∧ Kept (fun _ => False) w w) := ⟨fun r hr => by simp at hr, Kept.refl _ _⟩
  clear ir CC
  go_enter Try.func64, Try.ntmps64
  go_wp2_with fail
  go_loopw [5, 8] (fun _ u8 wr => ∃ (j : Nat), u8 = .int .i64 (j : Int) ∧ j ≤ k ∧ Hid ((∀ y ∈ R.take j, P y = false) ∧ Kept (fun _ => False) w wr)) (fun _ u8 _ => k - (intOf u8).toNat)
  case atStart => exact ⟨0, rfl, Nat.zero_le _, S0⟩
  case round =>
    obtain ⟨j, rfl, hj, S⟩ := hrel
    clear S0
    by_cases hlt : j < k
    · have j1 : (j : Int) < (k : Int) := by omega
      obtain ⟨g, off, r, rfl, hr, cr⟩ := (H.out.1.k0 S.out.2).at hlt
      obtain ⟨eq, heq⟩ : ∃ eq, P r = eq := ⟨_, rfl⟩
      have CC : Hid (Calls Try.prog 65 #[.int .i64 r, .pointer (some ⟨CB, 0, none⟩), .pointer (some ⟨TB, 0, none⟩)] wr fun o w' => o = .returned (.bool eq) ∧ Kept (fun _ => False) wr w') := by
        rw [← heq]
        exact H.out.2 r (List.mem_of_getElem? hr) wr S.out.2
      have HE : Hid (P r = eq ∧ R[j]? = some r) := ⟨heq, hr⟩
      clear heq hr
      go_wp2_with fail
      refine CC.out.mono ?_
      rintro o w2 ⟨rfl, K2⟩
      have K3 : Hid (Kept (fun _ => False) w w2) := S.out.2.trans K2 (fun _ _ z => z.elim)
      clear K2 CC cr
      cases eq
      · have N : Hid (∀ y ∈ R.take (j + 1), P y = false) := by
          intro s hs
          rw [List.take_add_one, HE.out.2] at hs
          rcases List.mem_append.1 hs with z | z
          · exact S.out.1 s z
          · have z : s = r := by simpa using z
            rw [z]
            exact HE.out.1
        clear S
        go_wp2_with fail
        go_roundw
        case rel => exact ⟨j + 1, by go_num, by omega, N.out, K3.out⟩
        case measure => simp [intOf] <;> omega
      · have G : Hid (FirstAt P R (j : Int)) := .inr ⟨j, r, rfl, HE.out.2, HE.out.1, S.out.1⟩
        clear S
        go_wp2_with fail
        go_ret
        exact ⟨(j : Int), rfl, G.out, K3.out⟩
    · have j1 : ¬ (j : Int) < (k : Int) := by omega
      have G : Hid (FirstAt P R (-1) ∧ Kept (fun _ => False) w wr) := by
        refine ⟨.inl ⟨rfl, ?_⟩, S.out.2⟩
        have := S.out.1
        rw [List.take_of_length_le (by rw [H.out.1.len]; omega)] at this
        exact this
      clear S
      go_wp2_with fail
      go_ret
      exact ⟨-1, rfl, G⟩
end Go.Proofs.Ytodmakcklacbfaa
