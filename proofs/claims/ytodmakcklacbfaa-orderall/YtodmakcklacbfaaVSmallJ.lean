import Derived.Test.YtodmakcklacbfaaPChkS
import Derived.Test.YtodmakcklacbfaaPSmallJ
import Derived.Test.YtodmakcklacbfaaPExJ
namespace Go.Proofs.Ytodmakcklacbfaa
open Go.RowKit Go.Shelf Go.Lib Go.Sort

theorem tw_take {α : Type} (p : α → Bool) : ∀ (T : List α), T.take (T.takeWhile p).length = T.takeWhile p
  | [] => rfl
  | a :: T => by
    cases q : p a
    · rw [List.takeWhile_cons_of_neg (by rw [q]; decide)]
      rfl
    · rw [List.takeWhile_cons_of_pos q, List.length_cons, List.take_succ_cons, tw_take p T]
theorem tw_next {α : Type} (p : α → Bool) : ∀ (T : List α) (x : α), T[(T.takeWhile p).length]? = some x → p x = false
  | [], x, h => by simp at h
  | a :: T, x, h => by
    cases q : p a
    · rw [List.takeWhile_cons_of_neg (by rw [q]; decide)] at h
      have e : a = x := by simpa using h
      rw [← e]
      exact q
    · rw [List.takeWhile_cons_of_pos q, List.length_cons, List.getElem?_cons_succ] at h
      exact tw_next p T x h
theorem tw_mem {α : Type} (p : α → Bool) : ∀ (T : List α) (x : α), x ∈ T.takeWhile p → p x = true
  | [], x, h => by simp at h
  | a :: T, x, h => by
    cases q : p a
    · rw [List.takeWhile_cons_of_neg (by rw [q]; decide)] at h
      cases h
    · rw [List.takeWhile_cons_of_pos q] at h
      rcases List.mem_cons.1 h with z | z
      · rw [z]; exact q
      · exact tw_mem p T x z
theorem alike_of {ms : List Cm} {r : Nat} {T : List Nat} (lt : ∀ x ∈ r :: T, x < ms.length) : Alike ms (r :: T) (alikeN ms (r :: T)) := by
  have hr := lt r (by simp)
  have hm : ms[r]? = some ms[r] := List.getElem?_eq_getElem hr
  have es : alikeN ms (r :: T) = (T.takeWhile fun x => decide (tagAt ms x = tagAt ms r)).length + 1 := by
    show 1 + _ = _
    omega
  rw [es]
  refine ⟨by omega, ?_, r, ms[r], rfl, hm, fun x hx m hmx => ?_, fun x m hx hmx z => ?_⟩
  · rw [List.length_cons]
    have : (T.takeWhile fun x => decide (tagAt ms x = tagAt ms r)).length ≤ T.length := List.Sublist.length_le (List.takeWhile_sublist _)
    omega
  · rw [List.take_succ_cons, tw_take] at hx
    rcases List.mem_cons.1 hx with z | z
    · rw [z, hm] at hmx
      rw [← Option.some.inj hmx]
      exact ⟨rfl, rfl⟩
    · have := tw_mem _ _ _ z
      rw [tagAt_of hmx, tagAt_of hm] at this
      simpa using this
  · rw [List.getElem?_cons_succ] at hx
    have := tw_next _ _ _ hx
    rw [tagAt_of hmx, tagAt_of hm] at this
    simp at this
    exact this z.1 z.2
/-- All tags. -/
theorem bi_run {ms : List Cm} (fit : FitL ms) : ∀ (f : Nat) {left : List Nat} {M : Int → Option Int} {acc L : List Nat}, BI ms acc left M → left.length ≤ f → runX ms f left M acc = some L → ∃ M', BI ms L [] M'
  | 0, left, M, acc, L, h, hf, hr => by
    have e : left = [] := List.length_eq_zero_iff.1 (by omega)
    subst e
    rw [runX_nil] at hr
    rw [← Option.some.inj hr]
    exact ⟨M, h⟩
  | f + 1, [], M, acc, L, h, hf, hr => by
    rw [runX_nil] at hr
    rw [← Option.some.inj hr]
    exact ⟨M, h⟩
  | f + 1, r :: T, M, acc, L, h, hf, hr => by
    have lt : ∀ x ∈ r :: T, x < ms.length := fun x hx => by
      obtain ⟨m, hm, _⟩ := h.tel x hx
      exact (List.getElem?_eq_some_iff.1 hm).1
    have al := alike_of lt
    have hm : ms[r]? = some (ms[r]'(lt r (by simp))) := List.getElem?_eq_getElem _
    rw [runX_step lt al rfl hm] at hr
    cases q : oneX ms ((r :: T).take (alikeN ms (r :: T))) M (ms[r]'(lt r (by simp))).tx (ms[r]'(lt r (by simp))).ty with
    | none => rw [q] at hr; cases hr
    | some P =>
      rw [q] at hr
      refine bi_run fit f (h.step fit al rfl hm q) ?_ hr
      rw [List.length_drop]
      have := al.1
      simp only [List.length_cons] at hf ⊢
      omega
theorem fit_open {m : Cm} (h : m.fit = true) (ho : m.opn = true) : m.put = true := by
  cases q : m.put
  · have := fit_get h q
    rw [ho] at this
    cases this
  · rfl
theorem silM_is (ms : List Cm) : ∀ (i : Nat) (key p : Int), silM ms i key = some p → 0 ≤ p ∧ ∃ m, ms[p.toNat]? = some m ∧ m.opn = true ∧ m.tx = 0 ∧ m.ty = 0 ∧ m.client = key
  | 0, _, _, h => by cases h
  | i + 1, key, p, h => by
    cases q : ms[i]? with
    | none =>
      have e : silM ms (i + 1) = silM ms i := by
        show (match ms[i]? with | some m => if (m.opn && kIsZero m.tx m.ty) = true then upd (silM ms i) m.client (i : Int) else silM ms i | none => silM ms i) = _
        rw [q]
      rw [e] at h
      exact silM_is ms i key p h
    | some m =>
      rw [silM_add q] at h
      split at h
      · rename_i z
        unfold upd at h
        split at h
        · rename_i ek
          have h := Option.some.inj h
          rw [← h]
          rw [Bool.and_eq_true] at z
          have z2 := z.2
          unfold kIsZero at z2
          have z2 := of_decide_eq_true z2
          exact ⟨by omega, m, by rw [Int.toNat_natCast]; exact q, z.1, z2.1, z2.2, ek.symm⟩
        · exact silM_is ms i key p h
      · exact silM_is ms i key p h
theorem nums_at {P : Cm → Bool} {ms : List Cm} {x : Nat} : x ∈ numsK P ms ms.length ↔ ∃ m, ms[x]? = some m ∧ P m = true := by
  unfold numsK
  rw [List.mem_filter, List.mem_range]
  constructor
  · rintro ⟨h1, h2⟩
    have hm : ms[x]? = some ms[x] := List.getElem?_eq_getElem h1
    rw [hm] at h2
    exact ⟨_, hm, h2⟩
  · rintro ⟨m, hm, h2⟩
    refine ⟨(List.getElem?_eq_some_iff.1 hm).1, ?_⟩
    rw [hm]
    exact h2
theorem bi_start {ms : List Cm} (fit : FitL ms) {RA RT : List Nat} (hA : SortOf ms absB (FromLt ms) RA) (hT : SortOf ms Cm.tells (TagLt ms) RT) : BI ms RA RT (silM ms ms.length) := by
  have fitm : ∀ (x : Nat) (m : Cm), ms[x]? = some m → m.fit = true := fun x m hx => (fit m (List.mem_of_getElem? hx)).2
  have nk : ∀ {P : Cm → Bool}, (numsK P ms ms.length).Nodup := List.Pairwise.filter _ List.nodup_range
  have memA : ∀ x, x ∈ RA ↔ ∃ m, ms[x]? = some m ∧ absB m = true := fun x => (hA.1.mem_iff).trans nums_at
  have memT : ∀ x, x ∈ RT ↔ ∃ m, ms[x]? = some m ∧ m.tells = true := fun x => (hT.1.mem_iff).trans nums_at
  have absb : ∀ m : Cm, absB m = true ↔ m.put = false ∧ 0 ≤ m.to ∧ m.st = 76 := fun m => by
    unfold absB
    simp [and_assoc]
  have row := gets_row ms (l := -1) (G := RA) (fun x hx => by
    obtain ⟨m, hm, ha⟩ := (memA x).1 hx
    obtain ⟨a1, a2, a3⟩ := (absb m).1 ha
    refine ⟨m, hm, a1, fun m' hm' => ?_⟩
    rw [hm] at hm'
    have em := Option.some.inj hm'
    subst em
    exact ⟨fun z => (by rw [a1] at z; cases z), fun _ _ => by omega, fun _ z => absurd a3 z⟩)
  refine ⟨hA.1.nodup_iff.2 nk, fun i hi => ?_, hT.1.nodup_iff.2 nk, fun x hx => (memT x).1 hx, hT.2, fun i hi hl => ?_, fun key p hp => ?_, fun key p hp hi => ?_, row.1, .inl row.2, fun i m hi hmu => ?_⟩
  · obtain ⟨m, hm, ha⟩ := (memA i).1 hi
    obtain ⟨a1, a2, a3⟩ := (absb m).1 ha
    refine ⟨m, hm, ?_⟩
    unfold Cl.part
    have e1 : m.cl.to = m.to := rfl
    have e2 : m.cl.st = m.st := rfl
    rw [e1, e2, a3]
    simp [a2]
  · obtain ⟨m, hm, ha⟩ := (memA i).1 hi
    obtain ⟨m', hm', ht⟩ := (memT i).1 hl
    rw [hm] at hm'
    have em := Option.some.inj hm'
    subst em
    obtain ⟨a1, a2, a3⟩ := (absb m).1 ha
    have := (tell_get (fitm i m hm) a1 ht).2.2
    rw [a3] at this
    cases this
  · obtain ⟨h0, m, hm, h1, h2, h3, h4⟩ := silM_is ms _ key p hp
    exact ⟨h0, m, hm, fit_open (fitm _ m hm) h1, h1, h2, h3, h4⟩
  · obtain ⟨h0, m, hm, h1, _⟩ := silM_is ms _ key p hp
    obtain ⟨m', hm', ha⟩ := (memA _).1 hi
    rw [hm] at hm'
    have em := Option.some.inj hm'
    subst em
    have := fit_open (fitm _ m hm) h1
    rw [((absb m).1 ha).1] at this
    cases this
  · have hf := fitm i m hi
    cases q : m.put
    · have ho := fit_get hf q
      have hp : m.cl.part = true := by unfold Cl.must at hmu; rw [Bool.and_eq_true] at hmu; exact hmu.1
      unfold Cl.part at hp
      have e0 : m.cl.put = m.put := rfl
      have e1 : m.cl.to = m.to := rfl
      have e2 : m.cl.st = m.st := rfl
      rw [e0, e1, e2, q] at hp
      simp at hp
      rcases hp.2 with s | s
      · right
        refine (memT i).2 ⟨m, hi, ?_⟩
        unfold Cm.tells
        rw [ho, q, s]
        simp [hp.1]
      · left
        exact (memA i).2 ⟨m, hi, (absb m).2 ⟨q, hp.1, s⟩⟩
    · right
      refine (memT i).2 ⟨m, hi, ?_⟩
      unfold Cm.tells
      rw [must_put hmu q, q]
      rfl
/-- What the order by tags is like. -/
structure TOk (ms : List Cm) (L : List Nat) : Prop where
  nd : L.Nodup
  pt : ∀ i ∈ L, ∃ m, ms[i]? = some m ∧ m.cl.part = true
  seq : SOk ms L (-1)
  must : ∀ i m, ms[i]? = some m → m.cl.must = true → i ∈ L
theorem by_ok {ms : List Cm} {L : List Nat} {e : Int} (h : ByT ms L e) : (e = 1 ∧ ¬ FitL ms ∧ L = []) ∨ (FitL ms ∧ e = 81 ∧ L = []) ∨ (FitL ms ∧ e = 0 ∧ TOk ms L) := by
  rcases h with h | ⟨fit, RA, RT, hA, hT, ⟨h1, _, h3⟩ | ⟨h1, h2⟩⟩
  · exact .inl h
  · exact .inr (.inl ⟨fit, h1, h3⟩)
  · obtain ⟨M', b⟩ := bi_run fit RT.length (bi_start fit hA hT) (Nat.le_refl _) h2
    exact .inr (.inr ⟨fit, h1, b.nd, b.pt, b.seq, fun i m hi hm => (b.must i m hi hm).resolve_right (by simp)⟩)
end Go.Proofs.Ytodmakcklacbfaa

namespace Go.Proofs.Ytodmakcklacbfaa
open Go.RowKit 

theorem reads_set {w : World} {B : Nat} {a : Option Addr} {n c : Nat} {l : List Nat} (r : Reads w a n c l) (hb : ∀ p : Addr, a = some p → p.block ≠ B) (i : Nat) (v : Value) : Reads (w.setCell ⟨B, i, none⟩ v) a n c l :=
  Reads.kept (S := fun j => j = B) ((Kept.refl (fun j => j = B) w).setCell (p := ⟨B, i, none⟩) (fun _ => rfl) v) r (fun p hp z => hb p hp z)
theorem kept_setv {w w' : World} (K : Kept (fun _ => False) w w') {B : Nat} (hb : w.heap.size ≤ B) (i : Nat) (v : Value) : Kept (fun _ => False) w (w'.setCell ⟨B, i, none⟩ v) := K.setCell (p := ⟨B, i, none⟩) (fun z => by have z : B < w.heap.size := z; omega) v
/-- 2 for a call that must be in, 1 for one that may be. -/
def Cm.pn (m : Cm) : Int := if m.cl.part = true then (if m.cl.open_ = true then 1 else 2) else 0
set_option maxRecDepth 100000 in
theorem tPart (m : Cm) (w : World) : Calls Try.prog 25 #[m.agg] w fun o w' => o = .returned (.int .i64 m.pn) ∧ Kept (fun _ => False) w w' := by
  obtain ⟨cl, op, pu, ke, va, vn, vc, st, fr, too, on, tx, ty, vl⟩ := m
  obtain ⟨r, hr⟩ : ∃ r, r = Cm.pn ⟨cl, op, pu, ke, va, vn, vc, st, fr, too, on, tx, ty, vl⟩ := ⟨_, rfl⟩
  rw [← hr]
  have E : r = if (pu || (decide (0 ≤ too) && (decide (st = 0) || decide (st = 76)))) = true then (if (pu && on) = true then 1 else 2) else 0 := hr
  clear hr
  unfold Cm.agg
  dsimp only
  obtain ⟨b2, h2⟩ : ∃ b, (st == 0) = b := ⟨_, rfl⟩
  obtain ⟨b3, h3⟩ : ∃ b, (st == 76) = b := ⟨_, rfl⟩
  have e2 : decide (st = 0) = b2 := h2
  have e3 : decide (st = 76) = b3 := h3
  rw [e2, e3] at E
  clear e2 e3
  go_enter Try.func25, Try.ntmps25
  cases pu
  · by_cases h1 : 0 ≤ too
    · have h1' : decide (0 ≤ too) = true := decide_eq_true h1
      rw [h1'] at E
      cases b2
      · cases b3
        · replace E : r = 0 := E
          subst E
          go_wp2_with fail
          go_ret
          exact ⟨rfl, (Kept.refl _ _).alloc _⟩
        · replace E : r = 2 := E
          subst E
          go_wp2_with fail
          go_ret
          exact ⟨rfl, (Kept.refl _ _).alloc _⟩
      · replace E : r = 2 := by rw [E]; rfl
        subst E
        go_wp2_with fail
        go_ret
        exact ⟨rfl, (Kept.refl _ _).alloc _⟩
    · have h1' : decide (0 ≤ too) = false := decide_eq_false h1
      rw [h1'] at E
      replace E : r = 0 := E
      subst E
      go_wp2_with fail
      go_ret
      exact ⟨rfl, (Kept.refl _ _).alloc _⟩
  · cases on
    · replace E : r = 2 := E
      subst E
      go_wp2_with fail
      go_ret
      exact ⟨rfl, (Kept.refl _ _).alloc _⟩
    · replace E : r = 1 := E
      subst E
      go_wp2_with fail
      go_ret
      exact ⟨rfl, (Kept.refl _ _).alloc _⟩
theorem pn_two {m : Cm} : m.pn = 2 ↔ m.cl.must = true := by
  unfold Cm.pn Cl.must
  cases m.cl.part <;> cases m.cl.open_ <;> simp
theorem pn_zero {m : Cm} : m.pn = 0 ↔ m.cl.part = false := by
  unfold Cm.pn
  cases m.cl.part <;> cases m.cl.open_ <;> simp
theorem pn_one {m : Cm} : m.pn = 1 ↔ m.cl.open_ = true := by
  unfold Cm.pn Cl.open_ Cl.part Cm.cl
  dsimp only
  cases m.put <;> cases m.opn <;> simp <;> split <;> simp
theorem pn_cases (m : Cm) : m.pn = 0 ∨ m.pn = 1 ∨ m.pn = 2 := by
  unfold Cm.pn
  cases m.cl.part <;> cases m.cl.open_ <;> simp
set_option maxRecDepth 100000 in
theorem tSame {w : World} {a c : Option Addr} {n nc m mc : Nat} {l k : List Nat} (ra : Reads w a n nc l) (rb : Reads w c m mc k) : Calls Try.prog 84 #[.slice a n nc, .slice c m mc] w fun o w' => o = .returned (.bool (decide (l = k))) ∧ Kept (fun _ => False) w w' := by
  obtain ⟨v, hv⟩ : ∃ v, v = decide (l = k) := ⟨_, rfl⟩
  rw [← hv]
  have H : Hid (v = decide (l = k) ∧ Reads w a n nc l ∧ Reads w c m mc k) := ⟨hv, ra, rb⟩
  have r1 := ra.room
  have r2 := rb.room
  have s1 := ra.small
  have s2 := rb.small
  unfold maxLen at s1 s2
  clear ra rb hv
  go_enter Try.func84, Try.ntmps84
  by_cases hnm : n = m
  · subst hnm
    have P0 : Hid (∀ j, j < 0 → l[j]? = k[j]?) := fun j hj => absurd hj (Nat.not_lt_zero _)
    go_wp2_with fail
    go_loopw [5, 13] (fun _ u13 wr => ∃ i : Nat, u13 = .int .i64 (i : Int) ∧ i ≤ n ∧ Hid (Kept (fun _ => False) w wr) ∧ Hid (∀ j, j < i → l[j]? = k[j]?)) (fun _ u13 _ => n - (intOf u13).toNat)
    case atStart => exact ⟨0, rfl, Nat.zero_le _, Kept.refl _ _, P0⟩
    case round =>
      obtain ⟨i, rfl, hi, K, P⟩ := hrel
      clear P0
      by_cases hlt : i < n
      · have i1 : (i : Int) < (n : Int) := by omega
        obtain ⟨ba, oa, rfl, ca⟩ := (Reads.kept K.out H.out.2.1 (fun _ _ z => z)).cells (by omega)
        obtain ⟨bb, ob, rfl, cb⟩ := (Reads.kept K.out H.out.2.2 (fun _ _ z => z)).cells (by omega)
        have c1 := ca i hlt
        have c2 := cb i hlt
        obtain ⟨x, hx⟩ : ∃ x, x = l.getD i 0 := ⟨_, rfl⟩
        obtain ⟨y, hy⟩ : ∃ y, y = k.getD i 0 := ⟨_, rfl⟩
        rw [← hx] at c1
        rw [← hy] at c2
        have HR : Hid (l[i]? = some x ∧ k[i]? = some y) := by
          have h1 : i < l.length := by rw [H.out.2.1.length]; exact hlt
          have h2 : i < k.length := by rw [H.out.2.2.length]; exact hlt
          rw [hx, hy, List.getD_eq_getElem?_getD, List.getD_eq_getElem?_getD, List.getElem?_eq_getElem h1, List.getElem?_eq_getElem h2]
          exact ⟨rfl, rfl⟩
        clear ca cb hx hy
        go_upto_region 6 with fail
        by_cases e : x = y
        · subst e
          go_quiet (fail)
          go_wp2_with fail
          go_roundw
          case rel =>
            refine ⟨i + 1, by go_num, by omega, K.out.drewN _, fun j hj => ?_⟩
            rcases Nat.lt_succ_iff_lt_or_eq.1 hj with z | z
            · exact P.out j z
            · rw [z, HR.out.1, HR.out.2]
          case measure => simp [intOf] <;> omega
        · have e1 : ((x : Int) == (y : Int)) = false := by simp; omega
          have hvF : v = false := by
            rw [H.out.1]
            refine decide_eq_false (fun z => e ?_)
            have := HR.out.1
            rw [z, HR.out.2] at this
            exact (Option.some.inj this).symm
          subst hvF
          go_quiet (fail)
          go_wp2_with fail
          go_ret
          exact ⟨rfl, K.out.drewN _⟩
      · have i1 : ¬ (i : Int) < (n : Int) := by omega
        have hvT : v = true := by
          rw [H.out.1]
          refine decide_eq_true (List.ext_getElem? (fun j => ?_))
          by_cases hj : j < i
          · exact P.out j hj
          · rw [List.getElem?_eq_none (by rw [H.out.2.1.length]; omega), List.getElem?_eq_none (by rw [H.out.2.2.length]; omega)]
        subst hvT
        go_wp2_with fail
        go_ret
        exact ⟨rfl, K.out⟩
  · have e1 : ((n : Int) == (m : Int)) = false := by simp; omega
    have hvF : v = false := by
      rw [H.out.1]
      refine decide_eq_false (fun z => hnm ?_)
      rw [← H.out.2.1.length, ← H.out.2.2.length, z]
    subst hvF
    go_wp2_with fail
    go_ret
    exact ⟨rfl, Kept.refl _ _⟩
end Go.Proofs.Ytodmakcklacbfaa
