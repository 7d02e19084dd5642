import Derived.Test.YtodmakcklacbfaaPDelWJ
namespace Go.Proofs.Ytodmakcklacbfaa
open Go.RowKit Go.Shelf Go.Lib Go.Sort

/-- Two rows of numbers, each in memory of its own. -/
structure PG (w0 w : World) (A B : List Nat) (p : Option Addr) (k1 c1 : Nat) (q : Option Addr) (k2 c2 : Nat) : Prop where
  a : NRow w0.heap.size w p k1 c1 A
  b : NRow w0.heap.size w q k2 c2 B
  apart : ∀ j, blockOf p = some j → ¬ blockOf q = some j
  kept : Kept (fun _ => False) w0 w
theorem PG.nil (w : World) {w0 : World} (K : Kept (fun _ => False) w0 w) : PG w0 w [] [] none 0 0 none 0 0 := ⟨NRow.nil _ _, NRow.nil _ _, fun j z => (by cases z), K⟩
theorem PG.swap {w0 w : World} {A B : List Nat} {p : Option Addr} {k1 c1 : Nat} {q : Option Addr} {k2 c2 : Nat} (h : PG w0 w A B p k1 c1 q k2 c2) : PG w0 w B A q k2 c2 p k1 c1 := ⟨h.b, h.a, fun j z y => h.apart j y z, h.kept⟩
theorem PG.k0 {w0 w w' : World} {A B : List Nat} {p : Option Addr} {k1 c1 : Nat} {q : Option Addr} {k2 c2 : Nat} (h : PG w0 w A B p k1 c1 q k2 c2) (K : Kept (fun _ => False) w w') : PG w0 w' A B p k1 c1 q k2 c2 := ⟨h.a.k0 K, h.b.k0 K, h.apart, h.kept.trans K (fun _ _ z => z)⟩
theorem PG.add {w0 w wi w9 : World} {A B : List Nat} {p p9 : Option Addr} {k1 c1 c9 : Nat} {q : Option Addr} {k2 c2 i : Nat} {o : Obj} (h : PG w0 w A B p k1 c1 q k2 c2) (ho : w9.ownsRow w0.heap.size 3 1 (.slice p9 (k1 + 1) c9) (k1 + 1) (intsN A ++ intsN [i])) (e : wi = w.alloc o) (hg : wi.grownBy w9 (Value.slice p k1 c1).ownBlock)
    (hn : (Value.slice p9 (k1 + 1) c9).ownBlock = (Value.slice p k1 c1).ownBlock ∨ ((Value.slice p9 (k1 + 1) c9).ownBlock = some wi.heap.size ∧ wi.grownBy w9 none)) : PG w0 w9 (A ++ [i]) B p9 (k1 + 1) c9 q k2 c2 := by
  have m := h.a.more ho e hg h.kept (Nat.le_refl _)
  have KG : Kept (fun j => blockOf p = some j) w w9 := by
    rw [e] at hg
    exact ((Kept.refl (fun j => blockOf p = some j) w).alloc _).grown hg (fun j _ z => by rw [blockOf_own] at z; exact z)
  refine ⟨m.1, h.b.off KG (fun j z y => h.apart j y z), fun j z y => ?_, m.2⟩
  rw [blockOf_own, blockOf_own] at hn
  rcases hn with hn | ⟨hn, _⟩
  · rw [hn] at z
    exact h.apart j z y
  · rw [hn] at z
    have z : wi.heap.size = j := Option.some.inj z
    have := (own_lt h.b.row j y).2
    rw [e] at z
    simp at z
    omega
/-- The map without a key. -/
def delM {κ ε : Type} [DecidableEq κ] (M : κ → Option ε) (k : κ) : κ → Option ε := fun j => if j = k then none else M j
theorem Says.del {κ ε : Type} [DecidableEq κ] {T K E : TypeId} {kv : κ → Value} {kl : κ → Lit} {KF : κ → Prop} {ev : ε → Value} {z : ε} {RD : Value → Option (DataW Value × List MemPlace)} (X : MK T K E kv kl KF ev z RD) {D : DataW Value} {M : κ → Option ε} (h : Says kl KF ev D M) {k : κ} (hk : KF k) : Says kl KF ev (D.del (kl k)) (delM M k) := by
  refine ⟨fun j hj d => ?_, fun j e' he => ?_⟩
  · unfold delM
    by_cases ej : j = k
    · rw [if_pos ej, ej]
      exact Maps.atKey_del_same _
    · rw [if_neg ej, Maps.atKey_del_other (fun q => ej (X.inj j k hj hk q))]
      exact h.1 j hj d
  · unfold delM at he
    by_cases ej : j = k
    · rw [if_pos ej] at he
      cases he
    · rw [if_neg ej] at he
      exact h.2 j e' he
theorem owns_le {K : TypeId} {RD : Value → Option (DataW Value × List MemPlace)} {w : World} {b n : Nat} {D : DataW Value} (h : w.ownsMap Try.prog K RD b n D) : Maps.size D ≤ n := by
  obtain ⟨es, clock, hb, F, hs, e⟩ := h
  rw [e, Maps.size_eq, length_sorted]
  simpa using hs
/-- 'delete(m, k)'. -/
theorem wpList_del {κ ε : Type} [DecidableEq κ] {T K E : TypeId} {kv : κ → Value} {kl : κ → Lit} {KF : κ → Prop} {ev : ε → Value} {z : ε} {RD : Value → Option (DataW Value × List MemPlace)} (X : MK T K E kv kl KF ev z RD) (w : World) {ops : Array Oper} {rest : List Oper} {o : Oper} {a : Act} {Q : Exit → Act → World → Prop} (hg : o.guard = none) (m x : Operand) (hop : o.op = Op.call { callee := Callee.builtin Builtin.delete, args := #[m, x], argTypes := #[T, K] }) (b n : Nat) (M : κ → Option ε)
    (hm : a.eval m = .map (some b)) (h : TM K kl KF ev RD w b n M) (k : κ) (hk : KF k) (hx : a.eval x = kv k)
    (hK : ∀ w', Hid (∃ n', TM K kl KF ev RD w' b n' (delM M k) ∧ n' ≤ n) → Hid (Kept (fun j => j = b) w w') → wpList Try.prog ops Q rest (a.put o.dst (.tuple #[])) w') : wpList Try.prog ops Q (o :: rest) a w := by
  obtain ⟨D, h, s, e0⟩ := h
  refine wpList_delete_own w hg m x T K hop E X.law X.und RD b n D hm h (kv k) (kl k) hx (X.key k hk) (fun w' h1 ht => hK w' ⟨_, ⟨_, owns_size h1, s.del X hk, rfl⟩, owns_le h1⟩ ((Kept.refl _ w).grown ht.grown (fun j _ q => by simp at q; exact q.symm)))
/-- What the calls of one tag bring. -/
def putsOf (ms : List Cm) (R : List Nat) : List Nat := R.filter fun r => match ms[r]? with | some m => m.put | none => false
def getsOf (ms : List Cm) (R : List Nat) : List Nat := R.filter fun r => !(match ms[r]? with | some m => m.put | none => false)
theorem parts_add {ms : List Cm} {R : List Nat} {j r : Nat} {m : Cm} (hr : R[j]? = some r) (hm : ms[r]? = some m) : (m.put = true → putsOf ms (R.take (j + 1)) = putsOf ms (R.take j) ++ [r] ∧ getsOf ms (R.take (j + 1)) = getsOf ms (R.take j)) ∧ (m.put = false → putsOf ms (R.take (j + 1)) = putsOf ms (R.take j) ∧ getsOf ms (R.take (j + 1)) = getsOf ms (R.take j) ++ [r]) := by
  unfold putsOf getsOf
  rw [List.take_add_one, hr, List.filter_append, List.filter_append]
  refine ⟨fun h => ⟨?_, ?_⟩, fun h => ⟨?_, ?_⟩⟩ <;> simp [hm, h]
end Go.Proofs.Ytodmakcklacbfaa

namespace Go.Proofs.Ytodmakcklacbfaa
open Go.RowKit Go.Shelf Go.Lib Go.Sort

set_option maxRecDepth 100000 in
set_option maxHeartbeats 4000000 in
theorem lEqual {w : World} {p q : Option Addr} {k c k' c' : Nat} {R S : List Int} (h1 : IRd w p k c R) (h2 : IRd w q k' c' S) : Calls Try.prog 20 #[.slice p k c, .slice q k' c'] w fun o w' => o = .returned (.bool (decide (R = S))) ∧ Kept (fun _ => False) w w' := by
  obtain ⟨v, hv⟩ : ∃ v, v = decide (R = S) := ⟨_, rfl⟩
  rw [← hv]
  have H : Hid (v = decide (R = S) ∧ IRd w p k c R ∧ IRd w q k' c' S) := ⟨hv, h1, h2⟩
  have r11 := h1.room
  have r12 := h1.small
  have r21 := h2.room
  have r22 := h2.small
  unfold maxLen at r12 r22
  clear h1 h2 hv
  go_enter Try.func20, Try.ntmps20
  by_cases hk : k = k'
  · subst hk
    have P0 : Hid (∀ j, j < 0 → R[j]? = S[j]?) := fun j hj => absurd hj (Nat.not_lt_zero _)
    go_wp2_with fail
    go_loopw [5] (fun u5 wr => ∃ i : Nat, u5 = .int .i64 (i : Int) ∧ i ≤ k ∧ Hid (Kept (fun _ => False) w wr) ∧ Hid (∀ j, j < i → R[j]? = S[j]?)) (fun u5 _ => k - (intOf u5).toNat)
    case atStart => exact ⟨0, rfl, Nat.zero_le _, Kept.refl _ _, P0⟩
    case round =>
      obtain ⟨i, rfl, hi, K, P⟩ := hrel
      clear P0
      by_cases hlt : i < k
      · have i1 : (i : Int) < (k : Int) := by omega
        obtain ⟨g, o1, r, rfl, hr, cr⟩ := (H.out.2.1.k0 K.out).at hlt
        obtain ⟨g', o2, s, rfl, hs, cs⟩ := (H.out.2.2.k0 K.out).at hlt
        have HR : Hid (R[i]? = some r ∧ S[i]? = some s) := ⟨hr, hs⟩
        clear hr hs
        by_cases e : r = s
        · subst e
          have P1 : Hid (∀ j, j < i + 1 → R[j]? = S[j]?) := fun j hj => by
            rcases Nat.lt_succ_iff_lt_or_eq.1 hj with z | z
            · exact P.out j z
            · rw [z, HR.out.1, HR.out.2]
          go_wp2_with fail
          go_region_held3 (fun w' => w'.cell? ⟨g, o1 + i, none⟩ = some (.int .i64 r) ∧ w'.cell? ⟨g', o2 + i, none⟩ = some (.int .i64 r)) (go_keep) (first | fail)
          go_wp2_with fail
          go_roundw
          case rel => exact ⟨i + 1, by go_num, by omega, K.out.drew, P1⟩
          case measure => simp [intOf] <;> omega
        · have hvF : v = false := by
            rw [H.out.1]
            refine decide_eq_false (fun z => e ?_)
            have := HR.out.1
            rw [z, HR.out.2] at this
            exact (Option.some.inj this).symm
          subst hvF
          have e1 : (r == s) = false := by simp [e]
          go_wp2_with fail
          go_region_held3 (fun w' => w'.cell? ⟨g, o1 + i, none⟩ = some (.int .i64 r) ∧ w'.cell? ⟨g', o2 + i, none⟩ = some (.int .i64 s)) (go_keep) (first | fail)
          go_wp2_with fail
          go_ret
          exact ⟨rfl, K.out.drew⟩
      · have i1 : ¬ (i : Int) < (k : Int) := by omega
        have hvT : v = true := by
          rw [H.out.1]
          refine decide_eq_true (List.ext_getElem? (fun j => ?_))
          by_cases hj : j < i
          · exact P.out j hj
          · rw [List.getElem?_eq_none (by have := H.out.2.1.len; omega), List.getElem?_eq_none (by have := H.out.2.2.len; omega)]
        subst hvT
        go_wp2_with fail
        go_ret
        exact ⟨rfl, K.out⟩
  · have hk2 : ((k : Int) == (k' : Int)) = false := by simp; omega
    have hvF : v = false := by
      rw [H.out.1]
      refine decide_eq_false (fun z => hk ?_)
      have h3 := H.out.2.1.len
      have h4 := H.out.2.2.len
      rw [z] at h3
      omega
    subst hvF
    go_wp2_with fail
    go_ret
    exact ⟨rfl, Kept.refl _ _⟩
end Go.Proofs.Ytodmakcklacbfaa

namespace Go.Proofs.Ytodmakcklacbfaa
open Go.RowKit Go.Shelf Go.Lib Go.Sort

/-- The law's mod. -/
theorem lMod (a : Int) (n : Nat) (h0 : 0 < n) (h1 : n < 4611686018427387904) (w : World) : Calls Try.prog 14 #[.int .i64 a, .int .i64 (n : Int)] w fun o w' => (∃ r : Nat, o = .returned (.int .i64 (r : Int)) ∧ r < n ∧ (r : Int) = a % (n : Int)) ∧ w' = w := by
  obtain ⟨t, ht⟩ : ∃ t, t = a.tmod (n : Int) := ⟨_, rfl⟩
  have hn : (n : Int) ≠ 0 := by omega
  have b1 : t < (n : Int) := by rw [ht]; exact Int.tmod_lt_of_pos a (by omega)
  have b2 : -(n : Int) < t := by
    rw [ht]
    exact Int.lt_tmod_of_pos a (by omega)
  have em : a % (n : Int) = if t < 0 then t + (n : Int) else t := by
    rw [ht]
    have e1 := Int.tmod_add_mul_tdiv a (n : Int)
    by_cases z : a.tmod (n : Int) < 0
    · rw [if_pos z]
      have : a = (a.tmod (n : Int) + (n : Int)) + (n : Int) * (a.tdiv (n : Int) - 1) := by rw [Int.mul_sub]; omega
      rw [this, Int.add_mul_emod_self_left]
      have e2 : a.tmod (n : Int) + (n : Int) + (n : Int) * (a.tdiv (n : Int) - 1) = a := this.symm
      rw [e2]
      exact Int.emod_eq_of_lt (by omega) (by omega)
    · rw [if_neg z]
      have : a % (n : Int) = (a.tmod (n : Int) + (n : Int) * a.tdiv (n : Int)) % (n : Int) := by rw [e1]
      rw [this, Int.add_mul_emod_self_left]
      exact Int.emod_eq_of_lt (by omega) (by rw [← ht]; exact b1)
  have pos : Hid (¬ t < 0 → ∃ r : Nat, Ending.returned (Value.int .i64 (a.tmod (n : Int))) = .returned (.int .i64 (r : Int)) ∧ r < n ∧ (r : Int) = a % (n : Int)) := fun z => by
    rw [em, if_neg z, ← ht]
    exact ⟨t.toNat, by rw [Int.toNat_of_nonneg (by omega)], by omega, by omega⟩
  have neg : Hid (t < 0 → ∃ r : Nat, Ending.returned (Value.int .i64 (a.tmod (n : Int) + (n : Int))) = .returned (.int .i64 (r : Int)) ∧ r < n ∧ (r : Int) = a % (n : Int)) := fun z => by
    rw [em, if_pos z, ← ht]
    exact ⟨(t + (n : Int)).toNat, by rw [Int.toNat_of_nonneg (by omega)], by omega, by omega⟩
  clear em
  go_enter Try.func14, Try.ntmps14
  go_wp2_with fail
  · go_ret
    exact ⟨neg.out (by omega), rfl⟩
  · go_ret
    exact ⟨pos.out (by omega), rfl⟩
end Go.Proofs.Ytodmakcklacbfaa

namespace Go.Proofs.Ytodmakcklacbfaa
open Go.RowKit Go.Shelf Go.Lib Go.Sort

/-- A row of numbers that is appended. -/
theorem NRow.src {b0 : Nat} {w : World} {p : Option Addr} {k c : Nat} {R : List Nat} (h : NRow b0 w p k c R) : Src Try.prog 1 22 (.slice p k c) k (intsN R) w := by
  have hl : (intsN R).length = k * 1 := by unfold intsN; rw [List.length_map, h.len]; omega
  have h1 : ∀ v ∈ intsN R, v.oneCell' = true := fun v hv => by
    obtain ⟨x, _, rfl⟩ := List.mem_map.1 hv
    rfl
  by_cases hk : 0 < k
  · obtain ⟨g, _, rfl, _, _⟩ := h.at hk
    refine Src.ofSlice w Try.underlying22 _ k c (intsN R) hl (fun j u hj => ?_) h1
    have hj2 : j < k := by
      have := (List.getElem?_eq_some_iff.1 hj).1
      omega
    obtain ⟨g', r, e, hr, cr⟩ := h.at hj2
    cases e
    rw [intsN_at, hr] at hj
    rw [Addr.add_none, Nat.zero_add, cr]
    simpa using hj
  · have h0 : k = 0 := by omega
    subst h0
    have hR : R = [] := List.length_eq_zero_iff.1 h.len
    subst hR
    cases p with
    | some ad => exact Src.ofSlice w Try.underlying22 ad 0 c [] rfl (fun j u hj => by simp at hj) (fun v hv => by simp at hv)
    | none => exact Src.ofNil w Try.underlying22 c
end Go.Proofs.Ytodmakcklacbfaa
