import Derived.Test.YtodmakcklacbfaaPDelW
namespace Go.Proofs.Ytodmakcklacbfaa
open Go.RowKit Go.Shelf Go.Lib Go.Sort

/-- Two rows of numbers, each in memory of its own. -/
structure PG (w0 w : World) (A B : List Nat) (p : Option Addr) (k1 c1 : Nat) (q : Option Addr) (k2 c2 : Nat) : Prop where
  a : NRow w0.heap.size w p k1 c1 A
  b : NRow w0.heap.size w q k2 c2 B
  apart : ∀ j, blockOf p = some j → ¬ blockOf q = some j
  kept : Kept (fun _ => False) w0 w
theorem PG.nil (w : World) {w0 : World} (K : Kept (fun _ => False) w0 w) : PG w0 w [] [] none 0 0 none 0 0 := ⟨NRow.nil _ _, NRow.nil _ _, fun j z => (by cases z), K⟩
theorem PG.swap {w0 w : World} {A B : List Nat} {p : Option Addr} {k1 c1 : Nat} {q : Option Addr} {k2 c2 : Nat} (h : PG w0 w A B p k1 c1 q k2 c2) : PG w0 w B A q k2 c2 p k1 c1 := ⟨h.b, h.a, fun j z y => h.apart j y z, h.kept⟩
theorem PG.k0 {w0 w w' : World} {A B : List Nat} {p : Option Addr} {k1 c1 : Nat} {q : Option Addr} {k2 c2 : Nat} (h : PG w0 w A B p k1 c1 q k2 c2) (K : Kept (fun _ => False) w w') : PG w0 w' A B p k1 c1 q k2 c2 := ⟨h.a.k0 K, h.b.k0 K, h.apart, h.kept.trans K (fun _ _ z => z)⟩
theorem PG.add {w0 w wi w9 : World} {A B : List Nat} {p p9 : Option Addr} {k1 c1 c9 : Nat} {q : Option Addr} {k2 c2 i : Nat} {o : Obj} (h : PG w0 w A B p k1 c1 q k2 c2) (ho : w9.ownsRow w0.heap.size 3 1 (.slice p9 (k1 + 1) c9) (k1 + 1) (intsN A ++ intsN [i])) (e : wi = w.alloc o) (hg : wi.grownBy w9 (Value.slice p k1 c1).ownBlock)
    (hn : (Value.slice p9 (k1 + 1) c9).ownBlock = (Value.slice p k1 c1).ownBlock ∨ ((Value.slice p9 (k1 + 1) c9).ownBlock = some wi.heap.size ∧ wi.grownBy w9 none)) : PG w0 w9 (A ++ [i]) B p9 (k1 + 1) c9 q k2 c2 := by
  have m := h.a.more ho e hg h.kept (Nat.le_refl _)
  have KG : Kept (fun j => blockOf p = some j) w w9 := by
    rw [e] at hg
    exact ((Kept.refl (fun j => blockOf p = some j) w).alloc _).grown hg (fun j _ z => by rw [blockOf_own] at z; exact z)
  refine ⟨m.1, h.b.off KG (fun j z y => h.apart j y z), fun j z y => ?_, m.2⟩
  rw [blockOf_own, blockOf_own] at hn
  rcases hn with hn | ⟨hn, _⟩
  · rw [hn] at z
    exact h.apart j z y
  · rw [hn] at z
    have z : wi.heap.size = j := Option.some.inj z
    have := (own_lt h.b.row j y).2
    rw [e] at z
    simp at z
    omega
/-- The map without a key. -/
def delM {κ ε : Type} [DecidableEq κ] (M : κ → Option ε) (k : κ) : κ → Option ε := fun j => if j = k then none else M j
theorem Says.del {κ ε : Type} [DecidableEq κ] {T K E : TypeId} {kv : κ → Value} {kl : κ → Lit} {KF : κ → Prop} {ev : ε → Value} {z : ε} {RD : Value → Option (DataW Value × List MemPlace)} (X : MK T K E kv kl KF ev z RD) {D : DataW Value} {M : κ → Option ε} (h : Says kl KF ev D M) {k : κ} (hk : KF k) : Says kl KF ev (D.del (kl k)) (delM M k) := by
  refine ⟨fun j hj d => ?_, fun j e' he => ?_⟩
  · unfold delM
    by_cases ej : j = k
    · rw [if_pos ej, ej]
      exact Maps.atKey_del_same _
    · rw [if_neg ej, Maps.atKey_del_other (fun q => ej (X.inj j k hj hk q))]
      exact h.1 j hj d
  · unfold delM at he
    by_cases ej : j = k
    · rw [if_pos ej] at he
      cases he
    · rw [if_neg ej] at he
      exact h.2 j e' he
theorem owns_le {K : TypeId} {RD : Value → Option (DataW Value × List MemPlace)} {w : World} {b n : Nat} {D : DataW Value} (h : w.ownsMap Try.prog K RD b n D) : Maps.size D ≤ n := by
  obtain ⟨es, clock, hb, F, hs, e⟩ := h
  rw [e, Maps.size_eq, length_sorted]
  simpa using hs
/-- 'delete(m, k)'. -/
theorem wpList_del {κ ε : Type} [DecidableEq κ] {T K E : TypeId} {kv : κ → Value} {kl : κ → Lit} {KF : κ → Prop} {ev : ε → Value} {z : ε} {RD : Value → Option (DataW Value × List MemPlace)} (X : MK T K E kv kl KF ev z RD) (w : World) {ops : Array Oper} {rest : List Oper} {o : Oper} {a : Act} {Q : Exit → Act → World → Prop} (hg : o.guard = none) (m x : Operand) (hop : o.op = Op.call { callee := Callee.builtin Builtin.delete, args := #[m, x], argTypes := #[T, K] }) (b n : Nat) (M : κ → Option ε)
    (hm : a.eval m = .map (some b)) (h : TM K kl KF ev RD w b n M) (k : κ) (hk : KF k) (hx : a.eval x = kv k)
    (hK : ∀ w', Hid (∃ n', TM K kl KF ev RD w' b n' (delM M k) ∧ n' ≤ n) → Hid (Kept (fun j => j = b) w w') → wpList Try.prog ops Q rest (a.put o.dst (.tuple #[])) w') : wpList Try.prog ops Q (o :: rest) a w := by
  obtain ⟨D, h, s, e0⟩ := h
  refine wpList_delete_own w hg m x T K hop E X.law X.und RD b n D hm h (kv k) (kl k) hx (X.key k hk) (fun w' h1 ht => hK w' ⟨_, ⟨_, owns_size h1, s.del X hk, rfl⟩, owns_le h1⟩ ((Kept.refl _ w).grown ht.grown (fun j _ q => by simp at q; exact q.symm)))
/-- What the calls of one tag bring. -/
def putsOf (ms : List Cm) (R : List Nat) : List Nat := R.filter fun r => match ms[r]? with | some m => m.put | none => false
def getsOf (ms : List Cm) (R : List Nat) : List Nat := R.filter fun r => !(match ms[r]? with | some m => m.put | none => false)
theorem parts_add {ms : List Cm} {R : List Nat} {j r : Nat} {m : Cm} (hr : R[j]? = some r) (hm : ms[r]? = some m) : (m.put = true → putsOf ms (R.take (j + 1)) = putsOf ms (R.take j) ++ [r] ∧ getsOf ms (R.take (j + 1)) = getsOf ms (R.take j)) ∧ (m.put = false → putsOf ms (R.take (j + 1)) = putsOf ms (R.take j) ∧ getsOf ms (R.take (j + 1)) = getsOf ms (R.take j) ++ [r]) := by
  unfold putsOf getsOf
  rw [List.take_add_one, hr, List.filter_append, List.filter_append]
  refine ⟨fun h => ⟨?_, ?_⟩, fun h => ⟨?_, ?_⟩⟩ <;> simp [hm, h]
end Go.Proofs.Ytodmakcklacbfaa
