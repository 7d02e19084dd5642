import Derived.Test.YtojfnehdanhgiaaRefD
namespace Go.Proofs.Ytojfnehdanhgiaa
open Go.RowKit

/-- A network, or none: its block and its list's. -/
def NSide (ty base : Nat) (w : World) (v : Value) (s : Option (Nat × Option Nat)) (ps : List Pk) : Prop := (s = none ∧ v = .pointer none) ∨ ∃ C g, s = some (C, g) ∧ v = .pointer (some ⟨C, 0, none⟩) ∧ NetOf ty base w C g ps
def FP (s : Option (Nat × Option Nat)) (k : Nat) : Prop := ∃ C g, s = some (C, g) ∧ (k = C ∨ g = some k)
theorem FP_none (k : Nat) : ¬ FP none k := fun ⟨_, _, e, _⟩ => by cases e
theorem FP_some {C : Nat} {g : Option Nat} {k : Nat} : FP (some (C, g)) k ↔ (k = C ∨ g = some k) := ⟨fun ⟨_, _, e, h⟩ => by cases e; exact h, fun h => ⟨_, _, rfl, h⟩⟩
/-- What a call on one of them moves. -/
structure SMv (w w' : World) (s s' : Option (Nat × Option Nat)) : Prop where
  kept : Kept (FP s) w w'
  near : ∀ k, FP s' k → FP s k ∨ w.heap.size ≤ k
  some : s.isSome = s'.isSome
theorem SMv.of_kept {w w' : World} (K : Kept (fun _ => False) w w') (s : Option (Nat × Option Nat)) : SMv w w' s s := ⟨K.mono (fun _ _ q => q.elim), fun _ h => .inl h, rfl⟩
theorem Mv.smv {w w' : World} {C : Nat} {g g' : Option Nat} (m : Mv w w' C g g') : SMv w w' (some (C, g)) (some (C, g')) :=
  ⟨m.kept.mono (fun k _ h => FP_some.2 h), fun k h => by
    rcases FP_some.1 h with z | z
    · exact .inl (FP_some.2 (.inl z))
    · rcases m.near k z with y | y
      · exact .inl (FP_some.2 (.inr y))
      · exact .inr y, rfl⟩
theorem NSide.fp {ty base : Nat} {w : World} {v : Value} {s : Option (Nat × Option Nat)} {ps : List Pk} (h : NSide ty base w v s ps) : ∀ k, FP s k → k < w.heap.size ∧ base ≤ k ∧ NotData w k := fun k hk => by
  rcases h with ⟨rfl, _⟩ | ⟨C, g, rfl, _, n⟩
  · exact (FP_none k hk).elim
  · rcases FP_some.1 hk with z | z
    · subst z; exact ⟨n.lt.1, n.lt.2, n.notdata k (.inl rfl)⟩
    · exact ⟨(n.glt k z).1, (n.glt k z).2, n.notdata k (.inr z)⟩
theorem NSide.kept {S : Nat → Prop} {ty base : Nat} {w w' : World} {v : Value} {s : Option (Nat × Option Nat)} {ps : List Pk} (h : NSide ty base w v s ps) (K : Kept S w w') (hs : ∀ k, FP s k → ¬ S k) (hn : ∀ k, k < w.heap.size → S k → NotData w k) : NSide ty base w' v s ps := by
  rcases h with h | ⟨C, g, rfl, rfl, n⟩
  · exact .inl h
  · exact .inr ⟨C, g, rfl, rfl, n.kept K (hs C (FP_some.2 (.inl rfl))) (fun k hk => hs k (FP_some.2 (.inr hk))) hn⟩
theorem NSide.kept0 {ty base : Nat} {w w' : World} {v : Value} {s : Option (Nat × Option Nat)} {ps : List Pk} (h : NSide ty base w v s ps) (K : Kept (fun _ => False) w w') : NSide ty base w' v s ps := h.kept K (fun _ _ q => q) (fun _ _ q => q.elim)
/-- Of none the answers are zero, and nothing happens. -/
def ansOf (s : Option (Nat × Option Nat)) (r : List Pk × Int) : Int := if s.isSome then r.2 else 0
def psOf (s : Option (Nat × Option Nat)) (r : List Pk × Int) (ps : List Pk) : List Pk := if s.isSome then r.1 else ps
/-- What one side's call leaves. -/
def SDid (ty base : Nat) (w : World) (v : Value) (s : Option (Nat × Option Nat)) (r : List Pk × Int) (ps : List Pk) (x : Ending) (w' : World) : Prop := ∃ s', x = .returned (.int .i64 (ansOf s r)) ∧ NSide ty base w' v s' (psOf s r ps) ∧ SMv w w' s s'
theorem side_did {ty base : Nat} {w : World} {v : Value} {s : Option (Nat × Option Nat)} {ps : List Pk} (f : FuncId) (A : Value → Array Value) (r : List Pk × Int) (h : NSide ty base w v s ps)
    (hnil : Calls Try.prog f (A (.pointer none)) w fun x w' => x = .returned (.int .i64 0) ∧ Kept (fun _ => False) w w')
    (hsome : ∀ C g, NetOf ty base w C g ps → Calls Try.prog f (A (.pointer (some ⟨C, 0, none⟩))) w fun x w' => ∃ v, x = .returned v ∧ Did ty base w C g r v w') :
    Calls Try.prog f (A v) w (SDid ty base w v s r ps) := by
  rcases h with ⟨rfl, rfl⟩ | ⟨C, g, rfl, rfl, n⟩
  · refine hnil.mono ?_
    rintro x w' ⟨rfl, K⟩
    exact ⟨none, rfl, .inl ⟨rfl, rfl⟩, SMv.of_kept K none⟩
  · refine (hsome C g n).mono ?_
    rintro x w' ⟨v, rfl, rfl, g', n', m⟩
    exact ⟨some (C, g'), rfl, .inr ⟨C, g', rfl, rfl, n'⟩, m.smv⟩
/-- Both sides, as they stand in w, having begun in w0. -/
structure ST (base : Nat) (w0 w : World) (vn vr : Value) (sn0 sr0 sn sr : Option (Nat × Option Nat)) (psn psr : List Pk) : Prop where
  net : NSide 67 base w vn sn psn
  ref : NSide 71 base w vr sr psr
  disj : ∀ k, FP sn k → ¬ FP sr k
  kept : Kept (fun k => FP sn0 k ∨ FP sr0 k) w0 w
  nearN : ∀ k, FP sn k → FP sn0 k ∨ w0.heap.size ≤ k
  nearR : ∀ k, FP sr k → FP sr0 k ∨ w0.heap.size ≤ k
  someN : sn0.isSome = sn.isSome
  someR : sr0.isSome = sr.isSome
  low : base ≤ w0.heap.size
theorem ST.base {base : Nat} {w0 w : World} {vn vr : Value} {sn0 sr0 sn sr : Option (Nat × Option Nat)} {psn psr : List Pk} (h : ST base w0 w vn vr sn0 sr0 sn sr psn psr) : base ≤ w.heap.size := Nat.le_trans h.low h.kept.size
theorem ST.quiet {base : Nat} {w0 w w' : World} {vn vr : Value} {sn0 sr0 sn sr : Option (Nat × Option Nat)} {psn psr : List Pk} (h : ST base w0 w vn vr sn0 sr0 sn sr psn psr) (K : Kept (fun _ => False) w w') : ST base w0 w' vn vr sn0 sr0 sn sr psn psr :=
  ⟨h.net.kept0 K, h.ref.kept0 K, h.disj, h.kept.trans K (fun _ _ q => q.elim), h.nearN, h.nearR, h.someN, h.someR, h.low⟩
theorem ST.netMv {base : Nat} {w0 w w' : World} {vn vr : Value} {sn0 sr0 sn sr sn' : Option (Nat × Option Nat)} {psn psr psn' : List Pk} (h : ST base w0 w vn vr sn0 sr0 sn sr psn psr) (m : SMv w w' sn sn') (n : NSide 67 base w' vn sn' psn') : ST base w0 w' vn vr sn0 sr0 sn' sr psn' psr := by
  refine ⟨n, h.ref.kept m.kept (fun k hk z => h.disj k z hk) (fun k _ z => (h.net.fp k z).2.2), fun k hk z => ?_, h.kept.trans m.kept (fun j hj z => ?_), fun k hk => ?_, h.nearR, h.someN.trans m.some, h.someR, h.low⟩
  · rcases m.near k hk with y | y
    · exact h.disj k y z
    · have := (h.ref.fp k z).1; omega
  · rcases h.nearN j z with y | y
    · exact .inl y
    · omega
  · rcases m.near k hk with y | y
    · exact h.nearN k y
    · exact .inr (Nat.le_trans h.kept.size y)
theorem ST.refMv {base : Nat} {w0 w w' : World} {vn vr : Value} {sn0 sr0 sn sr sr' : Option (Nat × Option Nat)} {psn psr psr' : List Pk} (h : ST base w0 w vn vr sn0 sr0 sn sr psn psr) (m : SMv w w' sr sr') (n : NSide 71 base w' vr sr' psr') : ST base w0 w' vn vr sn0 sr0 sn sr' psn psr' := by
  refine ⟨h.net.kept m.kept (fun k hk z => h.disj k hk z) (fun k _ z => (h.ref.fp k z).2.2), n, fun k hk z => ?_, h.kept.trans m.kept (fun j hj z => ?_), h.nearN, fun k hk => ?_, h.someN, h.someR.trans m.some, h.low⟩
  · rcases m.near k z with y | y
    · exact h.disj k hk y
    · have := (h.net.fp k hk).1; omega
  · rcases h.nearR j z with y | y
    · exact .inr y
    · omega
  · rcases m.near k hk with y | y
    · exact h.nearR k y
    · exact .inr (Nat.le_trans h.kept.size y)
theorem ST.netDid {base : Nat} {w0 w : World} {vn vr : Value} {sn0 sr0 sn sr : Option (Nat × Option Nat)} {psn psr : List Pk} {f : FuncId} {args : Array Value} {r : List Pk × Int} (h : ST base w0 w vn vr sn0 sr0 sn sr psn psr) (c : Calls Try.prog f args w (SDid 67 base w vn sn r psn)) :
    Calls Try.prog f args w fun x w' => ∃ sn', x = .returned (.int .i64 (ansOf sn0 r)) ∧ ST base w0 w' vn vr sn0 sr0 sn' sr (psOf sn0 r psn) psr := by
  refine c.mono ?_
  rintro x w' ⟨s', rfl, n, m⟩
  have e : ansOf sn r = ansOf sn0 r := by unfold ansOf; rw [h.someN]
  have e2 : psOf sn r psn = psOf sn0 r psn := by unfold psOf; rw [h.someN]
  rw [e]
  rw [e2] at n
  exact ⟨s', rfl, h.netMv m n⟩
theorem ST.refDid {base : Nat} {w0 w : World} {vn vr : Value} {sn0 sr0 sn sr : Option (Nat × Option Nat)} {psn psr : List Pk} {f : FuncId} {args : Array Value} {r : List Pk × Int} (h : ST base w0 w vn vr sn0 sr0 sn sr psn psr) (c : Calls Try.prog f args w (SDid 71 base w vr sr r psr)) :
    Calls Try.prog f args w fun x w' => ∃ sr', x = .returned (.int .i64 (ansOf sr0 r)) ∧ ST base w0 w' vn vr sn0 sr0 sn sr' psn (psOf sr0 r psr) := by
  refine c.mono ?_
  rintro x w' ⟨s', rfl, n, m⟩
  have e : ansOf sr r = ansOf sr0 r := by unfold ansOf; rw [h.someR]
  have e2 : psOf sr r psr = psOf sr0 r psr := by unfold psOf; rw [h.someR]
  rw [e]
  rw [e2] at n
  exact ⟨s', rfl, h.refMv m n⟩
/-- The calls on none. -/
theorem drop_nil (i : Int) (w : World) : Calls Try.prog 18 #[.pointer none, .int .i64 i] w fun x w' => x = .returned (.int .i64 0) ∧ Kept (fun _ => False) w w' := by
  go_enter Try.func18, Try.ntmps18
  go_wp2_with fail
  refine (become_nil w 0 i 0 0).mono ?_
  rintro x w' ⟨rfl, K⟩
  have KH : Hid (Kept (fun _ => False) w w') := K
  clear K
  go_wp2_with fail
  go_ret
  exact ⟨rfl, KH.out⟩
theorem double_nil (i : Int) (w : World) : Calls Try.prog 8 #[.pointer none, .int .i64 i] w fun x w' => x = .returned (.int .i64 0) ∧ Kept (fun _ => False) w w' := by
  go_enter Try.func8, Try.ntmps8
  go_wp2_with fail
  refine (become_nil w 1 i 0 0).mono ?_
  rintro x w' ⟨rfl, K⟩
  have KH : Hid (Kept (fun _ => False) w w') := K
  clear K
  go_wp2_with fail
  go_ret
  exact ⟨rfl, KH.out⟩
theorem burst_nil (i bit pat : Int) (w : World) : Calls Try.prog 9 #[.pointer none, .int .i64 i, .int .i64 bit, .int .u32 pat] w fun x w' => x = .returned (.int .i64 0) ∧ Kept (fun _ => False) w w' := by
  go_enter Try.func9, Try.ntmps9
  go_wp2_with fail
  refine (become_nil w 2 i bit pat).mono ?_
  rintro x w' ⟨rfl, K⟩
  have KH : Hid (Kept (fun _ => False) w w') := K
  clear K
  go_wp2_with fail
  go_ret
  exact ⟨rfl, KH.out⟩
theorem cut_nil (i size : Int) (w : World) : Calls Try.prog 15 #[.pointer none, .int .i64 i, .int .i64 size] w fun x w' => x = .returned (.int .i64 0) ∧ Kept (fun _ => False) w w' := by
  go_enter Try.func15, Try.ntmps15
  go_wp2_with fail
  refine (become_nil w 3 i size 0).mono ?_
  rintro x w' ⟨rfl, K⟩
  have KH : Hid (Kept (fun _ => False) w w') := K
  clear K
  go_wp2_with fail
  go_ret
  exact ⟨rfl, KH.out⟩
theorem lose_nil (i : Int) (w : World) : Calls Try.prog 40 #[.pointer none, .int .i64 i] w fun x w' => x = .returned (.int .i64 0) ∧ Kept (fun _ => False) w w' := by
  go_enter Try.func40, Try.ntmps40
  go_wp2_with fail
  refine (become_nil w 4 i 0 0).mono ?_
  rintro x w' ⟨rfl, K⟩
  have KH : Hid (Kept (fun _ => False) w w') := K
  clear K
  go_wp2_with fail
  go_ret
  exact ⟨rfl, KH.out⟩
theorem rdrop_nil (i : Int) (w : World) : Calls Try.prog 35 #[.pointer none, .int .i64 i] w fun x w' => x = .returned (.int .i64 0) ∧ Kept (fun _ => False) w w' := by
  go_enter Try.func35, Try.ntmps35
  go_wp2_with fail
  refine (rtake_nil i w).mono ?_
  rintro x w' ⟨rfl, K⟩
  have KH : Hid (Kept (fun _ => False) w (w'.alloc (.cells #[.int .i64 0, .int .i64 0, .int .i64 0, .int .i64 0, .slice none 0 0, .bool false] 39))) := K.alloc _
  clear K
  go_wp2_with fail
  go_ret
  exact ⟨rfl, KH.out⟩
theorem rdouble_nil (i : Int) (w : World) : Calls Try.prog 36 #[.pointer none, .int .i64 i] w fun x w' => x = .returned (.int .i64 0) ∧ Kept (fun _ => False) w w' := by
  go_enter Try.func36, Try.ntmps36
  go_wp2_with fail
  go_ret
  exact ⟨rfl, Kept.refl _ _⟩
theorem rburst_nil (i bit pat : Int) (w : World) : Calls Try.prog 37 #[.pointer none, .int .i64 i, .int .i64 bit, .int .u32 pat] w fun x w' => x = .returned (.int .i64 0) ∧ Kept (fun _ => False) w w' := by
  go_enter Try.func37, Try.ntmps37
  go_wp2_with fail
  go_ret
  exact ⟨rfl, Kept.refl _ _⟩
theorem rcut_nil (i size : Int) (w : World) : Calls Try.prog 38 #[.pointer none, .int .i64 i, .int .i64 size] w fun x w' => x = .returned (.int .i64 0) ∧ Kept (fun _ => False) w w' := by
  go_enter Try.func38, Try.ntmps38
  go_wp2_with fail
  go_ret
  exact ⟨rfl, Kept.refl _ _⟩
theorem rlose_nil (i : Int) (w : World) : Calls Try.prog 39 #[.pointer none, .int .i64 i] w fun x w' => x = .returned (.int .i64 0) ∧ Kept (fun _ => False) w w' := by
  go_enter Try.func39, Try.ntmps39
  go_wp2_with fail
  go_ret
  exact ⟨rfl, Kept.refl _ _⟩
end Go.Proofs.Ytojfnehdanhgiaa
