import Derived.Test.YtbangbobfeflcaaGreatDoorHFb
import Derived.DeepKeys4
import Derived.Maps.Keyed
import Derived.Deep.Cut
namespace Go.Proofs.YtbangbobfeflcaaGreatDoor
open Go.RowKit 

theorem ba_loop (b : ByteArray) : ∀ k i r, b.size - i = k → ByteArray.toList.loop b i r = r.reverse ++ b.data.toList.drop i := by
  have hl : b.data.toList.length = b.size := by rw [Array.length_toList]; rfl
  intro k
  induction k with
  | zero =>
    intro i r h
    unfold ByteArray.toList.loop
    rw [if_neg (by omega), List.drop_eq_nil_of_le (by omega)]
    simp
  | succ k ih =>
    intro i r h
    unfold ByteArray.toList.loop
    rw [if_pos (by omega), ih (i+1) _ (by omega), List.drop_eq_getElem_cons (i := i) (by omega)]
    have e : b.get! i = b.data.toList[i]'(by omega) := by
      have hs : i < b.data.size := by
        have : b.size = b.data.size := rfl
        omega
      show b.data[i]! = _
      rw [getElem!_pos b.data i hs]
      simp
    rw [e]
    simp
theorem ba_toList (b : ByteArray) : b.toList = b.data.toList := by
  unfold ByteArray.toList
  rw [ba_loop b _ 0 [] rfl]
  simp
theorem ba_ne {a b : ByteArray} (h : ¬ a = b) : a.toList ≠ b.toList := by
  rw [ba_toList, ba_toList]
  intro z
  apply h
  cases a
  cases b
  congr 1
  exact Array.toList_inj.1 z
/-- What lies in a map of events: the cells alone. -/
structure Ec where
  kind : Int
  client : Int
  op : Int
  put : Bool
  key : ByteArray
  va : Option Addr
  vn : Nat
  vc : Nat
  st : Int
  tx : Int
  ty : Int
def Ec.agg (e : Ec) : Value := .agg #[.int .i64 e.kind, .int .i64 e.client, .int .i64 e.op, .bool e.put, .string e.key, .slice e.va e.vn e.vc, .int .i64 e.st, .int .i64 e.tx, .int .i64 e.ty]
def Ev.ec (e : Ev) : Ec := ⟨e.kind, e.client, e.op, e.put, e.key, e.va, e.vn, e.vc, e.st, e.tx, e.ty⟩
def zeroC : Ec := ⟨0, 0, 0, false, ⟨#[]⟩, none, 0, 0, 0, 0, 0⟩
theorem Ec.inj {a b : Ec} (h : a.agg = b.agg) : a = b := by
  obtain ⟨a1, a2, a3, a4, a5, a6, a7, a8, a9, a10, a11⟩ := a
  obtain ⟨b1, b2, b3, b4, b5, b6, b7, b8, b9, b10, b11⟩ := b
  unfold Ec.agg at h
  simp at h
  obtain ⟨rfl, rfl, rfl, rfl, rfl, ⟨rfl, rfl, rfl⟩, rfl, rfl, rfl⟩ := h
  rfl
def KI (k : Int) : Prop := -9223372036854775808 ≤ k ∧ k < 9223372036854775808
theorem wf_i64 (a : Int) : (Lit.int .i64 a).wf = true ↔ KI a := by
  have e1 : IntKind.i64.min = -9223372036854775808 := by decide
  have e2 : IntKind.i64.max = 9223372036854775807 := by decide
  show (decide (IntKind.i64.min ≤ a) && decide (a ≤ IntKind.i64.max)) = true ↔ _
  rw [e1, e2]
  unfold KI
  simp
  omega
def isEc : List Value → Bool
  | [.int .i64 _, .int .i64 _, .int .i64 _, .bool _, .string _, .slice _ _ _, .int .i64 _, .int .i64 _, .int .i64 _] => true
  | _ => false
theorem isEc_of : ∀ {l : List Value}, isEc l = true → ∃ e : Ec, Value.agg l.toArray = e.agg := by
  intro l h
  unfold isEc at h
  split at h
  · rename_i a b c d e f g k i j m
    exact ⟨⟨a, b, c, d, e, f, g, k, i, j, m⟩, rfl⟩
  · cases h
def RE (v : Value) : Option (DataW Value × List MemPlace) :=
  match v with
  | .agg cs => if isEc cs.toList = true then some (.held v, []) else none
  | _ => none
theorem evK : MK (ε := Ec) 73 3 39 (Value.int .i64) (Lit.int .i64) KI Ec.agg zeroC RE where
  law := Maps.int_keyed Tryz.underlying3
  und := Tryz.underlying73
  key k h := Maps.keyOf_int_mk Tryz.underlying3 ((wf_i64 k).2 h)
  inv v l h := by
    obtain ⟨x, rfl, rfl, h3⟩ := Maps.keyOf_int_inv Tryz.underlying3 h
    exact ⟨x, rfl, (wf_i64 x).1 h3, rfl⟩
  inj k k' _ _ h := by simpa using h
  kvi k k' h := by simpa using h
  rd e := rfl
  rdi v y h := by
    unfold RE at h
    split at h
    · rename_i cs
      split at h
      · rename_i z
        exact ⟨isEc_of z, (Option.some.inj h).symm⟩
      · cases h
    · cases h
  evi e e' h := Ec.inj h
  zero w := Tryz.zeroValue39 w
/-- A map from clients to events in memory. -/
structure IsE (w : World) (mb : Nat) (M : Int → Option Ec) (bd : Nat) : Prop where
  tm : ∃ n, TM 3 (Lit.int .i64) KI Ec.agg RE w mb n M ∧ n ≤ bd
theorem IsE.kept {S : Nat → Prop} {w w' : World} {mb bd : Nat} {M : Int → Option Ec} (h : IsE w mb M bd) (K : Kept S w w') (hn : ¬ S mb) : IsE w' mb M bd := by
  obtain ⟨n, h1, h2⟩ := h.tm
  exact ⟨n, h1.kept K hn, h2⟩
theorem IsE.made (w : World) : IsE (w.alloc (.map #[] 0)) w.heap.size (fun _ => none) 0 := ⟨0, TM.made w, Nat.le_refl _⟩
/-- May it stand behind? Of the cells. -/
def mayC (l e : Ec) : Bool := if e.kind = 1 then !decide (l.kind = 1) && decide (e.op = l.op + 1) else decide (l.kind = 1) && decide (e.op = l.op) && decide (e.put = l.put) && decide (e.key = l.key)
theorem mayC_of (M : Int → Option Ev) (e : Ev) (c : Int) : mayC (((M c).map Ev.ec).getD zeroC) e.ec = mayF (M c) e := by
  unfold mayC mayF
  cases M c with
  | none =>
    show (if e.kind = 1 then _ else _) = _
    by_cases h : e.kind = 1
    · rw [if_pos h, if_pos h]
      rfl
    · rw [if_neg h, if_neg h]
      rfl
  | some x => rfl
set_option maxRecDepth 100000 in
set_option maxHeartbeats 2000000 in
theorem hMay (l e : Ec) (hl : 0 ≤ l.op ∧ l.op ≤ 4611686018427387903) (w : World) : Calls Tryz.prog 41 #[l.agg, e.agg] w fun o w' => o = .returned (.bool (mayC l e)) ∧ Kept (fun _ => False) w w' := by
  obtain ⟨v, hv⟩ : ∃ v, v = mayC l e := ⟨_, rfl⟩
  have HV : Hid (v = mayC l e) := hv
  rw [← hv]
  clear hv
  unfold mayC at HV
  obtain ⟨li, lc, lo, lp, lk, la, ln, lm, ls, lx, ly⟩ := l
  obtain ⟨ei, ec, eo, ep, ek, ea, en, em, es, ex, ey⟩ := e
  unfold Ec.agg
  dsimp only at HV hl ⊢
  have K0 : Hid (Kept (fun _ => False) w ((w.alloc (Obj.cells #[.int .i64 li, .int .i64 lc, .int .i64 lo, .bool lp, .string lk, .slice la ln lm, .int .i64 ls, .int .i64 lx, .int .i64 ly] 39)).alloc (Obj.cells #[.int .i64 ei, .int .i64 ec, .int .i64 eo, .bool ep, .string ek, .slice ea en em, .int .i64 es, .int .i64 ex, .int .i64 ey] 39))) := ((Kept.refl _ _).alloc _).alloc _
  have wr : IntKind.i64.wrap (lo + 1) = lo + 1 := by rw [IntKind.wrap_i64]; omega
  have wr2 : wrap64 (lo + 1) = lo + 1 := by unfold wrap64; omega
  go_enter Tryz.func41, Tryz.ntmps41
  by_cases h1 : ei = 1
  · subst h1
    by_cases h2 : li = 1
    · subst h2
      have A : v = false := by rw [HV.out]; simp
      subst A
      clear HV
      go_wp2_with fail
      go_ret
      exact ⟨by first | rfl | simp, K0.out⟩
    · have q2 : (li == 1) = false := by simp [h2]
      by_cases h3 : eo = lo + 1
      · subst h3
        have A : v = true := by rw [HV.out]; simp [h2]
        subst A
        clear HV
        go_wp2_with fail
        go_ret
        exact ⟨by first | rfl | simp, K0.out⟩
      · have q3 : (eo == lo + 1) = false := by simp [h3]
        have A : v = false := by rw [HV.out]; simp [h2, h3]
        subst A
        clear HV
        go_wp2_with fail
        go_ret
        exact ⟨by first | rfl | simp, K0.out⟩
  · have q1 : (ei == 1) = false := by simp [h1]
    by_cases h2 : li = 1
    · subst h2
      by_cases h3 : eo = lo
      · subst h3
        by_cases h4 : ep = lp
        · subst h4
          by_cases h5 : ek = lk
          · subst h5
            have A : v = true := by rw [HV.out]; simp [h1]
            subst A
            clear HV
            go_wp2_with fail
            go_ret
            exact ⟨by first | rfl | simp, K0.out⟩
          · have q5 : (ek.toList == lk.toList) = false := beq_false_of_ne (ba_ne h5)
            have q6 := ba_ne h5
            have A : v = false := by rw [HV.out]; simp [h1, h5]
            subst A
            clear HV
            go_wp2_with fail
            go_ret
            exact ⟨by first | rfl | simp, K0.out⟩
        · have q4 : (ep == lp) = false := by simp [h4]
          have A : v = false := by rw [HV.out]; simp [h1, h4]
          subst A
          clear HV
          go_wp2_with fail
          go_ret
          exact ⟨by first | rfl | simp, K0.out⟩
      · have q3 : (eo == lo) = false := by simp [h3]
        have A : v = false := by rw [HV.out]; simp [h1, h3]
        subst A
        clear HV
        go_wp2_with fail
        go_ret
        exact ⟨by first | rfl | simp, K0.out⟩
    · have q2 : (li == 1) = false := by simp [h2]
      have A : v = false := by rw [HV.out]; simp [h1, h2]
      subst A
      clear HV
      go_wp2_with fail
      go_ret
      exact ⟨by first | rfl | simp, K0.out⟩
end Go.Proofs.YtbangbobfeflcaaGreatDoor

namespace Go.Proofs.YtbangbobfeflcaaGreatDoor
open Go.RowKit 

theorem Tryz.laidOutH : laidOutB Tryz.prog = true := by kernel_rfl
theorem Tryz.size74 : Tryz.prog.types.size = 193 := by kernel_rfl
theorem Tryz.cells78 : Tryz.prog.cellsOf 78 = 2 := by kernel_rfl
theorem Tryz.cells3h : Tryz.prog.cellsOf 3 = 1 := by kernel_rfl
theorem Tryz.cells2h : Tryz.prog.cellsOf 2 = 1 := by kernel_rfl
theorem opLaw : Maps.Keyed Tryz.prog 78 := Maps.Keyed.of_law (deep_law_laid Tryz.laidOutH (m := 3) (by omega) (of_decide_eq_true (by kernel_rfl)) (by kernel_rfl) (by rw [Tryz.underlying78]))
def opV (k : Int × Int) : Value := .agg #[.int .i64 k.1, .int .i64 k.2]
def opL (k : Int × Int) : Lit := .string (keyBytes [.int .i64 k.1, .int .i64 k.2])
def opF (k : Int × Int) : Prop := KI k.1 ∧ KI k.2
theorem lit_one {t : TypeId} (ht : Tryz.prog.underlying t = some (.int .i64)) (c : Value) (ls : List Lit) : Tryz.prog.keyLits 193 t [c] = some ls ↔ ∃ a, c = .int .i64 a ∧ (Lit.int .i64 a).wf = true ∧ ls = [.int .i64 a] := by
  unfold Program.keyLits
  rw [ht]
  constructor
  · intro h
    cases c with
    | int q n =>
      have h : (if q = IntKind.i64 ∧ (Lit.int IntKind.i64 n).wf = true then some [Lit.int IntKind.i64 n] else none) = some ls := h
      split at h
      · rename_i z
        rw [z.1]
        exact ⟨n, rfl, z.2, (Option.some.inj h).symm⟩
      · cases h
    | _ => cases h
  · rintro ⟨a, rfl, h1, rfl⟩
    show (if IntKind.i64 = IntKind.i64 ∧ (Lit.int IntKind.i64 a).wf = true then some [Lit.int IntKind.i64 a] else none) = _
    rw [if_pos ⟨rfl, h1⟩]
theorem lits_op (c d : Value) (ls : List Lit) : Tryz.prog.keyLits (Tryz.prog.types.size + 1) 78 [c, d] = some ls ↔ ∃ a b, c = .int .i64 a ∧ d = .int .i64 b ∧ (Lit.int .i64 a).wf = true ∧ (Lit.int .i64 b).wf = true ∧ ls = [.int .i64 a, .int .i64 b] := by
  rw [Tryz.size74]
  unfold Program.keyLits
  rw [Tryz.underlying78]
  simp [Tryz.cells78, Tryz.cells3h, Tryz.cells2h]
  constructor
  · intro h
    obtain ⟨x, hx, h⟩ := Option.bind_eq_some_iff.1 h
    obtain ⟨a, rfl, wa, rfl⟩ := (lit_one Tryz.underlying3 c x).1 hx
    have h : Option.map List.flatten (((Tryz.prog.keyLits 193 2 [d]).bind fun y => some [y]).bind fun y => some ([Lit.int IntKind.i64 a] :: y)) = some ls := h
    cases hd : Tryz.prog.keyLits 193 2 [d] with
    | none => rw [hd] at h; cases h
    | some y =>
      rw [hd] at h
      obtain ⟨b, rfl, wb, rfl⟩ := (lit_one Tryz.underlying2 d y).1 hd
      have h := Option.some.inj h
      exact ⟨a, rfl, b, rfl, wa, wb, h.symm⟩
  · rintro ⟨a, rfl, b, rfl, wa, wb, rfl⟩
    rw [(lit_one Tryz.underlying3 _ [.int .i64 a]).2 ⟨a, rfl, wa, rfl⟩, (lit_one Tryz.underlying2 _ [.int .i64 b]).2 ⟨b, rfl, wb, rfl⟩]
    rfl
theorem op_key (k : Int × Int) (h : opF k) : keyOf Tryz.prog 78 (opV k) = some (opL k) := by
  unfold keyOf
  rw [Tryz.underlying78]
  have h1 : Tryz.prog.keyType 78 = true := by kernel_rfl
  have h2 : (opV k).formed Tryz.prog 78 = true := by
    unfold opV
    simp [Value.formed, Tryz.underlying78, Tryz.cells78]
  show (if (Tryz.prog.keyType 78 && (opV k).formed Tryz.prog 78) = true then (Tryz.prog.keyLits (Tryz.prog.types.size + 1) 78 [.int .i64 k.1, .int .i64 k.2]).map (fun ls => Lit.string (keyBytes ls)) else none) = _
  rw [if_pos (by rw [h1, h2]; rfl), (lits_op _ _ _).2 ⟨k.1, k.2, rfl, rfl, (wf_i64 _).2 h.1, (wf_i64 _).2 h.2, rfl⟩]
  rfl
set_option maxRecDepth 100000 in
theorem op_inv (v : Value) (l : Lit) (h : keyOf Tryz.prog 78 v = some l) : ∃ k, v = opV k ∧ opF k ∧ l = opL k := by
  unfold keyOf at h
  rw [Tryz.underlying78] at h
  have h : (if (Tryz.prog.keyType 78 && v.formed Tryz.prog 78) = true then (Tryz.prog.keyLits (Tryz.prog.types.size + 1) 78 v.cells.toList).map (fun ls => Lit.string (keyBytes ls)) else none) = some l := h
  split at h
  · rename_i z
    rw [Bool.and_eq_true] at z
    have z2 := z.2
    cases v with
    | agg cs =>
      have hc : cs.size = 2 := by
        unfold Value.formed at z2
        rw [Tryz.underlying78] at z2
        simp [Tryz.cells78] at z2
        exact z2
      obtain ⟨cl⟩ := cs
      match cl, hc with
      | [c, d], _ =>
        have h : (Tryz.prog.keyLits (Tryz.prog.types.size + 1) 78 [c, d]).map (fun ls => Lit.string (keyBytes ls)) = some l := h
        obtain ⟨ls, h1, h2⟩ := Option.map_eq_some_iff.1 h
        obtain ⟨a, b, rfl, rfl, wa, wb, rfl⟩ := (lits_op _ _ _).1 h1
        exact ⟨(a, b), rfl, ⟨(wf_i64 a).1 wa, (wf_i64 b).1 wb⟩, h2.symm⟩
    | _ =>
      unfold Value.formed at z2
      simp [Tryz.underlying78] at z2
  · cases h
theorem opV_inj (k k' : Int × Int) (h : opV k = opV k') : k = k' := by
  unfold opV at h
  simp at h
  exact Prod.ext h.1 h.2
theorem opL_inj (k k' : Int × Int) (hk : opF k) (hk' : opF k') (h : opL k = opL k') : k = k' := by
  have h1 := op_key k hk
  have h2 := op_key k' hk'
  rw [← h] at h2
  exact opV_inj _ _ (opLaw.inj h1 h2)
/-- A slice, as a map holds it. -/
structure Sl where
  p : Option Addr
  n : Nat
  c : Nat
def Sl.v (s : Sl) : Value := .slice s.p s.n s.c
def RSl (v : Value) : Option (DataW Value × List MemPlace) :=
  match v with
  | .slice _ _ _ => some (.held v, [])
  | _ => none
theorem opK : MK (ε := Sl) 75 78 70 opV opL opF Sl.v ⟨none, 0, 0⟩ RSl where
  law := opLaw
  und := Tryz.underlying75
  key := op_key
  inv v l h := op_inv v l h
  inj := opL_inj
  kvi := opV_inj
  rd _ := rfl
  rdi v y h := by
    unfold RSl at h
    split at h
    · rename_i a n c
      exact ⟨⟨⟨a, n, c⟩, rfl⟩, (Option.some.inj h).symm⟩
    · cases h
  evi e e' h := by
    obtain ⟨a, b, c⟩ := e
    obtain ⟨a', b', c'⟩ := e'
    unfold Sl.v at h
    simp at h
    obtain ⟨rfl, rfl, rfl⟩ := h
    rfl
  zero w := Tryz.zeroValue70 w
end Go.Proofs.YtbangbobfeflcaaGreatDoor

namespace Go.Proofs.YtbangbobfeflcaaGreatDoor
open Go.RowKit 

/-- How Check stands. -/
structure CS (w : World) (es : List Ev) (mb i : Nat) (M : Int → Option Ev) (wr : World) : Prop where
  map : IsE wr mb (fun c => (M c).map Ev.ec) i
  kept : Kept (fun _ => False) w wr
  run : chkE es noM 0 = chkE (es.drop i) M i
  ops : ∀ c x, M c = some x → 0 ≤ x.op ∧ x.op ≤ 4611686018427387903
def RetI2 (Q : Int → Int → World → Prop) (o : Ending) (w : World) : Prop := ∃ a b : Int, o = .returned (.tuple #[.int .i64 a, .int .i64 b]) ∧ Q a b w
theorem RetI2.mk {Q : Int → Int → World → Prop} {o : Ending} {w : World} (a b : Int) (h : o = .returned (.tuple #[.int .i64 a, .int .i64 b])) (q : Q a b w) : RetI2 Q o w := ⟨a, b, h, q⟩
theorem upd_ec (M : Int → Option Ev) (c : Int) (e : Ev) : (fun j => (upd M c e j).map Ev.ec) = upd (fun j => (M j).map Ev.ec) c e.ec := by
  funext j
  unfold upd
  by_cases h : j = c
  · rw [if_pos h, if_pos h]
    rfl
  · rw [if_neg h, if_neg h]
theorem fault_op {e : Ev} (h : faultE e = 0) : 1 ≤ e.op ∧ e.op ≤ 4611686018427387903 := by
  rw [fault_b] at h
  unfold faultB at h
  repeat (split at h; exact absurd h (by decide))
  rename_i z
  simp at z
  omega
set_option maxRecDepth 100000 in
set_option maxHeartbeats 4000000 in
theorem hCheck {w : World} {p0 : Option Addr} {n c0 : Nat} {es : List Ev} (er : ERd w p0 n c0 es) (hb : n ≤ 1500000000000) (ck : ∀ e ∈ es, KI e.client) : Calls Tryz.prog 19 #[.slice p0 n c0] w (RetI2 fun a b w' => (a, b) = chkE es noM 0 ∧ Kept (fun _ => False) w w') := by
  have rm := er.room
  have sm := er.small
  unfold maxLen at sm
  have H : Hid (ERd w p0 n c0 es ∧ n ≤ 1500000000000 ∧ ∀ e ∈ es, KI e.client) := ⟨er, hb, ck⟩
  obtain ⟨mb, hmb⟩ : ∃ mb, mb = w.heap.size := ⟨_, rfl⟩
  obtain ⟨W0, hW0⟩ : ∃ W0, W0 = w.alloc (.map #[] 0) := ⟨_, rfl⟩
  have S0 : Hid (CS w es mb 0 noM W0) := by
    refine ⟨?_, by rw [hW0]; exact (Kept.refl _ _).alloc _, rfl, fun c x h => (by cases h)⟩
    rw [hW0, hmb]
    exact IsE.made w
  have E0 : Hid (mb = w.heap.size ∧ W0 = w.alloc (.map #[] 0)) := ⟨hmb, hW0⟩
  clear er hb ck hmb hW0
  have mk := run_makeMap (P := Tryz.prog) 73 w
  go_enter Tryz.func19, Tryz.ntmps19
  go_wp2_with fail
  rw [← E0.out.2, ← E0.out.1]
  go_loopw [5, 6, 7, 11] (fun _ _ _ u11 wr => ∃ (i : Nat) (M : Int → Option Ev), u11 = .int .i64 (i : Int) ∧ i ≤ n ∧ Hid (CS w es mb i M wr)) (fun _ _ _ u11 _ => n - (intOf u11).toNat)
  case atStart => exact ⟨0, noM, rfl, Nat.zero_le _, S0⟩
  case round =>
    obtain ⟨i, M, rfl, hi, S⟩ := hrel
    clear S0
    obtain ⟨wo, hwo⟩ : ∃ wo, wo = wr := ⟨_, rfl⟩
    rw [← hwo] at S ⊢
    clear hwo
    by_cases hlt : i < n
    · have i1 : (i : Int) < (n : Int) := by omega
      obtain ⟨b, off, e, rfl, he, c0', c1, c2, c3, c4, c5, c6, c7, c8, rd⟩ := (H.out.1.k0 S.out.kept).at hlt
      obtain ⟨W, hW⟩ : ∃ W, W = wo.alloc (.cells #[.int .i64 e.kind, .int .i64 e.client, .int .i64 e.op, .bool e.put, .string e.key, .slice e.va e.vn e.vc, .int .i64 e.st, .int .i64 e.tx, .int .i64 e.ty] 39) := ⟨_, rfl⟩
      obtain ⟨B, hB⟩ : ∃ B, B = wo.heap.size := ⟨_, rfl⟩
      obtain ⟨fv, hfv⟩ : ∃ fv, faultE e = fv := ⟨_, rfl⟩
      have J : Hid (W.heap[B]? = some (.cells #[.int .i64 e.kind, .int .i64 e.client, .int .i64 e.op, .bool e.put, .string e.key, .slice e.va e.vn e.vc, .int .i64 e.st, .int .i64 e.tx, .int .i64 e.ty] 39 (0, 0)) ∧ CS w es mb i M W ∧ es[i]? = some e ∧ faultE e = fv) := by
        have Kw : Kept (fun _ => False) wo W := by rw [hW]; exact (Kept.refl _ _).alloc _
        refine ⟨by rw [hW, hB]; exact alloc_new _ _, ⟨S.out.map.kept Kw (fun z => z), S.out.kept.trans Kw (fun _ _ z => z), S.out.run, S.out.ops⟩, he, hfv⟩
      have EW : Hid (W = wo.alloc (.cells #[.int .i64 e.kind, .int .i64 e.client, .int .i64 e.op, .bool e.put, .string e.key, .slice e.va e.vn e.vc, .int .i64 e.st, .int .i64 e.tx, .int .i64 e.ty] 39) ∧ B = wo.heap.size) := ⟨hW, hB⟩
      have CF : Hid (∀ V, Calls Tryz.prog 31 #[.agg #[.int .i64 e.kind, .int .i64 e.client, .int .i64 e.op, .bool e.put, .string e.key, .slice e.va e.vn e.vc, .int .i64 e.st, .int .i64 e.tx, .int .i64 e.ty]] V fun o w' => o = .returned (.int .i64 fv) ∧ Kept (fun _ => False) V w') := fun V => by
        rw [← hfv]
        have vs := rd.room
        have vs2 := rd.small
        unfold maxLen at vs2
        exact hFault e (by omega) V
      have RUN : Hid (chkE es noM 0 = if fv ≠ 0 then ((i : Int), fv) else if mayF (M e.client) e = false then ((i : Int), 80) else chkE (es.drop (i + 1)) (upd M e.client e) (i + 1)) := by
        have hl := (List.getElem?_eq_some_iff.1 he)
        have r := S.out.run
        rw [List.drop_eq_getElem_cons hl.1, chk_cons, hl.2, hfv] at r
        exact r
      clear hW hB he rd S hfv
      go_upto_region 5 with fail
      rw [← EW.out.1, ← EW.out.2]
      clear c0' c1 c2 c3 c4 c5 c6 c7 c8 EW
      have c0 := cell_blk J.out.1 0 (v := .int .i64 e.kind) rfl
      have c1 := cell_blk J.out.1 1 (v := .int .i64 e.client) rfl
      have c2 := cell_blk J.out.1 2 (v := .int .i64 e.op) rfl
      have c3 := cell_blk J.out.1 3 (v := .bool e.put) rfl
      have c4 := cell_blk J.out.1 4 (v := .string e.key) rfl
      have c5 := cell_blk J.out.1 5 (v := .slice e.va e.vn e.vc) rfl
      have c6 := cell_blk J.out.1 6 (v := .int .i64 e.st) rfl
      have c7 := cell_blk J.out.1 7 (v := .int .i64 e.tx) rfl
      have c8 := cell_blk J.out.1 8 (v := .int .i64 e.ty) rfl
      go_wp2_with fail
      refine (CF.out _).mono ?_
      rintro o w2 ⟨rfl, K2⟩
      have S2 : Hid (CS w es mb i M w2 ∧ w2.heap[B]? = some (.cells #[.int .i64 e.kind, .int .i64 e.client, .int .i64 e.op, .bool e.put, .string e.key, .slice e.va e.vn e.vc, .int .i64 e.st, .int .i64 e.tx, .int .i64 e.ty] 39 (0, 0))) := ⟨⟨J.out.2.1.map.kept K2 (fun z => z), J.out.2.1.kept.trans K2 (fun _ _ z => z), J.out.2.1.run, J.out.2.1.ops⟩, K2.get J.out.1 (fun z => z)⟩
      clear K2 CF c0 c1 c2 c3 c4 c5 c6 c7 c8
      by_cases hf : fv = 0
      · subst hf
        obtain ⟨mv, hmv⟩ : ∃ mv, mayF (M e.client) e = mv := ⟨_, rfl⟩
        have c0 := cell_blk S2.out.2 0 (v := .int .i64 e.kind) rfl
        have c1 := cell_blk S2.out.2 1 (v := .int .i64 e.client) rfl
        have c2 := cell_blk S2.out.2 2 (v := .int .i64 e.op) rfl
        have c3 := cell_blk S2.out.2 3 (v := .bool e.put) rfl
        have c4 := cell_blk S2.out.2 4 (v := .string e.key) rfl
        have c5 := cell_blk S2.out.2 5 (v := .slice e.va e.vn e.vc) rfl
        have c6 := cell_blk S2.out.2 6 (v := .int .i64 e.st) rfl
        have c7 := cell_blk S2.out.2 7 (v := .int .i64 e.tx) rfl
        have c8 := cell_blk S2.out.2 8 (v := .int .i64 e.ty) rfl
        obtain ⟨kn, tm, hkn⟩ := S2.out.1.map.tm
        have KC : Hid (KI e.client) := H.out.2.2 e (List.mem_of_getElem? J.out.2.2.1)
        obtain ⟨l, hl⟩ : ∃ l, l = (((M e.client).map Ev.ec).getD zeroC) := ⟨_, rfl⟩
        have lk := tm.look evK KC.out
        rw [← hl] at lk
        have CM : Hid (∀ V, Calls Tryz.prog 41 #[.agg #[.int .i64 l.kind, .int .i64 l.client, .int .i64 l.op, .bool l.put, .string l.key, .slice l.va l.vn l.vc, .int .i64 l.st, .int .i64 l.tx, .int .i64 l.ty], .agg #[.int .i64 e.kind, .int .i64 e.client, .int .i64 e.op, .bool e.put, .string e.key, .slice e.va e.vn e.vc, .int .i64 e.st, .int .i64 e.tx, .int .i64 e.ty]] V fun o w' => o = .returned (.bool mv) ∧ Kept (fun _ => False) V w') := fun V => by
          have := hMay l e.ec (by
            rw [hl]
            cases hq : M e.client with
            | none => exact ⟨by decide, by decide⟩
            | some x => exact J.out.2.1.ops _ x hq) V
          rw [hl, mayC_of, hmv, ← hl] at this
          exact this
        have TT : Hid (TM 3 (Lit.int .i64) KI Ec.agg RE w2 mb kn (fun c => (M c).map Ev.ec) ∧ kn ≤ i) := ⟨tm, hkn⟩
        have RUN2 : Hid (chkE es noM 0 = if mv = false then ((i : Int), 80) else chkE (es.drop (i + 1)) (upd M e.client e) (i + 1)) := by
          have := RUN.out
          rw [if_neg (by simp), hmv] at this
          exact this
        unfold Ec.agg at lk
        clear tm RUN hmv hl
        go_wp2_with fail
        refine (CM.out _).mono ?_
        rintro o w3 ⟨rfl, K3⟩
        have S3 : Hid (TM 3 (Lit.int .i64) KI Ec.agg RE w3 mb kn (fun c => (M c).map Ev.ec) ∧ kn < maxLen ∧ Kept (fun _ => False) w w3 ∧ w3.heap[B]? = some (.cells #[.int .i64 e.kind, .int .i64 e.client, .int .i64 e.op, .bool e.put, .string e.key, .slice e.va e.vn e.vc, .int .i64 e.st, .int .i64 e.tx, .int .i64 e.ty] 39 (0, 0))) := by
          refine ⟨TT.out.1.kept K3 (fun z => z), ?_, S2.out.1.kept.trans K3 (fun _ _ z => z), K3.get S2.out.2 (fun z => z)⟩
          have h1 := TT.out.2
          have h2 := H.out.2.1
          unfold maxLen
          omega
        clear K3 CM lk c0 c1 c2 c3 c4 c5 c6 c7 c8
        cases mv
        · have F : Hid (((i : Int), (80 : Int)) = chkE es noM 0 ∧ Kept (fun _ => False) w w3) := ⟨by rw [RUN2.out]; rfl, S3.out.2.2.1⟩
          go_wp2_with fail
          go_ret2
          exact RetI2.mk (i : Int) 80 rfl F.out
        · have c0 := cell_blk S3.out.2.2.2 0 (v := .int .i64 e.kind) rfl
          have c1 := cell_blk S3.out.2.2.2 1 (v := .int .i64 e.client) rfl
          have c2 := cell_blk S3.out.2.2.2 2 (v := .int .i64 e.op) rfl
          have c3 := cell_blk S3.out.2.2.2 3 (v := .bool e.put) rfl
          have c4 := cell_blk S3.out.2.2.2 4 (v := .string e.key) rfl
          have c5 := cell_blk S3.out.2.2.2 5 (v := .slice e.va e.vn e.vc) rfl
          have c6 := cell_blk S3.out.2.2.2 6 (v := .int .i64 e.st) rfl
          have c7 := cell_blk S3.out.2.2.2 7 (v := .int .i64 e.tx) rfl
          have c8 := cell_blk S3.out.2.2.2 8 (v := .int .i64 e.ty) rfl
          go_upto_region 11 with
            (first
              | (at_mapUpdate; refine wpList_put evK _ rfl _ _ _ rfl mb kn (fun c => (M c).map Ev.ec) rfl S3.out.1 S3.out.2.1 e.client KC.out e.ec rfl rfl ?_; intro w8 ht8 hk8)
              | fail)
          have T8 : Hid (CS w es mb (i + 1) (upd M e.client e) w8) := by
            refine ⟨⟨_, by rw [upd_ec]; exact ht8.out, ?_⟩, S3.out.2.2.1.trans hk8.out (fun j hj z => ?_), ?_, fun c x hx => ?_⟩
            · have := TT.out.2
              unfold nput
              split <;> omega
            · have z : j = mb := z
              have := E0.out.1
              omega
            · have := RUN2.out
              rw [if_neg (by simp)] at this
              exact this
            · unfold upd at hx
              split at hx
              · have q := fault_op J.out.2.2.2
                rw [← Option.some.inj hx]
                omega
              · exact J.out.2.1.ops c x hx
          clear ht8 hk8 S3 TT c0 c1 c2 c3 c4 c5 c6 c7 c8
          go_wp2_with fail
          go_roundw
          case rel => exact ⟨i + 1, upd M e.client e, by go_num, by omega, T8⟩
          case measure => simp [intOf] <;> omega
      · have q0 : (fv != 0) = true := by simp [hf]
        have F : Hid (((i : Int), fv) = chkE es noM 0 ∧ Kept (fun _ => False) w w2) := ⟨by rw [RUN.out, if_pos hf], S2.out.1.kept⟩
        go_wp2_with fail
        go_ret2
        exact RetI2.mk (i : Int) fv rfl F.out
    · have i1 : ¬ (i : Int) < (n : Int) := by omega
      have F : Hid (((-1 : Int), (0 : Int)) = chkE es noM 0 ∧ Kept (fun _ => False) w wo) := by
        refine ⟨?_, S.out.kept⟩
        have r := S.out.run
        rw [List.drop_eq_nil_of_le (by rw [H.out.1.len]; omega)] at r
        rw [r]
        rfl
      clear S
      go_wp2_with fail
      go_ret2
      exact RetI2.mk (-1) 0 rfl F.out
end Go.Proofs.YtbangbobfeflcaaGreatDoor
