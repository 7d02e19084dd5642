import Derived.Test.YtbangbobfeflcaaDoorHFb
import Derived.DeepKeys4
import Derived.Maps.Keyed
namespace Go.Proofs.YtbangbobfeflcaaDoor
open Go.RowKit 

theorem ba_loop (b : ByteArray) : ∀ k i r, b.size - i = k → ByteArray.toList.loop b i r = r.reverse ++ b.data.toList.drop i := by
  have hl : b.data.toList.length = b.size := by rw [Array.length_toList]; rfl
  intro k
  induction k with
  | zero =>
    intro i r h
    unfold ByteArray.toList.loop
    rw [if_neg (by omega), List.drop_eq_nil_of_le (by omega)]
    simp
  | succ k ih =>
    intro i r h
    unfold ByteArray.toList.loop
    rw [if_pos (by omega), ih (i+1) _ (by omega), List.drop_eq_getElem_cons (i := i) (by omega)]
    have e : b.get! i = b.data.toList[i]'(by omega) := by
      have hs : i < b.data.size := by
        have : b.size = b.data.size := rfl
        omega
      show b.data[i]! = _
      rw [getElem!_pos b.data i hs]
      simp
    rw [e]
    simp
theorem ba_toList (b : ByteArray) : b.toList = b.data.toList := by
  unfold ByteArray.toList
  rw [ba_loop b _ 0 [] rfl]
  simp
theorem ba_ne {a b : ByteArray} (h : ¬ a = b) : a.toList ≠ b.toList := by
  rw [ba_toList, ba_toList]
  intro z
  apply h
  cases a
  cases b
  congr 1
  exact Array.toList_inj.1 z
/-- What lies in a map of events: the cells alone. -/
structure Ec where
  kind : Int
  client : Int
  op : Int
  put : Bool
  key : ByteArray
  va : Option Addr
  vn : Nat
  vc : Nat
  st : Int
  tx : Int
  ty : Int
def Ec.agg (e : Ec) : Value := .agg #[.int .i64 e.kind, .int .i64 e.client, .int .i64 e.op, .bool e.put, .string e.key, .slice e.va e.vn e.vc, .int .i64 e.st, .int .i64 e.tx, .int .i64 e.ty]
def Ev.ec (e : Ev) : Ec := ⟨e.kind, e.client, e.op, e.put, e.key, e.va, e.vn, e.vc, e.st, e.tx, e.ty⟩
def zeroC : Ec := ⟨0, 0, 0, false, ⟨#[]⟩, none, 0, 0, 0, 0, 0⟩
theorem Ec.inj {a b : Ec} (h : a.agg = b.agg) : a = b := by
  obtain ⟨a1, a2, a3, a4, a5, a6, a7, a8, a9, a10, a11⟩ := a
  obtain ⟨b1, b2, b3, b4, b5, b6, b7, b8, b9, b10, b11⟩ := b
  unfold Ec.agg at h
  simp at h
  obtain ⟨rfl, rfl, rfl, rfl, rfl, ⟨rfl, rfl, rfl⟩, rfl, rfl, rfl⟩ := h
  rfl
def KI (k : Int) : Prop := -9223372036854775808 ≤ k ∧ k < 9223372036854775808
theorem wf_i64 (a : Int) : (Lit.int .i64 a).wf = true ↔ KI a := by
  have e1 : IntKind.i64.min = -9223372036854775808 := by decide
  have e2 : IntKind.i64.max = 9223372036854775807 := by decide
  show (decide (IntKind.i64.min ≤ a) && decide (a ≤ IntKind.i64.max)) = true ↔ _
  rw [e1, e2]
  unfold KI
  simp
  omega
def isEc : List Value → Bool
  | [.int .i64 _, .int .i64 _, .int .i64 _, .bool _, .string _, .slice _ _ _, .int .i64 _, .int .i64 _, .int .i64 _] => true
  | _ => false
theorem isEc_of : ∀ {l : List Value}, isEc l = true → ∃ e : Ec, Value.agg l.toArray = e.agg := by
  intro l h
  unfold isEc at h
  split at h
  · rename_i a b c d e f g k i j m
    exact ⟨⟨a, b, c, d, e, f, g, k, i, j, m⟩, rfl⟩
  · cases h
def RE (v : Value) : Option (DataW Value × List MemPlace) :=
  match v with
  | .agg cs => if isEc cs.toList = true then some (.held v, []) else none
  | _ => none
theorem evK : MK (ε := Ec) 70 3 45 (Value.int .i64) (Lit.int .i64) KI Ec.agg zeroC RE where
  law := Maps.int_keyed Tryd.underlying3
  und := Tryd.underlying70
  key k h := Maps.keyOf_int_mk Tryd.underlying3 ((wf_i64 k).2 h)
  inv v l h := by
    obtain ⟨x, rfl, rfl, h3⟩ := Maps.keyOf_int_inv Tryd.underlying3 h
    exact ⟨x, rfl, (wf_i64 x).1 h3, rfl⟩
  inj k k' _ _ h := by simpa using h
  kvi k k' h := by simpa using h
  rd e := rfl
  rdi v y h := by
    unfold RE at h
    split at h
    · rename_i cs
      split at h
      · rename_i z
        exact ⟨isEc_of z, (Option.some.inj h).symm⟩
      · cases h
    · cases h
  evi e e' h := Ec.inj h
  zero w := Tryd.zeroValue45 w
/-- A map from clients to events in memory. -/
structure IsE (w : World) (mb : Nat) (M : Int → Option Ec) (bd : Nat) : Prop where
  tm : ∃ n, TM 3 (Lit.int .i64) KI Ec.agg RE w mb n M ∧ n ≤ bd
theorem IsE.kept {S : Nat → Prop} {w w' : World} {mb bd : Nat} {M : Int → Option Ec} (h : IsE w mb M bd) (K : Kept S w w') (hn : ¬ S mb) : IsE w' mb M bd := by
  obtain ⟨n, h1, h2⟩ := h.tm
  exact ⟨n, h1.kept K hn, h2⟩
theorem IsE.made (w : World) : IsE (w.alloc (.map #[] 0)) w.heap.size (fun _ => none) 0 := ⟨0, TM.made w, Nat.le_refl _⟩
/-- May it stand behind? Of the cells. -/
def mayC (l e : Ec) : Bool := if e.kind = 1 then !decide (l.kind = 1) && decide (e.op = l.op + 1) else decide (l.kind = 1) && decide (e.op = l.op) && decide (e.put = l.put) && decide (e.key = l.key)
theorem mayC_of (M : Int → Option Ev) (e : Ev) (c : Int) : mayC (((M c).map Ev.ec).getD zeroC) e.ec = mayF (M c) e := by
  unfold mayC mayF
  cases M c with
  | none =>
    show (if e.kind = 1 then _ else _) = _
    by_cases h : e.kind = 1
    · rw [if_pos h, if_pos h]
      rfl
    · rw [if_neg h, if_neg h]
      rfl
  | some x => rfl
set_option maxRecDepth 100000 in
set_option maxHeartbeats 2000000 in
theorem hMay (l e : Ec) (hl : 0 ≤ l.op ∧ l.op ≤ 4611686018427387903) (w : World) : Calls Tryd.prog 21 #[l.agg, e.agg] w fun o w' => o = .returned (.bool (mayC l e)) ∧ Kept (fun _ => False) w w' := by
  obtain ⟨v, hv⟩ : ∃ v, v = mayC l e := ⟨_, rfl⟩
  have HV : Hid (v = mayC l e) := hv
  rw [← hv]
  clear hv
  unfold mayC at HV
  obtain ⟨li, lc, lo, lp, lk, la, ln, lm, ls, lx, ly⟩ := l
  obtain ⟨ei, ec, eo, ep, ek, ea, en, em, es, ex, ey⟩ := e
  unfold Ec.agg
  dsimp only at HV hl ⊢
  have K0 : Hid (Kept (fun _ => False) w ((w.alloc (Obj.cells #[.int .i64 li, .int .i64 lc, .int .i64 lo, .bool lp, .string lk, .slice la ln lm, .int .i64 ls, .int .i64 lx, .int .i64 ly] 45)).alloc (Obj.cells #[.int .i64 ei, .int .i64 ec, .int .i64 eo, .bool ep, .string ek, .slice ea en em, .int .i64 es, .int .i64 ex, .int .i64 ey] 45))) := ((Kept.refl _ _).alloc _).alloc _
  have wr : IntKind.i64.wrap (lo + 1) = lo + 1 := by rw [IntKind.wrap_i64]; omega
  have wr2 : wrap64 (lo + 1) = lo + 1 := by unfold wrap64; omega
  go_enter Tryd.func21, Tryd.ntmps21
  by_cases h1 : ei = 1
  · subst h1
    by_cases h2 : li = 1
    · subst h2
      have A : v = false := by rw [HV.out]; simp
      subst A
      clear HV
      go_wp2_with fail
      go_ret
      exact ⟨by first | rfl | simp, K0.out⟩
    · have q2 : (li == 1) = false := by simp [h2]
      by_cases h3 : eo = lo + 1
      · subst h3
        have A : v = true := by rw [HV.out]; simp [h2]
        subst A
        clear HV
        go_wp2_with fail
        go_ret
        exact ⟨by first | rfl | simp, K0.out⟩
      · have q3 : (eo == lo + 1) = false := by simp [h3]
        have A : v = false := by rw [HV.out]; simp [h2, h3]
        subst A
        clear HV
        go_wp2_with fail
        go_ret
        exact ⟨by first | rfl | simp, K0.out⟩
  · have q1 : (ei == 1) = false := by simp [h1]
    by_cases h2 : li = 1
    · subst h2
      by_cases h3 : eo = lo
      · subst h3
        by_cases h4 : ep = lp
        · subst h4
          by_cases h5 : ek = lk
          · subst h5
            have A : v = true := by rw [HV.out]; simp [h1]
            subst A
            clear HV
            go_wp2_with fail
            go_ret
            exact ⟨by first | rfl | simp, K0.out⟩
          · have q5 : (ek.toList == lk.toList) = false := beq_false_of_ne (ba_ne h5)
            have q6 := ba_ne h5
            have A : v = false := by rw [HV.out]; simp [h1, h5]
            subst A
            clear HV
            go_wp2_with fail
            go_ret
            exact ⟨by first | rfl | simp, K0.out⟩
        · have q4 : (ep == lp) = false := by simp [h4]
          have A : v = false := by rw [HV.out]; simp [h1, h4]
          subst A
          clear HV
          go_wp2_with fail
          go_ret
          exact ⟨by first | rfl | simp, K0.out⟩
      · have q3 : (eo == lo) = false := by simp [h3]
        have A : v = false := by rw [HV.out]; simp [h1, h3]
        subst A
        clear HV
        go_wp2_with fail
        go_ret
        exact ⟨by first | rfl | simp, K0.out⟩
    · have q2 : (li == 1) = false := by simp [h2]
      have A : v = false := by rw [HV.out]; simp [h1, h2]
      subst A
      clear HV
      go_wp2_with fail
      go_ret
      exact ⟨by first | rfl | simp, K0.out⟩
end Go.Proofs.YtbangbobfeflcaaDoor

namespace Go.Proofs.YtbangbobfeflcaaDoor
open Go.RowKit 

theorem Tryd.laidOutH : laidOutB Tryd.prog = true := by kernel_rfl
theorem Tryd.size74 : Tryd.prog.types.size = 158 := by kernel_rfl
theorem Tryd.cells74 : Tryd.prog.cellsOf 74 = 2 := by kernel_rfl
theorem Tryd.cells3h : Tryd.prog.cellsOf 3 = 1 := by kernel_rfl
theorem Tryd.cells2h : Tryd.prog.cellsOf 2 = 1 := by kernel_rfl
theorem opLaw : Maps.Keyed Tryd.prog 74 := Maps.Keyed.of_law (deep_law_laid Tryd.laidOutH (m := 3) (by omega) (of_decide_eq_true (by kernel_rfl)) (by kernel_rfl) (by rw [Tryd.underlying74]))
def opV (k : Int × Int) : Value := .agg #[.int .i64 k.1, .int .i64 k.2]
def opL (k : Int × Int) : Lit := .string (keyBytes [.int .i64 k.1, .int .i64 k.2])
def opF (k : Int × Int) : Prop := KI k.1 ∧ KI k.2
theorem lit_one {t : TypeId} (ht : Tryd.prog.underlying t = some (.int .i64)) (c : Value) (ls : List Lit) : Tryd.prog.keyLits 158 t [c] = some ls ↔ ∃ a, c = .int .i64 a ∧ (Lit.int .i64 a).wf = true ∧ ls = [.int .i64 a] := by
  unfold Program.keyLits
  rw [ht]
  constructor
  · intro h
    cases c with
    | int q n =>
      have h : (if q = IntKind.i64 ∧ (Lit.int IntKind.i64 n).wf = true then some [Lit.int IntKind.i64 n] else none) = some ls := h
      split at h
      · rename_i z
        rw [z.1]
        exact ⟨n, rfl, z.2, (Option.some.inj h).symm⟩
      · cases h
    | _ => cases h
  · rintro ⟨a, rfl, h1, rfl⟩
    show (if IntKind.i64 = IntKind.i64 ∧ (Lit.int IntKind.i64 a).wf = true then some [Lit.int IntKind.i64 a] else none) = _
    rw [if_pos ⟨rfl, h1⟩]
theorem lits_op (c d : Value) (ls : List Lit) : Tryd.prog.keyLits (Tryd.prog.types.size + 1) 74 [c, d] = some ls ↔ ∃ a b, c = .int .i64 a ∧ d = .int .i64 b ∧ (Lit.int .i64 a).wf = true ∧ (Lit.int .i64 b).wf = true ∧ ls = [.int .i64 a, .int .i64 b] := by
  rw [Tryd.size74]
  unfold Program.keyLits
  rw [Tryd.underlying74]
  simp [Tryd.cells74, Tryd.cells3h, Tryd.cells2h]
  constructor
  · intro h
    obtain ⟨x, hx, h⟩ := Option.bind_eq_some_iff.1 h
    obtain ⟨a, rfl, wa, rfl⟩ := (lit_one Tryd.underlying3 c x).1 hx
    have h : Option.map List.flatten (((Tryd.prog.keyLits 158 2 [d]).bind fun y => some [y]).bind fun y => some ([Lit.int IntKind.i64 a] :: y)) = some ls := h
    cases hd : Tryd.prog.keyLits 158 2 [d] with
    | none => rw [hd] at h; cases h
    | some y =>
      rw [hd] at h
      obtain ⟨b, rfl, wb, rfl⟩ := (lit_one Tryd.underlying2 d y).1 hd
      have h := Option.some.inj h
      exact ⟨a, rfl, b, rfl, wa, wb, h.symm⟩
  · rintro ⟨a, rfl, b, rfl, wa, wb, rfl⟩
    rw [(lit_one Tryd.underlying3 _ [.int .i64 a]).2 ⟨a, rfl, wa, rfl⟩, (lit_one Tryd.underlying2 _ [.int .i64 b]).2 ⟨b, rfl, wb, rfl⟩]
    rfl
theorem op_key (k : Int × Int) (h : opF k) : keyOf Tryd.prog 74 (opV k) = some (opL k) := by
  unfold keyOf
  rw [Tryd.underlying74]
  have h1 : Tryd.prog.keyType 74 = true := by kernel_rfl
  have h2 : (opV k).formed Tryd.prog 74 = true := by
    unfold opV
    simp [Value.formed, Tryd.underlying74, Tryd.cells74]
  show (if (Tryd.prog.keyType 74 && (opV k).formed Tryd.prog 74) = true then (Tryd.prog.keyLits (Tryd.prog.types.size + 1) 74 [.int .i64 k.1, .int .i64 k.2]).map (fun ls => Lit.string (keyBytes ls)) else none) = _
  rw [if_pos (by rw [h1, h2]; rfl), (lits_op _ _ _).2 ⟨k.1, k.2, rfl, rfl, (wf_i64 _).2 h.1, (wf_i64 _).2 h.2, rfl⟩]
  rfl
set_option maxRecDepth 100000 in
theorem op_inv (v : Value) (l : Lit) (h : keyOf Tryd.prog 74 v = some l) : ∃ k, v = opV k ∧ opF k ∧ l = opL k := by
  unfold keyOf at h
  rw [Tryd.underlying74] at h
  have h : (if (Tryd.prog.keyType 74 && v.formed Tryd.prog 74) = true then (Tryd.prog.keyLits (Tryd.prog.types.size + 1) 74 v.cells.toList).map (fun ls => Lit.string (keyBytes ls)) else none) = some l := h
  split at h
  · rename_i z
    rw [Bool.and_eq_true] at z
    have z2 := z.2
    cases v with
    | agg cs =>
      have hc : cs.size = 2 := by
        unfold Value.formed at z2
        rw [Tryd.underlying74] at z2
        simp [Tryd.cells74] at z2
        exact z2
      obtain ⟨cl⟩ := cs
      match cl, hc with
      | [c, d], _ =>
        have h : (Tryd.prog.keyLits (Tryd.prog.types.size + 1) 74 [c, d]).map (fun ls => Lit.string (keyBytes ls)) = some l := h
        obtain ⟨ls, h1, h2⟩ := Option.map_eq_some_iff.1 h
        obtain ⟨a, b, rfl, rfl, wa, wb, rfl⟩ := (lits_op _ _ _).1 h1
        exact ⟨(a, b), rfl, ⟨(wf_i64 a).1 wa, (wf_i64 b).1 wb⟩, h2.symm⟩
    | _ =>
      unfold Value.formed at z2
      simp [Tryd.underlying74] at z2
  · cases h
theorem opV_inj (k k' : Int × Int) (h : opV k = opV k') : k = k' := by
  unfold opV at h
  simp at h
  exact Prod.ext h.1 h.2
theorem opL_inj (k k' : Int × Int) (hk : opF k) (hk' : opF k') (h : opL k = opL k') : k = k' := by
  have h1 := op_key k hk
  have h2 := op_key k' hk'
  rw [← h] at h2
  exact opV_inj _ _ (opLaw.inj h1 h2)
/-- A slice, as a map holds it. -/
structure Sl where
  p : Option Addr
  n : Nat
  c : Nat
def Sl.v (s : Sl) : Value := .slice s.p s.n s.c
def RSl (v : Value) : Option (DataW Value × List MemPlace) :=
  match v with
  | .slice _ _ _ => some (.held v, [])
  | _ => none
theorem opK : MK (ε := Sl) 71 74 77 opV opL opF Sl.v ⟨none, 0, 0⟩ RSl where
  law := opLaw
  und := Tryd.underlying71
  key := op_key
  inv v l h := op_inv v l h
  inj := opL_inj
  kvi := opV_inj
  rd _ := rfl
  rdi v y h := by
    unfold RSl at h
    split at h
    · rename_i a n c
      exact ⟨⟨⟨a, n, c⟩, rfl⟩, (Option.some.inj h).symm⟩
    · cases h
  evi e e' h := by
    obtain ⟨a, b, c⟩ := e
    obtain ⟨a', b', c'⟩ := e'
    unfold Sl.v at h
    simp at h
    obtain ⟨rfl, rfl, rfl⟩ := h
    rfl
  zero w := Tryd.zeroValue77 w
end Go.Proofs.YtbangbobfeflcaaDoor
