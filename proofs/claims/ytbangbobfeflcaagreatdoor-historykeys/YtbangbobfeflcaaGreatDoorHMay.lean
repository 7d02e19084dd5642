import Derived.Test.YtbangbobfeflcaaGreatDoorHFb
namespace Go.Proofs.YtbangbobfeflcaaGreatDoor
open Go.RowKit 

theorem ba_loop (b : ByteArray) : ∀ k i r, b.size - i = k → ByteArray.toList.loop b i r = r.reverse ++ b.data.toList.drop i := by
  have hl : b.data.toList.length = b.size := by rw [Array.length_toList]; rfl
  intro k
  induction k with
  | zero =>
    intro i r h
    unfold ByteArray.toList.loop
    rw [if_neg (by omega), List.drop_eq_nil_of_le (by omega)]
    simp
  | succ k ih =>
    intro i r h
    unfold ByteArray.toList.loop
    rw [if_pos (by omega), ih (i+1) _ (by omega), List.drop_eq_getElem_cons (i := i) (by omega)]
    have e : b.get! i = b.data.toList[i]'(by omega) := by
      have hs : i < b.data.size := by
        have : b.size = b.data.size := rfl
        omega
      show b.data[i]! = _
      rw [getElem!_pos b.data i hs]
      simp
    rw [e]
    simp
theorem ba_toList (b : ByteArray) : b.toList = b.data.toList := by
  unfold ByteArray.toList
  rw [ba_loop b _ 0 [] rfl]
  simp
theorem ba_ne {a b : ByteArray} (h : ¬ a = b) : a.toList ≠ b.toList := by
  rw [ba_toList, ba_toList]
  intro z
  apply h
  cases a
  cases b
  congr 1
  exact Array.toList_inj.1 z
/-- What lies in a map of events: the cells alone. -/
structure Ec where
  kind : Int
  client : Int
  op : Int
  put : Bool
  key : ByteArray
  va : Option Addr
  vn : Nat
  vc : Nat
  st : Int
  tx : Int
  ty : Int
def Ec.agg (e : Ec) : Value := .agg #[.int .i64 e.kind, .int .i64 e.client, .int .i64 e.op, .bool e.put, .string e.key, .slice e.va e.vn e.vc, .int .i64 e.st, .int .i64 e.tx, .int .i64 e.ty]
def Ev.ec (e : Ev) : Ec := ⟨e.kind, e.client, e.op, e.put, e.key, e.va, e.vn, e.vc, e.st, e.tx, e.ty⟩
def zeroC : Ec := ⟨0, 0, 0, false, ⟨#[]⟩, none, 0, 0, 0, 0, 0⟩
theorem Ec.inj {a b : Ec} (h : a.agg = b.agg) : a = b := by
  obtain ⟨a1, a2, a3, a4, a5, a6, a7, a8, a9, a10, a11⟩ := a
  obtain ⟨b1, b2, b3, b4, b5, b6, b7, b8, b9, b10, b11⟩ := b
  unfold Ec.agg at h
  simp at h
  obtain ⟨rfl, rfl, rfl, rfl, rfl, ⟨rfl, rfl, rfl⟩, rfl, rfl, rfl⟩ := h
  rfl
def KI (k : Int) : Prop := -9223372036854775808 ≤ k ∧ k < 9223372036854775808
theorem wf_i64 (a : Int) : (Lit.int .i64 a).wf = true ↔ KI a := by
  have e1 : IntKind.i64.min = -9223372036854775808 := by decide
  have e2 : IntKind.i64.max = 9223372036854775807 := by decide
  show (decide (IntKind.i64.min ≤ a) && decide (a ≤ IntKind.i64.max)) = true ↔ _
  rw [e1, e2]
  unfold KI
  simp
  omega
def isEc : List Value → Bool
  | [.int .i64 _, .int .i64 _, .int .i64 _, .bool _, .string _, .slice _ _ _, .int .i64 _, .int .i64 _, .int .i64 _] => true
  | _ => false
theorem isEc_of : ∀ {l : List Value}, isEc l = true → ∃ e : Ec, Value.agg l.toArray = e.agg := by
  intro l h
  unfold isEc at h
  split at h
  · rename_i a b c d e f g k i j m
    exact ⟨⟨a, b, c, d, e, f, g, k, i, j, m⟩, rfl⟩
  · cases h
def RE (v : Value) : Option (DataW Value × List MemPlace) :=
  match v with
  | .agg cs => if isEc cs.toList = true then some (.held v, []) else none
  | _ => none
theorem evK : MK (ε := Ec) 73 3 39 (Value.int .i64) (Lit.int .i64) KI Ec.agg zeroC RE where
  law := Maps.int_keyed Tryz.underlying3
  und := Tryz.underlying73
  key k h := Maps.keyOf_int_mk Tryz.underlying3 ((wf_i64 k).2 h)
  inv v l h := by
    obtain ⟨x, rfl, rfl, h3⟩ := Maps.keyOf_int_inv Tryz.underlying3 h
    exact ⟨x, rfl, (wf_i64 x).1 h3, rfl⟩
  inj k k' _ _ h := by simpa using h
  kvi k k' h := by simpa using h
  rd e := rfl
  rdi v y h := by
    unfold RE at h
    split at h
    · rename_i cs
      split at h
      · rename_i z
        exact ⟨isEc_of z, (Option.some.inj h).symm⟩
      · cases h
    · cases h
  evi e e' h := Ec.inj h
  zero w := Tryz.zeroValue39 w
/-- A map from clients to events in memory. -/
structure IsE (w : World) (mb : Nat) (M : Int → Option Ec) (bd : Nat) : Prop where
  tm : ∃ n, TM 3 (Lit.int .i64) KI Ec.agg RE w mb n M ∧ n ≤ bd
theorem IsE.kept {S : Nat → Prop} {w w' : World} {mb bd : Nat} {M : Int → Option Ec} (h : IsE w mb M bd) (K : Kept S w w') (hn : ¬ S mb) : IsE w' mb M bd := by
  obtain ⟨n, h1, h2⟩ := h.tm
  exact ⟨n, h1.kept K hn, h2⟩
theorem IsE.made (w : World) : IsE (w.alloc (.map #[] 0)) w.heap.size (fun _ => none) 0 := ⟨0, TM.made w, Nat.le_refl _⟩
/-- May it stand behind? Of the cells. -/
def mayC (l e : Ec) : Bool := if e.kind = 1 then !decide (l.kind = 1) && decide (e.op = l.op + 1) else decide (l.kind = 1) && decide (e.op = l.op) && decide (e.put = l.put) && decide (e.key = l.key)
theorem mayC_of (M : Int → Option Ev) (e : Ev) (c : Int) : mayC (((M c).map Ev.ec).getD zeroC) e.ec = mayF (M c) e := by
  unfold mayC mayF
  cases M c with
  | none =>
    show (if e.kind = 1 then _ else _) = _
    by_cases h : e.kind = 1
    · rw [if_pos h, if_pos h]
      rfl
    · rw [if_neg h, if_neg h]
      rfl
  | some x => rfl
set_option maxRecDepth 100000 in
set_option maxHeartbeats 2000000 in
theorem hMay (l e : Ec) (hl : 0 ≤ l.op ∧ l.op ≤ 4611686018427387903) (w : World) : Calls Tryz.prog 41 #[l.agg, e.agg] w fun o w' => o = .returned (.bool (mayC l e)) ∧ Kept (fun _ => False) w w' := by
  obtain ⟨v, hv⟩ : ∃ v, v = mayC l e := ⟨_, rfl⟩
  have HV : Hid (v = mayC l e) := hv
  rw [← hv]
  clear hv
  unfold mayC at HV
  obtain ⟨li, lc, lo, lp, lk, la, ln, lm, ls, lx, ly⟩ := l
  obtain ⟨ei, ec, eo, ep, ek, ea, en, em, es, ex, ey⟩ := e
  unfold Ec.agg
  dsimp only at HV hl ⊢
  have K0 : Hid (Kept (fun _ => False) w ((w.alloc (Obj.cells #[.int .i64 li, .int .i64 lc, .int .i64 lo, .bool lp, .string lk, .slice la ln lm, .int .i64 ls, .int .i64 lx, .int .i64 ly] 39)).alloc (Obj.cells #[.int .i64 ei, .int .i64 ec, .int .i64 eo, .bool ep, .string ek, .slice ea en em, .int .i64 es, .int .i64 ex, .int .i64 ey] 39))) := ((Kept.refl _ _).alloc _).alloc _
  have wr : IntKind.i64.wrap (lo + 1) = lo + 1 := by rw [IntKind.wrap_i64]; omega
  have wr2 : wrap64 (lo + 1) = lo + 1 := by unfold wrap64; omega
  go_enter Tryz.func41, Tryz.ntmps41
  by_cases h1 : ei = 1
  · subst h1
    by_cases h2 : li = 1
    · subst h2
      have A : v = false := by rw [HV.out]; simp
      subst A
      clear HV
      go_wp2_with fail
      go_ret
      exact ⟨by first | rfl | simp, K0.out⟩
    · have q2 : (li == 1) = false := by simp [h2]
      by_cases h3 : eo = lo + 1
      · subst h3
        have A : v = true := by rw [HV.out]; simp [h2]
        subst A
        clear HV
        go_wp2_with fail
        go_ret
        exact ⟨by first | rfl | simp, K0.out⟩
      · have q3 : (eo == lo + 1) = false := by simp [h3]
        have A : v = false := by rw [HV.out]; simp [h2, h3]
        subst A
        clear HV
        go_wp2_with fail
        go_ret
        exact ⟨by first | rfl | simp, K0.out⟩
  · have q1 : (ei == 1) = false := by simp [h1]
    by_cases h2 : li = 1
    · subst h2
      by_cases h3 : eo = lo
      · subst h3
        by_cases h4 : ep = lp
        · subst h4
          by_cases h5 : ek = lk
          · subst h5
            have A : v = true := by rw [HV.out]; simp [h1]
            subst A
            clear HV
            go_wp2_with fail
            go_ret
            exact ⟨by first | rfl | simp, K0.out⟩
          · have q5 : (ek.toList == lk.toList) = false := beq_false_of_ne (ba_ne h5)
            have q6 := ba_ne h5
            have A : v = false := by rw [HV.out]; simp [h1, h5]
            subst A
            clear HV
            go_wp2_with fail
            go_ret
            exact ⟨by first | rfl | simp, K0.out⟩
        · have q4 : (ep == lp) = false := by simp [h4]
          have A : v = false := by rw [HV.out]; simp [h1, h4]
          subst A
          clear HV
          go_wp2_with fail
          go_ret
          exact ⟨by first | rfl | simp, K0.out⟩
      · have q3 : (eo == lo) = false := by simp [h3]
        have A : v = false := by rw [HV.out]; simp [h1, h3]
        subst A
        clear HV
        go_wp2_with fail
        go_ret
        exact ⟨by first | rfl | simp, K0.out⟩
    · have q2 : (li == 1) = false := by simp [h2]
      have A : v = false := by rw [HV.out]; simp [h1, h2]
      subst A
      clear HV
      go_wp2_with fail
      go_ret
      exact ⟨by first | rfl | simp, K0.out⟩
end Go.Proofs.YtbangbobfeflcaaGreatDoor
