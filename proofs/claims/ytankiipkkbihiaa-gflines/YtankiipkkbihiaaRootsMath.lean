import Derived.Test.YtankiipkkbihiaaEval
namespace Go.Proofs.Ytankiipkkbihiaa
namespace Gf

def Bytes (l : List Nat) : Prop := ∀ c ∈ l, c < 256
theorem Bytes.tail {c : Nat} {t : List Nat} (h : Bytes (c :: t)) : Bytes t := fun x hx => h x (List.mem_cons_of_mem _ hx)
theorem Bytes.head {c : Nat} {t : List Nat} (h : Bytes (c :: t)) : c < 256 := h c (by simp)

theorem Good.xor_mul {P : Nat} (g : Good P) (a b c : Nat) (ha : a < 256) (hb : b < 256) : mul P (a ^^^ b) c = mul P a c ^^^ mul P b c := by
  rw [mul_comm P (a ^^^ b) c, g.mul_xor c a b ha hb, mul_comm P c a, mul_comm P c b]

/-- The value of a sum of two polynomials. -/
theorem ev_zip {P : Nat} (g : Good P) (x : Nat) : ∀ p q : List Nat, Bytes p → Bytes q → p.length = q.length → ev P (List.zipWith (· ^^^ ·) p q) x = ev P p x ^^^ ev P q x
  | [], [], _, _, _ => by show 0 = 0 ^^^ 0; rfl
  | [], _ :: _, _, _, h => absurd h (by simp)
  | _ :: _, [], _, _, h => absurd h (by simp)
  | a :: p, b :: q, hp, hq, h => by
    show mul P (ev P (List.zipWith (· ^^^ ·) p q) x) x ^^^ (a ^^^ b) = (mul P (ev P p x) x ^^^ a) ^^^ (mul P (ev P q x) x ^^^ b)
    rw [ev_zip g x p q hp.tail hq.tail (by simpa using h), g.xor_mul _ _ _ (ev_lt g p hp.tail x) (ev_lt g q hq.tail x)]
    ac_rfl

/-- Horner's quotient by x + r. -/
def dv (P r : Nat) : List Nat → List Nat
  | [] => []
  | [_] => []
  | _ :: c :: t => ev P (c :: t) r :: dv P r (c :: t)
theorem dv_length (P r : Nat) : ∀ l : List Nat, (dv P r l).length = l.length - 1
  | [] => rfl
  | [_] => rfl
  | _ :: c :: t => by
    show (dv P r (c :: t)).length + 1 = _
    rw [dv_length P r (c :: t)]; simp
theorem dv_bytes {P : Nat} (g : Good P) (r : Nat) : ∀ l : List Nat, Bytes l → Bytes (dv P r l)
  | [], _ => fun _ h => absurd h (by simp [dv])
  | [_], _ => fun _ h => absurd h (by simp [dv])
  | _ :: c :: t, hb => fun y hy => by
    rw [show dv P r (_ :: c :: t) = ev P (c :: t) r :: dv P r (c :: t) from rfl] at hy
    rcases List.mem_cons.1 hy with e | e
    · rw [e]; exact ev_lt g _ hb.tail r
    · exact dv_bytes g r (c :: t) hb.tail y e
theorem ev_dv {P : Nat} (g : Good P) (x r : Nat) (hx : x < 256) (hr : r < 256) : ∀ l : List Nat, Bytes l → ev P l x = ev P l r ^^^ mul P (x ^^^ r) (ev P (dv P r l) x)
  | [], _ => by show 0 = 0 ^^^ mul P (x ^^^ r) 0; rw [mul_zero]; rfl
  | [c], _ => by
    show mul P 0 x ^^^ c = (mul P 0 r ^^^ c) ^^^ mul P (x ^^^ r) 0
    rw [mul_zero, zero_mul, zero_mul]; simp
  | c :: d :: t, hb => by
    have ih := ev_dv g x r hx hr (d :: t) hb.tail
    have lr : ev P (d :: t) r < 256 := ev_lt g _ hb.tail r
    have le : ev P (dv P r (d :: t)) x < 256 := ev_lt g _ (dv_bytes g r _ hb.tail) x
    show mul P (ev P (d :: t) x) x ^^^ c = (mul P (ev P (d :: t) r) r ^^^ c) ^^^ mul P (x ^^^ r) (mul P (ev P (dv P r (d :: t)) x) x ^^^ ev P (d :: t) r)
    rw [ih]
    generalize ev P (d :: t) r = u at *
    generalize ev P (dv P r (d :: t)) x = e at *
    have lm : mul P (x ^^^ r) e < 256 := g.mul_lt _ _
    rw [g.xor_mul _ _ _ lr lm, g.mul_xor _ _ _ (g.mul_lt e x) lr, g.xor_mul x r u hx hr, mul_comm P u x, mul_comm P u r, g.mul_assoc (x ^^^ r) e x]
    generalize mul P x u = A
    generalize mul P r u = B
    generalize mul P (x ^^^ r) (mul P e x) = C
    have : B ^^^ c ^^^ (C ^^^ (A ^^^ B)) = (B ^^^ B) ^^^ (A ^^^ C ^^^ c) := by ac_rfl
    rw [this, Nat.xor_self, Nat.zero_xor]
def Null (l : List Nat) : Prop := ∀ c ∈ l, c = 0
theorem dv_null {P : Nat} (r : Nat) : ∀ l : List Nat, ev P l r = 0 → Null (dv P r l) → Null l
  | [], _, _ => fun _ h => absurd h (by simp)
  | [c], he, _ => fun y hy => by
    have e : mul P 0 r ^^^ c = 0 := he
    rw [zero_mul, Nat.zero_xor] at e
    rw [List.mem_singleton.1 hy]; exact e
  | c :: d :: t, he, hn => fun y hy => by
    have h0 : ev P (d :: t) r = 0 := hn _ (by rw [show dv P r (c :: d :: t) = ev P (d :: t) r :: dv P r (d :: t) from rfl]; simp)
    have h1 : Null (dv P r (d :: t)) := fun z hz => hn z (by rw [show dv P r (c :: d :: t) = ev P (d :: t) r :: dv P r (d :: t) from rfl]; exact List.mem_cons_of_mem _ hz)
    have ih := dv_null r (d :: t) h0 h1
    have e : mul P (ev P (d :: t) r) r ^^^ c = 0 := he
    rw [h0, zero_mul, Nat.zero_xor] at e
    rcases List.mem_cons.1 hy with q | q
    · rw [q]; exact e
    · exact ih y q
theorem xor_ne (a b : Nat) (h : a ≠ b) : a ^^^ b ≠ 0 := fun e => h (by
  have : (a ^^^ b) ^^^ b = 0 ^^^ b := by rw [e]
  rw [Nat.xor_assoc, Nat.xor_self, Nat.xor_zero, Nat.zero_xor] at this; exact this)
/-- A polynomial that is not null has fewer zeros than coefficients. -/
theorem roots {P : Nat} (g : Good P) : ∀ (s : List Nat) (l : List Nat), Bytes l → ¬ Null l → s.Nodup → Bytes s → (∀ r ∈ s, ev P l r = 0) → s.length < l.length
  | [], l, _, hn, _, _, _ => by
    cases l with
    | nil => exact absurd (fun _ h => absurd h (by simp)) hn
    | cons _ _ => simp
  | r :: s, l, hb, hn, hd, hs, hz => by
    have hr : r < 256 := hs.head
    have z0 : ev P l r = 0 := hz r (by simp)
    have nq : ¬ Null (dv P r l) := fun h => hn (dv_null r l z0 h)
    have hd' := List.nodup_cons.1 hd
    have ih := roots g s (dv P r l) (dv_bytes g r l hb) nq hd'.2 hs.tail (fun x hx => by
      have zx : ev P l x = 0 := hz x (List.mem_cons_of_mem _ hx)
      have lx : x < 256 := hs.tail x hx
      have ne : x ≠ r := fun e => hd'.1 (e ▸ hx)
      have k := ev_dv g x r lx hr l hb
      rw [zx, z0, Nat.zero_xor] at k
      rcases (g.mul_eq_zero _ _).1 k.symm with q | q
      · exact absurd q (xor_ne x r ne)
      · exact q)
    rw [dv_length] at ih
    simp only [List.length_cons]; omega
theorem ev_null (P : Nat) : ∀ (l : List Nat) (x : Nat), Null l → ev P l x = 0
  | [], _, _ => rfl
  | c :: t, x, h => by
    show mul P (ev P t x) x ^^^ c = 0
    rw [ev_null P t x (fun y hy => h y (List.mem_cons_of_mem _ hy)), zero_mul, h c (by simp)]; rfl

/-- How many of the elements below k are zeros. -/
def zs (P : Nat) (l : List Nat) : Nat → Nat
  | 0 => 0
  | k + 1 => zs P l k + if ev P l k = 0 then 1 else 0
theorem zs_le (P : Nat) (l : List Nat) : ∀ k, zs P l k ≤ k
  | 0 => Nat.le_refl _
  | k + 1 => by
    have := zs_le P l k
    unfold zs
    by_cases h : ev P l k = 0
    · rw [if_pos h]; omega
    · rw [if_neg h]; omega
theorem zs_filter (P : Nat) (l : List Nat) : ∀ k, zs P l k = ((List.range k).filter (fun x => ev P l x == 0)).length
  | 0 => rfl
  | k + 1 => by
    rw [List.range_succ, List.filter_append, List.length_append, ← zs_filter P l k, show zs P l (k + 1) = zs P l k + if ev P l k = 0 then 1 else 0 from rfl]
    by_cases h : ev P l k = 0
    · simp [h]
    · simp [h]
theorem zs_null (P : Nat) (l : List Nat) (h : Null l) : ∀ k, zs P l k = k
  | 0 => rfl
  | k + 1 => by unfold zs; rw [zs_null P l h k, if_pos (ev_null P l k h)]
theorem zs_lt {P : Nat} (g : Good P) (l : List Nat) (hb : Bytes l) (hn : ¬ Null l) : zs P l 256 < l.length := by
  rw [zs_filter]
  refine roots g _ l hb hn (List.nodup_range.filter _) (fun x hx => ?_) (fun x hx => ?_)
  · have := (List.mem_filter.1 hx).1
    exact List.mem_range.1 this
  · exact beq_iff_eq.1 (List.mem_filter.1 hx).2
end Gf
end Go.Proofs.Ytankiipkkbihiaa
