import Derived.Test.YtojepeefphbekaaGreatPStepB
import Derived.Test.YtojepeefphbekaaGreatTaknJ
import Derived.Test.YtojepeefphbekaaGreatPPlaceJ
namespace Go.Proofs.YtojepeefphbekaaGreat
open Go.RowKit 

theorem PMv.from {base : Nat} {w V w' : World} {n : Nat} {x x' : PD} (K : Kept (fun _ => False) w V) (m : PMv base V w' n x x') : PMv base w w' n x x' := ⟨m.st, m.tb, m.rb, (K.mono (fun _ _ z => z.elim)).trans m.kept (fun _ _ z => z), fun b hb => (m.near b hb).imp id (fun z => Nat.le_trans K.size z)⟩
/-- A step on both. -/
theorem pPlays {base : Nat} {w0 w : World} {n : Nat} {x : PD} (h : IsP base w n x) (K0 : Kept (fun _ => False) w0 w) (hb : w0.heap.size ≤ base) (ok ot uk : Int) (ukey : ByteArray) (ux uy : Int) (uf uh : Bool) (ua : Option Addr) (un uc : Nat) (key : ByteArray) (gx gy oN : Int) (l : List Nat) (rd : Reads w0 ua un uc l) (hn : un + 1 ≤ 140737488355328) (hk : ukey.size ≤ maxLen) (ft : TFit (ux, uy)) (hk2 : key.size ≤ maxLen) (ft2 : TFit (gx, gy)) (hl : n + 3 < 1099511627775) :
    Calls Tryz.prog 31 #[.pointer (some ⟨x.t.tb, 0, none⟩), .pointer (some ⟨x.rb, 0, none⟩), .agg #[.int .i64 ok, .int .i64 ot, .int .i64 uk, .string ukey, .int .i64 ux, .int .i64 uy, .bool uf, .bool uh, .slice ua un uc, .string key, .int .i64 gx, .int .i64 gy, .int .i64 oN]] w fun o w' => o = .returned (.bool true) ∧ ∃ x', PMv base w w' (n + 1) x x' := by
  have qt : ∀ (C : Calls Tryz.prog 31 #[.pointer (some ⟨x.t.tb, 0, none⟩), .pointer (some ⟨x.rb, 0, none⟩), .agg #[.int .i64 ok, .int .i64 ot, .int .i64 uk, .string ukey, .int .i64 ux, .int .i64 uy, .bool uf, .bool uh, .slice ua un uc, .string key, .int .i64 gx, .int .i64 gy, .int .i64 oN]] w fun o w' => o = .returned (.bool true) ∧ Kept (fun _ => False) w w'), Calls Tryz.prog 31 #[.pointer (some ⟨x.t.tb, 0, none⟩), .pointer (some ⟨x.rb, 0, none⟩), .agg #[.int .i64 ok, .int .i64 ot, .int .i64 uk, .string ukey, .int .i64 ux, .int .i64 uy, .bool uf, .bool uh, .slice ua un uc, .string key, .int .i64 gx, .int .i64 gy, .int .i64 oN]] w fun o w' => o = .returned (.bool true) ∧ ∃ x', PMv base w w' (n + 1) x x' := fun C => C.mono (by
    rintro o w' ⟨rfl, K⟩
    exact ⟨rfl, x, PMv.quiet h K⟩)
  by_cases h0 : ok = 0
  · subst h0
    refine lPlaysDo _ _ 0 ot uk ukey ux uy uf uh ua un uc key gx gy oN w (.inl rfl) (fun w w' => ∃ x', PMv base w w' (n + 1) x x') (fun V K => ?_)
    refine (pApply (h.k0 K) (K0.and0 K) hb ot uk ukey ux uy uf uh ua un uc key gx gy oN l rd hn hk ft hl).mono ?_
    rintro o w' ⟨rfl, x', m⟩
    exact ⟨rfl, x', m.from K⟩
  · by_cases h1 : ok = 1
    · subst h1
      refine lPlaysDo _ _ 1 ot uk ukey ux uy uf uh ua un uc key gx gy oN w (.inr rfl) (fun w w' => ∃ x', PMv base w w' (n + 1) x x') (fun V K => ?_)
      refine (pWould (h.k0 K) (K0.and0 K) ot uk ukey ux uy uf uh ua un uc key gx gy oN l rd hn hk ft hl).mono ?_
      rintro o w' ⟨rfl, K2⟩
      exact ⟨rfl, x, PMv.quiet h (K.and0 K2)⟩
    · by_cases h2 : ok = 2
      · subst h2
        exact qt (pAsk h ot uk ukey ux uy uf uh ua un uc key gx gy oN hk2 ft2 (by omega))
      · by_cases h3 : ok = 3
        · subst h3
          exact qt (lPlaysTell _ _ ot uk ukey ux uy uf uh ua un uc key gx gy oN w (fun V K => pTells (h.k0 K) (by omega)))
        · exact qt (lPlaysNot _ _ ok ot uk ukey ux uy uf uh ua un uc key gx gy oN w h0 h1 h2 h3)
theorem nPlays (ok ot uk : Int) (ukey : ByteArray) (ux uy : Int) (uf uh : Bool) (ua : Option Addr) (un uc : Nat) (key : ByteArray) (gx gy oN : Int) (l : List Nat) (w : World) (rd : Reads w ua un uc l) (hn : un + 1 ≤ 140737488355328) :
    Calls Tryz.prog 31 #[.pointer none, .pointer none, .agg #[.int .i64 ok, .int .i64 ot, .int .i64 uk, .string ukey, .int .i64 ux, .int .i64 uy, .bool uf, .bool uh, .slice ua un uc, .string key, .int .i64 gx, .int .i64 gy, .int .i64 oN]] w fun o w' => o = .returned (.bool true) ∧ Kept (fun _ => False) w w' := by
  by_cases h0 : ok = 0
  · subst h0
    refine lPlaysDo _ _ 0 ot uk ukey ux uy uf uh ua un uc key gx gy oN w (.inl rfl) (fun w w' => Kept (fun _ => False) w w') (fun V K => ?_)
    refine (nDoesApply ot uk ukey ux uy uf uh ua un uc key gx gy oN l V (rd.kept K (fun _ _ z => z)) hn).mono ?_
    rintro o w' ⟨rfl, K2⟩
    exact ⟨rfl, K.and0 K2⟩
  · by_cases h1 : ok = 1
    · subst h1
      refine lPlaysDo _ _ 1 ot uk ukey ux uy uf uh ua un uc key gx gy oN w (.inr rfl) (fun w w' => Kept (fun _ => False) w w') (fun V K => ?_)
      refine (nDoesWould ot uk ukey ux uy uf uh ua un uc key gx gy oN l V (rd.kept K (fun _ _ z => z)) hn).mono ?_
      rintro o w' ⟨rfl, K2⟩
      exact ⟨rfl, K.and0 K2⟩
    · by_cases h2 : ok = 2
      · subst h2
        exact nAsk ot uk ukey ux uy uf uh ua un uc key gx gy oN w
      · by_cases h3 : ok = 3
        · subst h3
          exact lPlaysTell _ _ ot uk ukey ux uy uf uh ua un uc key gx gy oN w (fun V K => nTells V)
        · exact lPlaysNot _ _ ok ot uk ukey ux uy uf uh ua un uc key gx gy oN w h0 h1 h2 h3
def PV (o : Option PD) : Option Addr := o.map fun x => ⟨x.t.tb, 0, none⟩
def QV (o : Option PD) : Option Addr := o.map fun x => ⟨x.rb, 0, none⟩
def OwnO (o : Option PD) (b : Nat) : Prop := ∃ x, o = some x ∧ x.Own b
structure OMv (base : Nat) (w w' : World) (n : Nat) (o o' : Option PD) : Prop where
  st : ∀ x', o' = some x' → IsP base w' n x'
  pv : PV o' = PV o
  qv : QV o' = QV o
  kept : Kept (OwnO o) w w'
  near : ∀ b, OwnO o' b → OwnO o b ∨ w.heap.size ≤ b
theorem oPlays {base : Nat} {w0 w : World} {n : Nat} {o : Option PD} (h : ∀ x, o = some x → IsP base w n x) (K0 : Kept (fun _ => False) w0 w) (hb : w0.heap.size ≤ base) (ok ot uk : Int) (ukey : ByteArray) (ux uy : Int) (uf uh : Bool) (ua : Option Addr) (un uc : Nat) (key : ByteArray) (gx gy oN : Int) (l : List Nat) (rd : Reads w0 ua un uc l) (hn : un + 1 ≤ 140737488355328) (hk : ukey.size ≤ maxLen) (ft : TFit (ux, uy)) (hk2 : key.size ≤ maxLen) (ft2 : TFit (gx, gy)) (hl : n + 3 < 1099511627775) :
    Calls Tryz.prog 31 #[.pointer (PV o), .pointer (QV o), .agg #[.int .i64 ok, .int .i64 ot, .int .i64 uk, .string ukey, .int .i64 ux, .int .i64 uy, .bool uf, .bool uh, .slice ua un uc, .string key, .int .i64 gx, .int .i64 gy, .int .i64 oN]] w fun e w' => e = .returned (.bool true) ∧ ∃ o', OMv base w w' (n + 1) o o' := by
  cases o with
  | none =>
    refine (nPlays ok ot uk ukey ux uy uf uh ua un uc key gx gy oN l w (rd.kept K0 (fun _ _ z => z)) hn).mono ?_
    rintro e w' ⟨rfl, K⟩
    exact ⟨rfl, none, (fun _ z => by cases z), rfl, rfl, K.mono (fun _ _ z => z.elim), fun b ⟨_, z, _⟩ => by cases z⟩
  | some x =>
    refine (pPlays (h x rfl) K0 hb ok ot uk ukey ux uy uf uh ua un uc key gx gy oN l rd hn hk ft hk2 ft2 hl).mono ?_
    rintro e w' ⟨rfl, x', m⟩
    refine ⟨rfl, some x', fun y hy => ?_, ?_, ?_, m.kept.mono (fun b _ z => ⟨x, rfl, z⟩), fun b ⟨y, hy, hb2⟩ => ?_⟩
    · cases hy
      exact m.st
    · show some (⟨x'.t.tb, 0, none⟩ : Addr) = some ⟨x.t.tb, 0, none⟩
      rw [m.tb]
    · show some (⟨x'.rb, 0, none⟩ : Addr) = some ⟨x.rb, 0, none⟩
      rw [m.rb]
    · cases hy
      exact (m.near b hb2).imp (fun z => ⟨x, rfl, z⟩) id
theorem oTells {base : Nat} {w : World} {n : Nat} {o : Option PD} (h : ∀ x, o = some x → IsP base w n x) (hl : n ≤ 1099511627776) :
    Calls Tryz.prog 32 #[.pointer (PV o), .pointer (QV o)] w fun e w' => e = .returned (.bool true) ∧ Kept (fun _ => False) w w' := by
  cases o with
  | none => exact nTells w
  | some x => exact pTells (h x rfl) hl
/-- Copies of both: first the program's. -/
theorem oCopy1 {base : Nat} {w : World} {n : Nat} {o : Option PD} (h : ∀ x, o = some x → IsP base w n x) (hl : n ≤ 1099511627776) :
    Calls Tryz.prog 10 #[.pointer (PV o)] w fun e w' => ∃ a, e = .returned (.pointer a) ∧ Hid (Kept (fun _ => False) w w' ∧ ((o = none ∧ a = none) ∨ ∃ x c, o = some x ∧ Gst w' n c x.D x.vs ∧ a = some ⟨c.tb, 0, none⟩ ∧ c.delta = x.t.delta ∧ (∀ b, c.Uses b → w.heap.size ≤ b) ∧ w.heap.size ≤ c.tb)) := by
  cases o with
  | none =>
    refine (nCopy w).mono ?_
    rintro e w' ⟨rfl, rfl⟩
    exact ⟨none, rfl, Kept.refl _ _, .inl ⟨rfl, rfl⟩⟩
  | some x =>
    refine (gCopy (h x rfl).g (by omega)).mono ?_
    rintro e w' ⟨nb, rfl, Q⟩
    obtain ⟨c, g, e1, e2, K, f1, f2, _⟩ := Q.out
    exact ⟨_, rfl, K, .inr ⟨x, c, rfl, g, by rw [e1], e2, f1, f2⟩⟩
theorem oCopy2 {base : Nat} {w : World} {n : Nat} {o : Option PD} (h : ∀ x, o = some x → IsP base w n x) (hl : n ≤ 1099511627776) :
    Calls Tryz.prog 30 #[.pointer (QV o)] w fun e w' => ∃ a, e = .returned (.pointer a) ∧ Hid (Kept (fun _ => False) w w' ∧ ((o = none ∧ a = none) ∨ ∃ x nb, o = some x ∧ CS w w' nb x.t.delta x.rn x.vs ∧ a = some ⟨nb, 0, none⟩)) := by
  cases o with
  | none =>
    refine (rCopyN w).mono ?_
    rintro e w' ⟨rfl, rfl⟩
    exact ⟨none, rfl, Kept.refl _ _, .inl ⟨rfl, rfl⟩⟩
  | some x =>
    have hx := h x rfl
    refine (rCopy base x.rb x.t.delta x.p x.rn x.rc x.L x.vs w hx.r (by have := hx.few; omega) hx.dl).mono ?_
    rintro e w' ⟨nb, rfl, Q⟩
    exact ⟨_, rfl, Q.out.kept, .inr ⟨x, nb, rfl, Q.out, rfl⟩⟩
/-- A pair of new ones. -/
theorem news {base : Nat} {w w1 w2 : World} {d : Int} {tb rb nb : Nat} (h0 : 0 ≤ d) (hb : base ≤ w.heap.size) (r : RTab w.heap.size w1 nb d none 0 0 [] []) (hn : w.heap.size ≤ nb) (K1 : Kept (fun _ => False) w w1) (i : IsT w2 0 ⟨tb, rb, d, fun _ => none⟩) (K2 : Kept (fun _ => False) w1 w2) (h1 : w1.heap.size ≤ tb) (h2 : w1.heap.size ≤ rb) :
    ∃ o', (∀ x, o' = some x → IsP base w2 0 x) ∧ some (⟨tb, 0, none⟩ : Addr) = PV o' ∧ some (⟨nb, 0, none⟩ : Addr) = QV o' ∧ ∀ k, OwnO o' k → w.heap.size ≤ k := by
  have own : ∀ k, (⟨⟨tb, rb, d, fun _ => none⟩, fun _ _ => [], [], nb, none, 0, 0, []⟩ : PD).Own k → w.heap.size ≤ k := by
    have s1 := K1.size
    rintro k (z | (z | ⟨_, _, z, _⟩) | z | z)
    · have z : k = tb := z
      omega
    · have z : k = rb := z
      omega
    · cases z
    · have z : k = nb := z
      omega
    · cases z
  refine ⟨some ⟨⟨tb, rb, d, fun _ => none⟩, fun _ _ => [], [], nb, none, 0, 0, []⟩, fun y hy => ?_, rfl, rfl, fun k ⟨y, hy, hk⟩ => ?_⟩
  · cases hy
    exact ⟨Gst.new h0 i, (r.k0 K2).mono hb, Nat.le_refl _, (fun _ z => by cases z), fun k hk => Nat.le_trans hb (own k hk)⟩
  · cases hy
    exact own k hk
theorem ownO_lt {base : Nat} {w : World} {n : Nat} {o : Option PD} (h : ∀ x, o = some x → IsP base w n x) {b : Nat} (hb : OwnO o b) : base ≤ b ∧ b < w.heap.size := by
  obtain ⟨x, hx, hb⟩ := hb
  exact ⟨(h x hx).fo b hb, (h x hx).lt hb⟩
theorem other {base : Nat} {w w' : World} {n : Nat} {o o1 : Option PD} (h : ∀ x, o = some x → IsP base w n x) (h1 : ∀ x, o1 = some x → IsP base w n x) (apart : ∀ b, OwnO o b → ¬ OwnO o1 b) (K : Kept (OwnO o) w w') : ∀ x, o1 = some x → IsP base w' n x := by
  intro x hx
  refine (h1 x hx).off K (fun b hb z => apart b z ⟨x, hx, hb⟩) (fun b hb z => ?_)
  obtain ⟨cs, fr, hc⟩ := (h1 x hx).dat5 hb
  obtain ⟨y, hy, hb2⟩ := z
  exact (h y hy).n5 hc hb2
end Go.Proofs.YtojepeefphbekaaGreat

namespace Go.Proofs.YtojepeefphbekaaGreat
open Go.RowKit 

/-- Two pairs, and what lies in the arrays. -/
structure MW (w0 w : World) (A n k j : Nat) (p q p' q' : Option Addr) (o o' : Option PD) : Prop where
  kj : (k = 0 ∧ j = 1) ∨ (k = 1 ∧ j = 0)
  a5 : ∃ cs, w.heap[A]? = some (.cells cs 72 (0, 0)) ∧ cs.size = 2 ∧ cs[k]? = some (.pointer p) ∧ cs[j]? = some (.pointer p')
  a6 : ∃ cs, w.heap[A + 1]? = some (.cells cs 74 (0, 0)) ∧ cs.size = 2 ∧ cs[k]? = some (.pointer q) ∧ cs[j]? = some (.pointer q')
  st : ∀ x, o = some x → IsP (A + 2) w n x
  st' : ∀ x, o' = some x → IsP (A + 2) w n x
  apart : ∀ b, OwnO o b → ¬ OwnO o' b
  k0 : Kept (fun _ => False) w0 w
  low : w0.heap.size ≤ A
theorem MW.k {w0 w w' : World} {A n k j : Nat} {p q p' q' : Option Addr} {o o' : Option PD} (h : MW w0 w A n k j p q p' q' o o') (K : Kept (fun _ => False) w w') : MW w0 w' A n k j p q p' q' o o' := by
  obtain ⟨c5, h5, r5⟩ := h.a5
  obtain ⟨c6, h6, r6⟩ := h.a6
  exact ⟨h.kj, ⟨c5, K.get h5 (fun z => z), r5⟩, ⟨c6, K.get h6 (fun z => z), r6⟩, fun x hx => (h.st x hx).k0 K, fun x hx => (h.st' x hx).k0 K, h.apart, h.k0.and0 K, h.low⟩
theorem MW.mono {w0 w : World} {A n n' k j : Nat} {p q p' q' : Option Addr} {o o' : Option PD} (h : MW w0 w A n k j p q p' q' o o') (hn : n ≤ n') : MW w0 w A n' k j p q p' q' o o' := ⟨h.kj, h.a5, h.a6, fun x hx => (h.st x hx).mono hn, fun x hx => (h.st' x hx).mono hn, h.apart, h.k0, h.low⟩
theorem MW.flip {w0 w : World} {A n k j : Nat} {p q p' q' : Option Addr} {o o' : Option PD} (h : MW w0 w A n k j p q p' q' o o') : MW w0 w A n j k p' q' p q o' o := by
  obtain ⟨c5, h5, r5, s5, t5⟩ := h.a5
  obtain ⟨c6, h6, r6, s6, t6⟩ := h.a6
  exact ⟨h.kj.symm.imp (fun z => ⟨z.2, z.1⟩) (fun z => ⟨z.2, z.1⟩), ⟨c5, h5, r5, t5, s5⟩, ⟨c6, h6, r6, t6, s6⟩, h.st', h.st, fun b x y => h.apart b y x, h.k0, h.low⟩
theorem MW.drop {w0 w : World} {A n k j : Nat} {p q p' q' : Option Addr} {o o' : Option PD} (h : MW w0 w A n k j p q p' q' o o') : MW w0 w A n k j p q p' q' o none := ⟨h.kj, h.a5, h.a6, h.st, (fun _ z => by cases z), (fun _ _ ⟨_, z, _⟩ => by cases z), h.k0, h.low⟩
theorem MW.add {w0 w : World} {A n k j : Nat} {p q p' q' : Option Addr} {o o' r : Option PD} (h : MW w0 w A n k j p q p' q' o o') (hr : ∀ x, r = some x → IsP (A + 2) w n x) (hap : ∀ b, OwnO o b → ¬ OwnO r b) : MW w0 w A n k j p q p' q' o r := ⟨h.kj, h.a5, h.a6, h.st, hr, hap, h.k0, h.low⟩
theorem IsP.offA {A n : Nat} {w w' : World} {x : PD} {B : Nat} (h : IsP (A + 2) w n x) (hB : B < A + 2) {cs : Array Value} {ty : TypeId} {fr : Nat × Nat} (hb : w.heap[B]? = some (.cells cs ty fr)) (ht : ty ≠ 5) (K : Kept (fun k => k = B) w w') : IsP (A + 2) w' n x := by
  refine h.off K (fun k hk z => ?_) (fun k hk z => ?_)
  · have := h.fo k hk
    have z : k = B := z
    omega
  · obtain ⟨c2, f2, hc⟩ := h.dat5 hk
    have z : k = B := z
    rw [z, hb] at hc
    have := Option.some.inj hc
    injection this with _ e
    exact ht e
theorem setIf_same {cs : Array Value} {j : Nat} (h : j < cs.size) (u : Value) : (cs.setIfInBounds j u)[j]? = some u := by
  rw [Array.getElem?_setIfInBounds_self_of_lt h]
theorem setIf_other {cs : Array Value} {j k : Nat} (h : j ≠ k) (u : Value) : (cs.setIfInBounds j u)[k]? = cs[k]? := by
  rw [Array.getElem?_setIfInBounds_ne h]
theorem MW.setA {w0 w : World} {A n k j : Nat} {p q p' q' : Option Addr} {o o' : Option PD} (h : MW w0 w A n k j p q p' q' o o') (a : Option Addr) : MW w0 (w.setCell ⟨A, j, none⟩ (.pointer a)) A n k j p q a q' o o' := by
  obtain ⟨c5, h5, r5, s5, t5⟩ := h.a5
  obtain ⟨c6, h6, r6⟩ := h.a6
  have KA : Kept (fun x => x = A) w (w.setCell ⟨A, j, none⟩ (.pointer a)) := (Kept.refl (fun x => x = A) w).setCell (p := ⟨A, j, none⟩) (fun _ => rfl) _
  have jk : j < 2 ∧ j ≠ k := by have := h.kj; omega
  refine ⟨h.kj, ⟨_, heap_set h5 j _, ?_, ?_, ?_⟩, ⟨c6, KA.get h6 (fun z => by have z : A + 1 = A := z; omega), r6⟩, fun x hx => (h.st x hx).offA (by omega) h5 (by decide) KA, fun x hx => (h.st' x hx).offA (by omega) h5 (by decide) KA, h.apart, h.k0.trans KA (fun i hi z => by have z : i = A := z; have := h.low; omega), h.low⟩
  · rw [Array.size_setIfInBounds]; exact r5
  · rw [setIf_other jk.2]; exact s5
  · exact setIf_same (by omega) _
theorem MW.setB {w0 w : World} {A n k j : Nat} {p q p' q' : Option Addr} {o o' : Option PD} (h : MW w0 w A n k j p q p' q' o o') (a : Option Addr) : MW w0 (w.setCell ⟨A + 1, j, none⟩ (.pointer a)) A n k j p q p' a o o' := by
  obtain ⟨c5, h5, r5⟩ := h.a5
  obtain ⟨c6, h6, r6, s6, t6⟩ := h.a6
  have KA : Kept (fun x => x = A + 1) w (w.setCell ⟨A + 1, j, none⟩ (.pointer a)) := (Kept.refl (fun x => x = A + 1) w).setCell (p := ⟨A + 1, j, none⟩) (fun _ => rfl) _
  have jk : j < 2 ∧ j ≠ k := by have := h.kj; omega
  refine ⟨h.kj, ⟨c5, KA.get h5 (fun z => by have z : A = A + 1 := z; omega), r5⟩, ⟨_, heap_set h6 j _, ?_, ?_, ?_⟩, fun x hx => (h.st x hx).offA (by omega) h6 (by decide) KA, fun x hx => (h.st' x hx).offA (by omega) h6 (by decide) KA, h.apart, h.k0.trans KA (fun i hi z => by have z : i = A + 1 := z; have := h.low; omega), h.low⟩
  · rw [Array.size_setIfInBounds]; exact r6
  · rw [setIf_other jk.2]; exact s6
  · exact setIf_same (by omega) _
theorem MW.mv {w0 w w' : World} {A n k j : Nat} {p q p' q' : Option Addr} {o o' r : Option PD} (h : MW w0 w A n k j p q p' q' o o') (m : OMv (A + 2) w w' (n + 1) o r) : MW w0 w' A (n + 1) k j p q p' q' r o' := by
  have nA : ∀ b, OwnO o b → A + 2 ≤ b := fun b hb => (ownO_lt h.st hb).1
  obtain ⟨c5, h5, r5⟩ := h.a5
  obtain ⟨c6, h6, r6⟩ := h.a6
  refine ⟨h.kj, ⟨c5, m.kept.get h5 (fun z => by have := nA _ z; omega), r5⟩, ⟨c6, m.kept.get h6 (fun z => by have := nA _ z; omega), r6⟩, m.st, fun x hx => (other h.st h.st' h.apart m.kept x hx).mono (Nat.le_succ n), fun b hb hb1 => ?_, h.k0.trans m.kept (fun i hi z => by have := nA _ z; have := h.low; omega), h.low⟩
  rcases m.near b hb with z | z
  · exact h.apart b z hb1
  · have := (ownO_lt h.st' hb1).2
    omega
theorem frozen_of {w : World} {B j : Nat} {cs : Array Value} {t : TypeId} (h : w.heap[B]? = some (.cells cs t (0, 0))) : w.frozen? ⟨B, j, none⟩ = false := by simp [World.frozen?, h]
theorem MW.cA {w0 w : World} {A n k j : Nat} {p q p' q' : Option Addr} {o o' : Option PD} (h : MW w0 w A n k j p q p' q' o o') : w.cell? ⟨A, k, none⟩ = some (.pointer p) ∧ w.cell? ⟨A, j, none⟩ = some (.pointer p') ∧ w.frozen? ⟨A, j, none⟩ = false ∧ A < w.heap.size := by
  obtain ⟨c5, h5, r5, s5, t5⟩ := h.a5
  exact ⟨cell_blk h5 k s5, cell_blk h5 j t5, frozen_of h5, block_lt h5⟩
theorem MW.cB {w0 w : World} {A n k j : Nat} {p q p' q' : Option Addr} {o o' : Option PD} (h : MW w0 w A n k j p q p' q' o o') : w.cell? ⟨A + 1, k, none⟩ = some (.pointer q) ∧ w.cell? ⟨A + 1, j, none⟩ = some (.pointer q') ∧ w.frozen? ⟨A + 1, j, none⟩ = false ∧ A + 1 < w.heap.size := by
  obtain ⟨c5, h5, r5, s5, t5⟩ := h.a6
  exact ⟨cell_blk h5 k s5, cell_blk h5 j t5, frozen_of h5, block_lt h5⟩
/-- Any two pairs. -/
def MP (w0 w : World) (A n : Nat) : Prop := ∃ o o', MW w0 w A n 0 1 (PV o) (QV o) (PV o') (QV o') o o'
theorem MP.pick {w0 w : World} {A n : Nat} (h : MP w0 w A n) {k j : Nat} (hkj : (k = 0 ∧ j = 1) ∨ (k = 1 ∧ j = 0)) : ∃ o o', MW w0 w A n k j (PV o) (QV o) (PV o') (QV o') o o' := by
  obtain ⟨o, o', h⟩ := h
  rcases hkj with ⟨rfl, rfl⟩ | ⟨rfl, rfl⟩
  · exact ⟨o, o', h⟩
  · exact ⟨o', o, h.flip⟩
theorem MW.norm {w0 w : World} {A n k j : Nat} {o o' : Option PD} (h : MW w0 w A n k j (PV o) (QV o) (PV o') (QV o') o o') : MP w0 w A n := by
  rcases h.kj with ⟨rfl, rfl⟩ | ⟨rfl, rfl⟩
  · exact ⟨o, o', h⟩
  · exact ⟨o', o, h.flip⟩
theorem MP.k {w0 w w' : World} {A n : Nat} (h : MP w0 w A n) (K : Kept (fun _ => False) w w') : MP w0 w' A n := by
  obtain ⟨o, o', h⟩ := h
  exact ⟨o, o', h.k K⟩
theorem MP.mono {w0 w : World} {A n n' : Nat} (h : MP w0 w A n) (hn : n ≤ n') : MP w0 w A n' := by
  obtain ⟨o, o', h⟩ := h
  exact ⟨o, o', h.mono hn⟩
theorem MP.start (w : World) : MP w ((w.alloc (.cells #[.pointer none, .pointer none] 72)).alloc (.cells #[.pointer none, .pointer none] 74)) w.heap.size 0 := by
  have z1 : (w.alloc (.cells #[.pointer none, .pointer none] 72)).heap.size = w.heap.size + 1 := alloc_size _ _
  refine ⟨none, none, .inl ⟨rfl, rfl⟩, ⟨_, (k0_alloc _ _).get (heap_alloc_new w _) (fun z => z), rfl, rfl, rfl⟩, ⟨_, by rw [← z1]; exact heap_alloc_new _ _, rfl, rfl, rfl⟩, (fun _ z => by cases z), (fun _ z => by cases z), (fun _ ⟨_, z, _⟩ => by cases z), ((Kept.refl _ w).alloc _).alloc _, Nat.le_refl _⟩
theorem OMv.to {w w' : World} {n k j A : Nat} {w0 : World} {o o' r : Option PD} (h : MW w0 w A n k j (PV o) (QV o) (PV o') (QV o') o o') (m : OMv (A + 2) w w' (n + 1) o r) : MW w0 w' A (n + 1) k j (PV r) (QV r) (PV o') (QV o') r o' := by
  have := h.mv m
  rw [← m.pv, ← m.qv] at this
  exact this
/-- New ones are laid in. -/
theorem MW.newed {w0 w w2 : World} {A n k j : Nat} {o o' r : Option PD} {a b : Option Addr} (h : MW w0 w A n k j (PV o) (QV o) (PV o') (QV o') o o') (K : Kept (fun _ => False) w w2) (hr : ∀ x, r = some x → IsP (A + 2) w2 n x) (ea : a = PV r) (eb : b = QV r) (fr : ∀ k, OwnO r k → w.heap.size ≤ k) : MP w0 ((w2.setCell ⟨A, j, none⟩ (.pointer a)).setCell ⟨A + 1, j, none⟩ (.pointer b)) A n := by
  have h2 := (h.k K).add hr (fun c x y => by have := fr c y; have := (ownO_lt h.st x).2; omega)
  have h3 := (h2.setA a).setB b
  rw [ea, eb] at h3 ⊢
  exact h3.norm
theorem MW.newGood {w0 w w1 w2 : World} {A n k j : Nat} {o o' : Option PD} {d : Int} {tb rb nb : Nat} (h : MW w0 w A n k j (PV o) (QV o) (PV o') (QV o') o o') (h0 : 0 ≤ d) (r : RTab w.heap.size w1 nb d none 0 0 [] []) (hn : w.heap.size ≤ nb) (K1 : Kept (fun _ => False) w w1) (i : IsT w2 0 ⟨tb, rb, d, fun _ => none⟩) (K2 : Kept (fun _ => False) w1 w2) (h1 : w1.heap.size ≤ tb) (h2 : w1.heap.size ≤ rb) : MP w0 ((w2.setCell ⟨A, j, none⟩ (.pointer (some ⟨tb, 0, none⟩))).setCell ⟨A + 1, j, none⟩ (.pointer (some ⟨nb, 0, none⟩))) A n := by
  obtain ⟨q, q1, q2, q3, q4⟩ := news h0 (h.cB.2.2.2 : A + 2 ≤ w.heap.size) r hn K1 i K2 h1 h2
  exact h.newed (K1.and0 K2) (fun x hx => (q1 x hx).mono (Nat.zero_le n)) q2 q3 q4
theorem MW.newBad {w0 w : World} {A n k j : Nat} {o o' : Option PD} (h : MW w0 w A n k j (PV o) (QV o) (PV o') (QV o') o o') : MP w0 ((w.setCell ⟨A, j, none⟩ (.pointer none)).setCell ⟨A + 1, j, none⟩ (.pointer none)) A n :=
  h.newed (r := none) (Kept.refl _ w) (fun _ z => by cases z) rfl rfl (fun _ ⟨_, z, _⟩ => by cases z)
/-- What a copy of the program's table is. -/
def Cp1 (w w1 : World) (n : Nat) (o : Option PD) (a : Option Addr) : Prop := (o = none ∧ a = none) ∨ ∃ x c, o = some x ∧ Gst w1 n c x.D x.vs ∧ a = some ⟨c.tb, 0, none⟩ ∧ c.delta = x.t.delta ∧ (∀ b, c.Uses b → w.heap.size ≤ b) ∧ w.heap.size ≤ c.tb
/-- A pair of copies is laid in. -/
theorem MW.copied {w0 w w1 w2 : World} {A n k j : Nat} {o o' : Option PD} {a b : Option Addr} (h : MW w0 w A n k j (PV o) (QV o) (PV o') (QV o') o o') (K1 : Kept (fun _ => False) w w1) (c1 : Cp1 w w1 n o a) (K2 : Kept (fun _ => False) (w1.setCell ⟨A, j, none⟩ (.pointer a)) w2)
    (c2 : (o = none ∧ b = none) ∨ ∃ x nb, o = some x ∧ CS (w1.setCell ⟨A, j, none⟩ (.pointer a)) w2 nb x.t.delta x.rn x.vs ∧ b = some ⟨nb, 0, none⟩) : MP w0 (w2.setCell ⟨A + 1, j, none⟩ (.pointer b)) A n := by
  have hb : A + 2 ≤ w.heap.size := h.cB.2.2.2
  have hm := ((h.k K1).drop.setA a)
  have KA : Kept (fun x => x = A) w1 (w1.setCell ⟨A, j, none⟩ (.pointer a)) := (Kept.refl (fun x => x = A) w1).setCell (p := ⟨A, j, none⟩) (fun _ => rfl) _
  obtain ⟨cs5, h5, _⟩ := (h.k K1).a5
  have s2 : w1.heap.size ≤ (w1.setCell ⟨A, j, none⟩ (.pointer a)).heap.size := KA.size
  have q : ∃ r, (∀ x, r = some x → IsP (A + 2) w2 n x) ∧ a = PV r ∧ b = QV r ∧ ∀ k, OwnO r k → w.heap.size ≤ k := by
    rcases c1 with ⟨e1, e2⟩ | ⟨x, c, e1, g, e2, e3, f1, f2⟩
    · rcases c2 with ⟨_, e4⟩ | ⟨x, nb, e4, _⟩
      · exact ⟨none, (fun _ z => by cases z), e2, e4, fun k ⟨_, z, _⟩ => by cases z⟩
      · rw [e1] at e4; cases e4
    · rcases c2 with ⟨e4, _⟩ | ⟨y, nb, e4, cs, e5⟩
      · rw [e1] at e4; cases e4
      · rw [e1] at e4
        have e4 := Option.some.inj e4
        subst e4
        obtain ⟨p, cc, M, r, f⟩ := cs.tab
        have hx := h.st x e1
        have own : ∀ k, (⟨c, x.D, x.vs, nb, p, x.rn, cc, M⟩ : PD).Own k → w.heap.size ≤ k := by
          have s1 := K1.size
          rintro k (z | z | z | z)
          · have z : k = c.tb := z
            omega
          · exact f1 k z
          · have z : k = nb := z
            have := cs.far
            omega
          · have := (own_lt r.row k z).1
            omega
        have g2 := g.off KA (fun z => by have z : c.tb = A := z; omega) (fun b hb z => by have z : b = A := z; have := f1 b hb; omega) (fun kk g0 hd hm0 b0 hb0 z => by
          have z : b0 = A := z
          obtain ⟨rr, hr, h1⟩ := TMp_row hm0
          obtain ⟨cs2, hc⟩ := (g.dat kk rr hr g0 hd h1).2.2 b0 hb0
          rw [z, h5] at hc
          simp at hc)
        refine ⟨some ⟨c, x.D, x.vs, nb, p, x.rn, cc, M⟩, fun y hy => ?_, e2, e5, fun k ⟨y, hy, hk⟩ => ?_⟩
        · cases hy
          exact ⟨g2.k0 K2, by rw [e3]; exact r.mono (Nat.le_trans hb (Nat.le_trans K1.size s2)), hx.few, hx.dl, fun k hk => Nat.le_trans hb (own k hk)⟩
        · cases hy
          exact own k hk
  obtain ⟨r, q1, q2, q3, q4⟩ := q
  have h3 := ((hm.k K2).add q1 (fun c x y => by have := q4 c y; have := (ownO_lt h.st x).2; omega)).setB b
  rw [q2, q3] at h3
  rw [q3]
  exact h3.norm
end Go.Proofs.YtojepeefphbekaaGreat

namespace Go.Proofs.YtojepeefphbekaaGreat
open Go.RowKit 

/-- A step of a script. -/
structure Opz where
  ok : Int
  ot : Int
  uk : Int
  ukey : ByteArray
  ux : Int
  uy : Int
  uf : Bool
  uh : Bool
  ua : Option Addr
  un : Nat
  uc : Nat
  key : ByteArray
  gx : Int
  gy : Int
  oN : Int
  l : List Nat
def Opz.cs (o : Opz) : Array Value := #[.int .i64 o.ok, .int .i64 o.ot, .int .i64 o.uk, .string o.ukey, .int .i64 o.ux, .int .i64 o.uy, .bool o.uf, .bool o.uh, .slice o.ua o.un o.uc, .string o.key, .int .i64 o.gx, .int .i64 o.gy, .int .i64 o.oN]
structure OpzOk (w : World) (o : Opz) : Prop where
  rd : Reads w o.ua o.un o.uc o.l
  few : o.un + 1 ≤ 140737488355328
  k1 : o.ukey.size ≤ maxLen
  f1 : TFit (o.ux, o.uy)
  k2 : o.key.size ≤ maxLen
  f2 : TFit (o.gx, o.gy)
  t : -9223372036854775808 ≤ o.ot ∧ o.ot < 9223372036854775808
/-- A script that was handed in. -/
structure Script (w : World) (q : Option Addr) (n cap : Nat) (O : List Opz) : Prop where
  length : O.length = n
  room : n ≤ cap
  small : cap ≤ maxLen
  cells : 0 < n → ∃ b off, q = some ⟨b, off, none⟩ ∧ ∀ i (h : i < O.length), ∀ c v, (O[i].cs)[c]? = some v → w.cell? ⟨b, off + i * 13 + c, none⟩ = some v
  ok : ∀ o ∈ O, OpzOk w o
/-- The parity of a number. -/
theorem parity (x : Int) (hx : -9223372036854775808 ≤ x ∧ x < 9223372036854775808) : ∃ y z : Int, ∃ k j : Nat, x.tmod 2 = y ∧ IntKind.i64.wrap (y + 2) = z ∧ z.tmod 2 = (k : Int) ∧ IntKind.i64.wrap (1 - (k : Int)) = (j : Int) ∧ ((k = 0 ∧ j = 1) ∨ (k = 1 ∧ j = 0)) := by
  have a : -2 < x.tmod 2 ∧ x.tmod 2 < 2 := by
    rcases Int.le_total 0 x with h | h
    · rw [Int.tmod_eq_emod_of_nonneg h]; omega
    · have e : x.tmod 2 = -((-x).tmod 2) := by rw [Int.neg_tmod]; omega
      rw [e, Int.tmod_eq_emod_of_nonneg (by omega)]; omega
  have e : IntKind.i64.wrap (x.tmod 2 + 2) = x.tmod 2 + 2 := by rw [IntKind.wrap_i64]; omega
  obtain ⟨k, hk⟩ : ∃ k : Nat, (k : Int) = (x.tmod 2 + 2).tmod 2 := ⟨((x.tmod 2 + 2).tmod 2).toNat, by rw [Int.tmod_eq_emod_of_nonneg (by omega)]; omega⟩
  have hk2 : k < 2 := by rw [Int.tmod_eq_emod_of_nonneg (by omega)] at hk; omega
  refine ⟨_, _, k, 1 - k, rfl, e, hk.symm, by rw [IntKind.wrap_i64]; omega, by omega⟩
end Go.Proofs.YtojepeefphbekaaGreat
