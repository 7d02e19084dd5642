import Derived.Test.YtbangbobfeflcaaGreatDoorHMay
import Derived.DeepKeys4
import Derived.Maps.Keyed
namespace Go.Proofs.YtbangbobfeflcaaGreatDoor
open Go.RowKit 

theorem Tryz.laidOutH : laidOutB Tryz.prog = true := by kernel_rfl
theorem Tryz.size74 : Tryz.prog.types.size = 193 := by kernel_rfl
theorem Tryz.cells78 : Tryz.prog.cellsOf 78 = 2 := by kernel_rfl
theorem Tryz.cells3h : Tryz.prog.cellsOf 3 = 1 := by kernel_rfl
theorem Tryz.cells2h : Tryz.prog.cellsOf 2 = 1 := by kernel_rfl
theorem opLaw : Maps.Keyed Tryz.prog 78 := Maps.Keyed.of_law (deep_law_laid Tryz.laidOutH (m := 3) (by omega) (of_decide_eq_true (by kernel_rfl)) (by kernel_rfl) (by rw [Tryz.underlying78]))
def opV (k : Int × Int) : Value := .agg #[.int .i64 k.1, .int .i64 k.2]
def opL (k : Int × Int) : Lit := .string (keyBytes [.int .i64 k.1, .int .i64 k.2])
def opF (k : Int × Int) : Prop := KI k.1 ∧ KI k.2
theorem lit_one {t : TypeId} (ht : Tryz.prog.underlying t = some (.int .i64)) (c : Value) (ls : List Lit) : Tryz.prog.keyLits 193 t [c] = some ls ↔ ∃ a, c = .int .i64 a ∧ (Lit.int .i64 a).wf = true ∧ ls = [.int .i64 a] := by
  unfold Program.keyLits
  rw [ht]
  constructor
  · intro h
    cases c with
    | int q n =>
      have h : (if q = IntKind.i64 ∧ (Lit.int IntKind.i64 n).wf = true then some [Lit.int IntKind.i64 n] else none) = some ls := h
      split at h
      · rename_i z
        rw [z.1]
        exact ⟨n, rfl, z.2, (Option.some.inj h).symm⟩
      · cases h
    | _ => cases h
  · rintro ⟨a, rfl, h1, rfl⟩
    show (if IntKind.i64 = IntKind.i64 ∧ (Lit.int IntKind.i64 a).wf = true then some [Lit.int IntKind.i64 a] else none) = _
    rw [if_pos ⟨rfl, h1⟩]
theorem lits_op (c d : Value) (ls : List Lit) : Tryz.prog.keyLits (Tryz.prog.types.size + 1) 78 [c, d] = some ls ↔ ∃ a b, c = .int .i64 a ∧ d = .int .i64 b ∧ (Lit.int .i64 a).wf = true ∧ (Lit.int .i64 b).wf = true ∧ ls = [.int .i64 a, .int .i64 b] := by
  rw [Tryz.size74]
  unfold Program.keyLits
  rw [Tryz.underlying78]
  simp [Tryz.cells78, Tryz.cells3h, Tryz.cells2h]
  constructor
  · intro h
    obtain ⟨x, hx, h⟩ := Option.bind_eq_some_iff.1 h
    obtain ⟨a, rfl, wa, rfl⟩ := (lit_one Tryz.underlying3 c x).1 hx
    have h : Option.map List.flatten (((Tryz.prog.keyLits 193 2 [d]).bind fun y => some [y]).bind fun y => some ([Lit.int IntKind.i64 a] :: y)) = some ls := h
    cases hd : Tryz.prog.keyLits 193 2 [d] with
    | none => rw [hd] at h; cases h
    | some y =>
      rw [hd] at h
      obtain ⟨b, rfl, wb, rfl⟩ := (lit_one Tryz.underlying2 d y).1 hd
      have h := Option.some.inj h
      exact ⟨a, rfl, b, rfl, wa, wb, h.symm⟩
  · rintro ⟨a, rfl, b, rfl, wa, wb, rfl⟩
    rw [(lit_one Tryz.underlying3 _ [.int .i64 a]).2 ⟨a, rfl, wa, rfl⟩, (lit_one Tryz.underlying2 _ [.int .i64 b]).2 ⟨b, rfl, wb, rfl⟩]
    rfl
theorem op_key (k : Int × Int) (h : opF k) : keyOf Tryz.prog 78 (opV k) = some (opL k) := by
  unfold keyOf
  rw [Tryz.underlying78]
  have h1 : Tryz.prog.keyType 78 = true := by kernel_rfl
  have h2 : (opV k).formed Tryz.prog 78 = true := by
    unfold opV
    simp [Value.formed, Tryz.underlying78, Tryz.cells78]
  show (if (Tryz.prog.keyType 78 && (opV k).formed Tryz.prog 78) = true then (Tryz.prog.keyLits (Tryz.prog.types.size + 1) 78 [.int .i64 k.1, .int .i64 k.2]).map (fun ls => Lit.string (keyBytes ls)) else none) = _
  rw [if_pos (by rw [h1, h2]; rfl), (lits_op _ _ _).2 ⟨k.1, k.2, rfl, rfl, (wf_i64 _).2 h.1, (wf_i64 _).2 h.2, rfl⟩]
  rfl
set_option maxRecDepth 100000 in
theorem op_inv (v : Value) (l : Lit) (h : keyOf Tryz.prog 78 v = some l) : ∃ k, v = opV k ∧ opF k ∧ l = opL k := by
  unfold keyOf at h
  rw [Tryz.underlying78] at h
  have h : (if (Tryz.prog.keyType 78 && v.formed Tryz.prog 78) = true then (Tryz.prog.keyLits (Tryz.prog.types.size + 1) 78 v.cells.toList).map (fun ls => Lit.string (keyBytes ls)) else none) = some l := h
  split at h
  · rename_i z
    rw [Bool.and_eq_true] at z
    have z2 := z.2
    cases v with
    | agg cs =>
      have hc : cs.size = 2 := by
        unfold Value.formed at z2
        rw [Tryz.underlying78] at z2
        simp [Tryz.cells78] at z2
        exact z2
      obtain ⟨cl⟩ := cs
      match cl, hc with
      | [c, d], _ =>
        have h : (Tryz.prog.keyLits (Tryz.prog.types.size + 1) 78 [c, d]).map (fun ls => Lit.string (keyBytes ls)) = some l := h
        obtain ⟨ls, h1, h2⟩ := Option.map_eq_some_iff.1 h
        obtain ⟨a, b, rfl, rfl, wa, wb, rfl⟩ := (lits_op _ _ _).1 h1
        exact ⟨(a, b), rfl, ⟨(wf_i64 a).1 wa, (wf_i64 b).1 wb⟩, h2.symm⟩
    | _ =>
      unfold Value.formed at z2
      simp [Tryz.underlying78] at z2
  · cases h
theorem opV_inj (k k' : Int × Int) (h : opV k = opV k') : k = k' := by
  unfold opV at h
  simp at h
  exact Prod.ext h.1 h.2
theorem opL_inj (k k' : Int × Int) (hk : opF k) (hk' : opF k') (h : opL k = opL k') : k = k' := by
  have h1 := op_key k hk
  have h2 := op_key k' hk'
  rw [← h] at h2
  exact opV_inj _ _ (opLaw.inj h1 h2)
/-- A slice, as a map holds it. -/
structure Sl where
  p : Option Addr
  n : Nat
  c : Nat
def Sl.v (s : Sl) : Value := .slice s.p s.n s.c
def RSl (v : Value) : Option (DataW Value × List MemPlace) :=
  match v with
  | .slice _ _ _ => some (.held v, [])
  | _ => none
theorem opK : MK (ε := Sl) 75 78 70 opV opL opF Sl.v ⟨none, 0, 0⟩ RSl where
  law := opLaw
  und := Tryz.underlying75
  key := op_key
  inv v l h := op_inv v l h
  inj := opL_inj
  kvi := opV_inj
  rd _ := rfl
  rdi v y h := by
    unfold RSl at h
    split at h
    · rename_i a n c
      exact ⟨⟨⟨a, n, c⟩, rfl⟩, (Option.some.inj h).symm⟩
    · cases h
  evi e e' h := by
    obtain ⟨a, b, c⟩ := e
    obtain ⟨a', b', c'⟩ := e'
    unfold Sl.v at h
    simp at h
    obtain ⟨rfl, rfl, rfl⟩ := h
    rfl
  zero w := Tryz.zeroValue70 w
end Go.Proofs.YtbangbobfeflcaaGreatDoor
