import Derived.Test.YtgfglbbfoadiaaaBase
import Derived.ProofKit
import Derived.OpenShut
import Derived.ShutString
import Derived.ChangeOld
import Derived.Below
import Derived.SizedLaws
namespace Go.Proofs.Ytgfglbbfoadiaaa
open Go.ChangeShapes Go.WideShapes Go.ChangeAt Go.RowKit

theorem Try.own : ownKnob Try.prog.godebug = none := by kernel_rfl
theorem Try.laidOut : laidOutB Try.prog = true := by kernel_rfl
theorem Try.bytes5 : Try.prog.bytesOf 5 = 1 := by kernel_rfl
theorem Try.cells5 : Try.prog.cellsOf 5 = 1 := by kernel_rfl

theorem byte_nat (a : Int) (h : (Lit.int .u8 a).wf = true) : ∃ k : Nat, k < 256 ∧ a = (k : Int) := by
  have := bounds_u8 h
  exact ⟨a.toNat, by omega, by omega⟩

/-- A slice of bytes that came in: what it reads as, and how wide its datum is. -/
theorem open_bytes {H : Type} {enc : TypeId × Value → H} {W : World} {a : Option Addr} {len cap fuel : Nat} {x : DataW H × List MemPlace}
    (h : DataW.trod enc Try.prog W 0 (fun _ => true) true fuel 28 [.slice a len cap] = some x) :
    ∃ l, Reads W a len cap l ∧ ((cap = 0) ∨ ∃ els sp, x.1 = .slice els sp ∧ els.length + sp.length = cap) := by
  rcases open_ints Try.underlying28 Try.underlying5 Try.cells5 h with ⟨hcs, _⟩ | ⟨ad, l', c', zs, hcs, _, hl, hm, hz, hx, hcell, hwz⟩
  · simp at hcs
    obtain ⟨rfl, rfl, rfl⟩ := hcs
    exact ⟨[], ⟨rfl, Nat.le_refl _, by unfold maxLen; omega, fun _ h => absurd h (by simp), fun h => absurd h (by omega)⟩, .inl rfl⟩
  · simp at hcs
    obtain ⟨rfl, rfl, rfl⟩ := hcs
    have hz' : zs.length = cap := by simpa using hz
    refine ⟨(zs.take len).map Int.toNat, ⟨by rw [List.length_map, List.length_take]; omega, hl, hm, fun c hc => ?_, fun h0 => ?_⟩, .inr ⟨_, _, by rw [hx], by simp [lits]; omega⟩⟩
    · obtain ⟨z, hz1, rfl⟩ := List.mem_map.1 hc
      have := bounds_u8 (hwz z (List.mem_of_mem_take hz1))
      omega
    · obtain ⟨b, off, spot⟩ := ad
      have c0 := hcell 0 (by omega)
      have hs : spot = none := by simpa [Addr.add] using World.cell?_spot c0
      subst hs
      refine ⟨b, off, rfl, fun i hi => ?_⟩
      have ci := hcell i (by omega)
      rw [Addr.add_none] at ci
      rw [ci]
      have e1 : zs.getD i 0 = zs[i]'(by omega) := by rw [List.getD_eq_getElem?_getD, List.getElem?_eq_getElem (by omega)]; rfl
      have e2 : ((zs.take len).map Int.toNat).getD i 0 = (zs[i]'(by omega)).toNat := by
        rw [List.getD_eq_getElem?_getD, List.getElem?_map, List.getElem?_take_of_lt hi, List.getElem?_eq_getElem (by omega)]; rfl
      have bd := bounds_u8 (hwz (zs[i]'(by omega)) (List.getElem_mem _))
      rw [e1, e2, Int.toNat_of_nonneg bd.1]
end Go.Proofs.Ytgfglbbfoadiaaa
