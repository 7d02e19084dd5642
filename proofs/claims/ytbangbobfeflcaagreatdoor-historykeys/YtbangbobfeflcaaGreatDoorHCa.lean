import Derived.Test.YtbangbobfeflcaaGreatDoorHCo
import Derived.Deep.Cut
import Derived.BigQuiet
namespace Go.Proofs.YtbangbobfeflcaaGreatDoor
open Go.RowKit 

def kcs (L : List Ca) : List Value := L.flatMap fun c => c.cs.toList
theorem kcs_append (a b : List Ca) : kcs (a ++ b) = kcs a ++ kcs b := by unfold kcs; rw [List.flatMap_append]
theorem Tryz.info58c : (Tryz.prog.info? 58).map (fun i => (i.zero, i.size, i.bytes)) = some (some (.agg zeroK), 11, 112) := by kernel_rfl
theorem src_ca {w : World} {b : Nat} {c : Ca} (h : w.heap[b]? = some (.cells c.cs 58 (0, 0))) : Src Tryz.prog 11 25 (.slice (some ⟨b, 0, none⟩) 1 1) 1 (kcs [c]) w :=
  Src.ofSlice w Tryz.underlying25 ⟨b, 0, none⟩ 1 1 (kcs [c]) rfl (fun j u hj => by
    rw [Addr.add_none, Nat.zero_add]
    refine cell_blk h j ?_
    have e : kcs [c] = c.cs.toList := by unfold kcs; simp
    rw [e] at hj
    rw [← hj, Array.getElem?_toList]) (fun v hv => by
    have e : kcs [c] = c.cs.toList := by unfold kcs; simp
    rw [e] at hv
    simp [Ca.cs] at hv
    rcases hv with rfl | rfl | rfl | rfl | rfl | rfl | rfl | rfl | rfl | rfl | rfl <;> rfl)
/-- A list of calls of one's own, whose bytes lie in rows of their own. -/
structure KaR (b0 : Nat) (w : World) (p : Option Addr) (k c : Nat) (L : List Ca) : Prop where
  len : L.length = k
  row : w.ownsRow b0 58 11 (.slice p k c) k (kcs L)
  val : ∀ x ∈ L, w.ownsRow b0 5 1 (.slice x.va x.vn x.vc) x.vn (cellsOf x.val)
theorem KaR.k0 {b0 : Nat} {w w' : World} {p : Option Addr} {k c : Nat} {L : List Ca} (h : KaR b0 w p k c L) (K : Kept (fun _ => False) w w') : KaR b0 w' p k c L := ⟨h.len, K.owns h.row (fun _ _ z => z), fun x hx => K.owns (h.val x hx) (fun _ _ z => z)⟩
theorem KaR.more {b0 : Nat} {w w9 W0 : World} {p p9 : Option Addr} {k c c9 : Nat} {L : List Ca} {x : Ca} (h : KaR b0 w p k c L) (hx : w.ownsRow b0 5 1 (.slice x.va x.vn x.vc) x.vn (cellsOf x.val)) (ho : w9.ownsRow b0 58 11 (.slice p9 (k + 1) c9) (k + 1) (kcs L ++ kcs [x])) (hg : w.grownBy w9 (Value.slice p k c).ownBlock) (K0 : Kept (fun _ => False) W0 w) (hb : W0.heap.size ≤ b0) : KaR b0 w9 p9 (k + 1) c9 (L ++ [x]) ∧ Kept (fun _ => False) W0 w9 := by
  have KG : Kept (fun j => blockOf p = some j) w w9 := (Kept.refl (fun j => blockOf p = some j) w).grown hg (fun j _ z => by rw [blockOf_own] at z; exact z)
  have ap : ∀ y : Ca, w.ownsRow b0 5 1 (.slice y.va y.vn y.vc) y.vn (cellsOf y.val) → w9.ownsRow b0 5 1 (.slice y.va y.vn y.vc) y.vn (cellsOf y.val) := fun y hy => KG.owns hy (fun j z q => by
    rw [blockOf_own] at z
    obtain ⟨c1, e1⟩ := own_type hy j z
    obtain ⟨c2, e2⟩ := own_type h.row j q
    rw [e1] at e2
    simp at e2)
  refine ⟨⟨by rw [List.length_append, h.len]; rfl, by rw [kcs_append]; exact ho, fun y hy => ?_⟩, Kept.own K0 KG (fun j z => by have := (own_lt h.row j z).1; omega)⟩
  rcases List.mem_append.1 hy with z | z
  · exact ap y (h.val y z)
  · rw [List.mem_singleton] at z
    rw [z]
    exact ap x hx
/-- The calls of the first events. -/
def callsTo (es : List Ev) (i : Nat) : List (Option Cc) := ((List.range i).filter (isInv es)).map fun j => callP es (placesE es (keyAt es j))
theorem callsTo_all (es : List Ev) : callsTo es es.length = callsE es := rfl
theorem callsTo_add {es : List Ev} {i : Nat} {e : Ev} (h : es[i]? = some e) : callsTo es (i + 1) = if e.kind = 1 then callsTo es i ++ [callP es (placesE es (keyE e))] else callsTo es i := by
  unfold callsTo
  rw [List.range_succ, List.filter_append, List.map_append]
  have e1 : isInv es i = decide (e.kind = 1) := by unfold isInv; rw [h]
  have e2 : keyAt es i = keyE e := by unfold keyAt; rw [h]
  by_cases k : e.kind = 1
  · rw [if_pos k, List.filter_cons_of_pos (by rw [e1, decide_eq_true k])]
    simp [e2]
  · rw [if_neg k, List.filter_cons_of_neg (by rw [e1, decide_eq_false k]; decide)]
    simp
theorem chk_zero : ∀ (es : List Ev) (M : Int → Option Ev) (i : Nat) (a : Int), chkE es M i = (a, 0) → a = -1
  | [], _, _, a, h => by
    have := congrArg Prod.fst h
    exact this.symm
  | e :: es, M, i, a, h => by
    rw [chk_cons] at h
    split at h
    · rename_i z
      have := congrArg Prod.snd h
      exact absurd this z
    · split at h
      · have := congrArg Prod.snd h
        simp at this
      · exact chk_zero es _ _ a h
/-- How Calls stands. -/
structure LS (w wr : World) (es : List Ev) (i : Nat) (q : Option Addr) (k c : Nat) (L : List Ca) : Prop where
  row : KaR w.heap.size wr q k c L
  told : L.map (fun x => some x.cc) = callsTo es i
  kept : Kept (fun _ => False) w wr
def RetK (Q : Option Addr → Nat → Nat → Int → World → Prop) (o : Ending) (w : World) : Prop := ∃ (q : Option Addr) (k c : Nat) (e : Int), o = .returned (.tuple #[.slice q k c, .int .i64 e]) ∧ Q q k c e w
theorem RetK.mk {Q : Option Addr → Nat → Nat → Int → World → Prop} {o : Ending} {w : World} (q : Option Addr) (k c : Nat) (e : Int) (h : o = .returned (.tuple #[.slice q k c, .int .i64 e])) (hq : Q q k c e w) : RetK Q o w := ⟨q, k, c, e, h, hq⟩
end Go.Proofs.YtbangbobfeflcaaGreatDoor
