import Derived.Test.YtbangbobfeflcaaGreatDoorHGrp
import Derived.Deep.Cut
import Derived.Deep.RegionHeldLaw
import Derived.BigQuiet
namespace Go.Proofs.YtbangbobfeflcaaGreatDoor
open Go.RowKit 

theorem Kept.own {w w' w'' : World} {S : Nat → Prop} (h : Kept (fun _ => False) w w') (k : Kept S w' w'') (hs : ∀ b, S b → w.heap.size ≤ b) : Kept (fun _ => False) w w'' := h.trans k (fun j hj z => by have := hs j z; omega)
theorem GS.step {w wr Y w9 w10 : World} {es : List Ev} {mb i n : Nat} {Mp : Int × Int → Option Sl} {e : Ev} {s : Sl} {p9 : Option Addr} {c9 : Nat} (hn : n ≤ i) (h1 : ∀ k, Mp k = none → placesE (es.take i) k = []) (h2 : ∀ k s, Mp k = some s → wr.ownsRow w.heap.size 3 1 (.slice s.p s.n s.c) s.n (intsN (placesE (es.take i) k)) ∧ s.n = (placesE (es.take i) k).length ∧ ¬ blockOf s.p = some mb ∧ 0 < s.n) (h3 : ∀ k k' s s' j, Mp k = some s → Mp k' = some s' → k ≠ k' → blockOf s.p = some j → ¬ blockOf s'.p = some j)
    (K0 : Kept (fun _ => False) w wr) (hmb : w.heap.size ≤ mb ∧ mb < wr.heap.size) (KY : Kept (fun _ => False) wr Y) (he : es[i]? = some e) (hs : s = (Mp (keyE e)).getD ⟨none, 0, 0⟩)
    (ho : w9.ownsRow w.heap.size 3 1 (.slice p9 (s.n + 1) c9) (s.n + 1) (intsN (placesE (es.take i) (keyE e)) ++ intsN [i])) (hg : Y.grownBy w9 (Value.slice s.p s.n s.c).ownBlock) (hn9 : (Value.slice p9 (s.n + 1) c9).ownBlock = (Value.slice s.p s.n s.c).ownBlock ∨ ((Value.slice p9 (s.n + 1) c9).ownBlock = some Y.heap.size ∧ Y.grownBy w9 none))
    (tm : TM 78 opL opF Sl.v RSl w10 mb (nput n Mp (keyE e)) (upd Mp (keyE e) ⟨p9, s.n + 1, c9⟩)) (KT : Kept (fun j => j = mb) w9 w10) : GS w es mb (i + 1) w10 := by
  have hil := (List.getElem?_eq_some_iff.1 he).1
  have et : es.take (i + 1) = es.take i ++ [e] := by rw [List.take_add_one, he]; rfl
  have tl : (es.take i).length = i := by rw [List.length_take]; omega
  have KG : Kept (fun j => blockOf s.p = some j) Y w9 := (Kept.refl _ Y).grown hg (fun j _ z => by rw [blockOf_own] at z; exact z)
  rw [blockOf_own, blockOf_own] at hn9
  have sY := KY.size
  have sG := KG.size
  have sT := KT.size
  have sn : s.n = (placesE (es.take i) (keyE e)).length ∧ ¬ blockOf s.p = some mb ∧ ∀ j, blockOf s.p = some j → Mp (keyE e) = some s := by
    cases hq : Mp (keyE e) with
    | none =>
      rw [hq] at hs
      rw [hs, h1 _ hq]
      exact ⟨rfl, fun z => (by cases z), fun j z => (by cases z)⟩
    | some s' =>
      rw [hq] at hs
      have hs : s = s' := hs
      rw [hs]
      exact ⟨(h2 _ _ hq).2.1, (h2 _ _ hq).2.2.1, fun _ _ => rfl⟩
  have p9b : ∀ j, blockOf p9 = some j → (blockOf s.p = some j) ∨ j = Y.heap.size := by
    intro j z
    rcases hn9 with q | ⟨q, _⟩
    · left
      rw [← q]
      exact z
    · right
      rw [q] at z
      exact (Option.some.inj z).symm
  have p9mb : ¬ blockOf p9 = some mb := fun z => by
    rcases p9b mb z with q | q
    · exact sn.2.1 q
    · omega
  refine ⟨⟨_, _, tm, ?_, fun k hk => ?_, fun k t hk => ?_, fun k k' t t' j hk hk' ne z y => ?_⟩, ?_, hmb.1, by omega⟩
  · unfold nput
    split <;> omega
  · unfold upd at hk
    split at hk
    · cases hk
    · rename_i ne
      rw [et, places_snoc, if_neg (fun z => ne z.symm)]
      exact h1 k hk
  · unfold upd at hk
    split at hk
    · rename_i ek
      have ev := Option.some.inj hk
      subst ev
      subst ek
      rw [et, places_snoc, if_pos rfl, tl, intsN_append]
      refine ⟨KT.owns ho (fun j z y => ?_), ?_, p9mb, Nat.succ_pos _⟩
      · rw [blockOf_own] at z
        have y : j = mb := y
        rw [y] at z
        exact p9mb z
      · rw [List.length_append]
        show s.n + 1 = _
        rw [sn.1]
        rfl
    · rename_i ne
      rw [et, places_snoc, if_neg (fun z => ne z.symm)]
      obtain ⟨r1, r2, r3, r4⟩ := h2 k t hk
      refine ⟨KT.owns (KG.owns (KY.owns r1 (fun _ _ z => z)) (fun j z y => ?_)) (fun j z y => ?_), r2, r3, r4⟩
      · rw [blockOf_own] at z
        exact h3 k (keyE e) t s j hk (sn.2.2 j y) ne z y
      · rw [blockOf_own] at z
        have y : j = mb := y
        rw [y] at z
        exact r3 z
  · unfold upd at hk hk'
    split at hk
    · rename_i e1
      split at hk'
      · rename_i e2
        exact ne (e1.trans e2.symm)
      · rename_i e2
        have ev := Option.some.inj hk
        subst ev
        rcases p9b j z with q | q
        · exact h3 (keyE e) k' s t' j (sn.2.2 j q) hk' (fun u => e2 u.symm) q y
        · have := (own_lt (h2 k' t' hk').1 j y).2
          omega
    · rename_i e1
      split at hk'
      · have ev := Option.some.inj hk'
        subst ev
        rcases p9b j y with q | q
        · exact h3 k (keyE e) t s j hk (sn.2.2 j q) e1 z q
        · have := (own_lt (h2 k t hk).1 j z).2
          omega
      · exact h3 k k' t t' j hk hk' ne z y
  · refine (Kept.own (K0.trans KY (fun _ _ z => z)) KG (fun j z => ?_)).trans KT (fun j hj z => ?_)
    · exact (own_lt (h2 _ _ (sn.2.2 j z)).1 j z).1
    · have z : j = mb := z
      omega
end Go.Proofs.YtbangbobfeflcaaGreatDoor
