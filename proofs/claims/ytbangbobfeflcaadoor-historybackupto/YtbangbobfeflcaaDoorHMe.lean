import Derived.Test.YtbangbobfeflcaaDoorHLm
import Derived.Test.YtbangbobfeflcaaDoorHQtJ
import Derived.Deep.Cut
import Derived.BigQuiet
namespace Go.Proofs.YtbangbobfeflcaaDoor
open Go.RowKit 

def ecs (L : List Ev) : List Value := L.flatMap fun e => e.cs.toList
theorem ecs_append (a b : List Ev) : ecs (a ++ b) = ecs a ++ ecs b := by unfold ecs; rw [List.flatMap_append]
theorem Tryd.info45c : (Tryd.prog.info? 45).map (fun i => (i.zero, i.size, i.bytes)) = some (some (.agg zEv), 9, 96) := by kernel_rfl
theorem ecs_one (e : Ev) : ecs [e] = e.cs.toList := by unfold ecs; simp
theorem ev_one (e : Ev) : ∀ v ∈ e.cs.toList, v.oneCell' = true := fun v hv => by
  simp [Ev.cs] at hv
  rcases hv with rfl | rfl | rfl | rfl | rfl | rfl | rfl | rfl | rfl <;> rfl
theorem ecs_get : ∀ (L : List Ev) (i : Nat) (h : i < L.length) (k : Nat), k < 9 → (ecs L)[i * 9 + k]? = L[i].cs[k]?
  | [], i, h, _, _ => absurd h (by simp)
  | a :: L, 0, _, k, hk => by
    have e : ecs (a :: L) = a.cs.toList ++ ecs L := by unfold ecs; simp
    have el : a.cs.toList.length = 9 := rfl
    rw [e, Nat.zero_mul, Nat.zero_add, List.getElem?_append_left (by rw [el]; exact hk), Array.getElem?_toList]
    rfl
  | a :: L, i + 1, h, k, hk => by
    have e : ecs (a :: L) = a.cs.toList ++ ecs L := by unfold ecs; simp
    have el : a.cs.toList.length = 9 := rfl
    rw [e, List.getElem?_append_right (by rw [el]; omega), el, show (i + 1) * 9 + k - 9 = i * 9 + k by omega]
    exact ecs_get L i (by simpa using h) k hk
theorem ecs_len : ∀ L : List Ev, (ecs L).length = L.length * 9
  | [] => rfl
  | a :: L => by
    have e : ecs (a :: L) = a.cs.toList ++ ecs L := by unfold ecs; simp
    have el : a.cs.toList.length = 9 := rfl
    rw [e, List.length_append, el, ecs_len L, List.length_cons]
    omega
/-- What an event in a block of its own yields to an append. -/
theorem src_ev {w : World} {b : Nat} {e : Ev} (h : w.heap[b]? = some (.cells e.cs 45 (0, 0))) : Src Tryd.prog 9 22 (.slice (some ⟨b, 0, none⟩) 1 1) 1 (ecs [e]) w :=
  Src.ofSlice w Tryd.underlying22 ⟨b, 0, none⟩ 1 1 (ecs [e]) rfl (fun j u hj => by
    rw [Addr.add_none, Nat.zero_add]
    refine cell_blk h j ?_
    rw [ecs_one] at hj
    rw [← hj, Array.getElem?_toList]) (fun v hv => by
    rw [ecs_one] at hv
    exact ev_one e v hv)
/-- A list of events of one's own. -/
structure EaR (b0 : Nat) (w : World) (p : Option Addr) (k c : Nat) (L : List Ev) : Prop where
  len : L.length = k
  row : w.ownsRow b0 45 9 (.slice p k c) k (ecs L)
theorem EaR.nil (b0 : Nat) (w : World) : EaR b0 w none 0 0 [] := ⟨rfl, rfl, .inl ⟨rfl, rfl⟩⟩
theorem EaR.k0 {b0 : Nat} {w w' : World} {p : Option Addr} {k c : Nat} {L : List Ev} (h : EaR b0 w p k c L) (K : Kept (fun _ => False) w w') : EaR b0 w' p k c L := ⟨h.len, K.owns h.row (fun _ _ z => z)⟩
theorem EaR.by {b0 : Nat} {S : Nat → Prop} {w w' : World} {p : Option Addr} {k c : Nat} {L : List Ev} (h : EaR b0 w p k c L) (K : Kept S w w') (hS : ∀ j, blockOf p = some j → ¬ S j) : EaR b0 w' p k c L := ⟨h.len, K.owns h.row (fun j z => by rw [blockOf_own] at z; exact hS j z)⟩
theorem EaR.more {b0 : Nat} {w w9 : World} {p p9 : Option Addr} {k c c9 m : Nat} {L M : List Ev} (h : EaR b0 w p k c L) (hm : M.length = m) (ho : w9.ownsRow b0 45 9 (.slice p9 (k + m) c9) (k + m) (ecs L ++ ecs M)) (hg : w.grownBy w9 (Value.slice p k c).ownBlock) : EaR b0 w9 p9 (k + m) c9 (L ++ M) ∧ Kept (fun j => blockOf p = some j) w w9 :=
  ⟨⟨by rw [List.length_append, h.len, hm], by rw [ecs_append]; exact ho⟩, (Kept.refl (fun j => blockOf p = some j) w).grown hg (fun j _ z => by rw [blockOf_own] at z; exact z)⟩
theorem EaR.erd {b0 : Nat} {w : World} {p : Option Addr} {k c : Nat} {L : List Ev} (h : EaR b0 w p k c L) (hr : ∀ e ∈ L, Reads w e.va e.vn e.vc e.val) : ERd w p k c L := by
  obtain ⟨r1, r2⟩ := own_room h.row
  refine ⟨h.len, r1, r2, fun h0 => ?_, hr⟩
  rcases h.row.2 with ⟨_, hn⟩ | ⟨g, cap, cur, z, _⟩
  · omega
  · have z : Value.slice p k c = .slice (some ⟨g, 0, none⟩) k cap := z
    injection z with z1 _ z3
    subst z1
    subst z3
    have hc := h.row.cells (g := g) rfl
    refine ⟨g, 0, rfl, fun i hi j v hv => ?_⟩
    have hj : j < 9 := by
      obtain ⟨h1, _⟩ := Array.getElem?_eq_some_iff.1 hv
      have : L[i].cs.size = 9 := rfl
      omega
    have := hc (i * 9 + j) v (by rw [ecs_get L i hi j hj]; exact hv)
    rw [Addr.add_none, Nat.zero_add] at this
    rw [Nat.zero_add]
    exact this
/-- How Parse stands. -/
structure PS (w wr : World) (p : Option Addr) (k c : Nat) (L : List Ev) : Prop where
  row : EaR w.heap.size wr p k c L
  val : ∀ e ∈ L, wr.ownsRow w.heap.size 5 1 (.slice e.va e.vn e.vc) e.vn (cellsOf e.val)
  kept : Kept (fun _ => False) w wr
theorem PS.k0 {w wr W : World} {p : Option Addr} {k c : Nat} {L : List Ev} (h : PS w wr p k c L) (K : Kept (fun _ => False) wr W) : PS w W p k c L := ⟨h.row.k0 K, fun e he => K.owns (h.val e he) (fun _ _ z => z), h.kept.trans K (fun _ _ z => z)⟩
theorem PS.more {w wr w9 : World} {p p9 : Option Addr} {k c c9 : Nat} {L : List Ev} {x : Ev} (h : PS w wr p k c L) (hx : wr.ownsRow w.heap.size 5 1 (.slice x.va x.vn x.vc) x.vn (cellsOf x.val)) (ho : w9.ownsRow w.heap.size 45 9 (.slice p9 (k + 1) c9) (k + 1) (ecs L ++ ecs [x])) (hg : wr.grownBy w9 (Value.slice p k c).ownBlock) : PS w w9 p9 (k + 1) c9 (L ++ [x]) := by
  obtain ⟨r, KG⟩ := h.row.more (M := [x]) rfl ho hg
  have ap : ∀ y : Ev, wr.ownsRow w.heap.size 5 1 (.slice y.va y.vn y.vc) y.vn (cellsOf y.val) → w9.ownsRow w.heap.size 5 1 (.slice y.va y.vn y.vc) y.vn (cellsOf y.val) := fun y hy => KG.owns hy (fun j z q => by
    rw [blockOf_own] at z
    obtain ⟨c1, e1⟩ := own_type hy j z
    obtain ⟨c2, e2⟩ := own_type h.row.row j q
    rw [e1] at e2
    simp at e2)
  refine ⟨r, fun y hy => ?_, Kept.own h.kept KG (fun j z => (own_lt h.row.row j z).1)⟩
  rcases List.mem_append.1 hy with z | z
  · exact ap y (h.val y z)
  · rw [List.mem_singleton] at z
    rw [z]
    exact ap x hx
def lenOf : Value → Nat
  | .slice _ n _ => n
  | _ => 0
/-- The four events of the document's example. -/
def evs (p1 p4 : Option Addr) (c1 c4 : Nat) : List Ev := [⟨1, 1, 1, true, ⟨#[107]⟩, p1, 1, c1, 0, 0, 0, [120]⟩, ⟨1, 2, 1, false, ⟨#[107]⟩, none, 0, 0, 0, 0, 0, []⟩, ⟨3, 1, 1, true, ⟨#[107]⟩, none, 0, 0, 0, 1, 1, []⟩, ⟨2, 2, 1, false, ⟨#[107]⟩, p4, 1, c4, 0, 1, 1, [120]⟩]
end Go.Proofs.YtbangbobfeflcaaDoor
