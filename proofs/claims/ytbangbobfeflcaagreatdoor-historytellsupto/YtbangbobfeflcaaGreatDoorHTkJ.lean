import Derived.Test.YtbangbobfeflcaaGreatDoorShelfJ
import Derived.Deep.RegionHeld3
import Derived.Deep.DeepCutAuto
import Derived.Laws.Concat
import Derived.BigQuiet
import Derived.Laws.ResultCell
import Derived.Deep.Cut
import Derived.Test.YtbangbobfeflcaaGreatDoorHScJ
namespace Go.Proofs.YtbangbobfeflcaaGreatDoor
open Go.RowKit 

end Go.Proofs.YtbangbobfeflcaaGreatDoor

namespace Go.Proofs.YtbangbobfeflcaaGreatDoor
open Go.RowKit 

end Go.Proofs.YtbangbobfeflcaaGreatDoor

namespace Go.Proofs.YtbangbobfeflcaaGreatDoor
open Go.RowKit 

/-- What is left of a line, at g; the library's variable. -/
structure Rdr (w : World) (g : Nat) (s : ByteArray) : Prop where
  at_ : w.heap[g]? = some (.cells #[.string s] 91 (0, 0))
  ne : g ≠ 1
  lib : ∃ x, w.cell? ⟨1, 0, none⟩ = some (.int .i64 x)
theorem Rdr.next {w w' : World} {g : Nat} {s t : ByteArray} (h : Rdr w g s) (hk : Kept (fun j => j = g) w w') (ha : w'.heap[g]? = some (.cells #[.string t] 91 (0, 0))) : Rdr w' g t := by
  obtain ⟨x, hx⟩ := h.lib
  exact ⟨ha, h.ne, x, hk.cell hx (fun z => h.ne z.symm)⟩
end Go.Proofs.YtbangbobfeflcaaGreatDoor

namespace Go.Proofs.YtbangbobfeflcaaGreatDoor
open Go.RowKit 

/-- The words of the kinds, where they lie. -/
structure KWs (w : World) : Prop where
  c0 : w.cell? ⟨0, 0, none⟩ = some (.string ⟨#[]⟩)
  c1 : w.cell? ⟨0, 1, none⟩ = some (.string ⟨#[105, 110, 118, 111, 107, 101]⟩)
  c2 : w.cell? ⟨0, 2, none⟩ = some (.string ⟨#[114, 101, 116, 117, 114, 110]⟩)
  c3 : w.cell? ⟨0, 3, none⟩ = some (.string ⟨#[99, 97, 110, 99, 101, 108]⟩)
theorem KWs.kept {S : Nat → Prop} {w w' : World} (h : KWs w) (k : Kept S w w') (hn : ¬ S 0) : KWs w' := ⟨k.cell h.c0 hn, k.cell h.c1 hn, k.cell h.c2 hn, k.cell h.c3 hn⟩
end Go.Proofs.YtbangbobfeflcaaGreatDoor

namespace Go.Proofs.YtbangbobfeflcaaGreatDoor
open Go.RowKit 

end Go.Proofs.YtbangbobfeflcaaGreatDoor

namespace Go.Proofs.YtbangbobfeflcaaGreatDoor
open Go.RowKit 

/-- The library's table. -/
def Tab (w : World) : Prop := Lib.TabIs Tryz.prog w "internal/strconv.uint64pow10" .u64 Lib.pow10Tab
theorem var_by {P : Program} {w w' : World} (B : Below w.heap.size w w') {n : String} {cs : Array Value} (h : w.var? P n = some cs) : w'.var? P n = some cs := by
  unfold World.var? at h ⊢
  cases e : P.globalNamed n with
  | none => rw [e] at h; cases h
  | some g =>
    rw [e] at h
    simp only [Option.bind_some] at h ⊢
    cases q : w.heap[g]? with
    | none => rw [q] at h; cases h
    | some o =>
      have lt : g < w.heap.size := (Array.getElem?_eq_some_iff.1 q).1
      rw [B.block g lt]
      exact h
theorem Tab.by {w w' : World} (h : Tab w) (B : Below w.heap.size w w') : Tab w' := var_by B h
theorem grow_below (w : World) (k : Nat) (os : Array Obj) : Below w.heap.size w (Sort.grow (w.drewN k) os) :=
  ⟨rfl, rfl, rfl, by simp [Sort.grow], fun j hj => Sort.heap_grow_old (w.drewN k) os hj⟩
end Go.Proofs.YtbangbobfeflcaaGreatDoor

namespace Go.Proofs.YtbangbobfeflcaaGreatDoor
open Go.RowKit 

theorem Tab.kept {w w' : World} (h : Tab w) (K : Kept (fun _ => False) w w') : Tab w' := h.by (below_kept K)
end Go.Proofs.YtbangbobfeflcaaGreatDoor

namespace Go.Proofs.YtbangbobfeflcaaGreatDoor
open Go.RowKit 

def zEv : Array Value := #[.int .i64 0, .int .i64 0, .int .i64 0, .bool false, .string ⟨#[]⟩, .slice none 0 0, .int .i64 0, .int .i64 0, .int .i64 0]
/-- Where guess is: what is left of the line, and the event so far. -/
structure Gu (w W : World) (s : ByteArray) (cs : Array Value) : Prop where
  rd : Rdr W (w.heap.size + 1) s
  ev : W.heap[w.heap.size + 2]? = some (.cells cs 39 (0, 0))
  rs : W.heap[w.heap.size]? = some (.cells zEv 39 (0, 0))
  kept : Kept (fun _ => False) w W
theorem Gu.call {w W W' : World} {s t : ByteArray} {cs : Array Value} (h : Gu w W s cs) (K : Kept (fun j => j = w.heap.size + 1) W W') (R : Rdr W' (w.heap.size + 1) t) : Gu w W' t cs :=
  ⟨R, K.get h.ev (by omega), K.get h.rs (by omega), h.kept.trans K (fun j hj z => by have z : j = w.heap.size + 1 := z; omega)⟩
theorem Gu.keep {w W W' : World} {s : ByteArray} {cs : Array Value} (h : Gu w W s cs) (K : Kept (fun _ => False) W W') : Gu w W' s cs :=
  ⟨h.rd.next (K.mono (fun _ _ z => z.elim)) (K.get h.rd.at_ (fun z => z)), K.get h.ev (fun z => z), K.get h.rs (fun z => z), h.kept.trans K (fun _ _ z => z)⟩
theorem Gu.set {w W : World} {s : ByteArray} {cs : Array Value} (h : Gu w W s cs) (i : Nat) (v : Value) : Gu w (W.setCell ⟨w.heap.size + 2, i, none⟩ v) s (cs.setIfInBounds i v) := by
  have K : Kept (fun j => j = w.heap.size + 2) W (W.setCell ⟨w.heap.size + 2, i, none⟩ v) := (Kept.refl (fun j => j = w.heap.size + 2) W).setCell (p := ⟨w.heap.size + 2, i, none⟩) (fun _ => rfl) v
  obtain ⟨x, hx⟩ := h.rd.lib
  have : 1 ≠ w.heap.size + 2 := by omega
  exact ⟨⟨K.get h.rd.at_ (by omega), h.rd.ne, x, K.cell hx this⟩, set_heap h.ev i v, K.get h.rs (by omega), h.kept.trans K (fun j hj z => by have z : j = w.heap.size + 2 := z; omega)⟩
theorem Gu.start (w : World) (s : ByteArray) (hw : ∃ x, w.cell? ⟨1, 0, none⟩ = some (.int .i64 x)) (h0 : w.heap.size ≠ 0) : Gu w (((w.alloc (.cells zEv 39)).alloc (.cells #[.string s] 91)).alloc (.cells zEv 39)) s zEv := by
  have K : Kept (fun _ => False) w (((w.alloc (.cells zEv 39)).alloc (.cells #[.string s] 91)).alloc (.cells zEv 39)) := (((Kept.refl _ _).alloc _).alloc _).alloc _
  obtain ⟨x, hx⟩ := hw
  have e1 : (w.alloc (.cells zEv 39)).heap.size = w.heap.size + 1 := alloc_size _ _
  have e2 : ((w.alloc (.cells zEv 39)).alloc (.cells #[.string s] 91)).heap.size = w.heap.size + 2 := by rw [alloc_size, e1]
  refine ⟨⟨?_, by omega, x, K.cell hx (fun z => z)⟩, ?_, ?_, K⟩
  · refine get_alloc ?_
    rw [← e1]
    exact alloc_new _ _
  · rw [← e2]
    exact alloc_new _ _
  · exact get_alloc (get_alloc (alloc_new _ _))
end Go.Proofs.YtbangbobfeflcaaGreatDoor

namespace Go.Proofs.YtbangbobfeflcaaGreatDoor
open Go.RowKit 

/-- Where line is: the event in its box. -/
structure LnS (w W : World) (vs : Array Value) : Prop where
  ev : W.heap[w.heap.size]? = some (.cells vs 39 (0, 0))
  tab0 : Tab w
  kw0 : KWs w
  kept : Kept (fun _ => False) w W
theorem LnS.tab {w W : World} {vs : Array Value} (h : LnS w W vs) : Tab W := h.tab0.kept h.kept
theorem LnS.kw {w W : World} {vs : Array Value} (h : LnS w W vs) : KWs W := h.kw0.kept h.kept (fun z => z)
theorem LnS.keep {w W W' : World} {vs : Array Value} (h : LnS w W vs) (K : Kept (fun _ => False) W W') : LnS w W' vs := ⟨K.get h.ev (fun z => z), h.tab0, h.kw0, h.kept.trans K (fun _ _ z => z)⟩
theorem LnS.by {w W W' : World} {vs : Array Value} (h : LnS w W vs) (B : Below W.heap.size W W') : LnS w W' vs := h.keep (kept_below B)
theorem LnS.at {w W W' : World} {vs : Array Value} (h : LnS w W vs) {S : Nat → Prop} (K : Kept S W W') (hS : ∀ j, S j → w.heap.size < j) : LnS w W' vs :=
  ⟨K.get h.ev (fun z => by have := hS _ z; omega), h.tab0, h.kw0, h.kept.trans K (fun j hj z => by have := hS _ z; omega)⟩
theorem LnS.start (w : World) (vs : Array Value) (V : Tab w) (kw : KWs w) : LnS w (w.alloc (.cells vs 39)) vs := ⟨alloc_new _ _, V, kw, (Kept.refl _ _).alloc _⟩
def strs (l : List ByteArray) : List Value := l.map .string
/-- The words so far, a row of one's own. -/
structure LnW (w W : World) (vs : Array Value) (P : Option Addr) (k cap : Nat) (xs : List ByteArray) : Prop where
  st : LnS w W vs
  row : W.ownsRow (w.heap.size + 1) 9 1 (.slice P k cap) k (strs xs)
theorem LnW.keep {w W W' : World} {vs : Array Value} {P : Option Addr} {k cap : Nat} {xs : List ByteArray} (h : LnW w W vs P k cap xs) (K : Kept (fun _ => False) W W') : LnW w W' vs P k cap xs := ⟨h.st.keep K, K.owns h.row (fun _ _ z => z)⟩
theorem LnW.more {w W W' : World} {vs : Array Value} {P Q : Option Addr} {k k' cap cap' : Nat} {xs ys : List ByteArray} (h : LnW w W vs P k cap xs) (g : W.grownBy W' (Value.slice P k cap).ownBlock) (o : W'.ownsRow (w.heap.size + 1) 9 1 (.slice Q k' cap') k' (strs ys)) : LnW w W' vs Q k' cap' ys := by
  refine ⟨h.st.at ((Kept.refl (fun j => blockOf P = some j) W).grown g (fun j _ z => by rw [blockOf_own] at z; exact z)) (fun j z => ?_), o⟩
  have := own_lt h.row j z
  omega
theorem Tryz.info9c : (Tryz.prog.info? 9).map (fun i => (i.zero, i.size, i.bytes)) = some (some (.string ⟨#[]⟩), 1, 16) := by kernel_rfl
theorem src_str {w : World} {g : Nat} {s : ByteArray} (h : w.heap[g]? = some (.cells #[.string s] 9 (0, 0))) : Src Tryz.prog 1 44 (.slice (some ⟨g, 0, none⟩) 1 1) 1 (strs [s]) w := by
  refine Src.ofSlice w Tryz.underlying44 ⟨g, 0, none⟩ 1 1 (strs [s]) rfl (fun j u hu => ?_) (fun u hu => ?_)
  · have : j = 0 := by
      have := (List.getElem?_eq_some_iff.1 hu).1
      simp [strs] at this
      exact this
    subst this
    rw [Addr.add_none]
    have e : u = .string s := by simpa [strs] using hu.symm
    rw [e]
    exact cell_blk h 0 rfl
  · have e : u = .string s := by simpa [strs] using hu
    rw [e]
    rfl
theorem LnW.join {w W : World} {vs : Array Value} {P : Option Addr} {k cap : Nat} {xs : List ByteArray} (h : LnW w W vs P k cap xs) (hk : k = xs.length) (h0 : 0 < k) (h1 : k ≤ 100) {r : ByteArray} (hr : (⟨(Lib.join (xs.map (·.data.toList)) [32]).toArray⟩ : ByteArray) = r) (hl : (Lib.join (xs.map (·.data.toList)) [32]).length ≤ 140737488355328) : Calls Tryz.prog 65 #[.slice P k cap, .string ⟨#[32]⟩] W fun o w' => o = .returned (.string r) ∧ Kept (fun _ => False) W w' := by
  have rm := own_room h.row
  rcases h.row.2 with ⟨_, z⟩ | ⟨g, cap', cur, z, _, hg, _⟩
  · omega
  · have z : Value.slice P k cap = .slice (some ⟨g, 0, none⟩) k cap' := z
    injection z with z1 _ z3
    subst z1
    subst z3
    have hc := h.row.cells (g := g) rfl
    subst hk
    refine (Tryz.strings_Join g 0 cap xs ⟨#[32]⟩ W (fun j x hx => ?_) (block_lt hg) (by omega) rm.1 hl).mono ?_
    · have := hc j (.string x) (by unfold strs; rw [List.getElem?_map, hx]; rfl)
      rw [Addr.add_none] at this
      exact this
    · rintro o w' ⟨rfl, B⟩
      exact ⟨by rw [← hr], kept_below B⟩
theorem itoaAt {v : Int} {s : ByteArray} (h0 : -9223372036854775808 ≤ v) (h1 : v ≤ 9223372036854775807) (hs : (⟨(Lib.itoa v).toArray⟩ : ByteArray) = s) (w : World) (V : Tab w) : Calls Tryz.prog 60 #[.int .i64 v] w fun x w' => x = .returned (.string s) ∧ Below w.heap.size w w' := by
  refine (Tryz.strconv_Itoa v h0 h1 w V).mono ?_
  rintro x w2 ⟨rfl, k, os, rfl⟩
  exact ⟨by rw [hs], grow_below w k os⟩
theorem formatAt {v : Int} {s : ByteArray} (h0 : -9223372036854775808 ≤ v) (h1 : v ≤ 9223372036854775807) (hs : (⟨(Lib.itoa v).toArray⟩ : ByteArray) = s) (w : World) (V : Tab w) : Calls Tryz.prog 61 #[.int .i64 v, .int .i64 10] w fun x w' => x = .returned (.string s) ∧ Below w.heap.size w w' := by
  refine (Tryz.strconv_FormatInt_10 v h0 h1 w V).mono ?_
  rintro x w2 ⟨rfl, k, os, rfl⟩
  exact ⟨by rw [hs], grow_below w k os⟩
end Go.Proofs.YtbangbobfeflcaaGreatDoor

namespace Go.Proofs.YtbangbobfeflcaaGreatDoor
open Go.RowKit 

end Go.Proofs.YtbangbobfeflcaaGreatDoor

namespace Go.Proofs.YtbangbobfeflcaaGreatDoor
open Go.RowKit 

def ecs (L : List Ev) : List Value := L.flatMap fun e => e.cs.toList
theorem ecs_append (a b : List Ev) : ecs (a ++ b) = ecs a ++ ecs b := by unfold ecs; rw [List.flatMap_append]
theorem Tryz.info39c : (Tryz.prog.info? 39).map (fun i => (i.zero, i.size, i.bytes)) = some (some (.agg zEv), 9, 96) := by kernel_rfl
theorem ecs_one (e : Ev) : ecs [e] = e.cs.toList := by unfold ecs; simp
theorem ev_one (e : Ev) : ∀ v ∈ e.cs.toList, v.oneCell' = true := fun v hv => by
  simp [Ev.cs] at hv
  rcases hv with rfl | rfl | rfl | rfl | rfl | rfl | rfl | rfl | rfl <;> rfl
theorem ecs_get : ∀ (L : List Ev) (i : Nat) (h : i < L.length) (k : Nat), k < 9 → (ecs L)[i * 9 + k]? = L[i].cs[k]?
  | [], i, h, _, _ => absurd h (by simp)
  | a :: L, 0, _, k, hk => by
    have e : ecs (a :: L) = a.cs.toList ++ ecs L := by unfold ecs; simp
    have el : a.cs.toList.length = 9 := rfl
    rw [e, Nat.zero_mul, Nat.zero_add, List.getElem?_append_left (by rw [el]; exact hk), Array.getElem?_toList]
    rfl
  | a :: L, i + 1, h, k, hk => by
    have e : ecs (a :: L) = a.cs.toList ++ ecs L := by unfold ecs; simp
    have el : a.cs.toList.length = 9 := rfl
    rw [e, List.getElem?_append_right (by rw [el]; omega), el, show (i + 1) * 9 + k - 9 = i * 9 + k by omega]
    exact ecs_get L i (by simpa using h) k hk
/-- What an event in a block of its own yields to an append. -/
theorem src_ev {w : World} {b : Nat} {e : Ev} (h : w.heap[b]? = some (.cells e.cs 39 (0, 0))) : Src Tryz.prog 9 22 (.slice (some ⟨b, 0, none⟩) 1 1) 1 (ecs [e]) w :=
  Src.ofSlice w Tryz.underlying22 ⟨b, 0, none⟩ 1 1 (ecs [e]) rfl (fun j u hj => by
    rw [Addr.add_none, Nat.zero_add]
    refine cell_blk h j ?_
    rw [ecs_one] at hj
    rw [← hj, Array.getElem?_toList]) (fun v hv => by
    rw [ecs_one] at hv
    exact ev_one e v hv)
/-- A list of events of one's own. -/
structure EaR (b0 : Nat) (w : World) (p : Option Addr) (k c : Nat) (L : List Ev) : Prop where
  len : L.length = k
  row : w.ownsRow b0 39 9 (.slice p k c) k (ecs L)
theorem EaR.nil (b0 : Nat) (w : World) : EaR b0 w none 0 0 [] := ⟨rfl, rfl, .inl ⟨rfl, rfl⟩⟩
theorem EaR.k0 {b0 : Nat} {w w' : World} {p : Option Addr} {k c : Nat} {L : List Ev} (h : EaR b0 w p k c L) (K : Kept (fun _ => False) w w') : EaR b0 w' p k c L := ⟨h.len, K.owns h.row (fun _ _ z => z)⟩
theorem EaR.by {b0 : Nat} {S : Nat → Prop} {w w' : World} {p : Option Addr} {k c : Nat} {L : List Ev} (h : EaR b0 w p k c L) (K : Kept S w w') (hS : ∀ j, blockOf p = some j → ¬ S j) : EaR b0 w' p k c L := ⟨h.len, K.owns h.row (fun j z => by rw [blockOf_own] at z; exact hS j z)⟩
theorem EaR.more {b0 : Nat} {w w9 : World} {p p9 : Option Addr} {k c c9 m : Nat} {L M : List Ev} (h : EaR b0 w p k c L) (hm : M.length = m) (ho : w9.ownsRow b0 39 9 (.slice p9 (k + m) c9) (k + m) (ecs L ++ ecs M)) (hg : w.grownBy w9 (Value.slice p k c).ownBlock) : EaR b0 w9 p9 (k + m) c9 (L ++ M) ∧ Kept (fun j => blockOf p = some j) w w9 :=
  ⟨⟨by rw [List.length_append, h.len, hm], by rw [ecs_append]; exact ho⟩, (Kept.refl (fun j => blockOf p = some j) w).grown hg (fun j _ z => by rw [blockOf_own] at z; exact z)⟩
theorem EaR.erd {b0 : Nat} {w : World} {p : Option Addr} {k c : Nat} {L : List Ev} (h : EaR b0 w p k c L) (hr : ∀ e ∈ L, Reads w e.va e.vn e.vc e.val) : ERd w p k c L := by
  obtain ⟨r1, r2⟩ := own_room h.row
  refine ⟨h.len, r1, r2, fun h0 => ?_, hr⟩
  rcases h.row.2 with ⟨_, hn⟩ | ⟨g, cap, cur, z, _⟩
  · omega
  · have z : Value.slice p k c = .slice (some ⟨g, 0, none⟩) k cap := z
    injection z with z1 _ z3
    subst z1
    subst z3
    have hc := h.row.cells (g := g) rfl
    refine ⟨g, 0, rfl, fun i hi j v hv => ?_⟩
    have hj : j < 9 := by
      obtain ⟨h1, _⟩ := Array.getElem?_eq_some_iff.1 hv
      have : L[i].cs.size = 9 := rfl
      omega
    have := hc (i * 9 + j) v (by rw [ecs_get L i hi j hj]; exact hv)
    rw [Addr.add_none, Nat.zero_add] at this
    rw [Nat.zero_add]
    exact this
/-- How Parse stands. -/
structure PS (w wr : World) (p : Option Addr) (k c : Nat) (L : List Ev) : Prop where
  row : EaR w.heap.size wr p k c L
  val : ∀ e ∈ L, wr.ownsRow w.heap.size 5 1 (.slice e.va e.vn e.vc) e.vn (cellsOf e.val)
  kept : Kept (fun _ => False) w wr
theorem PS.k0 {w wr W : World} {p : Option Addr} {k c : Nat} {L : List Ev} (h : PS w wr p k c L) (K : Kept (fun _ => False) wr W) : PS w W p k c L := ⟨h.row.k0 K, fun e he => K.owns (h.val e he) (fun _ _ z => z), h.kept.trans K (fun _ _ z => z)⟩
theorem PS.more {w wr w9 : World} {p p9 : Option Addr} {k c c9 : Nat} {L : List Ev} {x : Ev} (h : PS w wr p k c L) (hx : wr.ownsRow w.heap.size 5 1 (.slice x.va x.vn x.vc) x.vn (cellsOf x.val)) (ho : w9.ownsRow w.heap.size 39 9 (.slice p9 (k + 1) c9) (k + 1) (ecs L ++ ecs [x])) (hg : wr.grownBy w9 (Value.slice p k c).ownBlock) : PS w w9 p9 (k + 1) c9 (L ++ [x]) := by
  obtain ⟨r, KG⟩ := h.row.more (M := [x]) rfl ho hg
  have ap : ∀ y : Ev, wr.ownsRow w.heap.size 5 1 (.slice y.va y.vn y.vc) y.vn (cellsOf y.val) → w9.ownsRow w.heap.size 5 1 (.slice y.va y.vn y.vc) y.vn (cellsOf y.val) := fun y hy => KG.owns hy (fun j z q => by
    rw [blockOf_own] at z
    obtain ⟨c1, e1⟩ := own_type hy j z
    obtain ⟨c2, e2⟩ := own_type h.row.row j q
    rw [e1] at e2
    simp at e2)
  refine ⟨r, fun y hy => ?_, Kept.own h.kept KG (fun j z => (own_lt h.row.row j z).1)⟩
  rcases List.mem_append.1 hy with z | z
  · exact ap y (h.val y z)
  · rw [List.mem_singleton] at z
    rw [z]
    exact ap x hx
/-- The four events of the document's example. -/
def evs (p1 p4 : Option Addr) (c1 c4 : Nat) : List Ev := [⟨1, 1, 1, true, ⟨#[107]⟩, p1, 1, c1, 0, 0, 0, [120]⟩, ⟨1, 2, 1, false, ⟨#[107]⟩, none, 0, 0, 0, 0, 0, []⟩, ⟨3, 1, 1, true, ⟨#[107]⟩, none, 0, 0, 0, 1, 1, []⟩, ⟨2, 2, 1, false, ⟨#[107]⟩, p4, 1, c4, 0, 1, 1, [120]⟩]
end Go.Proofs.YtbangbobfeflcaaGreatDoor

namespace Go.Proofs.YtbangbobfeflcaaGreatDoor
open Go.RowKit 

/-- What of the package's variables is wanted. -/
structure Glob (w : World) : Prop where
  tab : Tab w
  kw : KWs w
  ne : w.heap.size ≠ 0
  gm : ∃ x, w.cell? ⟨1, 0, none⟩ = some (.int .i64 x)
theorem Glob.kept {w w' : World} (h : Glob w) (K : Kept (fun _ => False) w w') : Glob w' := ⟨h.tab.kept K, h.kw.kept K (fun z => z), fun z => h.ne (by have := K.size; omega), by obtain ⟨x, hx⟩ := h.gm; exact ⟨x, K.cell hx (fun z => z)⟩⟩
end Go.Proofs.YtbangbobfeflcaaGreatDoor

namespace Go.Proofs.YtbangbobfeflcaaGreatDoor
open Go.RowKit 

theorem PS.rd {w wr : World} {p : Option Addr} {c : Nat} {p1 p4 : Option Addr} {c1 c4 : Nat} (h : PS w wr p 4 c (evs p1 p4 c1 c4)) : ERd wr p 4 c (evs p1 p4 c1 c4) := h.row.erd (fun e he => reads_own (h.val e he) (fun x hx => by
  unfold evs at he
  simp at he
  rcases he with rfl | rfl | rfl | rfl <;> simp at hx <;> omega))
end Go.Proofs.YtbangbobfeflcaaGreatDoor
