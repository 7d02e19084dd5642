import Derived.Test.YtginpoofeliimaaFLeast
import Derived.Test.YtginpoofeliimaaRLiveW
namespace Go.Proofs.Ytginpoofeliimaa
open Go.RowKit 

/-- A call by small numbers. -/
structure Dr where
  put : Bool
  val : Int
  frm : Int
  long : Int
  gone : Bool
def Dr.cs (d : Dr) : Array Value := #[.bool d.put, .int .i64 d.val, .int .i64 d.frm, .int .i64 d.long, .bool d.gone]
def Dr.from_ (d : Dr) : Int := d.frm % 12
def Dr.to (d : Dr) : Int := if 0 < d.long % 8 then d.frm % 12 + d.long % 8 else -1
def val4 (d : Int) : ByteArray := if d % 4 = 0 then ⟨#[]⟩ else if d % 4 = 1 then ⟨#[97]⟩ else if d % 4 = 2 then ⟨#[98]⟩ else ⟨#[99]⟩
def Dr.call (d : Dr) : Cl :=
  if d.put = true then ⟨true, decide (d.to < 0), d.from_, d.to, 0, sb (val3 d.val)⟩
  else ⟨false, false, d.from_, d.to, if d.gone = true then 77 else (if (val4 d.val).toList.isEmpty = true then 76 else 0), sb (val4 d.val)⟩
theorem draft_bad (d : Dr) : d.call.bad = false := by
  have h1 : d.call.frm = d.from_ := by unfold Dr.call; split <;> rfl
  have h2 : d.call.to = d.to := by unfold Dr.call; split <;> rfl
  have h3 : 0 ≤ d.from_ := by unfold Dr.from_; omega
  have h4 : d.to = -1 ∨ d.from_ < d.to := by
    unfold Dr.to Dr.from_
    split
    · right; omega
    · left; rfl
  unfold Cl.bad
  rw [h1, h2, decide_eq_false (show ¬ d.from_ < 0 by omega), Bool.false_or]
  by_cases e : d.to = -1
  · simp [e]
  · rw [decide_eq_false (show ¬ d.to ≤ d.from_ by omega), Bool.and_false]
/-- A list of drafts reads so. -/
structure DRd (w : World) (p : Option Addr) (n c : Nat) (ds : List Dr) : Prop where
  len : ds.length = n
  room : n ≤ c
  small : c ≤ maxLen
  cells : 0 < n → ∃ b off, p = some ⟨b, off, none⟩ ∧ ∀ i (h : i < ds.length) k v, ds[i].cs[k]? = some v → w.cell? ⟨b, off + i * 5 + k, none⟩ = some v
theorem DRd.k0 {w w' : World} {p : Option Addr} {n c : Nat} {ds : List Dr} (h : DRd w p n c ds) (K : Kept (fun _ => False) w w') : DRd w' p n c ds := by
  refine ⟨h.len, h.room, h.small, fun h0 => ?_⟩
  obtain ⟨b, off, e, hc⟩ := h.cells h0
  exact ⟨b, off, e, fun i hi k v hv => K.cell (hc i hi k v hv) (fun z => z)⟩
theorem DRd.at {w : World} {p : Option Addr} {n c : Nat} {ds : List Dr} (h : DRd w p n c ds) {i : Nat} (hi : i < n) : ∃ b off d, p = some ⟨b, off, none⟩ ∧ ds[i]? = some d ∧ w.cell? ⟨b, off + i * 5, none⟩ = some (.bool d.put) ∧ w.cell? ⟨b, off + i * 5 + 1, none⟩ = some (.int .i64 d.val) ∧ w.cell? ⟨b, off + i * 5 + 2, none⟩ = some (.int .i64 d.frm) ∧ w.cell? ⟨b, off + i * 5 + 3, none⟩ = some (.int .i64 d.long) ∧ w.cell? ⟨b, off + i * 5 + 4, none⟩ = some (.bool d.gone) := by
  obtain ⟨b, off, e, hc⟩ := h.cells (by omega)
  have hi2 : i < ds.length := by rw [h.len]; exact hi
  exact ⟨b, off, ds[i], e, List.getElem?_eq_getElem hi2, hc i hi2 0 _ rfl, hc i hi2 1 _ rfl, hc i hi2 2 _ rfl, hc i hi2 3 _ rfl, hc i hi2 4 _ rfl⟩
/-- The calls of drafts on their way. -/
structure DV (w wr : World) (ds : List Dr) (i : Nat) (p : Option Addr) (c : Nat) (ms : List Cm) : Prop where
  row : CRow w.heap.size wr p i c ms
  cl : ms.map Cm.cl = (ds.take i).map Dr.call
  rd : ∀ m ∈ ms, Reads wr m.va m.vn m.vc m.val
  ty : ∀ m ∈ ms, ∀ a, m.va = some a → ∃ C fr, wr.heap[a.block]? = some (.cells C 5 fr)
  kept : Kept (fun _ => False) w wr
theorem DV.k0 {w wr w' : World} {ds : List Dr} {i : Nat} {p : Option Addr} {c : Nat} {ms : List Cm} (h : DV w wr ds i p c ms) (K : Kept (fun _ => False) wr w') : DV w w' ds i p c ms := by
  refine ⟨h.row.k0 K, h.cl, fun m hm => Reads.kept K (h.rd m hm) (fun _ _ z => z), fun m hm a ha => ?_, h.kept.trans K (fun _ _ z => z)⟩
  obtain ⟨C, fr, hC⟩ := h.ty m hm a ha
  exact ⟨C, fr, K.get hC (fun z => z)⟩
theorem DV.add {w w2 wi w9 : World} {ds : List Dr} {i : Nat} {p p9 : Option Addr} {c c9 : Nat} {ms : List Cm} {m : Cm} {o : Obj} {d : Dr} (h : DV w w2 ds i p c ms) (ht : ds[i]? = some d) (hcl : m.cl = d.call) (rm : Reads w2 m.va m.vn m.vc m.val) (tm : ∀ a, m.va = some a → ∃ C fr, w2.heap[a.block]? = some (.cells C 5 fr)) (ho : w9.ownsRow w.heap.size 33 11 (.slice p9 (i + 1) c9) (i + 1) (ccells ms ++ ccells [m])) (e : wi = w2.alloc o) (hg : wi.grownBy w9 (Value.slice p i c).ownBlock) : DV w w9 ds (i + 1) p9 c9 (ms ++ [m]) := by
  have KG : Kept (fun j => blockOf p = some j) w2 w9 := by
    rw [e] at hg
    exact ((Kept.refl (fun j => blockOf p = some j) w2).alloc _).grown hg (fun j _ z => by rw [blockOf_own] at z; exact z)
  have off : ∀ a : Addr, (∃ C fr, w2.heap[a.block]? = some (.cells C 5 fr)) → ¬ blockOf p = some a.block := by
    rintro a ⟨C, fr, hC⟩ z
    obtain ⟨cs, hc⟩ := own_type h.row.row a.block z
    rw [hC] at hc
    simp at hc
  have all : ∀ x ∈ ms ++ [m], Reads w2 x.va x.vn x.vc x.val ∧ ∀ a, x.va = some a → ∃ C fr, w2.heap[a.block]? = some (.cells C 5 fr) := by
    intro x hx
    rcases List.mem_append.1 hx with z | z
    · exact ⟨h.rd x z, h.ty x z⟩
    · rw [List.mem_singleton.1 z]
      exact ⟨rm, tm⟩
  refine ⟨⟨by rw [List.length_append, h.row.len]; rfl, by rw [ccells_append]; exact ho⟩, ?_, fun x hx => ?_, fun x hx a ha => ?_, Kept.own h.kept KG (fun j z => (own_lt h.row.row j z).1)⟩
  · rw [List.map_append, h.cl, List.take_add_one, ht, List.map_append]
    show (ds.take i).map Dr.call ++ [m.cl] = _
    rw [hcl]
    rfl
  · exact Reads.kept KG (all x hx).1 (fun a ha z => off a ((all x hx).2 a ha) z)
  · obtain ⟨C, fr, hC⟩ := (all x hx).2 a ha
    exact ⟨C, fr, KG.get hC (off a ⟨C, fr, hC⟩)⟩
/-- What drafted tells. -/
structure DraftQ (w : World) (ds : List Dr) (most : Nat) (p : Option Addr) (k c : Nat) (w' : World) : Prop where
  ok : ∃ ms, CRd w' p k c ms ∧ ms.map Cm.cl = (ds.take k).map Dr.call
  le : k = min ds.length most
  kept : Kept (fun _ => False) w w'
end Go.Proofs.Ytginpoofeliimaa
