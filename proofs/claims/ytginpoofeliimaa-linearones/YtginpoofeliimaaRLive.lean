import Derived.Test.YtginpoofeliimaaHPut2
namespace Go.Proofs.Ytginpoofeliimaa
open Go.RowKit 

/-- A list of turns reads so. -/
structure TRd (w : World) (p : Option Addr) (n c : Nat) (ts : List Tn) : Prop where
  len : ts.length = n
  room : n ≤ c
  small : c ≤ maxLen
  cells : 0 < n → ∃ b off, p = some ⟨b, off, none⟩ ∧ ∀ i (h : i < ts.length) k v, ts[i].cs[k]? = some v → w.cell? ⟨b, off + i * 6 + k, none⟩ = some v
theorem TRd.k0 {w w' : World} {p : Option Addr} {n c : Nat} {ts : List Tn} (h : TRd w p n c ts) (K : Kept (fun _ => False) w w') : TRd w' p n c ts := by
  refine ⟨h.len, h.room, h.small, fun h0 => ?_⟩
  obtain ⟨b, off, e, hc⟩ := h.cells h0
  exact ⟨b, off, e, fun i hi k v hv => K.cell (hc i hi k v hv) (fun z => z)⟩
theorem TRd.at {w : World} {p : Option Addr} {n c : Nat} {ts : List Tn} (h : TRd w p n c ts) {i : Nat} (hi : i < n) : ∃ b off t, p = some ⟨b, off, none⟩ ∧ ts[i]? = some t ∧ w.cell? ⟨b, off + i * 6, none⟩ = some (.bool t.put) ∧ w.cell? ⟨b, off + i * 6 + 1, none⟩ = some (.int .i64 t.val) ∧ w.cell? ⟨b, off + i * 6 + 2, none⟩ = some (.int .i64 t.early) ∧ w.cell? ⟨b, off + i * 6 + 3, none⟩ = some (.int .i64 t.late) ∧ w.cell? ⟨b, off + i * 6 + 4, none⟩ = some (.bool t.never) ∧ w.cell? ⟨b, off + i * 6 + 5, none⟩ = some (.bool t.absent) := by
  obtain ⟨b, off, e, hc⟩ := h.cells (by omega)
  have hi2 : i < ts.length := by rw [h.len]; exact hi
  exact ⟨b, off, ts[i], e, List.getElem?_eq_getElem hi2, hc i hi2 0 _ rfl, hc i hi2 1 _ rfl, hc i hi2 2 _ rfl, hc i hi2 3 _ rfl, hc i hi2 4 _ rfl, hc i hi2 5 _ rfl⟩
/-- The calls on their way. -/
structure LV (w wr : World) (ts : List Tn) (i : Nat) (p : Option Addr) (c : Nat) (ms : List Cm) : Prop where
  row : CRow w.heap.size wr p i c ms
  cl : ms.map Cm.cl = livedC ts i
  rd : ∀ m ∈ ms, Reads wr m.va m.vn m.vc m.val
  ty : ∀ m ∈ ms, ∀ a, m.va = some a → ∃ C fr, wr.heap[a.block]? = some (.cells C 5 fr)
  kept : Kept (fun _ => False) w wr
theorem LV.k0 {w wr w' : World} {ts : List Tn} {i : Nat} {p : Option Addr} {c : Nat} {ms : List Cm} (h : LV w wr ts i p c ms) (K : Kept (fun _ => False) wr w') : LV w w' ts i p c ms := by
  refine ⟨h.row.k0 K, h.cl, fun m hm => Reads.kept K (h.rd m hm) (fun _ _ z => z), fun m hm a ha => ?_, h.kept.trans K (fun _ _ z => z)⟩
  obtain ⟨C, fr, hC⟩ := h.ty m hm a ha
  exact ⟨C, fr, K.get hC (fun z => z)⟩
theorem LV.add {w w2 wi w9 : World} {ts : List Tn} {i : Nat} {p p9 : Option Addr} {c c9 : Nat} {ms : List Cm} {m : Cm} {o : Obj} {t : Tn} (h : LV w w2 ts i p c ms) (ht : ts[i]? = some t) (hcl : m.cl = t.call i (valAt ts i)) (rm : Reads w2 m.va m.vn m.vc m.val) (tm : ∀ a, m.va = some a → ∃ C fr, w2.heap[a.block]? = some (.cells C 5 fr)) (ho : w9.ownsRow w.heap.size 33 11 (.slice p9 (i + 1) c9) (i + 1) (ccells ms ++ ccells [m])) (e : wi = w2.alloc o) (hg : wi.grownBy w9 (Value.slice p i c).ownBlock) : LV w w9 ts (i + 1) p9 c9 (ms ++ [m]) := by
  have KG : Kept (fun j => blockOf p = some j) w2 w9 := by
    rw [e] at hg
    exact ((Kept.refl (fun j => blockOf p = some j) w2).alloc _).grown hg (fun j _ z => by rw [blockOf_own] at z; exact z)
  have off : ∀ a : Addr, (∃ C fr, w2.heap[a.block]? = some (.cells C 5 fr)) → ¬ blockOf p = some a.block := by
    rintro a ⟨C, fr, hC⟩ z
    obtain ⟨cs, hc⟩ := own_type h.row.row a.block z
    rw [hC] at hc
    simp at hc
  have all : ∀ x ∈ ms ++ [m], Reads w2 x.va x.vn x.vc x.val ∧ ∀ a, x.va = some a → ∃ C fr, w2.heap[a.block]? = some (.cells C 5 fr) := by
    intro x hx
    rcases List.mem_append.1 hx with z | z
    · exact ⟨h.rd x z, h.ty x z⟩
    · rw [List.mem_singleton.1 z]
      exact ⟨rm, tm⟩
  refine ⟨⟨by rw [List.length_append, h.row.len]; rfl, by rw [ccells_append]; exact ho⟩, ?_, fun x hx => ?_, fun x hx a ha => ?_, Kept.own h.kept KG (fun j z => (own_lt h.row.row j z).1)⟩
  · rw [List.map_append, h.cl]
    conv => rhs; unfold livedC
    rw [ht]
    show livedC ts i ++ [m.cl] = livedC ts i ++ [t.call i (valAt ts i)]
    rw [hcl]
  · exact Reads.kept KG (all x hx).1 (fun a ha z => off a ((all x hx).2 a ha) z)
  · obtain ⟨C, fr, hC⟩ := (all x hx).2 a ha
    exact ⟨C, fr, KG.get hC (off a ⟨C, fr, hC⟩)⟩
theorem val_step {ts : List Tn} {i : Nat} {t : Tn} (ht : ts[i]? = some t) : valAt ts (i + 1) = t.next (valAt ts i) := by
  conv => lhs; unfold valAt
  rw [ht]
/-- What lived tells. -/
structure LivedQ (w : World) (ts : List Tn) (p : Option Addr) (k c : Nat) (w' : World) : Prop where
  ok : ∃ ms, CRd w' p k c ms ∧ ms.map Cm.cl = livedC ts k
  le : k ≤ ts.length
  few : k ≤ 24
  kept : Kept (fun _ => False) w w'
theorem LV.done {w wr : World} {ts : List Tn} {i : Nat} {p : Option Addr} {c : Nat} {ms : List Cm} (h : LV w wr ts i p c ms) (hi : i ≤ ts.length) (h24 : i ≤ 24) : LivedQ w ts p i c wr := ⟨⟨ms, h.row.rd h.rd, h.cl⟩, hi, h24, h.kept⟩
end Go.Proofs.Ytginpoofeliimaa
