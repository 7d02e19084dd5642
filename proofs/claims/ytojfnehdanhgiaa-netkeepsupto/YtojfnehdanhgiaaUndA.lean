import Derived.Test.YtojfnehdanhgiaaBits
import Derived.Test.YtojfnehdanhgiaaOrdA
import Derived.BigQuiet
namespace Go.Proofs.Ytojfnehdanhgiaa
open Go.RowKit

theorem Try.info30 : (Try.prog.info? 30).map (fun i => (i.zero, i.size, i.bytes)) = some (some (.slice none 0 0), 1, 24) := by kernel_rfl
theorem big_wide24 {n : Nat} (h : n ≤ Big) : (n + n / 4 + 192) * 24 ≤ 281474976710656 := by unfold Big at h; omega
def dcells (D : List Sli) : List Value := D.map fun s => .slice s.a s.len s.cap
theorem dcells_length (D : List Sli) : (dcells D).length = D.length := by simp [dcells]
theorem dcells_one (D : List Sli) : ∀ u ∈ dcells D, u.oneCell' = true := fun u hu => by
  obtain ⟨s, _, rfl⟩ := List.mem_map.1 hu
  rfl
theorem Datas.src {w : World} {q : Option Addr} {n cap : Nat} {D : List Sli} (h : Datas w q n cap D) : Src Try.prog 1 22 (.slice q n cap) n (dcells D) w := by
  have hl : (dcells D).length = n * 1 := by rw [dcells_length, h.length, Nat.mul_one]
  by_cases h0 : 0 < n
  · obtain ⟨b, off, rfl, hc⟩ := h.cells h0
    refine Src.ofSlice w Try.underlying22 _ n cap _ hl (fun j u hj => ?_) (dcells_one _)
    obtain ⟨hlt, e⟩ := List.getElem?_eq_some_iff.1 hj
    rw [Addr.add_none, ← e]
    rw [dcells_length] at hlt
    rw [hc j hlt]
    simp [dcells]
  · have e : n = 0 := by omega
    subst e
    have e : D = [] := List.eq_nil_of_length_eq_zero h.length
    subst e
    cases q with
    | none => exact Src.ofNil w Try.underlying22 cap
    | some p => exact Src.ofSlice w Try.underlying22 p 0 cap [] (by simp) (fun j u hj => by simp at hj) (fun u hu => by simp at hu)
theorem datas_own {w : World} {base : Nat} {p : Option Addr} {m c : Nat} {D : List Sli} (h : w.ownsRow base 30 1 (.slice p m c) m (dcells D)) (rd : ∀ s ∈ D, Reads w s.a s.len s.cap s.l) : Datas w p m c D := by
  obtain ⟨r1, r2⟩ := own_room h
  have hl : D.length = m := by have := h.1; rw [dcells_length] at this; omega
  refine ⟨hl, r1, r2, fun h0 => ?_, rd⟩
  have hc := h.2
  rcases hc with ⟨e0, e1⟩ | ⟨g, cap', cur, e0, _, hg, _⟩
  · omega
  · simp at e0
    obtain ⟨rfl, rfl⟩ := e0
    refine ⟨g, 0, rfl, fun i hi => ?_⟩
    have := h.cells (g := g) rfl i (.slice D[i].a D[i].len D[i].cap) (by simp [dcells, hi])
    rw [Addr.add_none] at this
    exact this
/-- One more list of bytes is put behind. -/
theorem datas_more {w w2 w3 w4 : World} {q p p4 : Option Addr} {n cap c c4 : Nat} {D : List Sli} {l : List Nat} (hD : Datas w q n cap D) (hl : l.length ≤ 66000) (hb : ∀ c ∈ l, c < 256) (K2 : Kept (fun _ => False) w w2) (h3 : w3 = (w2.alloc (.cells (cellsOf l).toArray 5)).alloc (.cells #[.slice (some ⟨w2.heap.size, 0, none⟩) l.length l.length] 30))
    (ho2 : w2.ownsRow w.heap.size 30 1 (.slice p n c) n (dcells D)) (ho : w4.ownsRow w.heap.size 30 1 (.slice p4 (n + 1) c4) (n + 1) (dcells D ++ [.slice (some ⟨w2.heap.size, 0, none⟩) l.length l.length])) (hg : w3.grownBy w4 (Value.slice p n c).ownBlock) :
    Datas w4 p4 (n + 1) c4 (D ++ [⟨some ⟨w2.heap.size, 0, none⟩, l.length, l.length, l⟩]) ∧ Kept (fun _ => False) w w4 := by
  have K3 : Kept (fun _ => False) w2 w3 := by rw [h3]; exact ((Kept.refl _ _).alloc _).alloc _
  have K23 := K2.trans K3 (fun _ _ q => q)
  have K4 : Kept (fun _ => False) w w4 := K23.grown hg (fun j hj z => by have := (ho2.lt j z).1; omega)
  refine ⟨datas_own (by unfold dcells at ho ⊢; rw [List.map_append]; exact ho) (fun s hs => ?_), K4⟩
  rcases List.mem_append.1 hs with z | z
  · exact (hD.reads s z).kept' K4 (fun _ _ q => q)
  · rw [List.mem_singleton.1 z]
    have o3 : w3.ownsRow w2.heap.size 5 1 (.slice (some ⟨w2.heap.size, 0, none⟩) l.length l.length) l.length (cellsOf l) := made_bytes (Nat.le_refl _) l hl _ rfl (by
      rw [h3]
      refine ((Kept.refl (fun _ => False) (w2.alloc (.cells (cellsOf l).toArray 5))).alloc _).get ?_ (fun q => q)
      exact alloc_new _ _)
    have o4 : w4.ownsRow w2.heap.size 5 1 (.slice (some ⟨w2.heap.size, 0, none⟩) l.length l.length) l.length (cellsOf l) := ((Kept.refl (fun k => (Value.slice p n c).ownBlock = some k) w3).grown hg (fun k _ e => e)).owns o3 (fun k hk z => by
      simp [Value.ownBlock] at hk
      have := (ho2.lt k z).2
      omega)
    obtain ⟨a, cap', e, r, _⟩ := owns_reads o4 hb
    simp at e
    obtain ⟨rfl, rfl⟩ := e
    exact r
/-- A network and a list of one's own. -/
structure US (w wr : World) (C : Nat) (g : Option Nat) (p : Option Addr) (c : Nat) (R : List Ent) (ps qs : List Pk) : Prop where
  kept : Kept (fun _ => False) w wr
  net : NetOf 67 w.heap.size wr C g qs
  list : IsL w.heap.size wr p ps.length c R
  same : R.map Ent.p = ps
  off : ∀ k, blockOf p = some k → g ≠ some k
theorem Fzs.us {w wr : World} {C : Nat} {g : Option Nat} {p : Option Addr} {c : Nat} {R : List Ent} {ps : List Pk} (s : Fzs w wr C g p c R ps) : US w wr C g p c R ps ps := ⟨s.kept, s.net, s.list, s.same, s.off⟩
theorem US.quiet {w wr w' : World} {C : Nat} {g : Option Nat} {p : Option Addr} {c : Nat} {R : List Ent} {ps qs : List Pk} (s : US w wr C g p c R ps qs) (K : Kept (fun _ => False) wr w') : US w w' C g p c R ps qs :=
  ⟨s.kept.trans K (fun _ _ q => q), s.net.kept0 K, s.list.kept0 K, s.same, s.off⟩
theorem US.moved {w wr w' : World} {C : Nat} {g g' : Option Nat} {p : Option Addr} {c : Nat} {R : List Ent} {ps qs qs' : List Pk} (s : US w wr C g p c R ps qs) (m : Mv wr w' C g g') (n : NetOf 67 w.heap.size w' C g' qs') : US w w' C g' p c R ps qs' :=
  ⟨m.kept0 s.net (Nat.le_refl _) s.kept, n, m.list s.net s.list s.off, s.same, fun k hk => m.far (own_lt s.list.own k hk).2 (s.off k hk)⟩
theorem upd_get {qs : List Pk} {i : Nat} {e : Pk} (h : qs[i]? = some e) (f : Pk → Pk) : (upd qs i f)[i]? = some (f e) ∧ upd qs i f = qs.set i (f e) := by
  have hlt := (List.getElem?_eq_some_iff.1 h).1
  rw [upd_lt hlt]
  have : qs[i] = e := by rw [List.getElem?_eq_getElem hlt] at h; simpa using h
  rw [this]
  exact ⟨by simp [hlt], rfl⟩
theorem upd_upd {qs : List Pk} {i : Nat} {e : Pk} (h : qs[i]? = some e) (f f2 : Pk → Pk) : upd (upd qs i f) i f2 = qs.set i (f2 (f e)) := by
  obtain ⟨a, b⟩ := upd_get h f
  rw [(upd_get a f2).2, b, List.set_set]
theorem upd_ne {qs : List Pk} {i j : Nat} (f : Pk → Pk) (h : i ≠ j) : (upd qs i f)[j]? = qs[j]? := by
  unfold upd
  split
  · exact List.getElem?_set_ne h
  · rfl
theorem aBurst_at (ps : List Pk) (i b pat : Nat) (h : i < ps.length) : aBurst turned ps (i : Int) (b : Int) pat = (upd ps i (fun p => { p with data := turned b pat p.data }), 0) := by
  rw [aBurst, if_pos (hasI_of h), if_neg (by omega), Int.toNat_natCast, Int.toNat_natCast]
theorem aCut_at (ps : List Pk) (i s : Nat) (h : i < ps.length) : aCut ps (i : Int) (s : Int) = (upd ps i (fun p => { p with data := p.data.take s }), 0) := by
  rw [aCut, if_pos (hasI_of h), if_neg (by omega), Int.toNat_natCast, Int.toNat_natCast]
theorem aDouble_at (ps : List Pk) (i : Nat) (e : Pk) (h : ps[i]? = some e) : aDouble ps (i : Int) = (ps ++ [e], 0) := by
  have hlt := (List.getElem?_eq_some_iff.1 h).1
  rw [aDouble, if_pos (hasI_of hlt), Int.toNat_natCast, h]
  rfl
end Go.Proofs.Ytojfnehdanhgiaa
