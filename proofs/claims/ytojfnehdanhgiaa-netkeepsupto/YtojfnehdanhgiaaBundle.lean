import Derived.Test.YtojfnehdanhgiaaSame
import Derived.Test.YtojfnehdanhgiaaTake
import Derived.Test.YtojfnehdanhgiaaMeth
namespace Go.Proofs.Ytojfnehdanhgiaa
open Go.RowKit

theorem take_of (base C : Nat) (g : Option Nat) (ps : List Pk) (k : Nat) (hk : k < ps.length) (w : World) (h : NetOf 67 base w C g ps) :
    Calls Try.prog 12 #[.pointer (some ⟨C, 0, none⟩), .int .i64 (k : Int)] w fun x w' => ∃ e : Ent, x = .returned (.tuple #[.agg #[.int .i64 e.p.fk, .int .i64 e.p.fi, .int .i64 e.p.tk, .int .i64 e.p.ti, .slice e.a e.len e.cap, .bool e.p.lost], .int .i64 0]) ∧ ps[k]? = some e.p ∧ Good base w' e ∧ NetOf 67 base w' C g (ps.take k ++ ps.drop (k + 1)) ∧ Mv w w' C g g := by
  obtain ⟨q, len, cap, R, n, rfl, e⟩ := h
  have hl := len_eq n.list.length e
  have hkR : k < R.length := by rw [n.list.length, ← hl]; exact hk
  refine (take_ok base C q len cap R k (by omega) w n R[k] (List.getElem?_eq_getElem hkR)).mono ?_
  rintro x w' ⟨rfl, n', m⟩
  refine ⟨R[k], rfl, ?_, m.good n (n.list.good _ (List.getElem_mem hkR)), ⟨q, len - 1, cap, _, n', rfl, ?_⟩, m.mv⟩
  · rw [← e, List.getElem?_map, List.getElem?_eq_getElem hkR]; rfl
  · rw [← e, List.map_append, List.map_take, List.map_drop]
theorem take_of_none (base C : Nat) (g : Option Nat) (ps : List Pk) (i : Int) (hi : hasI i ps.length = false) (w : World) (h : NetOf 67 base w C g ps) :
    Calls Try.prog 12 #[.pointer (some ⟨C, 0, none⟩), .int .i64 i] w fun x w' => x = .returned (.tuple #[.agg #[.int .i64 0, .int .i64 0, .int .i64 0, .int .i64 0, .slice none 0 0, .bool false], .int .i64 50]) ∧ Kept (fun _ => False) w w' := by
  obtain ⟨q, cap, c⟩ := h.cell
  exact take_none C q ps.length cap i w c hi
theorem send_of (base C : Nat) (g : Option Nat) (ps : List Pk) (w : World) (h : NetOf 67 base w C g ps) (hbase : base ≤ w.heap.size) (hb : ps.length + 1 ≤ Big)
    (fk fi tk ti : Int) (a : Option Addr) (dl dc : Nat) (lost : Bool) (l : List Nat) (r : Reads w a dl dc l) (h1 : isN fk fi = true) (h2 : isN tk ti = true) (h3 : dl ≤ 66000) :
    Calls Try.prog 27 #[.pointer (some ⟨C, 0, none⟩), .agg #[.int .i64 fk, .int .i64 fi, .int .i64 tk, .int .i64 ti, .slice a dl dc, .bool lost]] w fun x w' => ∃ g', x = .returned (.int .i64 0) ∧ NetOf 67 base w' C g' (ps ++ [⟨fk, fi, tk, ti, l, lost⟩]) ∧ Mv w w' C g g' := by
  obtain ⟨q, len, cap, R, n, rfl, e⟩ := h
  have hl := len_eq n.list.length e
  refine (send_ok base C q len cap R w n hbase (by omega) fk fi tk ti a dl dc lost l r h1 h2 h3).mono ?_
  rintro x w' ⟨p, c, en, rfl, hen, n', m⟩
  refine ⟨blockOf p, rfl, ⟨p, len + 1, c, _, n', rfl, ?_⟩, m.mv⟩
  rw [← e, List.map_append]
  simp [hen]
theorem flight_of (base C : Nat) (g : Option Nat) (ps : List Pk) (w : World) (h : NetOf 67 base w C g ps) (hb : ps.length ≤ Big) :
    Calls Try.prog 10 #[.pointer (some ⟨C, 0, none⟩)] w fun x w' => ∃ p c R', x = .returned (.slice p ps.length c) ∧ R'.map Ent.p = ps ∧ IsL w.heap.size w' p ps.length c R' ∧ Apart R' ∧ Kept (fun _ => False) w w' := by
  obtain ⟨q, len, cap, R, n, rfl, e⟩ := h
  have hl := len_eq n.list.length e
  subst hl
  refine (flight base C q ps.length cap R w n hb).mono ?_
  rintro x w' ⟨p, c, R', rfl, hm, rest⟩
  exact ⟨p, c, R', rfl, by rw [hm, e], rest⟩
theorem copy_of (base C : Nat) (g : Option Nat) (ps : List Pk) (w : World) (h : NetOf 67 base w C g ps) (hb : ps.length ≤ Big) :
    Calls Try.prog 11 #[.pointer (some ⟨C, 0, none⟩)] w fun x w' => ∃ C' g', x = .returned (.pointer (some ⟨C', 0, none⟩)) ∧ NetOf 67 w.heap.size w' C' g' ps ∧ Kept (fun _ => False) w w' := by
  obtain ⟨q, len, cap, R, n, rfl, e⟩ := h
  have hl := len_eq n.list.length e
  refine (nCopy base C q len cap R w n (by omega)).mono ?_
  rintro x w' ⟨C', p, c, R', rfl, hm, n', _, K⟩
  exact ⟨C', blockOf p, rfl, ⟨p, len, c, R', n', rfl, by rw [hm, e]⟩, K⟩
theorem len_of (base C : Nat) (g : Option Nat) (ps : List Pk) (w : World) (h : NetOf 67 base w C g ps) :
    Calls Try.prog 19 #[.pointer (some ⟨C, 0, none⟩)] w fun x w' => x = .returned (.int .i64 (ps.length : Int)) ∧ w' = w := by
  obtain ⟨q, cap, c⟩ := h.cell
  exact nLen C q ps.length cap w c
theorem net_of_new {ty base : Nat} (w : World) (hb : base ≤ w.heap.size) (h5 : ty ≠ 5) (h39 : ty ≠ 39) : NetOf ty base (w.alloc (.cells #[.slice none 0 0] ty)) w.heap.size none [] := ⟨none, 0, 0, [], net_new w hb h5 h39, rfl, rfl⟩
/-- A box that holds that datagram. -/
def EBox (w : World) (b : Nat) (e : Ent) : Prop := Box w b (.int .i64 e.p.fk) (.int .i64 e.p.fi) (.int .i64 e.p.tk) (.int .i64 e.p.ti) (.slice e.a e.len e.cap) (.bool e.p.lost)
theorem Mv.box {w w' : World} {C : Nat} {g g' : Option Nat} {ty base : Nat} {ps : List Pk} (m : Mv w w' C g g') (n : NetOf ty base w C g ps) {b : Nat} {e : Ent} (h : EBox w b e) (hb : g ≠ some b) : EBox w' b e := by
  obtain ⟨q, len, cap, R, n, rfl, _⟩ := n
  refine Box.kept h m.kept (fun z => ?_)
  rcases z with z | z
  · subst z
    have hc := n.blk
    rw [show w.heap[b]? = _ from h] at hc
    simp at hc
  · exact hb z
theorem EBox.kept0 {w w' : World} {b : Nat} {e : Ent} (h : EBox w b e) (K : Kept (fun _ => False) w w') : EBox w' b e := Box.kept h K (fun q => q)
theorem Mv.kept0 {w0 w w' : World} {C : Nat} {g g' : Option Nat} {ty base : Nat} {ps : List Pk} (m : Mv w w' C g g') (n : NetOf ty base w C g ps) (hb : w0.heap.size ≤ base) (K : Kept (fun _ => False) w0 w) : Kept (fun _ => False) w0 w' :=
  K.trans m.kept (fun j hj z => by
    rcases z with z | z
    · have := n.lt.2; omega
    · have := (n.glt j z).2; omega)
theorem Mv.far {w w' : World} {C : Nat} {g g' : Option Nat} (m : Mv w w' C g g') {b : Nat} (hb : b < w.heap.size) (h : g ≠ some b) : g' ≠ some b := fun e => by
  rcases m.near b e with z | z
  · exact h z
  · omega
end Go.Proofs.Ytojfnehdanhgiaa
