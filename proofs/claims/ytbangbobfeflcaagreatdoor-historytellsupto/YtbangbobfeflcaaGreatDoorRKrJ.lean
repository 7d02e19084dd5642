import Derived.Test.YtbangbobfeflcaaGreatDoorRTwJ
import Derived.Sort.Walk0
import Derived.Test.YtbangbobfeflcaaGreatDoorKEqJ
namespace Go.Proofs.YtbangbobfeflcaaGreatDoor
open Go.RowKit 

theorem reads_pre {w : World} {a : Option Addr} {n c : Nat} {l : List Nat} {x : Nat} (h : Reads w a (n + 1) c (l ++ [x])) : Reads w a n c l := by
  have hl : l.length = n := by
    have := h.length
    rw [List.length_append, List.length_singleton] at this
    omega
  refine ⟨hl, by have := h.room; omega, h.small, fun y hy => h.bytes y (List.mem_append_left _ hy), fun h0 => ?_⟩
  obtain ⟨b, off, e, hc⟩ := h.cells (by omega)
  refine ⟨b, off, e, fun i hi => ?_⟩
  have q := hc i (by omega)
  rw [List.getD_eq_getElem?_getD, List.getElem?_append_left (by omega), ← List.getD_eq_getElem?_getD] at q
  exact q
theorem Tw.rd {w wr : World} {es : List Ev} {p : Option Addr} {n c : Nat} {L : List Ev} (h : Tw w wr es p n c L) (hb : ∀ e ∈ L, ∀ x ∈ e.val, x < 256) : ∀ e ∈ L, Reads wr e.va e.vn e.vc e.val := fun e he => by
  refine reads_pre (x := 77) (reads_own (h.val e he) (fun y hy => ?_))
  rcases List.mem_append.1 hy with z | z
  · exact hb e he y z
  · rw [List.mem_singleton.1 z]
    omega
theorem Tw.erd {w wr : World} {es : List Ev} {p : Option Addr} {n c : Nat} {L : List Ev} (h : Tw w wr es p n c L) (hb : ∀ e ∈ L, ∀ x ∈ e.val, x < 256) : ERd wr p n c L := by
  have q : EaR w.heap.size wr p (n + 1) c (L ++ [⟨-77, 0, 0, false, ⟨#[]⟩, none, 0, 0, 0, 0, 0, []⟩]) := ⟨by rw [List.length_append, List.length_singleton, h.len], by rw [ecs_append]; exact h.row⟩
  have q2 := (q.erd (fun e he => by
    rcases List.mem_append.1 he with z | z
    · exact h.rd hb e z
    · rw [List.mem_singleton.1 z]
      exact ⟨rfl, Nat.le_refl _, Nat.zero_le _, (fun x h => by cases h), fun q => absurd q (Nat.lt_irrefl _)⟩)).pre (i := n) (Nat.le_succ _)
  rw [List.take_append_of_le_length (by rw [h.len]; exact Nat.le_refl _), List.take_of_length_le (by rw [h.len]; exact Nat.le_refl _)] at q2
  exact q2
theorem ecs_lenT : ∀ L : List Ev, (ecs L).length = L.length * 9
  | [] => rfl
  | e :: L => by
    have q := ecs_lenT L
    have e1 : ecs (e :: L) = e.cs.toList ++ ecs L := rfl
    rw [e1, List.length_append, q, List.length_cons]
    show 9 + _ = _
    omega
theorem Tw.mks {w wr : World} {es : List Ev} {p : Option Addr} {n c : Nat} {L : List Ev} (h : Tw w wr es p n c L) : Mks wr p n c L := by
  refine ⟨fun e he => ?_, ?_⟩
  · have r := h.val e he
    have ll : e.val.length = e.vn := by
      have := r.1
      rw [cellsOf_length, List.length_append, List.length_singleton] at this
      omega
    rcases r.2 with ⟨_, z⟩ | ⟨g, cap, cur, z, _, _, h3, _⟩
    · omega
    · injection z with z1 _ z3
      refine ⟨g, z1, by rw [z3]; exact h3, ?_⟩
      rw [z1] at r
      have q := r.cells (g := g) rfl e.vn (.int .u8 77) (by
        unfold cellsOf
        rw [List.map_append, List.getElem?_append_right (by rw [List.length_map]; omega), List.length_map, ll, Nat.sub_self]
        rfl)
      rw [Addr.add_none, Nat.zero_add] at q
      exact q
  · have r := h.row
    rcases r.2 with ⟨_, z⟩ | ⟨g, cap, cur, z, _, _, h3, _⟩
    · omega
    · injection z with z1 _ z3
      refine ⟨g, z1, by rw [z3]; exact h3, ?_⟩
      rw [z1] at r
      refine (row_cell r (j := n * 9) ?_).1
      rw [List.getElem?_append_right (by rw [ecs_lenT, h.len]; exact Nat.le_refl _), ecs_lenT, h.len, Nat.sub_self]
      rfl
end Go.Proofs.YtbangbobfeflcaaGreatDoor

namespace Go.Proofs.YtbangbobfeflcaaGreatDoor
open Go.RowKit 

/-- Texts in the order of their bytes. -/
def ltB (a b : ByteArray) : Bool := Op.bytesLess a.toList b.toList
theorem ltB_iff (a b : ByteArray) : ltB a b = true ↔ a.data.toList < b.data.toList := by
  unfold ltB
  rw [bytesLess_eq, ba_toList, ba_toList]
  simp
theorem ltB_irrefl (a : ByteArray) : ltB a a = false := by
  cases h : ltB a a with
  | false => rfl
  | true => exact absurd ((ltB_iff a a).1 h) (List.lt_irrefl _)
theorem ltB_trans {a b c : ByteArray} (h1 : ltB a b = true) (h2 : ltB b c = true) : ltB a c = true := (ltB_iff a c).2 (List.lt_trans ((ltB_iff a b).1 h1) ((ltB_iff b c).1 h2))
theorem ltB_tri {a b : ByteArray} (h1 : ltB a b = false) (h2 : ltB b a = false) : a = b := by
  have q1 : ¬ a.data.toList < b.data.toList := fun z => by rw [(ltB_iff a b).2 z] at h1; cases h1
  have q2 : ¬ b.data.toList < a.data.toList := fun z => by rw [(ltB_iff b a).2 z] at h2; cases h2
  exact ba_eq (List.le_antisymm (List.not_lt.1 q2) (List.not_lt.1 q1))
def insK (k : ByteArray) : List ByteArray → List ByteArray
  | [] => [k]
  | x :: l => if ltB x k = true then x :: insK k l else if x = k then x :: l else k :: x :: l
def RiB (l : List ByteArray) : Prop := l.Pairwise fun a b => ltB a b = true
theorem insK_mem (k y : ByteArray) : ∀ l : List ByteArray, y ∈ insK k l ↔ y = k ∨ y ∈ l
  | [] => by unfold insK; simp
  | x :: l => by
    unfold insK
    have ih := insK_mem k y l
    split
    · rw [List.mem_cons, List.mem_cons, ih]
      constructor
      · rintro (h | h | h)
        · exact .inr (.inl h)
        · exact .inl h
        · exact .inr (.inr h)
      · rintro (h | h | h)
        · exact .inr (.inl h)
        · exact .inl h
        · exact .inr (.inr h)
    · split
      · rename_i hx
        rw [List.mem_cons]
        constructor
        · exact fun h => .inr h
        · rintro (h | h)
          · exact .inl (h.trans hx.symm)
          · exact h
      · rw [List.mem_cons]
theorem insK_rise (k : ByteArray) : ∀ l : List ByteArray, RiB l → RiB (insK k l)
  | [], _ => by unfold insK; exact List.pairwise_singleton _ _
  | x :: l, h => by
    obtain ⟨h1, h2⟩ := List.pairwise_cons.1 h
    unfold insK
    split
    · rename_i hx
      refine List.pairwise_cons.2 ⟨fun y hy => ?_, insK_rise k l h2⟩
      rcases (insK_mem k y l).1 hy with e | e
      · rw [e]; exact hx
      · exact h1 y e
    · split
      · exact h
      · rename_i hx hk
        have kx : ltB k x = true := by
          cases q : ltB k x with
          | true => rfl
          | false => exact absurd (ltB_tri (by simpa using hx) q) hk
        refine List.pairwise_cons.2 ⟨fun y hy => ?_, h⟩
        rcases List.mem_cons.1 hy with e | e
        · rw [e]; exact kx
        · exact ltB_trans kx (h1 y e)
theorem rise_eq : ∀ (l m : List ByteArray), RiB l → RiB m → (∀ y, y ∈ l ↔ y ∈ m) → l = m
  | [], [], _, _, _ => rfl
  | [], y :: m, _, _, h => by have := (h y).2 List.mem_cons_self; cases this
  | x :: l, [], _, _, h => by have := (h x).1 List.mem_cons_self; cases this
  | x :: l, y :: m, hl, hm, h => by
    obtain ⟨l1, l2⟩ := List.pairwise_cons.1 hl
    obtain ⟨m1, m2⟩ := List.pairwise_cons.1 hm
    have e : x = y := by
      rcases List.mem_cons.1 ((h x).1 List.mem_cons_self) with e | e
      · exact e
      · rcases List.mem_cons.1 ((h y).2 List.mem_cons_self) with e2 | e2
        · exact e2.symm
        · have q := ltB_trans (l1 y e2) (m1 x e)
          rw [ltB_irrefl] at q
          cases q
    subst e
    refine congrArg (x :: ·) (rise_eq l m l2 m2 (fun z => ⟨fun hz => ?_, fun hz => ?_⟩))
    · rcases List.mem_cons.1 ((h z).1 (List.mem_cons_of_mem _ hz)) with e | e
      · have q := l1 z hz
        rw [e, ltB_irrefl] at q
        cases q
      · exact e
    · rcases List.mem_cons.1 ((h z).2 (List.mem_cons_of_mem _ hz)) with e | e
      · have q := m1 z hz
        rw [e, ltB_irrefl] at q
        cases q
      · exact e
/-- Where the walk puts it. -/
theorem insK_at (k : ByteArray) : ∀ (l : List ByteArray) (j : Nat), (∀ (m : Nat) (x : ByteArray), m < j → l[m]? = some x → ltB x k = true) → j ≤ l.length → (∀ x, l[j]? = some x → ltB x k = false) → insK k l = if l[j]? = some k then l else l.take j ++ k :: l.drop j
  | [], j, _, h2, _ => by
    have : j = 0 := by simpa using h2
    subst this
    rfl
  | x :: l, 0, _, _, h3 => by
    have q := h3 x rfl
    unfold insK
    rw [if_neg (by rw [q]; simp)]
    by_cases e : x = k
    · rw [if_pos e, if_pos (by rw [e]; rfl)]
    · rw [if_neg e, if_neg (by intro z; exact e (by simpa using z))]
      rfl
  | x :: l, j + 1, h1, h2, h3 => by
    have q := h1 0 x (Nat.succ_pos _) rfl
    have ih := insK_at k l j (fun m y hm hy => h1 (m + 1) y (by omega) (by simpa using hy)) (by simpa using h2) (fun y hy => h3 y (by simpa using hy))
    unfold insK
    rw [if_pos q, ih]
    have e : (x :: l)[j + 1]? = l[j]? := by simp
    rw [e]
    split
    · rfl
    · rfl
def keysR (es : List Ev) : List ByteArray := es.foldl (fun l e => insK e.key l) []
theorem keysR_take {es : List Ev} {i : Nat} {e : Ev} (h : es[i]? = some e) : keysR (es.take (i + 1)) = insK e.key (keysR (es.take i)) := by
  have et : es.take (i + 1) = es.take i ++ [e] := by rw [List.take_add_one, h]; rfl
  unfold keysR
  rw [et, List.foldl_append]
  rfl
theorem keysR_snoc (l : List Ev) (e : Ev) : keysR (l ++ [e]) = insK e.key (keysR l) := by
  unfold keysR
  rw [List.foldl_append]
  rfl
theorem keysR_rise (es : List Ev) : RiB (keysR es) := snoc_ind (P := fun es => RiB (keysR es)) List.Pairwise.nil (fun l e ih => by show RiB (keysR (l ++ [e])); rw [keysR_snoc]; exact insK_rise _ _ ih) es
theorem keysR_mem (k : ByteArray) (es : List Ev) : k ∈ keysR es ↔ ∃ e ∈ es, e.key = k := snoc_ind (P := fun es => k ∈ keysR es ↔ ∃ e ∈ es, e.key = k) (by unfold keysR; simp) (fun l e ih => by
  show k ∈ keysR (l ++ [e]) ↔ _
  rw [keysR_snoc, insK_mem, ih]
  constructor
  · rintro (h | ⟨x, hx, h⟩)
    · exact ⟨e, by simp, h.symm⟩
    · exact ⟨x, by simp [hx], h⟩
  · rintro ⟨x, hx, h⟩
    rcases List.mem_append.1 hx with q | q
    · exact .inr ⟨x, q, h⟩
    · rw [List.mem_singleton.1 q] at h
      exact .inl h.symm) es
end Go.Proofs.YtbangbobfeflcaaGreatDoor

namespace Go.Proofs.YtbangbobfeflcaaGreatDoor
open Go.RowKit 

theorem ofK_places (k : ByteArray) (es : List Ev) : (placesS es k).map (fun q => es[q]?) = (ofK es k).map some := by
  refine snoc_ind (P := fun es => (placesS es k).map (fun q => es[q]?) = (ofK es k).map some) rfl (fun l e ih => ?_) es
  show (placesS (l ++ [e]) k).map (fun q => (l ++ [e])[q]?) = (ofK (l ++ [e]) k).map some
  have old : (placesS l k).map (fun q => (l ++ [e])[q]?) = (placesS l k).map (fun q => l[q]?) := List.map_congr_left (fun q hq => get_old (places_ltS q hq))
  have ek : ofK (l ++ [e]) k = if e.key = k then ofK l k ++ [e] else ofK l k := by
    unfold ofK
    rw [List.filter_append]
    by_cases q : e.key = k
    · rw [if_pos q]
      simp [q]
    · rw [if_neg q]
      simp [q]
  rw [places_snocS, ek]
  by_cases q : e.key = k
  · rw [if_pos q, if_pos q, List.map_append, List.map_append, old, ih]
    congr 1
    show [(l ++ [e])[l.length]?] = _
    rw [get_new]
    rfl
  · rw [if_neg q, if_neg q, old, ih]
theorem lk_core {x e : Ev} (h : lk x e) : x.core = e.core := by
  obtain ⟨h1, h2, h3, h4, h5, h6, h7, h8, h9, h10⟩ := h
  unfold Ev.core
  rw [h1, h2, h3, h4, h5, h6, h7, h8, h9, h10]
theorem ofK_len (es : List Ev) (k : ByteArray) : (ofK es k).length = (placesS es k).length := by
  have := congrArg List.length (ofK_places k es)
  rw [List.length_map, List.length_map] at this
  omega
theorem OF.core {w wr : World} {es : List Ev} {k : ByteArray} {p : Option Addr} {c : Nat} {L : List Ev} (h : OF w wr es k p (placesS es k).length c L) : L.map Ev.core = (ofK es k).map Ev.core := by
  have hl : L.length = (placesS es k).length := h.ps.row.len
  refine List.ext_getElem? (fun m => ?_)
  rw [List.getElem?_map, List.getElem?_map]
  by_cases hm : m < L.length
  · have q1 : (placesS es k)[m]? = some ((placesS es k)[m]'(by omega)) := List.getElem?_eq_getElem _
    have q2 := congrArg (fun l => l[m]?) (ofK_places k es)
    simp only [List.getElem?_map] at q2
    rw [q1] at q2
    have ho : m < (ofK es k).length := by rw [ofK_len]; omega
    rw [List.getElem?_eq_getElem ho] at q2
    have q3 : es[(placesS es k)[m]'(by omega)]? = some ((ofK es k)[m]'ho) := by simpa using q2
    rw [List.getElem?_eq_getElem hm, List.getElem?_eq_getElem ho]
    exact congrArg some (lk_core (h.at_ m _ _ _ (List.getElem?_eq_getElem hm) q1 q3))
  · rw [List.getElem?_eq_none (by omega), List.getElem?_eq_none (by rw [ofK_len]; omega)]
theorem sum_step (l : List Ev) (e : Ev) : ∀ ks : List ByteArray, ks.Nodup → (e.key ∈ ks ∧ (ks.map fun k => (placesS (l ++ [e]) k).length).sum = (ks.map fun k => (placesS l k).length).sum + 1) ∨ (e.key ∉ ks ∧ (ks.map fun k => (placesS (l ++ [e]) k).length).sum = (ks.map fun k => (placesS l k).length).sum)
  | [], _ => .inr ⟨by simp, rfl⟩
  | k :: ks, h => by
    obtain ⟨h1, h2⟩ := List.nodup_cons.1 h
    rw [List.map_cons, List.map_cons, List.sum_cons, List.sum_cons, places_snocS]
    rcases sum_step l e ks h2 with ⟨m, ih⟩ | ⟨m, ih⟩
    · have q : ¬ e.key = k := fun z => h1 (z ▸ m)
      rw [if_neg q]
      exact .inl ⟨List.mem_cons_of_mem _ m, by omega⟩
    · by_cases q : e.key = k
      · rw [if_pos q, List.length_append, List.length_singleton]
        exact .inl ⟨by rw [q]; exact List.mem_cons_self, by omega⟩
      · rw [if_neg q]
        exact .inr ⟨fun z => by rcases List.mem_cons.1 z with z | z; exact q z; exact m z, by omega⟩
theorem sum_le {ks : List ByteArray} (nd : ks.Nodup) (es : List Ev) : (ks.map fun k => (placesS es k).length).sum ≤ es.length ∧ ((ks.map fun k => (placesS es k).length).sum = es.length → ∀ e ∈ es, e.key ∈ ks) := by
  refine snoc_ind (P := fun es => (ks.map fun k => (placesS es k).length).sum ≤ es.length ∧ ((ks.map fun k => (placesS es k).length).sum = es.length → ∀ e ∈ es, e.key ∈ ks)) ⟨?_, fun _ e he => by cases he⟩ (fun l e ih => ?_) es
  · have : ∀ ks : List ByteArray, (ks.map fun k => (placesS [] k).length).sum = 0 := fun ks => by
      induction ks with
      | nil => rfl
      | cons k ks ih => rw [List.map_cons, List.sum_cons, ih]; rfl
    rw [this]
    exact Nat.le_refl _
  · have i1 := ih.1
    rcases sum_step l e ks nd with ⟨m, q⟩ | ⟨m, q⟩
    · refine ⟨by rw [q, List.length_append, List.length_singleton]; omega, fun h => ?_⟩
      rw [q, List.length_append, List.length_singleton] at h
      intro x hx
      rcases List.mem_append.1 hx with z | z
      · exact ih.2 (by omega) x z
      · rw [List.mem_singleton.1 z]
        exact m
    · refine ⟨by rw [q, List.length_append, List.length_singleton]; omega, fun h => ?_⟩
      rw [q, List.length_append, List.length_singleton] at h
      omega
theorem rise_of : ∀ ks : List ByteArray, (∀ (i : Nat) (a b : ByteArray), ks[i]? = some a → ks[i + 1]? = some b → ltB a b = true) → RiB ks
  | [], _ => List.Pairwise.nil
  | [_], _ => List.pairwise_singleton _ _
  | a :: b :: l, h => by
    have ih := rise_of (b :: l) (fun i x y hx hy => h (i + 1) x y (by simpa using hx) (by simpa using hy))
    have ab := h 0 a b rfl rfl
    refine List.pairwise_cons.2 ⟨fun y hy => ?_, ih⟩
    rcases List.mem_cons.1 hy with e | e
    · rw [e]
      exact ab
    · exact ltB_trans ab ((List.pairwise_cons.1 ih).1 y e)
theorem rib_nodup {ks : List ByteArray} (h : RiB ks) : ks.Nodup := h.imp fun {a b} hab e => by
  rw [e, ltB_irrefl] at hab
  cases hab
/-- The program's keys are the document's. -/
theorem keys_eq {es : List Ev} {ks : List ByteArray} (rise : ∀ (i : Nat) (a b : ByteArray), ks[i]? = some a → ks[i + 1]? = some b → Op.bytesLess a.data.toList b.data.toList = true) (has : ∀ k ∈ ks, 0 < (placesS es k).length) (all : (ks.map fun k => (placesS es k).length).sum = es.length) : ks = keysR es := by
  have R : RiB ks := rise_of ks (fun i a b ha hb => by
    have q := rise i a b ha hb
    unfold ltB
    rw [ba_toList, ba_toList]
    exact q)
  refine rise_eq ks (keysR es) R (keysR_rise es) (fun y => ⟨fun hy => ?_, fun hy => ?_⟩)
  · rw [keysR_mem]
    have q := has y hy
    have q2 : 0 < (ofK es y).length := by rw [ofK_len]; exact q
    obtain ⟨e, he⟩ := List.exists_mem_of_length_pos q2
    have := List.mem_filter.1 he
    exact ⟨e, this.1, by simpa using this.2⟩
  · obtain ⟨e, he, hk⟩ := (keysR_mem y es).1 hy
    rw [← hk]
    exact (sum_le (rib_nodup R) es).2 all e he
end Go.Proofs.YtbangbobfeflcaaGreatDoor

namespace Go.Proofs.YtbangbobfeflcaaGreatDoor
open Go.RowKit 

/-- A list of texts of one's own. -/
structure SK (w wr : World) (ks : List ByteArray) (p : Option Addr) (k c : Nat) : Prop where
  row : wr.ownsRow w.heap.size 9 1 (.slice p k c) k (strs ks)
  kept : Kept (fun _ => False) w wr
theorem SK.k0 {w wr W : World} {ks : List ByteArray} {p : Option Addr} {k c : Nat} (h : SK w wr ks p k c) (K : Kept (fun _ => False) wr W) : SK w W ks p k c := ⟨K.owns h.row (fun _ _ z => z), h.kept.trans K (fun _ _ z => z)⟩
theorem SK.drewN {w wr : World} {ks : List ByteArray} {p : Option Addr} {k c : Nat} (h : SK w wr ks p k c) (n : Nat) : SK w (wr.drewN n) ks p k c := h.k0 ((Kept.refl _ _).drewN n)
theorem strs_at {ks : List ByteArray} {i : Nat} {x : ByteArray} (h : ks[i]? = some x) : (strs ks)[i]? = some (.string x) := by unfold strs; rw [List.getElem?_map, h]; rfl
theorem strs_lenK (ks : List ByteArray) : (strs ks).length = ks.length := by unfold strs; exact List.length_map _
theorem SK.len {w wr : World} {ks : List ByteArray} {p : Option Addr} {k c : Nat} (h : SK w wr ks p k c) : ks.length = k := by
  have := h.row.1
  rw [strs_lenK] at this
  omega
theorem SK.at {w wr : World} {ks : List ByteArray} {p : Option Addr} {k c : Nat} (h : SK w wr ks p k c) {j : Nat} (hj : j < k) : ∃ g x, p = some ⟨g, 0, none⟩ ∧ ks[j]? = some x ∧ wr.cell? ⟨g, j, none⟩ = some (.string x) := by
  obtain ⟨x, hx⟩ : ∃ x, ks[j]? = some x := ⟨_, List.getElem?_eq_getElem (by rw [h.len]; exact hj)⟩
  have r := h.row
  rcases r.2 with ⟨_, z⟩ | ⟨g, cap, cur, z, _⟩
  · omega
  · injection z with z1 _ _
    subst z1
    have q := r.cells (g := g) rfl j _ (strs_at hx)
    rw [Addr.add_none, Nat.zero_add] at q
    exact ⟨g, x, rfl, hx, q⟩
theorem one_strs (ks : List ByteArray) : ∀ u ∈ strs ks, u.oneCell' = true := fun u hu => by
  unfold strs at hu
  obtain ⟨x, _, rfl⟩ := List.mem_map.1 hu
  rfl
/-- A row of texts, or what is read of it, as what is put behind. -/
theorem src_row9 {W : World} {b n c : Nat} {p : Option Addr} {ks : List ByteArray} (h : W.ownsRow b 9 1 (.slice p n c) n (strs ks)) : Src Tryz.prog 1 44 (.slice p n c) n (strs ks) W := by
  rcases h.2 with ⟨z, y⟩ | ⟨g, cap, cur, z, _⟩
  · injection z with z1 z2 z3
    subst z1
    subst y
    have e : strs ks = [] := List.length_eq_zero_iff.1 (by have := h.1; omega)
    rw [e]
    exact Src.ofNil W Tryz.underlying44 c
  · injection z with z1 _ _
    subst z1
    exact Src.ofSlice W Tryz.underlying44 ⟨g, 0, none⟩ n c (strs ks) h.1 (h.cells (g := g) rfl) (one_strs ks)
theorem sk_to {W0 : World} {b k c : Nat} {p : Option Addr} {ks : List ByteArray} (h : W0.ownsRow b 9 1 (.slice p k c) k (strs ks)) (j : Nat) (hj : j ≤ k) : (∀ W, (Instr.slice 44 (.slice p k c) none (some (.int .i64 (j : Int))) none).run Tryz.prog W = .ok (.slice p j c) W) ∧ ∀ W : World, W.ownsRow b 9 1 (.slice p k c) k (strs ks) → Src Tryz.prog 1 44 (.slice p j c) j (strs (ks.take j)) W := by
  have hk : ks.length = k := by
    have := h.1
    rw [strs_lenK] at this
    omega
  rcases h.2 with ⟨z, y⟩ | ⟨g, cap, cur, z, _, _, h3, _⟩
  · injection z with z1 z2 z3
    subst z1
    subst y
    subst z3
    obtain rfl : j = 0 := by omega
    refine ⟨fun W => ?_, fun W _ => ?_⟩
    · simp [Instr.slice, Instr.sliceBounds, Instr.sliceBound, asIntOf, run_underlying Tryz.underlying44]
    · rw [List.take_zero]
      exact Src.ofNil W Tryz.underlying44 0
  · injection z with z1 _ z3
    subst z1
    subst z3
    have h4 : j ≤ c := by omega
    refine ⟨fun W => ?_, fun W hW => ?_⟩
    · simp [Instr.slice, Instr.sliceBounds, Instr.sliceBound, asIntOf, run_underlying Tryz.underlying44, h4]
      intro _
      rw [Addr.add_none]
    · refine Src.ofSlice W Tryz.underlying44 ⟨g, 0, none⟩ j c (strs (ks.take j)) (by rw [strs_lenK, List.length_take]; omega) (fun m u hu => ?_) (one_strs _)
      refine hW.cells (g := g) rfl m u ?_
      have e : strs (ks.take j) = (strs ks).take j := by unfold strs; rw [List.map_take]
      rw [e] at hu
      have hm := (List.getElem?_eq_some_iff.1 hu).1
      rw [List.length_take] at hm
      rw [List.getElem?_take_of_lt (by omega)] at hu
      exact hu
theorem sk_from {W0 : World} {b k c : Nat} {p : Option Addr} {ks : List ByteArray} (h : W0.ownsRow b 9 1 (.slice p k c) k (strs ks)) (j : Nat) (hj : j ≤ k) : ∃ p' c', (∀ W, (Instr.slice 44 (.slice p k c) (some (.int .i64 (j : Int))) none none).run Tryz.prog W = .ok (.slice p' (k - j) c') W) ∧ ∀ W : World, W.ownsRow b 9 1 (.slice p k c) k (strs ks) → Src Tryz.prog 1 44 (.slice p' (k - j) c') (k - j) (strs (ks.drop j)) W := by
  have hk : ks.length = k := by
    have := h.1
    rw [strs_lenK] at this
    omega
  rcases h.2 with ⟨z, y⟩ | ⟨g, cap, cur, z, _, _, h3, _⟩
  · injection z with z1 z2 z3
    subst z1
    subst y
    subst z3
    obtain rfl : j = 0 := by omega
    refine ⟨none, 0, fun W => ?_, fun W _ => ?_⟩
    · simp [Instr.slice, Instr.sliceBounds, Instr.sliceBound, asIntOf, run_underlying Tryz.underlying44]
    · have e : ks.drop 0 = [] := List.length_eq_zero_iff.1 (by rw [List.length_drop]; omega)
      rw [e]
      exact Src.ofNil W Tryz.underlying44 0
  · injection z with z1 _ z3
    subst z1
    subst z3
    by_cases h5 : c = j
    · refine ⟨some ⟨g, 0, none⟩, c - j, fun W => ?_, fun W _ => ?_⟩
      · simp [Instr.slice, Instr.sliceBounds, Instr.sliceBound, asIntOf, run_underlying Tryz.underlying44, hj, h5]
      · have e : ks.drop j = [] := List.length_eq_zero_iff.1 (by rw [List.length_drop]; omega)
        rw [e]
        exact Src.ofSlice W Tryz.underlying44 ⟨g, 0, none⟩ (k - j) (c - j) (strs []) (by show 0 = _; omega) (fun m u hu => by unfold strs at hu; simp at hu) (one_strs _)
    · refine ⟨some ⟨g, j, none⟩, c - j, fun W => ?_, fun W hW => ?_⟩
      · simp [Instr.slice, Instr.sliceBounds, Instr.sliceBound, asIntOf, run_underlying Tryz.underlying44, hj, h5]
        rw [Addr.add_none]
        simp
      · refine Src.ofSlice W Tryz.underlying44 ⟨g, j, none⟩ (k - j) (c - j) (strs (ks.drop j)) (by rw [strs_lenK, List.length_drop]; omega) (fun m u hu => ?_) (one_strs _)
        have e : strs (ks.drop j) = (strs ks).drop j := by unfold strs; rw [List.map_drop]
        rw [e, List.getElem?_drop] at hu
        have q := hW.cells (g := g) rfl (j + m) u hu
        rw [Addr.add_none, Nat.zero_add] at q
        rw [Addr.add_none]
        exact q
end Go.Proofs.YtbangbobfeflcaaGreatDoor
