import Derived.Test.YtojepeefphbekabGreatExp0J
import Derived.Deep.CutBlock
import Derived.Deep.DeepCutAuto
import Derived.Test.YtojepeefphbekabGreatUniqJ
import Derived.Test.YtojepeefphbekabGreatFragJ
import Derived.BigQuiet
namespace Go.Proofs.YtojepeefphbekabGreat
open Go.RowKit 

/-- How far the tags were gone through. -/
def Stop (l : List Mv) (key : ByteArray) (d : Int) (k : Nat) : Prop := (k = 60 ∧ (fins l key 60 : Int) ≤ d) ∨ (∃ j, k = j + 1 ∧ j < 60 ∧ hF l key (tagN (59 - j)) = true ∧ (fins l key k : Int) = d + 1)
theorem EntRd.ev {w : World} {p : Option Addr} {n c : Nat} {es : List Ev} (h : EntRd w p n c es) {i : Nat} (hi : i < n) : ∃ b x y f g a m cc v, p = some ⟨b, 0, none⟩ ∧ es[i]? = some v ∧ w.cell? ⟨b, i * 5, none⟩ = some (.int .i64 x) ∧ w.cell? ⟨b, i * 5 + 1, none⟩ = some (.int .i64 y) ∧ w.cell? ⟨b, i * 5 + 2, none⟩ = some (.bool f) ∧ w.cell? ⟨b, i * 5 + 3, none⟩ = some (.bool g) ∧ w.cell? ⟨b, i * 5 + 4, none⟩ = some (.slice a m cc) ∧ EvRd w ((x, y), f, g, a, m, cc) v := by
  obtain ⟨L, ow, al⟩ := h.row
  have hl : L.length = n := by rw [al.1]; exact h.len
  rcases ow.2 with ⟨_, hn⟩ | ⟨b, cap, cur, z, _⟩
  · omega
  · have z : Value.slice p n c = .slice (some ⟨b, 0, none⟩) n cap := z
    injection z with z1 _ z3
    subst z1
    subst z3
    have hc := ow.cells (g := b) rfl
    have h1 : i < L.length := by omega
    have h2 : i < es.length := by rw [h.len]; exact hi
    obtain ⟨⟨⟨x, y⟩, f, g, a, m, cc⟩, hL⟩ : ∃ e, L[i] = e := ⟨_, rfl⟩
    have q := al.2 i h1 h2
    rw [hL] at q
    have cell : ∀ j v, j < 5 → (encE ((x, y), f, g, a, m, cc))[j]? = some v → w.cell? ⟨b, i * 5 + j, none⟩ = some v := fun j v hj hv => by
      have := hc (i * 5 + j) v (by rw [ecells_get L i h1 j hj, hL]; exact hv)
      rw [Addr.add_none, Nat.zero_add] at this
      exact this
    exact ⟨b, x, y, f, g, a, m, cc, es[i], rfl, List.getElem?_eq_getElem h2, cell 0 _ (by omega) rfl, cell 1 _ (by omega) rfl, cell 2 _ (by omega) rfl, cell 3 _ (by omega) rfl, cell 4 _ (by omega) rfl, q⟩
end Go.Proofs.YtojepeefphbekabGreat

namespace Go.Proofs.YtojepeefphbekabGreat
open Go.RowKit 

theorem tagN_lt {m n : Nat} (h : m < n) : tc (tagN m) (tagN n) < 0 := by
  rw [tc_lt]
  unfold tagN
  show ((m / 5 + 1 : Nat) : Int) < ((n / 5 + 1 : Nat) : Int) ∨ ((m / 5 + 1 : Nat) : Int) = ((n / 5 + 1 : Nat) : Int) ∧ ((m % 5 + 1 : Nat) : Int) < ((n % 5 + 1 : Nat) : Int)
  omega
theorem tagN_inj {m n : Nat} (h : tagN m = tagN n) : m = n := by
  rcases Nat.lt_trichotomy m n with z | z | z
  · have := tagN_lt z
    rw [h, tc_self] at this
    exact absurd this (by decide)
  · exact z
  · have := tagN_lt z
    rw [h, tc_self] at this
    exact absurd this (by decide)
/-- Every tag of a move is one of the sixty. -/
theorem tag_in (c k : Int) : ∃ n, n < 60 ∧ tag60 c k = tagN n := by
  have a0 := Int.emod_nonneg c (show (12 : Int) ≠ 0 by omega)
  have a1 := Int.emod_lt_of_pos c (show (0 : Int) < 12 by omega)
  have b0 := Int.emod_nonneg k (show (5 : Int) ≠ 0 by omega)
  have b1 := Int.emod_lt_of_pos k (show (0 : Int) < 5 by omega)
  refine ⟨(c % 12).toNat * 5 + (k % 5).toNat, by omega, ?_⟩
  unfold tag60 tagN
  refine Prod.ext ?_ ?_
  · show c % 12 + 1 = _
    omega
  · show k % 5 + 1 = _
    omega
/-- The finalized ones of the k highest tags. -/
def finL (l : List Mv) (key : ByteArray) : Nat → List (Int × Int)
  | 0 => []
  | k + 1 => finL l key k ++ (if hF l key (tagN (59 - k)) = true then [tagN (59 - k)] else [])
theorem finL_len (l : List Mv) (key : ByteArray) (k : Nat) : (finL l key k).length = fins l key k := by
  induction k with
  | zero => rfl
  | succ k ih =>
    unfold finL fins
    rw [List.length_append, ih]
    split <;> rfl
theorem finL_mem {l : List Mv} {key : ByteArray} {k : Nat} (hk : k ≤ 60) (t : Int × Int) : t ∈ finL l key k ↔ ∃ n, 60 - k ≤ n ∧ n < 60 ∧ hF l key (tagN n) = true ∧ t = tagN n := by
  induction k with
  | zero =>
    constructor
    · intro h; cases h
    · rintro ⟨n, h1, h2, _⟩; omega
  | succ k ih =>
    unfold finL
    rw [List.mem_append, ih (by omega)]
    constructor
    · rintro (⟨n, h1, h2, h3⟩ | h)
      · exact ⟨n, by omega, h2, h3⟩
      · split at h
        · rename_i q
          rw [List.mem_singleton] at h
          exact ⟨59 - k, by omega, by omega, q, h⟩
        · cases h
    · rintro ⟨n, h1, h2, h3, h4⟩
      by_cases e : n = 59 - k
      · subst e
        right
        rw [if_pos h3, h4]
        exact List.mem_singleton_self _
      · exact .inl ⟨n, by omega, h2, h3, h4⟩
theorem finL_nodup {l : List Mv} {key : ByteArray} {k : Nat} (hk : k ≤ 60) : (finL l key k).Nodup := by
  induction k with
  | zero => exact List.Pairwise.nil
  | succ k ih =>
    unfold finL
    rw [List.nodup_append]
    refine ⟨ih (by omega), ?_, fun a ha b hb e => ?_⟩
    · split
      · exact List.pairwise_singleton _ _
      · exact List.Pairwise.nil
    · subst e
      split at hb
      · rw [List.mem_singleton] at hb
        obtain ⟨n, h1, h2, _, h3⟩ := (finL_mem (by omega) a).1 ha
        rw [hb] at h3
        have := tagN_inj h3
        omega
      · cases hb
/-- The finalized tags of a list of entries. -/
def finT (es : List Ev) : List (Int × Int) := (es.filter fun v => v.2.1).map fun v => v.1
theorem finT_snoc (es : List Ev) (v : Ev) : finT (es ++ [v]) = finT es ++ (if v.2.1 = true then [v.1] else []) := by
  unfold finT
  rw [List.filter_append, List.map_append]
  congr 1
  cases h : v.2.1 <;> simp [h]
/-- They are the row's set, from the highest down. -/
theorem finT_set {w wr : World} {d : Int} {t : TK} {l : List Mv} (h : Dst w wr d t l) (key : ByteArray) {es : List Ev} (e : EntsOf (TMp t key) (datOf t key) es.reverse) : finT es = (TS t key).reverse := by
  refine pairwise_one (r := fun x y : Int × Int => tc y x < 0) (fun a b => tc_asym _ _) _ _ ?_ ?_ (fun g => ?_)
  · unfold finT
    rw [List.pairwise_map]
    have := e.up
    rw [List.pairwise_reverse] at this
    exact this.filter _
  · rw [List.pairwise_reverse]
    exact (h.inv key).up
  · rw [List.mem_reverse, (h.inv key).fin g]
    unfold finT
    rw [List.mem_map]
    constructor
    · rintro ⟨v, hv, rfl⟩
      rw [List.mem_filter] at hv
      obtain ⟨hd, q1, q2, _⟩ := (e.mem v).1 (List.mem_reverse.2 hv.1)
      exact ⟨hd, q1, q2.symm.trans hv.2⟩
    · rintro ⟨hd, q1, q2⟩
      refine ⟨(g, hd.fin, hd.has, datOf t key g), ?_, rfl⟩
      rw [List.mem_filter]
      exact ⟨List.mem_reverse.1 ((e.mem _).2 ⟨hd, q1, rfl, rfl, rfl⟩), q2⟩
theorem floor_rev (S : List (Int × Int)) (i : Nat) : (S.reverse).getD i (0, 0) = floorT S (i : Int) := by
  unfold floorT
  rw [List.getD_eq_getElem?_getD]
  by_cases h : i < S.length
  · rw [List.getElem?_reverse h, if_pos ⟨by omega, by omega⟩, List.getD_eq_getElem?_getD]
    congr 2
  · rw [if_neg (by omega), List.getElem?_eq_none (by rw [List.length_reverse]; omega)]
    rfl
end Go.Proofs.YtojepeefphbekabGreat

namespace Go.Proofs.YtojepeefphbekabGreat
open Go.RowKit 

abbrev Ut : Type := ByteArray × Et
abbrev Uv : Type := ByteArray × Ev
def encU (x : Ut) : List Value := [.int .i64 3, .string x.1, .int .i64 x.2.1.1, .int .i64 x.2.1.2, .bool x.2.2.1, .bool x.2.2.2.1, .slice x.2.2.2.2.1 x.2.2.2.2.2.1 x.2.2.2.2.2.2]
def ucells (l : List Ut) : List Value := l.flatMap encU
theorem ucells_cons (e : Ut) (l : List Ut) : ucells (e :: l) = encU e ++ ucells l := by simp [ucells]
theorem ucells_append (l m : List Ut) : ucells (l ++ m) = ucells l ++ ucells m := by simp [ucells]
theorem ucells_get (l : List Ut) : ∀ i (h : i < l.length) j, j < 7 → (ucells l)[i * 7 + j]? = (encU l[i])[j]? := by
  induction l with
  | nil => intro i h; simp at h
  | cons t r ih =>
    intro i h j hj
    rw [ucells_cons]
    have e2 : (encU t).length = 7 := rfl
    cases i with
    | zero => rw [List.getElem?_append_left (by rw [e2]; omega)]; simp
    | succ i =>
      rw [List.getElem?_append_right (by rw [e2]; omega), e2, show (i + 1) * 7 + j - 7 = i * 7 + j by omega, ih i (by simpa using h) j hj]
      rfl
theorem Tryz.info36c : (Tryz.prog.info? 36).map (fun i => (i.zero, i.size, i.bytes)) = some (some (.agg #[.int .i64 0, .string (ByteArray.mk #[]), .int .i64 0, .int .i64 0, .bool false, .bool false, .slice none 0 0]), 7, 72) := by kernel_rfl
theorem src_upd {w : World} {b : Nat} {e : Ut} (h : w.heap[b]? = some (.cells (encU e).toArray 36 (0, 0))) : Src Tryz.prog 7 22 (.slice (some ⟨b, 0, none⟩) 1 1) 1 (encU e) w :=
  Src.ofSlice w Tryz.underlying22 ⟨b, 0, none⟩ 1 1 (encU e) rfl (fun j u hj => by
    rw [Addr.add_none, Nat.zero_add, cell_of_row w b j _ 36 (0, 0) h]
    simpa using hj) (fun v hv => by simp [encU] at hv; rcases hv with rfl | rfl | rfl | rfl | rfl | rfl | rfl <;> rfl)
structure UvRd (w : World) (e : Ut) (v : Uv) : Prop where
  key : e.1 = v.1
  ent : EvRd w e.2 v.2
/-- A list of updates as it reads. -/
structure UpRd (b0 : Nat) (w : World) (p : Option Addr) (n c : Nat) (us : List Uv) : Prop where
  len : us.length = n
  row : ∃ L : List Ut, w.ownsRow b0 36 7 (.slice p n c) n (ucells L) ∧ Along (UvRd w) L us
theorem UpRd.k0 {b0 : Nat} {w w' : World} {p : Option Addr} {n c : Nat} {us : List Uv} (h : UpRd b0 w p n c us) (K : Kept (fun _ => False) w w') : UpRd b0 w' p n c us := by
  obtain ⟨L, ow, al⟩ := h.row
  exact ⟨h.len, L, K.owns ow (fun _ _ z => z), al.imp (fun a b q => ⟨q.key, q.ent.off K (fun _ _ _ _ z => z)⟩)⟩
theorem up_more {w wi w9 : World} {p p9 : Option Addr} {n c c9 : Nat} {us : List Uv} {L : List Ut} {e : Ut} {v : Uv} {o : Obj} (ow : wi.ownsRow w.heap.size 36 7 (.slice p n c) n (ucells L)) (al : Along (UvRd wi) L us) (ln : us.length = n) (kw : Kept (fun _ => False) w wi) (ev : UvRd wi e v)
    (ho : w9.ownsRow w.heap.size 36 7 (.slice p9 (n + 1) c9) (n + 1) (ucells L ++ encU e)) (hg : (wi.alloc o).grownBy w9 (Value.slice p n c).ownBlock) : UpRd w.heap.size w9 p9 (n + 1) c9 (us ++ [v]) ∧ Kept (fun _ => False) w w9 := by
  have KG : Kept (fun k => blockOf p = some k) wi w9 := ((Kept.refl (fun k => blockOf p = some k) wi).alloc _).grown hg (fun k _ z => by rw [blockOf_own] at z; exact z)
  have ng : ∀ k cs fr, wi.heap[k]? = some (.cells cs 5 fr) → ¬ blockOf p = some k := fun k cs fr hc z => by
    obtain ⟨c2, h2⟩ := own_type ow k z
    rw [h2] at hc
    simp at hc
  refine ⟨⟨by rw [List.length_append, ln]; rfl, L ++ [e], ?_, (al.imp (fun a b q => ⟨q.key, q.ent.off KG ng⟩)).snoc ⟨ev.key, ev.ent.off KG ng⟩⟩, kw.trans KG (fun j hj z => ?_)⟩
  · rw [ucells_append]
    have e0 : ucells [e] = encU e := by simp [ucells]
    rw [e0]
    exact ho
  · have := (own_lt ow j z).1
    omega
/-- All entries as updates. -/
def flat (vs : List Av) : List Uv := vs.flatMap fun v => v.2.map fun e => (v.1, e)
theorem flat_snoc (vs : List Av) (v : Av) : flat (vs ++ [v]) = flat vs ++ v.2.map (fun e => (v.1, e)) := by simp [flat]
theorem nodup_leG {α : Type} [DecidableEq α] : ∀ (R S : List α), R.Nodup → (∀ t, t ∈ R → t ∈ S) → R.length ≤ S.length
  | [], S, _, _ => Nat.zero_le _
  | a :: R, S, hR, hs => by
    rw [List.nodup_cons] at hR
    have ha : a ∈ S := hs a (by simp)
    have := nodup_leG R (S.erase a) hR.2 (fun t ht => (List.mem_erase_of_ne (fun (e : t = a) => hR.1 (e ▸ ht))).2 (hs t (by simp [ht])))
    rw [List.length_erase_of_mem ha] at this
    have hp := List.length_pos_of_mem ha
    simp
    omega
theorem key3_in (k : Int) : key3 k ∈ [(⟨#[97]⟩ : ByteArray), ⟨#[97, 98]⟩, ⟨#[98]⟩] := by
  unfold key3
  split
  · simp
  · split <;> simp
theorem keys_few {w wr : World} {d : Int} {t : TK} {l : List Mv} (h : Dst w wr d t l) {vs : List Av} (e : AllOf t (datOf t) vs) : vs.length ≤ 3 := by
  have := nodup_leG (vs.map fun v => v.1) [(⟨#[97]⟩ : ByteArray), ⟨#[97, 98]⟩, ⟨#[98]⟩] e.keys.one (fun k hk => by
    have hr := (e.keys.each k hk).2
    have : t.R k ≠ none := fun z => hr (by unfold TK.rv; rw [z]; rfl)
    obtain ⟨m, _, rfl⟩ := (h.keys k).1 this
    exact key3_in _)
  simpa using this
end Go.Proofs.YtojepeefphbekabGreat

namespace Go.Proofs.YtojepeefphbekabGreat
open Go.RowKit 

/-- A row of the document's table, as it lies in memory. -/
def encR (x : Ut) : List Value := [.string x.1, .int .i64 x.2.1.1, .int .i64 x.2.1.2, .bool x.2.2.1, .bool x.2.2.2.1, .slice x.2.2.2.2.1 x.2.2.2.2.2.1 x.2.2.2.2.2.2]
def rcells (l : List Ut) : List Value := l.flatMap encR
theorem rcells_cons (e : Ut) (l : List Ut) : rcells (e :: l) = encR e ++ rcells l := by simp [rcells]
theorem rcells_append (l m : List Ut) : rcells (l ++ m) = rcells l ++ rcells m := by simp [rcells]
theorem rcells_get (l : List Ut) : ∀ i (h : i < l.length) j, j < 6 → (rcells l)[i * 6 + j]? = (encR l[i])[j]? := by
  induction l with
  | nil => intro i h; simp at h
  | cons t r ih =>
    intro i h j hj
    rw [rcells_cons]
    have e2 : (encR t).length = 6 := rfl
    cases i with
    | zero => rw [List.getElem?_append_left (by rw [e2]; omega)]; simp
    | succ i =>
      rw [List.getElem?_append_right (by rw [e2]; omega), e2, show (i + 1) * 6 + j - 6 = i * 6 + j by omega, ih i (by simpa using h) j hj]
      rfl
theorem Tryz.info70c : (Tryz.prog.info? 70).map (fun i => (i.zero, i.size, i.bytes)) = some (some (.agg #[.string (ByteArray.mk #[]), .int .i64 0, .int .i64 0, .bool false, .bool false, .slice none 0 0]), 6, 64) := by kernel_rfl
theorem src_row {w : World} {b : Nat} {e : Ut} (h : w.heap[b]? = some (.cells (encR e).toArray 70 (0, 0))) : Src Tryz.prog 6 27 (.slice (some ⟨b, 0, none⟩) 1 1) 1 (encR e) w :=
  Src.ofSlice w Tryz.underlying27 ⟨b, 0, none⟩ 1 1 (encR e) rfl (fun j u hj => by
    rw [Addr.add_none, Nat.zero_add, cell_of_row w b j _ 70 (0, 0) h]
    simpa using hj) (fun v hv => by simp [encR] at hv; rcases hv with rfl | rfl | rfl | rfl | rfl | rfl <;> rfl)
theorem own_rw {b0 : Nat} {w : World} {p : Option Addr} {n c : Nat} {L : List Ut} (ow : w.ownsRow b0 70 6 (.slice p n c) n (rcells L)) (hl : L.length = n) {i : Nat} (hi : i < n) : ∃ b k x y f g a m q, p = some ⟨b, 0, none⟩ ∧ L[i]? = some (k, (x, y), f, g, a, m, q) ∧ w.cell? ⟨b, i * 6, none⟩ = some (.string k) ∧ w.cell? ⟨b, i * 6 + 1, none⟩ = some (.int .i64 x) ∧ w.cell? ⟨b, i * 6 + 2, none⟩ = some (.int .i64 y) ∧ w.cell? ⟨b, i * 6 + 3, none⟩ = some (.bool f) ∧ w.cell? ⟨b, i * 6 + 4, none⟩ = some (.bool g) ∧ w.cell? ⟨b, i * 6 + 5, none⟩ = some (.slice a m q) := by
  rcases ow.2 with ⟨_, hn⟩ | ⟨b, cap, cur, z, _⟩
  · omega
  · have z : Value.slice p n c = .slice (some ⟨b, 0, none⟩) n cap := z
    injection z with z1 _ z3
    subst z1
    subst z3
    have hc := ow.cells (g := b) rfl
    have h1 : i < L.length := by omega
    obtain ⟨⟨k, ⟨x, y⟩, f, g, a, m, q⟩, hL⟩ : ∃ e, L[i] = e := ⟨_, rfl⟩
    have cell : ∀ j v, j < 6 → (encR (k, (x, y), f, g, a, m, q))[j]? = some v → w.cell? ⟨b, i * 6 + j, none⟩ = some v := fun j v hj hv => by
      have := hc (i * 6 + j) v (by rw [rcells_get _ i h1 j hj, hL]; exact hv)
      rw [Addr.add_none, Nat.zero_add] at this
      exact this
    exact ⟨b, k, x, y, f, g, a, m, q, rfl, by rw [List.getElem?_eq_getElem h1, hL], cell 0 _ (by omega) rfl, cell 1 _ (by omega) rfl, cell 2 _ (by omega) rfl, cell 3 _ (by omega) rfl, cell 4 _ (by omega) rfl, cell 5 _ (by omega) rfl⟩
/-- The document's table: its block, its rows, what they read as. -/
structure RTab (b0 : Nat) (w : World) (tb : Nat) (delta : Int) (p : Option Addr) (n c : Nat) (L : List Ut) (vs : List Uv) : Prop where
  blk : w.heap[tb]? = some (.cells #[.int .i64 delta, .slice p n c] 29 (0, 0))
  len : L.length = n
  row : w.ownsRow b0 70 6 (.slice p n c) n (rcells L)
  rd : Along (UvRd w) L vs
theorem RTab.k0 {b0 : Nat} {w w' : World} {tb : Nat} {delta : Int} {p : Option Addr} {n c : Nat} {L : List Ut} {vs : List Uv} (h : RTab b0 w tb delta p n c L vs) (K : Kept (fun _ => False) w w') : RTab b0 w' tb delta p n c L vs :=
  ⟨K.get h.blk (fun z => z), h.len, K.owns h.row (fun _ _ z => z), h.rd.imp (fun _ _ q => ⟨q.key, q.ent.off K (fun _ _ _ _ z => z)⟩)⟩
theorem RTab.vlen {b0 : Nat} {w : World} {tb : Nat} {delta : Int} {p : Option Addr} {n c : Nat} {L : List Ut} {vs : List Uv} (h : RTab b0 w tb delta p n c L vs) : vs.length = n := by rw [← h.rd.1, h.len]
/-- below. -/
theorem rBelow (x y x' y' : Int) (w : World) : Calls Tryz.prog 29 #[.agg #[.int .i64 x, .int .i64 y], .agg #[.int .i64 x', .int .i64 y']] w fun o w' => o = .returned (.bool (decide (tc (x, y) (x', y') < 0))) ∧ Kept (fun _ => False) w w' := by
  have K : Kept (fun _ => False) w ((w.alloc (.cells #[.int .i64 x, .int .i64 y] 31)).alloc (.cells #[.int .i64 x', .int .i64 y'] 31)) := ((Kept.refl _ w).alloc _).alloc _
  have e : (tc (x, y) (x', y') < 0) ↔ (x < x' ∨ x = x' ∧ y < y') := tc_lt (x, y) (x', y')
  go_enter Tryz.func29, Tryz.ntmps29
  by_cases h1 : x < x'
  · have : decide (tc (x, y) (x', y') < 0) = true := by rw [decide_eq_true_iff, e]; exact .inl h1
    rw [this]
    go_wp2_with fail
    go_ret
    exact ⟨rfl, K⟩
  · by_cases h2 : x = x'
    · subst h2
      by_cases h3 : y < y'
      · have : decide (tc (x, y) (x, y') < 0) = true := by rw [decide_eq_true_iff, e]; exact .inr ⟨rfl, h3⟩
        rw [this]
        go_wp2_with fail
        go_ret
        exact ⟨rfl, K⟩
      · have : decide (tc (x, y) (x, y') < 0) = false := by rw [decide_eq_false_iff_not, e]; omega
        rw [this]
        go_wp2_with fail
        go_ret
        exact ⟨rfl, K⟩
    · have : decide (tc (x, y) (x', y') < 0) = false := by rw [decide_eq_false_iff_not, e]; omega
      rw [this]
      go_wp2_with fail
      go_ret
      exact ⟨rfl, K⟩
end Go.Proofs.YtojepeefphbekabGreat
