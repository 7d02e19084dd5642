import Derived.Test.YtojepeefphbekaaGreatExp2
namespace Go.Proofs.YtojepeefphbekaaGreat
open Go.RowKit 

theorem hF_iff (l : List Mv) (k : ByteArray) (t : Int × Int) : hF l k t = true ↔ ∃ m ∈ l, key3 m.key = k ∧ t = m.tag ∧ m.fin = true := by
  induction l with
  | nil => simp [hF]
  | cons a l ih =>
    show ((decide (key3 a.key = k) && decide (t = a.tag) && a.fin) || hF l k t) = true ↔ _
    rw [Bool.or_eq_true, ih]
    simp [and_assoc]
theorem hH_iff (l : List Mv) (k : ByteArray) (t : Int × Int) : hH l k t = true ↔ ∃ m ∈ l, key3 m.key = k ∧ t = m.tag ∧ m.brings = true := by
  induction l with
  | nil => simp [hH]
  | cons a l ih =>
    show ((decide (key3 a.key = k) && decide (t = a.tag) && a.brings) || hH l k t) = true ↔ _
    rw [Bool.or_eq_true, ih]
    simp [and_assoc]
theorem h_cong {l l' : List Mv} (e : ∀ m, m ∈ l ↔ m ∈ l') (k : ByteArray) : hF l k = hF l' k ∧ hH l k = hH l' k := by
  constructor
  · funext t
    rw [Bool.eq_iff_iff, hF_iff, hF_iff]
    simp only [e]
  · funext t
    rw [Bool.eq_iff_iff, hH_iff, hH_iff]
    simp only [e]
theorem desc_cong {l l' : List Mv} {key : ByteArray} (h1 : hF l key = hF l' key) (h2 : hH l key = hH l' key) (k : Nat) : desc l key k = desc l' key k ∧ fins l key k = fins l' key k := by
  induction k with
  | zero => exact ⟨rfl, rfl⟩
  | succ k ih =>
    constructor
    · show desc l key k ++ _ = desc l' key k ++ _
      rw [ih.1]
      unfold evN
      rw [h1, h2]
    · show fins l key k + _ = fins l' key k + _
      rw [ih.2, h1]
theorem stop_cong {l l' : List Mv} {key : ByteArray} (h1 : hF l key = hF l' key) (h2 : hH l key = hH l' key) {d : Int} {k : Nat} (s : Stop l key d k) : Stop l' key d k := by
  rcases s with ⟨rfl, h⟩ | ⟨j, rfl, hj, hf, h⟩
  · exact .inl ⟨rfl, by rw [← (desc_cong h1 h2 60).2]; exact h⟩
  · exact .inr ⟨j, rfl, hj, by rw [← h1]; exact hf, by rw [← (desc_cong h1 h2 (j + 1)).2]; exact h⟩
theorem stop_some (l : List Mv) (key : ByteArray) (d : Int) (h0 : 0 ≤ d) : ∃ k, Stop l key d k := by
  have H : ∀ k, k ≤ 60 → ((fins l key k : Int) ≤ d ∨ ∃ k', Stop l key d k') := by
    intro k
    induction k with
    | zero => intro _; exact .inl h0
    | succ k ih =>
      intro hk
      rcases ih (by omega) with z | z
      · by_cases hf : hF l key (tagN (59 - k)) = true
        · have e : fins l key (k + 1) = fins l key k + 1 := by
            show fins l key k + _ = _
            rw [if_pos hf]
          by_cases hd : (fins l key k : Int) + 1 ≤ d
          · left; rw [e]; omega
          · exact .inr ⟨k + 1, .inr ⟨k, rfl, by omega, hf, by rw [e]; omega⟩⟩
        · have e : fins l key (k + 1) = fins l key k := by
            show fins l key k + _ = _
            rw [if_neg hf]
            rfl
          left
          rw [e]
          exact z
      · exact .inr z
  rcases H 60 (Nat.le_refl _) with z | z
  · exact ⟨60, .inl ⟨rfl, z⟩⟩
  · exact z
/-- Moves that are the same make tables that tell the same. -/
theorem same_hist {w wr w' wr' : World} {d : Int} {t t' : TK} {l l' : List Mv} (h : Dst w wr d t l) (h' : Dst w' wr' d t' l') (h0 : 0 ≤ d) (e : ∀ m, m ∈ l ↔ m ∈ l') : (∀ k, t.R k = none ↔ t'.R k = none) ∧ ∀ k g, Ab t (datOf t) k g = Ab t' (datOf t') k g := by
  constructor
  · intro k
    have h1 := h.keys k
    have h2 := h'.keys k
    simp only [e] at h1
    rw [← h2] at h1
    exact ⟨fun z => Classical.byContradiction fun q => h1.2 q z, fun z => Classical.byContradiction fun q => h1.1 q z⟩
  · intro k g
    obtain ⟨e1, e2⟩ := h_cong e k
    obtain ⟨n, st⟩ := stop_some l k d h0
    have q1 := expected_ents h h0 k st
    have q2 := expected_ents h' h0 k (stop_cong e1 e2 st)
    rw [← (desc_cong e1 e2 n).1] at q2
    refine Option.ext (fun x => ?_)
    obtain ⟨f, b, y⟩ := x
    exact (ents_ab q1 g f b y).symm.trans (ents_ab q2 g f b y)
/-- Two places change theirs. -/
theorem swap_mem {α : Type} (L : List α) (j k : Nat) (hj : j < L.length) (hk : k < L.length) (m : α) : m ∈ (L.set j L[k]).set k L[j] ↔ m ∈ L := by
  constructor
  · intro h
    rcases List.mem_or_eq_of_mem_set h with z | z
    · rcases List.mem_or_eq_of_mem_set z with y | y
      · exact y
      · rw [y]; exact List.getElem_mem _
    · rw [z]; exact List.getElem_mem _
  · intro h
    obtain ⟨i, hi, rfl⟩ := List.getElem_of_mem h
    rw [List.mem_iff_getElem]
    by_cases e1 : i = j
    · subst e1
      exact ⟨k, by simpa using hk, by simp⟩
    · by_cases e2 : i = k
      · subst e2
        refine ⟨j, by simpa using hj, ?_⟩
        rw [List.getElem_set_ne (by omega), List.getElem_set_self]
      · refine ⟨i, by simpa using hi, ?_⟩
        rw [List.getElem_set_ne (by omega), List.getElem_set_ne (by omega)]
end Go.Proofs.YtojepeefphbekaaGreat

namespace Go.Proofs.YtojepeefphbekaaGreat
open Go.RowKit 

def encM (m : Mv) : List Value := [.int .i64 m.key, .bool m.fin, .bool m.both, .int .i64 m.c, .int .i64 m.k]
def mcells (l : List Mv) : List Value := l.flatMap encM
theorem mcells_cons (e : Mv) (l : List Mv) : mcells (e :: l) = encM e ++ mcells l := by simp [mcells]
theorem mcells_append (l m : List Mv) : mcells (l ++ m) = mcells l ++ mcells m := by simp [mcells]
theorem mcells_length (l : List Mv) : (mcells l).length = l.length * 5 := by
  induction l with
  | nil => rfl
  | cons t r ih => rw [mcells_cons, List.length_append, ih, List.length_cons]; show 5 + _ = _; omega
theorem mcells_get (l : List Mv) : ∀ i (h : i < l.length) j, j < 5 → (mcells l)[i * 5 + j]? = (encM l[i])[j]? := by
  induction l with
  | nil => intro i h; simp at h
  | cons t r ih =>
    intro i h j hj
    rw [mcells_cons]
    have e2 : (encM t).length = 5 := rfl
    cases i with
    | zero => rw [List.getElem?_append_left (by rw [e2]; omega)]; simp
    | succ i =>
      rw [List.getElem?_append_right (by rw [e2]; omega), e2, show (i + 1) * 5 + j - 5 = i * 5 + j by omega, ih i (by simpa using h) j hj]
      rfl
theorem mcells_set : ∀ (L : List Mv) (j : Nat) (_ : j < L.length) (m : Mv), mcells (L.set j m) = (((((mcells L).set (j * 5) (.int .i64 m.key)).set (j * 5 + 1) (.bool m.fin)).set (j * 5 + 2) (.bool m.both)).set (j * 5 + 3) (.int .i64 m.c)).set (j * 5 + 4) (.int .i64 m.k)
  | [], j, h, m => by simp at h
  | a :: L, 0, _, m => by
    rw [List.set_cons_zero, mcells_cons, mcells_cons]
    rfl
  | a :: L, j + 1, h, m => by
    rw [List.set_cons_succ, mcells_cons, mcells_set L j (by simpa using h) m, mcells_cons]
    have e : ∀ i, (j + 1) * 5 + i = j * 5 + i + 5 := fun i => by omega
    have e0 : (j + 1) * 5 = j * 5 + 5 := by omega
    rw [e 1, e 2, e 3, e 4, e0]
    rfl
theorem mreads_of {w : World} {b0 : Nat} {p : Option Addr} {n c : Nat} {L : List Mv} (ow : w.ownsRow b0 28 5 (.slice p n c) n (mcells L)) (hl : L.length = n) : MReads w p n c L := by
  have rm := own_room ow
  refine ⟨hl, rm.1, rm.2, fun h0 => ?_⟩
  rcases ow.2 with ⟨_, hn⟩ | ⟨b, cap, cur, z, _⟩
  · omega
  · have z : Value.slice p n c = .slice (some ⟨b, 0, none⟩) n cap := z
    injection z with z1 _ z3
    subst z1
    subst z3
    have hc := ow.cells (g := b) rfl
    refine ⟨b, 0, rfl, fun i hi => ?_⟩
    have h1 : i < L.length := by omega
    have eg : L.getD i Mv.zero = L[i] := by rw [List.getD_eq_getElem?_getD, List.getElem?_eq_getElem h1]; rfl
    have cell : ∀ j v, j < 5 → (encM L[i])[j]? = some v → w.cell? ⟨b, 0 + i * 5 + j, none⟩ = some v := fun j v hj hv => by
      have := hc (i * 5 + j) v (by rw [mcells_get L i h1 j hj]; exact hv)
      rw [Addr.add_none, ← Nat.add_assoc] at this
      exact this
    rw [eg]
    exact ⟨cell 0 _ (by omega) rfl, cell 1 _ (by omega) rfl, cell 2 _ (by omega) rfl, cell 3 _ (by omega) rfl, cell 4 _ (by omega) rfl⟩
theorem src_moves {w : World} {a : Option Addr} {len cap : Nat} {l : List Mv} (r : MReads w a len cap l) : Src Tryz.prog 5 22 (.slice a len cap) len (mcells l) w := by
  have some_case : ∀ ad : Addr, (∀ j u, (mcells l)[j]? = some u → w.cell? (ad.add j) = some u) → Src Tryz.prog 5 22 (.slice (some ad) len cap) len (mcells l) w := fun ad hn =>
    Src.ofSlice w Tryz.underlying22 ad len cap (mcells l) (by rw [mcells_length, r.length]) hn (fun v hv => by
      unfold mcells at hv
      obtain ⟨m, _, hm⟩ := List.mem_flatMap.1 hv
      simp [encM] at hm
      rcases hm with rfl | rfl | rfl | rfl | rfl <;> rfl)
  by_cases hm : 0 < len
  · obtain ⟨b, off, e, hc⟩ := r.cells hm
    subst e
    refine some_case _ fun j u hj => ?_
    have hjl : j < l.length * 5 := by
      rw [← mcells_length]
      exact (List.getElem?_eq_some_iff.1 hj).1
    have h5 : j / 5 < l.length := by omega
    have ej : j = j / 5 * 5 + j % 5 := by omega
    have eg : l.getD (j / 5) Mv.zero = l[j / 5] := by rw [List.getD_eq_getElem?_getD, List.getElem?_eq_getElem h5]; rfl
    have hc5 := hc (j / 5) (by rw [← r.length]; exact h5)
    rw [eg] at hc5
    rw [ej, mcells_get l (j / 5) h5 (j % 5) (by omega)] at hj
    rw [Addr.add_none, ej, ← Nat.add_assoc]
    have hlt : j % 5 < 5 := by omega
    revert hj
    generalize j % 5 = q at hlt ⊢
    intro hj
    match q, hlt with
    | 0, _ => exact hc5.1.trans hj
    | 1, _ => exact hc5.2.1.trans hj
    | 2, _ => exact hc5.2.2.1.trans hj
    | 3, _ => exact hc5.2.2.2.1.trans hj
    | 4, _ => exact hc5.2.2.2.2.trans hj
  · have h0 : len = 0 := by omega
    subst h0
    have hl : l = [] := List.eq_nil_of_length_eq_zero r.length
    subst hl
    cases a with
    | some ad => exact some_case ad (fun j u hj => by simp [mcells] at hj)
    | none => exact Src.ofNil w Tryz.underlying22 cap
theorem Tryz.info28c : (Tryz.prog.info? 28).map (fun i => (i.zero, i.size, i.bytes)) = some (some (.agg #[.int .i64 0, .bool false, .bool false, .int .i64 0, .int .i64 0]), 5, 32) := by kernel_rfl
/-- The other list of moves. -/
structure OS (w wr : World) (p : Option Addr) (n c : Nat) (l L : List Mv) : Prop where
  len : L.length = n
  row : wr.ownsRow w.heap.size 28 5 (.slice p n c) n (mcells L)
  mem : ∀ m, m ∈ l ↔ m ∈ L
  kept : Kept (fun _ => False) w wr
theorem OS.k0 {w wr w' : World} {p : Option Addr} {n c : Nat} {l L : List Mv} (h : OS w wr p n c l L) (K : Kept (fun _ => False) wr w') : OS w w' p n c l L := ⟨h.len, K.owns h.row (fun _ _ z => z), h.mem, h.kept.and0 K⟩
/-- One of its moves is written over. -/
theorem row_set {wr : World} {b0 g n c : Nat} {L : List Mv} (h : wr.ownsRow b0 28 5 (.slice (some ⟨g, 0, none⟩) n c) n (mcells L)) (j : Nat) (hj : j < L.length) (m : Mv) :
    (((((wr.setCell ⟨g, j * 5, none⟩ (.int .i64 m.key)).setCell ⟨g, j * 5 + 1, none⟩ (.bool m.fin)).setCell ⟨g, j * 5 + 2, none⟩ (.bool m.both)).setCell ⟨g, j * 5 + 3, none⟩ (.int .i64 m.c)).setCell ⟨g, j * 5 + 4, none⟩ (.int .i64 m.k)).ownsRow b0 28 5 (.slice (some ⟨g, 0, none⟩) n c) n (mcells (L.set j m)) := by
  rw [mcells_set L j hj m]
  exact ((((h.stored _ _).1.stored _ _).1.stored _ _).1.stored _ _).1.stored _ _ |>.1
end Go.Proofs.YtojepeefphbekaaGreat
