import Derived.Test.YtbnnmelkbjkkjaaGen
namespace Go.Proofs.Ytbnnmelkbjkkjaa
open Go.RowKit

/-- One loose act on bytes: none is a wipe. -/
def stepA (b : List Nat) (x : Option (List Nat)) : List Nat := match x with
  | none => []
  | some l => b ++ l
def redoL (b : List Nat) (L : List (Option (List Nat))) : List Nat := L.foldl stepA b
/-- How many bytes are appended. -/
def weigh (L : List (Option (List Nat))) : Nat := (L.map fun x => (x.getD []).length).sum
theorem redoL_snoc (b : List Nat) (L : List (Option (List Nat))) (x : Option (List Nat)) : redoL b (L ++ [x]) = stepA (redoL b L) x := by simp [redoL]
theorem stepA_length (b : List Nat) (x : Option (List Nat)) : (stepA b x).length ≤ b.length + (x.getD []).length := by
  cases x <;> simp [stepA]
theorem redoL_length (L : List (Option (List Nat))) : ∀ b, (redoL b L).length ≤ b.length + weigh L := by
  induction L with
  | nil => intro b; simp [redoL, weigh]
  | cons x L ih =>
    intro b
    have := ih (stepA b x)
    have := stepA_length b x
    simp only [redoL, List.foldl_cons, weigh, List.map_cons, List.sum_cons] at *
    omega
theorem weigh_take (L : List (Option (List Nat))) (i : Nat) : weigh (L.take i) ≤ weigh L := by
  have : weigh L = weigh (L.take i) + weigh (L.drop i) := by
    unfold weigh
    rw [← List.sum_append, ← List.map_append, List.take_append_drop]
  omega
/-- A loose act where it lies: its own bytes, in a variable of their own. -/
structure LA where
  x : Option (List Nat)
  o : Nat
  a : Option Addr
  n : Nat
  c : Nat
def LA.fv (e : LA) : Value := match e.x with
  | none => .func (.func 61) #[] #[]
  | some _ => .func (.func 58) #[] #[.pointer (some ⟨e.o, 0, none⟩)]
def LA.sz (e : LA) : Nat := (e.x.getD []).length
def LA.cells (e : LA) : List Value := [e.fv, .int .i64 (e.sz : Int)]
def lcells (L : List LA) : List Value := L.flatMap LA.cells
theorem lcells_append (l m : List LA) : lcells (l ++ m) = lcells l ++ lcells m := by simp [lcells]
theorem lcells_cons (e : LA) (l : List LA) : lcells (e :: l) = e.cells ++ lcells l := by simp [lcells]
theorem lcells_one' (e : LA) : lcells [e] = e.cells := by simp [lcells]
theorem lacells_length (e : LA) : e.cells.length = 2 := rfl
theorem lcells_length (l : List LA) : (lcells l).length = l.length * 2 := by
  induction l with
  | nil => rfl
  | cons t r ih => rw [lcells_cons, List.length_append, ih, lacells_length, List.length_cons]; omega
theorem fv_one (e : LA) : e.fv.oneCell' = true := by unfold LA.fv; split <;> rfl
theorem lcells_ones (l : List LA) : ∀ u ∈ lcells l, u.oneCell' = true := fun u hu => by
  obtain ⟨t, _, h⟩ := List.mem_flatMap.1 hu
  simp [LA.cells] at h
  rcases h with rfl | rfl
  · exact fv_one t
  · rfl
theorem lcells_get (l : List LA) : ∀ i (h : i < l.length) j, j < 2 → (lcells l)[i * 2 + j]? = (l[i].cells)[j]? := by
  induction l with
  | nil => intro i h; simp at h
  | cons t r ih =>
    intro i h j hj
    rw [lcells_cons]
    cases i with
    | zero => rw [List.getElem?_append_left (by rw [lacells_length]; omega)]; simp
    | succ i =>
      rw [List.getElem?_append_right (by rw [lacells_length]; omega), lacells_length, show (i + 1) * 2 + j - 2 = i * 2 + j by omega, ih i (by simpa using h) j hj]
      rfl
/-- Its bytes are there. -/
def LA.Good (w : World) (e : LA) : Prop := ∀ l, e.x = some l → 0 < l.length ∧ w.heap[e.o]? = some (.cells #[.slice e.a e.n e.c] 22 (0, 0)) ∧ Reads w e.a e.n e.c l
/-- The blocks that it leans on. -/
def LA.Uses (e : LA) (k : Nat) : Prop := e.x ≠ none ∧ (k = e.o ∨ blockOf e.a = some k)
theorem LA.Good.off {S : Nat → Prop} {w w' : World} {e : LA} (h : e.Good w) (K : Kept S w w') (hn : ∀ k, e.Uses k → ¬ S k) : e.Good w' := fun l hl => by
  obtain ⟨h0, h1, h2⟩ := h l hl
  have hx : e.x ≠ none := by rw [hl]; simp
  exact ⟨h0, K.get h1 (hn _ ⟨hx, .inl rfl⟩), h2.off K (fun k hk => hn k ⟨hx, .inr hk⟩)⟩
theorem LA.Good.kept0 {w w' : World} {e : LA} (h : e.Good w) (K : Kept (fun _ => False) w w') : e.Good w' := h.off K (fun _ _ q => q)
/-- A list of loose acts that can be read. -/
structure LRd (w : World) (la : Option Addr) (ln lc : Nat) (L : List LA) : Prop where
  length : L.length = ln
  room : ln ≤ lc
  small : lc ≤ maxLen
  cells : 0 < ln → ∃ b off, la = some ⟨b, off, none⟩ ∧ ∀ i e, L[i]? = some e → w.cell? ⟨b, off + i * 2, none⟩ = some e.fv ∧ w.cell? ⟨b, off + i * 2 + 1, none⟩ = some (.int .i64 (e.sz : Int))
theorem LRd.off {S : Nat → Prop} {w w' : World} {la : Option Addr} {ln lc : Nat} {L : List LA} (h : LRd w la ln lc L) (K : Kept S w w') (hn : ∀ k, blockOf la = some k → ¬ S k) : LRd w' la ln lc L := by
  refine ⟨h.length, h.room, h.small, fun h0 => ?_⟩
  obtain ⟨b, off, e, hc⟩ := h.cells h0
  have hb : ¬ S b := hn b (by rw [e]; rfl)
  exact ⟨b, off, e, fun i x hx => ⟨K.cell (hc i x hx).1 hb, K.cell (hc i x hx).2 hb⟩⟩
theorem owns_lrd {w : World} {base : Nat} {la : Option Addr} {ln lc : Nat} {L : List LA} (h : w.ownsRow base 90 2 (.slice la ln lc) ln (lcells L)) : LRd w la ln lc L := by
  obtain ⟨r1, r2⟩ := own_room h
  have hl : L.length = ln := by have := h.1; rw [lcells_length] at this; omega
  refine ⟨hl, r1, r2, fun h0 => ?_⟩
  rcases h.2 with ⟨e0, e1⟩ | ⟨g, cap', cur, e0, _, hg, hn, hm, hs, ht⟩
  · omega
  · simp at e0
    obtain ⟨rfl, rfl⟩ := e0
    refine ⟨g, 0, rfl, fun i e he => ?_⟩
    obtain ⟨hlt, rfl⟩ := List.getElem?_eq_some_iff.1 he
    have key : ∀ j v, j < 2 → (L[i].cells)[j]? = some v → w.cell? ⟨g, 0 + i * 2 + j, none⟩ = some v := fun j v hj hv => by
      rw [Nat.zero_add, cell_of_row w g _ cur 90 (0, 0) hg]
      have e := lcells_get L i hlt j hj
      rw [hv, ← ht, List.getElem?_take_of_lt (by omega)] at e
      simpa using e
    exact ⟨key 0 _ (by omega) rfl, key 1 _ (by omega) rfl⟩
theorem LRd.take {w : World} {la : Option Addr} {ln lc : Nat} {L : List LA} (h : LRd w la ln lc L) (k : Nat) (hk : k ≤ ln) : LRd w la k lc (L.take k) := by
  refine ⟨by rw [List.length_take, h.length]; omega, Nat.le_trans hk h.room, h.small, fun h0 => ?_⟩
  obtain ⟨b, off, e, hc⟩ := h.cells (by omega)
  refine ⟨b, off, e, fun i x hx => ?_⟩
  have := (List.getElem?_eq_some_iff.1 hx).1
  rw [List.length_take] at this
  rw [List.getElem?_take_of_lt (by omega)] at hx
  exact hc i x hx
/-- How much there may be. -/
def Lim : Nat := 1099511627776
set_option maxRecDepth 100000 in
/-- again, of an append. -/
theorem again (base : Nat) (a : Option Addr) (n c : Nat) (l : List Nat) (o : Nat) (a2 : Option Addr) (n2 c2 : Nat) (k : List Nat) (w : World) (own : w.ownsRow base 5 1 (.slice a n c) n (cellsOf l)) (hbase : base ≤ w.heap.size) (ho : w.heap[o]? = some (.cells #[.slice a2 n2 c2] 22 (0, 0))) (r : Reads w a2 n2 c2 k) (hs : n + n2 ≤ 2 * Lim) :
    Calls Try.prog 58 #[.slice a n c, .pointer (some ⟨o, 0, none⟩)] w fun x w' => ∃ a' c', x = .returned (.slice a' (n + n2) c') ∧ w'.ownsRow base 5 1 (.slice a' (n + n2) c') (n + n2) (cellsOf (l ++ k)) ∧ Kept (fun k => blockOf a = some k) w w' ∧ (∀ k, blockOf a' = some k → blockOf a = some k ∨ w.heap.size ≤ k) := by
  have H : Hid (w.ownsRow base 5 1 (.slice a n c) n (cellsOf l) ∧ base ≤ w.heap.size ∧ Reads w a2 n2 c2 k ∧ n + n2 ≤ 2 * Lim) := ⟨own, hbase, r, hs⟩
  have c0 := cell_blk ho 0 rfl
  clear own hbase ho r hs
  go_enter Try.func58, Try.ntmps58
  go_wp2_with (first | (at_builtin; refine wpList_append_bytes _ rfl (.tmp 4) (.tmp 5) rfl base (.slice a n c) n l rfl H.out.1 (.slice a2 n2 c2) n2 k rfl H.out.2.2.1.src (by have := H.out.2.2.2; unfold Lim at this; omega) H.out.2.1 ?_; intro p1 c1 w1 ho hg hn) | fail)
  go_ret
  have g1 := hg.out
  have g2 := hn.out
  rw [blockOf_own] at g1 g2
  rw [blockOf_own] at g2
  refine ⟨p1, c1, rfl, ho.out, (Kept.refl _ _).grown g1 (fun k _ z => z.symm ▸ rfl), fun k hk => ?_⟩
  rcases g2 with z | ⟨z, _⟩
  · exact .inl (by rw [← z]; exact hk)
  · rw [z] at hk; simp at hk; exact .inr (by omega)
set_option maxRecDepth 100000 in
/-- again, of a wipe. -/
theorem again_wipe (v : Value) (w : World) : Calls Try.prog 61 #[v] w fun x w' => x = .returned (.slice none 0 0) ∧ w' = w := by
  go_enter Try.func61, Try.ntmps61
  go_wp2_with fail
  go_ret
  exact ⟨rfl, rfl⟩
end Go.Proofs.Ytbnnmelkbjkkjaa
