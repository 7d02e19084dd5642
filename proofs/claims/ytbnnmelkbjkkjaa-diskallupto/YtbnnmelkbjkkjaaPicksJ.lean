import Derived.Test.YtbnnmelkbjkkjaaGen
import Derived.Laws.EntriesVeiled
namespace Go.Proofs.Ytbnnmelkbjkkjaa
open Go.RowKit

/-- One loose act on bytes: none is a wipe. -/
def stepA (b : List Nat) (x : Option (List Nat)) : List Nat := match x with
  | none => []
  | some l => b ++ l
def redoL (b : List Nat) (L : List (Option (List Nat))) : List Nat := L.foldl stepA b
/-- How many bytes are appended. -/
def weigh (L : List (Option (List Nat))) : Nat := (L.map fun x => (x.getD []).length).sum
theorem redoL_snoc (b : List Nat) (L : List (Option (List Nat))) (x : Option (List Nat)) : redoL b (L ++ [x]) = stepA (redoL b L) x := by simp [redoL]
theorem stepA_length (b : List Nat) (x : Option (List Nat)) : (stepA b x).length ≤ b.length + (x.getD []).length := by
  cases x <;> simp [stepA]
theorem redoL_length (L : List (Option (List Nat))) : ∀ b, (redoL b L).length ≤ b.length + weigh L := by
  induction L with
  | nil => intro b; simp [redoL, weigh]
  | cons x L ih =>
    intro b
    have := ih (stepA b x)
    have := stepA_length b x
    simp only [redoL, List.foldl_cons, weigh, List.map_cons, List.sum_cons] at *
    omega
theorem weigh_take (L : List (Option (List Nat))) (i : Nat) : weigh (L.take i) ≤ weigh L := by
  have : weigh L = weigh (L.take i) + weigh (L.drop i) := by
    unfold weigh
    rw [← List.sum_append, ← List.map_append, List.take_append_drop]
  omega
/-- A loose act where it lies: its own bytes, in a variable of their own. -/
structure LA where
  x : Option (List Nat)
  o : Nat
  a : Option Addr
  n : Nat
  c : Nat
def LA.fv (e : LA) : Value := match e.x with
  | none => .func (.func 61) #[] #[]
  | some _ => .func (.func 58) #[] #[.pointer (some ⟨e.o, 0, none⟩)]
def LA.sz (e : LA) : Nat := (e.x.getD []).length
def LA.cells (e : LA) : List Value := [e.fv, .int .i64 (e.sz : Int)]
def lcells (L : List LA) : List Value := L.flatMap LA.cells
theorem lcells_append (l m : List LA) : lcells (l ++ m) = lcells l ++ lcells m := by simp [lcells]
theorem lcells_cons (e : LA) (l : List LA) : lcells (e :: l) = e.cells ++ lcells l := by simp [lcells]
theorem lcells_one' (e : LA) : lcells [e] = e.cells := by simp [lcells]
theorem lacells_length (e : LA) : e.cells.length = 2 := rfl
theorem lcells_length (l : List LA) : (lcells l).length = l.length * 2 := by
  induction l with
  | nil => rfl
  | cons t r ih => rw [lcells_cons, List.length_append, ih, lacells_length, List.length_cons]; omega
theorem fv_one (e : LA) : e.fv.oneCell' = true := by unfold LA.fv; split <;> rfl
theorem lcells_ones (l : List LA) : ∀ u ∈ lcells l, u.oneCell' = true := fun u hu => by
  obtain ⟨t, _, h⟩ := List.mem_flatMap.1 hu
  simp [LA.cells] at h
  rcases h with rfl | rfl
  · exact fv_one t
  · rfl
theorem lcells_get (l : List LA) : ∀ i (h : i < l.length) j, j < 2 → (lcells l)[i * 2 + j]? = (l[i].cells)[j]? := by
  induction l with
  | nil => intro i h; simp at h
  | cons t r ih =>
    intro i h j hj
    rw [lcells_cons]
    cases i with
    | zero => rw [List.getElem?_append_left (by rw [lacells_length]; omega)]; simp
    | succ i =>
      rw [List.getElem?_append_right (by rw [lacells_length]; omega), lacells_length, show (i + 1) * 2 + j - 2 = i * 2 + j by omega, ih i (by simpa using h) j hj]
      rfl
/-- Its bytes are there. -/
def LA.Good (w : World) (e : LA) : Prop := ∀ l, e.x = some l → 0 < l.length ∧ w.heap[e.o]? = some (.cells #[.slice e.a e.n e.c] 22 (0, 0)) ∧ Reads w e.a e.n e.c l
/-- The blocks that it leans on. -/
def LA.Uses (e : LA) (k : Nat) : Prop := e.x ≠ none ∧ (k = e.o ∨ blockOf e.a = some k)
theorem LA.Good.off {S : Nat → Prop} {w w' : World} {e : LA} (h : e.Good w) (K : Kept S w w') (hn : ∀ k, e.Uses k → ¬ S k) : e.Good w' := fun l hl => by
  obtain ⟨h0, h1, h2⟩ := h l hl
  have hx : e.x ≠ none := by rw [hl]; simp
  exact ⟨h0, K.get h1 (hn _ ⟨hx, .inl rfl⟩), h2.off K (fun k hk => hn k ⟨hx, .inr hk⟩)⟩
theorem LA.Good.kept0 {w w' : World} {e : LA} (h : e.Good w) (K : Kept (fun _ => False) w w') : e.Good w' := h.off K (fun _ _ q => q)
/-- A list of loose acts that can be read. -/
structure LRd (w : World) (la : Option Addr) (ln lc : Nat) (L : List LA) : Prop where
  length : L.length = ln
  room : ln ≤ lc
  small : lc ≤ maxLen
  cells : 0 < ln → ∃ b off, la = some ⟨b, off, none⟩ ∧ ∀ i e, L[i]? = some e → w.cell? ⟨b, off + i * 2, none⟩ = some e.fv ∧ w.cell? ⟨b, off + i * 2 + 1, none⟩ = some (.int .i64 (e.sz : Int))
theorem LRd.off {S : Nat → Prop} {w w' : World} {la : Option Addr} {ln lc : Nat} {L : List LA} (h : LRd w la ln lc L) (K : Kept S w w') (hn : ∀ k, blockOf la = some k → ¬ S k) : LRd w' la ln lc L := by
  refine ⟨h.length, h.room, h.small, fun h0 => ?_⟩
  obtain ⟨b, off, e, hc⟩ := h.cells h0
  have hb : ¬ S b := hn b (by rw [e]; rfl)
  exact ⟨b, off, e, fun i x hx => ⟨K.cell (hc i x hx).1 hb, K.cell (hc i x hx).2 hb⟩⟩
theorem owns_lrd {w : World} {base : Nat} {la : Option Addr} {ln lc : Nat} {L : List LA} (h : w.ownsRow base 90 2 (.slice la ln lc) ln (lcells L)) : LRd w la ln lc L := by
  obtain ⟨r1, r2⟩ := own_room h
  have hl : L.length = ln := by have := h.1; rw [lcells_length] at this; omega
  refine ⟨hl, r1, r2, fun h0 => ?_⟩
  rcases h.2 with ⟨e0, e1⟩ | ⟨g, cap', cur, e0, _, hg, hn, hm, hs, ht⟩
  · omega
  · simp at e0
    obtain ⟨rfl, rfl⟩ := e0
    refine ⟨g, 0, rfl, fun i e he => ?_⟩
    obtain ⟨hlt, rfl⟩ := List.getElem?_eq_some_iff.1 he
    have key : ∀ j v, j < 2 → (L[i].cells)[j]? = some v → w.cell? ⟨g, 0 + i * 2 + j, none⟩ = some v := fun j v hj hv => by
      rw [Nat.zero_add, cell_of_row w g _ cur 90 (0, 0) hg]
      have e := lcells_get L i hlt j hj
      rw [hv, ← ht, List.getElem?_take_of_lt (by omega)] at e
      simpa using e
    exact ⟨key 0 _ (by omega) rfl, key 1 _ (by omega) rfl⟩
theorem LRd.take {w : World} {la : Option Addr} {ln lc : Nat} {L : List LA} (h : LRd w la ln lc L) (k : Nat) (hk : k ≤ ln) : LRd w la k lc (L.take k) := by
  refine ⟨by rw [List.length_take, h.length]; omega, Nat.le_trans hk h.room, h.small, fun h0 => ?_⟩
  obtain ⟨b, off, e, hc⟩ := h.cells (by omega)
  refine ⟨b, off, e, fun i x hx => ?_⟩
  have := (List.getElem?_eq_some_iff.1 hx).1
  rw [List.length_take] at this
  rw [List.getElem?_take_of_lt (by omega)] at hx
  exact hc i x hx
/-- How much there may be. -/
def Lim : Nat := 1099511627776
set_option maxRecDepth 100000 in
/-- again, of an append. -/
theorem again (base : Nat) (a : Option Addr) (n c : Nat) (l : List Nat) (o : Nat) (a2 : Option Addr) (n2 c2 : Nat) (k : List Nat) (w : World) (own : w.ownsRow base 5 1 (.slice a n c) n (cellsOf l)) (hbase : base ≤ w.heap.size) (ho : w.heap[o]? = some (.cells #[.slice a2 n2 c2] 22 (0, 0))) (r : Reads w a2 n2 c2 k) (hs : n + n2 ≤ 2 * Lim) :
    Calls Try.prog 58 #[.slice a n c, .pointer (some ⟨o, 0, none⟩)] w fun x w' => ∃ a' c', x = .returned (.slice a' (n + n2) c') ∧ w'.ownsRow base 5 1 (.slice a' (n + n2) c') (n + n2) (cellsOf (l ++ k)) ∧ Kept (fun k => blockOf a = some k) w w' ∧ (∀ k, blockOf a' = some k → blockOf a = some k ∨ w.heap.size ≤ k) := by
  have H : Hid (w.ownsRow base 5 1 (.slice a n c) n (cellsOf l) ∧ base ≤ w.heap.size ∧ Reads w a2 n2 c2 k ∧ n + n2 ≤ 2 * Lim) := ⟨own, hbase, r, hs⟩
  have c0 := cell_blk ho 0 rfl
  clear own hbase ho r hs
  go_enter Try.func58, Try.ntmps58
  go_wp2_with (first | (at_builtin; refine wpList_append_bytes _ rfl (.tmp 4) (.tmp 5) rfl base (.slice a n c) n l rfl H.out.1 (.slice a2 n2 c2) n2 k rfl H.out.2.2.1.src (by have := H.out.2.2.2; unfold Lim at this; omega) H.out.2.1 ?_; intro p1 c1 w1 ho hg hn) | fail)
  go_ret
  have g1 := hg.out
  have g2 := hn.out
  rw [blockOf_own] at g1 g2
  rw [blockOf_own] at g2
  refine ⟨p1, c1, rfl, ho.out, (Kept.refl _ _).grown g1 (fun k _ z => z.symm ▸ rfl), fun k hk => ?_⟩
  rcases g2 with z | ⟨z, _⟩
  · exact .inl (by rw [← z]; exact hk)
  · rw [z] at hk; simp at hk; exact .inr (by omega)
set_option maxRecDepth 100000 in
/-- again, of a wipe. -/
theorem again_wipe (v : Value) (w : World) : Calls Try.prog 61 #[v] w fun x w' => x = .returned (.slice none 0 0) ∧ w' = w := by
  go_enter Try.func61, Try.ntmps61
  go_wp2_with fail
  go_ret
  exact ⟨rfl, rfl⟩
end Go.Proofs.Ytbnnmelkbjkkjaa

namespace Go.Proofs.Ytbnnmelkbjkkjaa
open Go.RowKit

/-- What 'redo' is handed, and what it may write: the row of the bytes alone. -/
structure RD (base : Nat) (w : World) (a : Option Addr) (n c : Nat) (l : List Nat) (la : Option Addr) (ln lc : Nat) (L : List LA) : Prop where
  own : w.ownsRow base 5 1 (.slice a n c) n (cellsOf l)
  bytes : ∀ c ∈ l, c < 256
  base : base ≤ w.heap.size
  list : LRd w la ln lc L
  good : ∀ e ∈ L, LA.Good w e
  far : ∀ k, blockOf a = some k → blockOf la ≠ some k ∧ ∀ e ∈ L, ¬ e.Uses k
  lim : l.length + weigh (L.map LA.x) ≤ Lim
theorem len_own {w : World} {base : Nat} {a : Option Addr} {n c : Nat} {l : List Nat} (h : w.ownsRow base 5 1 (.slice a n c) n (cellsOf l)) : l.length = n := by have := h.1; rw [cellsOf_length] at this; omega
theorem good_bytes {w : World} {L : List LA} (h : ∀ e ∈ L, LA.Good w e) : ∀ x ∈ L.map LA.x, ∀ l, x = some l → ∀ c ∈ l, c < 256 := fun x hx l hl c hc => by
  obtain ⟨e, he, rfl⟩ := List.mem_map.1 hx
  exact (h e he l hl).2.2.bytes c hc
theorem redoL_bytes (L : List (Option (List Nat))) : ∀ b : List Nat, (∀ c ∈ b, c < 256) → (∀ x ∈ L, ∀ l, x = some l → ∀ c ∈ l, c < 256) → ∀ c ∈ redoL b L, c < 256 := by
  induction L with
  | nil => intro b hb _; exact hb
  | cons x L ih =>
    intro b hb h
    refine ih (stepA b x) ?_ (fun y hy => h y (List.mem_cons_of_mem _ hy))
    intro c hc
    cases hx : x with
    | none => rw [hx] at hc; simp [stepA] at hc
    | some l =>
      rw [hx] at hc
      rcases List.mem_append.1 hc with z | z
      · exact hb c z
      · exact h x List.mem_cons_self l hx c z
theorem LA.Good.sized {w : World} {e : LA} (h : e.Good w) {l : List Nat} (hl : e.x = some l) : l.length = e.n := (h l hl).2.2.length
set_option maxRecDepth 100000 in
set_option maxHeartbeats 1000000 in
theorem redo (base : Nat) (a : Option Addr) (n c : Nat) (l : List Nat) (la : Option Addr) (ln lc : Nat) (L : List LA) (w : World) (h : RD base w a n c l la ln lc L) :
    Calls Try.prog 60 #[.slice a n c, .slice la ln lc] w fun x w' => ∃ a' n' c', x = .returned (.slice a' n' c') ∧ w'.ownsRow base 5 1 (.slice a' n' c') n' (cellsOf (redoL l (L.map LA.x))) ∧ Kept (fun k => blockOf a = some k) w w' ∧ (∀ k, blockOf a' = some k → blockOf a = some k ∨ w.heap.size ≤ k) := by
  have H : Hid (RD base w a n c l la ln lc L) := h
  have hll := h.list.length
  have hr := h.list.room
  have hs := h.list.small
  unfold maxLen at hs
  clear h
  go_enter Try.func60, Try.ntmps60
  go_wp2_with fail
  go_loopw [0, 6, 9] (fun y _ x wr => ∃ (i : Nat) (a' : Option Addr) (n' c' : Nat), x = .int .i64 (i : Int) ∧ y = .slice a' n' c' ∧ i ≤ ln ∧ Hid (wr.ownsRow base 5 1 (.slice a' n' c') n' (cellsOf (redoL l ((L.map LA.x).take i))) ∧ Kept (fun k => blockOf a = some k) w wr ∧ (∀ k, blockOf a' = some k → blockOf a = some k ∨ w.heap.size ≤ k))) (fun _ _ x _ => ln - (intOf x).toNat)
  case atStart => exact ⟨0, a, n, c, rfl, rfl, Nat.zero_le _, by simp only [List.take_zero]; exact H.out.own, Kept.refl _ _, fun k hk => .inl hk⟩
  case round =>
    obtain ⟨i, a', n', c', rfl, rfl, hi, S⟩ := hrel
    by_cases hlt : i < ln
    · have i1 : (i : Int) < (ln : Int) := by omega
      obtain ⟨e, he⟩ : ∃ e, L[i]? = some e := ⟨_, List.getElem?_eq_getElem (by omega)⟩
      obtain ⟨b, off, rfl, hc⟩ := H.out.list.cells (by omega)
      have hne : ¬ blockOf a = some b := fun z => (H.out.far b z).1 rfl
      have f0 := S.out.2.1.cell (hc i e he).1 hne
      have f1 := S.out.2.1.cell (hc i e he).2 hne
      have heL : e ∈ L := List.mem_of_getElem? he
      have G : Hid (e.Good wr ∧ e ∈ L ∧ (L.map LA.x).take (i + 1) = (L.map LA.x).take i ++ [e.x]) := by
        refine ⟨(H.out.good e heL).off S.out.2.1 (fun k hk z => (H.out.far k z).2 e heL hk), heL, ?_⟩
        obtain ⟨h1, h2⟩ := List.getElem?_eq_some_iff.1 he
        rw [List.take_succ_eq_append_getElem (by rw [List.length_map]; omega), List.getElem_map, h2]
      have SZ : Hid ((redoL l ((L.map LA.x).take (i + 1))).length ≤ Lim ∧ n' = (redoL l ((L.map LA.x).take i)).length) := by
        refine ⟨?_, (len_own S.out.1).symm⟩
        have h1 := redoL_length ((L.map LA.x).take (i + 1)) l
        have h2 := weigh_take (L.map LA.x) (i + 1)
        have h3 := H.out.lim
        omega
      clear hc he heL
      obtain ⟨fv, hfv⟩ : ∃ v, v = e.fv := ⟨_, rfl⟩
      rw [← hfv] at f0
      cases hx : e.x with
      | none =>
        have hv : fv = .func (.func 61) #[] #[] := by rw [hfv]; unfold LA.fv; rw [hx]
        subst hv
        have S2 : Hid (∀ W : World, Kept (fun _ => False) wr W → W.ownsRow base 5 1 (.slice none 0 0) 0 (cellsOf (redoL l ((L.map LA.x).take (i + 1)))) ∧ Kept (fun k => blockOf a = some k) w W) := fun W KW => by
          have e1 : redoL l ((L.map LA.x).take (i + 1)) = [] := by rw [G.out.2.2, redoL_snoc, hx]; rfl
          refine ⟨by rw [e1]; exact World.ownsRow_nil _ _ _ _, S.out.2.1.trans KW (fun _ _ z => z.elim)⟩
        clear hfv hx
        go_wp2_with fail
        refine (again_wipe _ _).mono ?_
        rintro x w2 ⟨rfl, rfl⟩
        go_wp2_with fail
        go_roundw
        case rel =>
          exact ⟨i + 1, none, 0, 0, by go_num, rfl, by omega, (S2.out _ (alloc_kept0 wr _)).1, (S2.out _ (alloc_kept0 wr _)).2, fun k hk => by simp [blockOf] at hk⟩
        case measure => simp [intOf]; omega
      | some k =>
        have hv : fv = .func (.func 58) #[] #[.pointer (some ⟨e.o, 0, none⟩)] := by rw [hfv]; unfold LA.fv; rw [hx]
        subst hv
        obtain ⟨h0, h1, h2⟩ := G.out.1 k hx
        have hk : Hid (e.x = some k ∧ e.n = k.length ∧ redoL l ((L.map LA.x).take (i + 1)) = redoL l ((L.map LA.x).take i) ++ k) := ⟨hx, h2.length.symm, by rw [G.out.2.2, redoL_snoc, hx]; rfl⟩
        obtain ⟨W, hW⟩ : ∃ W, W = wr.alloc (.cells #[.func (.func 58) #[] #[.pointer (some ⟨e.o, 0, none⟩)], .int .i64 (e.sz : Int)] 90) := ⟨_, rfl⟩
        have KW : Kept (fun _ => False) wr W := by rw [hW]; exact alloc_kept0 _ _
        have S2 : Hid (W.ownsRow base 5 1 (.slice a' n' c') n' (cellsOf (redoL l ((L.map LA.x).take i))) ∧ base ≤ W.heap.size ∧ W.heap[e.o]? = some (.cells #[.slice e.a e.n e.c] 22 (0, 0)) ∧ Reads W e.a e.n e.c k ∧ n' + e.n ≤ 2 * Lim ∧ Kept (fun k => blockOf a = some k) w W) := by
          refine ⟨KW.owns S.out.1 (fun _ _ z => z), Nat.le_trans H.out.base (Nat.le_trans S.out.2.1.size KW.size), KW.get h1 (fun z => z), h2.kept' KW (fun _ _ z => z), ?_, S.out.2.1.trans KW (fun _ _ z => z.elim)⟩
          have := SZ.out
          rw [hk.out.2.2, List.length_append, ← hk.out.2.1] at this
          omega
        have EW : Hid (W = wr.alloc (.cells #[.func (.func 58) #[] #[.pointer (some ⟨e.o, 0, none⟩)], .int .i64 (e.sz : Int)] 90)) := hW
        clear hfv hx h0 h1 h2 hW KW
        go_wp2_with fail
        rw [← EW.out]
        refine (again base a' n' c' _ e.o e.a e.n e.c k W S2.out.1 S2.out.2.1 S2.out.2.2.1 S2.out.2.2.2.1 S2.out.2.2.2.2.1).mono ?_
        rintro x w2 ⟨a2, c2, rfl, o2, K2, n2⟩
        have S3 : Hid (w2.ownsRow base 5 1 (.slice a2 (n' + e.n) c2) (n' + e.n) (cellsOf (redoL l ((L.map LA.x).take (i + 1)))) ∧ Kept (fun k => blockOf a = some k) w w2 ∧ (∀ k, blockOf a2 = some k → blockOf a = some k ∨ w.heap.size ≤ k)) := by
          refine ⟨by rw [hk.out.2.2]; exact o2, S2.out.2.2.2.2.2.trans K2 (fun j hj z => ?_), fun j hj => ?_⟩
          · rcases S.out.2.2 j z with q | q
            · exact q
            · omega
          · rcases n2 j hj with q | q
            · exact S.out.2.2 j q
            · exact .inr (by have := S2.out.2.2.2.2.2.size; omega)
        clear o2 K2 n2
        go_wp2_with fail
        go_roundw
        case rel => exact ⟨i + 1, a2, n' + e.n, c2, by go_num, rfl, by omega, S3.out⟩
        case measure => simp [intOf]; omega
    · have he : i = ln := by omega
      have i1 : ¬ (i : Int) < (ln : Int) := by omega
      go_wp2_with fail
      go_ret
      refine ⟨a', n', c', rfl, ?_, S.out.2⟩
      have := S.out.1
      rw [List.take_of_length_le (by rw [List.length_map]; omega)] at this
      exact this
end Go.Proofs.Ytbnnmelkbjkkjaa

namespace Go.Proofs.Ytbnnmelkbjkkjaa
open Go.RowKit

/-- A list of numbers that can be read. -/
structure IRd (w : World) (q : Option Addr) (n c : Nat) (cs : List Int) : Prop where
  length : cs.length = n
  room : n ≤ c
  small : c ≤ maxLen
  fits : ∀ x ∈ cs, -9223372036854775808 ≤ x ∧ x < 9223372036854775808
  cells : 0 < n → ∃ b off, q = some ⟨b, off, none⟩ ∧ ∀ i x, cs[i]? = some x → w.cell? ⟨b, off + i, none⟩ = some (.int .i64 x)
theorem IRd.off {S : Nat → Prop} {w w' : World} {q : Option Addr} {n c : Nat} {cs : List Int} (h : IRd w q n c cs) (K : Kept S w w') (hn : 0 < n → ∀ k, blockOf q = some k → ¬ S k) : IRd w' q n c cs := by
  refine ⟨h.length, h.room, h.small, h.fits, fun h0 => ?_⟩
  obtain ⟨b, off, e, hc⟩ := h.cells h0
  exact ⟨b, off, e, fun i x hx => K.cell (hc i x hx) (hn h0 b (by rw [e]; rfl))⟩
theorem IRd.kept0 {w w' : World} {q : Option Addr} {n c : Nat} {cs : List Int} (h : IRd w q n c cs) (K : Kept (fun _ => False) w w') : IRd w' q n c cs := h.off K (fun _ _ _ z => z)
theorem IRd.nil (w : World) : IRd w none 0 0 [] := ⟨rfl, Nat.le_refl _, by unfold maxLen; omega, fun _ h => absurd h (by simp), fun h => absurd h (by omega)⟩
/-- All but the first of them. -/
theorem IRd.rest {w : World} {q : Option Addr} {n c : Nat} {x : Int} {r : List Int} (h : IRd w q n c (x :: r)) :
    ∃ p c', (∀ W : World, (Instr.slice 24 (.slice q n c) (some (.int .i64 1)) none none).run Try.prog W = .ok (.slice p (n - 1) c') W) ∧ IRd w p (n - 1) c' r ∧ ∀ k, blockOf p = some k → blockOf q = some k := by
  have hr := h.room
  have hs := h.small
  have hlen := h.length
  simp only [List.length_cons] at hlen
  unfold maxLen at hs
  obtain ⟨b, off, rfl, hc⟩ := h.cells (by omega)
  have h1 : 1 ≤ n := by omega
  by_cases hcap : c = 1
  · refine ⟨some ⟨b, off, none⟩, 0, fun W => ?_, ⟨by omega, by omega, by unfold maxLen; omega, fun y hy => h.fits y (List.mem_cons_of_mem _ hy), fun z => absurd z (by omega)⟩, fun k hk => hk⟩
    simp [Instr.slice, Instr.sliceBounds, Instr.sliceBound, asIntOf, run_underlying Try.underlying24]
    rw [if_pos (by omega), if_pos hcap, hcap]
  · refine ⟨some ⟨b, off + 1, none⟩, c - 1, fun W => ?_, ⟨by omega, by omega, by unfold maxLen; omega, fun y hy => h.fits y (List.mem_cons_of_mem _ hy), fun _ => ⟨b, off + 1, rfl, fun i y hy => ?_⟩⟩, fun k hk => hk⟩
    · simp [Instr.slice, Instr.sliceBounds, Instr.sliceBound, asIntOf, run_underlying Try.underlying24]
      rw [if_pos (by omega), if_neg hcap, Addr.add_none]
    · have := hc (i + 1) y (by simpa using hy)
      rw [show off + 1 + i = off + (i + 1) by omega]
      exact this
/-- One choice among m, and what is left of the list. -/
def nextC (cs : List Int) (m : Nat) : Nat × List Int := match cs with
  | [] => (0, [])
  | x :: r => ((x % (m : Int)).toNat, r)
theorem nextC_lt (cs : List Int) (m : Nat) (hm : 0 < m) : (nextC cs m).1 < m := by
  cases cs with
  | nil => exact hm
  | cons x r =>
    have h1 := Int.emod_nonneg x (show (m : Int) ≠ 0 by omega)
    have h2 := Int.emod_lt_of_pos x (show (0 : Int) < (m : Int) by omega)
    show (x % (m : Int)).toNat < m
    omega
/-- The list of choices that is left, in its variable. -/
structure PK (w : World) (P T : Nat) (cs : List Int) : Prop where
  ex : ∃ q n c, w.heap[P]? = some (.cells #[.slice q n c] 75 (0, 0)) ∧ IRd w q n c cs ∧ (0 < n → ∀ k, blockOf q = some k → k ≠ P ∧ k < T)
theorem PK.lt {w : World} {P T : Nat} {cs : List Int} (h : PK w P T cs) : P < w.heap.size := by
  obtain ⟨_, _, _, b, _⟩ := h.ex; exact block_lt b
set_option maxRecDepth 100000 in
set_option maxHeartbeats 1000000 in
theorem next (P T : Nat) (cs : List Int) (m : Nat) (w : World) (h : PK w P T cs) (hm : 0 < m) (hb : m < 9223372036854775808) :
    Calls Try.prog 59 #[.pointer (some ⟨P, 0, none⟩), .int .i64 (m : Int)] w fun x w' => x = .returned (.int .i64 ((nextC cs m).1 : Int)) ∧ PK w' P T (nextC cs m).2 ∧ Kept (fun k => k = P) w w' := by
  obtain ⟨q, n, c, bk, r, hq⟩ := h.ex
  have c0 := cell_blk bk 0 rfl
  have s0 := soft_blk bk 0
  have hr := r.room
  have hs := r.small
  have hl := r.length
  unfold maxLen at hs
  have H : Hid (PK w P T cs ∧ w.heap[P]? = some (.cells #[.slice q n c] 75 (0, 0))) := ⟨h, bk⟩
  cases cs with
  | nil =>
    simp only [List.length_nil] at hl
    subst hl
    clear h bk hq r
    go_enter Try.func59, Try.ntmps59
    go_wp2_with fail
    go_ret
    exact ⟨rfl, H.out.1, Kept.refl _ _⟩
  | cons x rr =>
    simp only [List.length_cons] at hl
    obtain ⟨p, c', slc, rd, hp⟩ := r.rest
    obtain ⟨b, off, rfl, hc⟩ := r.cells (by omega)
    have d0 := hc 0 x rfl
    rw [Nat.add_zero] at d0
    have hx := r.fits x List.mem_cons_self
    have m0 : ¬ ((m : Int) = 0) := by omega
    have n0 : ¬ ((n : Int) = 0) := by omega
    have n0' : ¬ (n = 0) := by omega
    have n1 : (0 : Int) < (n : Int) := by omega
    have t1 := Int.tmod_lt_of_pos x (show (0 : Int) < (m : Int) by omega)
    have t2 : -(m : Int) < x.tmod (m : Int) := by
      rcases Int.le_total 0 x with h1 | h1
      · have := Int.tmod_nonneg (m : Int) h1; omega
      · have := Int.tmod_lt_of_pos (-x) (show (0 : Int) < (m : Int) by omega)
        rw [Int.neg_tmod] at this
        omega
    obtain ⟨t, ht⟩ : ∃ t, x.tmod (m : Int) = t := ⟨_, rfl⟩
    have em : x % (m : Int) = if t < 0 then t + (m : Int) else t := by
      rw [← ht, Int.tmod_eq_emod]
      have e1 := Int.emod_nonneg x (show (m : Int) ≠ 0 by omega)
      have e2 := Int.emod_lt_of_pos x (show (0 : Int) < (m : Int) by omega)
      have e3 : ((m : Int).natAbs : Int) = (m : Int) := by omega
      by_cases h1 : 0 ≤ x ∨ (m : Int) ∣ x
      · rw [if_pos h1]
        rw [if_neg (by omega)]
        omega
      · rw [if_neg h1, e3, if_pos (by omega)]
        omega
    have PW : Hid (PK (w.setCell ⟨P, 0, none⟩ (.slice p (n - 1) c')) P T rr ∧ Kept (fun k => k = P) w (w.setCell ⟨P, 0, none⟩ (.slice p (n - 1) c'))) := by
      have K : Kept (fun k => k = P) w (w.setCell ⟨P, 0, none⟩ (.slice p (n - 1) c')) := (Kept.refl (fun k => k = P) w).setCell (p := ⟨P, 0, none⟩) (fun _ => rfl) _
      refine ⟨⟨p, n - 1, c', set_heap bk 0 _, rd.off K (fun h0 k hk z => (hq (by omega) k (hp k hk)).1 z), fun h0 k hk => hq (by omega) k (hp k hk)⟩, K⟩
    rw [ht] at t1 t2
    clear h bk hq r rd hp hc
    by_cases hneg : t < 0
    · rw [if_pos hneg] at em
      obtain ⟨u, hu⟩ : ∃ u : Nat, t + (m : Int) = (u : Int) := ⟨(t + (m : Int)).toNat, by omega⟩
      have wu : IntKind.i64.wrap (t + (m : Int)) = (u : Int) := by rw [IntKind.wrap_i64]; omega
      have en : Hid ((nextC (x :: rr) m).1 = u) := by show (x % (m : Int)).toNat = u; omega
      clear em hu
      go_enter Try.func59, Try.ntmps59
      go_wp2_with fail
      go_ret
      exact ⟨by rw [en.out]; rfl, PW.out.1, PW.out.2⟩
    · rw [if_neg hneg] at em
      obtain ⟨u, hu⟩ : ∃ u : Nat, t = (u : Int) := ⟨t.toNat, by omega⟩
      have en : Hid ((nextC (x :: rr) m).1 = u) := by show (x % (m : Int)).toNat = u; omega
      subst hu
      clear em
      go_enter Try.func59, Try.ntmps59
      go_wp2_with fail
      go_ret
      exact ⟨by rw [en.out]; rfl, PW.out.1, PW.out.2⟩
end Go.Proofs.Ytbnnmelkbjkkjaa
