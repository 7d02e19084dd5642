import Derived.Test.YtbnnmelkbjkkjaaLoose
import Derived.Laws.EntriesVeiled
namespace Go.Proofs.Ytbnnmelkbjkkjaa
open Go.RowKit

/-- What 'redo' is handed, and what it may write: the row of the bytes alone. -/
structure RD (base : Nat) (w : World) (a : Option Addr) (n c : Nat) (l : List Nat) (la : Option Addr) (ln lc : Nat) (L : List LA) : Prop where
  own : w.ownsRow base 5 1 (.slice a n c) n (cellsOf l)
  bytes : ∀ c ∈ l, c < 256
  base : base ≤ w.heap.size
  list : LRd w la ln lc L
  good : ∀ e ∈ L, LA.Good w e
  far : ∀ k, blockOf a = some k → blockOf la ≠ some k ∧ ∀ e ∈ L, ¬ e.Uses k
  lim : l.length + weigh (L.map LA.x) ≤ Lim
theorem len_own {w : World} {base : Nat} {a : Option Addr} {n c : Nat} {l : List Nat} (h : w.ownsRow base 5 1 (.slice a n c) n (cellsOf l)) : l.length = n := by have := h.1; rw [cellsOf_length] at this; omega
theorem good_bytes {w : World} {L : List LA} (h : ∀ e ∈ L, LA.Good w e) : ∀ x ∈ L.map LA.x, ∀ l, x = some l → ∀ c ∈ l, c < 256 := fun x hx l hl c hc => by
  obtain ⟨e, he, rfl⟩ := List.mem_map.1 hx
  exact (h e he l hl).2.2.bytes c hc
theorem redoL_bytes (L : List (Option (List Nat))) : ∀ b : List Nat, (∀ c ∈ b, c < 256) → (∀ x ∈ L, ∀ l, x = some l → ∀ c ∈ l, c < 256) → ∀ c ∈ redoL b L, c < 256 := by
  induction L with
  | nil => intro b hb _; exact hb
  | cons x L ih =>
    intro b hb h
    refine ih (stepA b x) ?_ (fun y hy => h y (List.mem_cons_of_mem _ hy))
    intro c hc
    cases hx : x with
    | none => rw [hx] at hc; simp [stepA] at hc
    | some l =>
      rw [hx] at hc
      rcases List.mem_append.1 hc with z | z
      · exact hb c z
      · exact h x List.mem_cons_self l hx c z
theorem LA.Good.sized {w : World} {e : LA} (h : e.Good w) {l : List Nat} (hl : e.x = some l) : l.length = e.n := (h l hl).2.2.length
set_option maxRecDepth 100000 in
set_option maxHeartbeats 1000000 in
theorem redo (base : Nat) (a : Option Addr) (n c : Nat) (l : List Nat) (la : Option Addr) (ln lc : Nat) (L : List LA) (w : World) (h : RD base w a n c l la ln lc L) :
    Calls Try.prog 60 #[.slice a n c, .slice la ln lc] w fun x w' => ∃ a' n' c', x = .returned (.slice a' n' c') ∧ w'.ownsRow base 5 1 (.slice a' n' c') n' (cellsOf (redoL l (L.map LA.x))) ∧ Kept (fun k => blockOf a = some k) w w' ∧ (∀ k, blockOf a' = some k → blockOf a = some k ∨ w.heap.size ≤ k) := by
  have H : Hid (RD base w a n c l la ln lc L) := h
  have hll := h.list.length
  have hr := h.list.room
  have hs := h.list.small
  unfold maxLen at hs
  clear h
  go_enter Try.func60, Try.ntmps60
  go_wp2_with fail
  go_loopw [0, 6, 9] (fun y _ x wr => ∃ (i : Nat) (a' : Option Addr) (n' c' : Nat), x = .int .i64 (i : Int) ∧ y = .slice a' n' c' ∧ i ≤ ln ∧ Hid (wr.ownsRow base 5 1 (.slice a' n' c') n' (cellsOf (redoL l ((L.map LA.x).take i))) ∧ Kept (fun k => blockOf a = some k) w wr ∧ (∀ k, blockOf a' = some k → blockOf a = some k ∨ w.heap.size ≤ k))) (fun _ _ x _ => ln - (intOf x).toNat)
  case atStart => exact ⟨0, a, n, c, rfl, rfl, Nat.zero_le _, by simp only [List.take_zero]; exact H.out.own, Kept.refl _ _, fun k hk => .inl hk⟩
  case round =>
    obtain ⟨i, a', n', c', rfl, rfl, hi, S⟩ := hrel
    by_cases hlt : i < ln
    · have i1 : (i : Int) < (ln : Int) := by omega
      obtain ⟨e, he⟩ : ∃ e, L[i]? = some e := ⟨_, List.getElem?_eq_getElem (by omega)⟩
      obtain ⟨b, off, rfl, hc⟩ := H.out.list.cells (by omega)
      have hne : ¬ blockOf a = some b := fun z => (H.out.far b z).1 rfl
      have f0 := S.out.2.1.cell (hc i e he).1 hne
      have f1 := S.out.2.1.cell (hc i e he).2 hne
      have heL : e ∈ L := List.mem_of_getElem? he
      have G : Hid (e.Good wr ∧ e ∈ L ∧ (L.map LA.x).take (i + 1) = (L.map LA.x).take i ++ [e.x]) := by
        refine ⟨(H.out.good e heL).off S.out.2.1 (fun k hk z => (H.out.far k z).2 e heL hk), heL, ?_⟩
        obtain ⟨h1, h2⟩ := List.getElem?_eq_some_iff.1 he
        rw [List.take_succ_eq_append_getElem (by rw [List.length_map]; omega), List.getElem_map, h2]
      have SZ : Hid ((redoL l ((L.map LA.x).take (i + 1))).length ≤ Lim ∧ n' = (redoL l ((L.map LA.x).take i)).length) := by
        refine ⟨?_, (len_own S.out.1).symm⟩
        have h1 := redoL_length ((L.map LA.x).take (i + 1)) l
        have h2 := weigh_take (L.map LA.x) (i + 1)
        have h3 := H.out.lim
        omega
      clear hc he heL
      obtain ⟨fv, hfv⟩ : ∃ v, v = e.fv := ⟨_, rfl⟩
      rw [← hfv] at f0
      cases hx : e.x with
      | none =>
        have hv : fv = .func (.func 61) #[] #[] := by rw [hfv]; unfold LA.fv; rw [hx]
        subst hv
        have S2 : Hid (∀ W : World, Kept (fun _ => False) wr W → W.ownsRow base 5 1 (.slice none 0 0) 0 (cellsOf (redoL l ((L.map LA.x).take (i + 1)))) ∧ Kept (fun k => blockOf a = some k) w W) := fun W KW => by
          have e1 : redoL l ((L.map LA.x).take (i + 1)) = [] := by rw [G.out.2.2, redoL_snoc, hx]; rfl
          refine ⟨by rw [e1]; exact World.ownsRow_nil _ _ _ _, S.out.2.1.trans KW (fun _ _ z => z.elim)⟩
        clear hfv hx
        go_wp2_with fail
        refine (again_wipe _ _).mono ?_
        rintro x w2 ⟨rfl, rfl⟩
        go_wp2_with fail
        go_roundw
        case rel =>
          exact ⟨i + 1, none, 0, 0, by go_num, rfl, by omega, (S2.out _ (alloc_kept0 wr _)).1, (S2.out _ (alloc_kept0 wr _)).2, fun k hk => by simp [blockOf] at hk⟩
        case measure => simp [intOf]; omega
      | some k =>
        have hv : fv = .func (.func 58) #[] #[.pointer (some ⟨e.o, 0, none⟩)] := by rw [hfv]; unfold LA.fv; rw [hx]
        subst hv
        obtain ⟨h0, h1, h2⟩ := G.out.1 k hx
        have hk : Hid (e.x = some k ∧ e.n = k.length ∧ redoL l ((L.map LA.x).take (i + 1)) = redoL l ((L.map LA.x).take i) ++ k) := ⟨hx, h2.length.symm, by rw [G.out.2.2, redoL_snoc, hx]; rfl⟩
        obtain ⟨W, hW⟩ : ∃ W, W = wr.alloc (.cells #[.func (.func 58) #[] #[.pointer (some ⟨e.o, 0, none⟩)], .int .i64 (e.sz : Int)] 90) := ⟨_, rfl⟩
        have KW : Kept (fun _ => False) wr W := by rw [hW]; exact alloc_kept0 _ _
        have S2 : Hid (W.ownsRow base 5 1 (.slice a' n' c') n' (cellsOf (redoL l ((L.map LA.x).take i))) ∧ base ≤ W.heap.size ∧ W.heap[e.o]? = some (.cells #[.slice e.a e.n e.c] 22 (0, 0)) ∧ Reads W e.a e.n e.c k ∧ n' + e.n ≤ 2 * Lim ∧ Kept (fun k => blockOf a = some k) w W) := by
          refine ⟨KW.owns S.out.1 (fun _ _ z => z), Nat.le_trans H.out.base (Nat.le_trans S.out.2.1.size KW.size), KW.get h1 (fun z => z), h2.kept' KW (fun _ _ z => z), ?_, S.out.2.1.trans KW (fun _ _ z => z.elim)⟩
          have := SZ.out
          rw [hk.out.2.2, List.length_append, ← hk.out.2.1] at this
          omega
        have EW : Hid (W = wr.alloc (.cells #[.func (.func 58) #[] #[.pointer (some ⟨e.o, 0, none⟩)], .int .i64 (e.sz : Int)] 90)) := hW
        clear hfv hx h0 h1 h2 hW KW
        go_wp2_with fail
        rw [← EW.out]
        refine (again base a' n' c' _ e.o e.a e.n e.c k W S2.out.1 S2.out.2.1 S2.out.2.2.1 S2.out.2.2.2.1 S2.out.2.2.2.2.1).mono ?_
        rintro x w2 ⟨a2, c2, rfl, o2, K2, n2⟩
        have S3 : Hid (w2.ownsRow base 5 1 (.slice a2 (n' + e.n) c2) (n' + e.n) (cellsOf (redoL l ((L.map LA.x).take (i + 1)))) ∧ Kept (fun k => blockOf a = some k) w w2 ∧ (∀ k, blockOf a2 = some k → blockOf a = some k ∨ w.heap.size ≤ k)) := by
          refine ⟨by rw [hk.out.2.2]; exact o2, S2.out.2.2.2.2.2.trans K2 (fun j hj z => ?_), fun j hj => ?_⟩
          · rcases S.out.2.2 j z with q | q
            · exact q
            · omega
          · rcases n2 j hj with q | q
            · exact S.out.2.2 j q
            · exact .inr (by have := S2.out.2.2.2.2.2.size; omega)
        clear o2 K2 n2
        go_wp2_with fail
        go_roundw
        case rel => exact ⟨i + 1, a2, n' + e.n, c2, by go_num, rfl, by omega, S3.out⟩
        case measure => simp [intOf]; omega
    · have he : i = ln := by omega
      have i1 : ¬ (i : Int) < (ln : Int) := by omega
      go_wp2_with fail
      go_ret
      refine ⟨a', n', c', rfl, ?_, S.out.2⟩
      have := S.out.1
      rw [List.take_of_length_le (by rw [List.length_map]; omega)] at this
      exact this
end Go.Proofs.Ytbnnmelkbjkkjaa
