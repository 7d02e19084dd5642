import Derived.Test.YtojepeefphbekabGreatAppl
import Derived.Test.YtojepeefphbekabGreatKeyzJ
import Derived.Deep.Upon
namespace Go.Proofs.YtojepeefphbekabGreat
open Go.RowKit

/-- A text's bytes. -/
def sb (s : ByteArray) : List Nat := s.data.toList.map (fun b => b.toNat)
theorem sb_length (s : ByteArray) : (sb s).length = s.size := by
  unfold sb
  rw [List.length_map]
  exact Array.length_toList
theorem sb_bytes (s : ByteArray) : ∀ c ∈ sb s, c < 256 := fun c hc => by
  obtain ⟨b, _, rfl⟩ := List.mem_map.1 hc
  exact b.toNat_lt
theorem frozen_mark {w : World} {b k : Nat} {C : Array Value} {e : TypeId} {fr : Nat × Nat} (hb : w.heap[b]? = some (.cells C e fr)) (hk : k < fr.1) : w.frozen? ⟨b, k, none⟩ = false := by
  simp [World.frozen?, hb]
  omega
theorem tape_setCells (b : Nat) : ∀ (vs : List Value) (o : Nat) (w : World), (w.setCells b o vs).tape = w.tape
  | [], _, _ => rfl
  | v :: r, o, w => (tape_setCells b r (o + 1) (w.setCell ⟨b, o, none⟩ v)).trans rfl
/-- append onto a row of bytes that lies whole, whatever mark is behind it. -/
theorem append_lie (w : World) (b n cap : Nat) (l : List Nat) (C : Array Value) (fr : Nat × Nat) (x : Value) (m : Nat) (news : List Nat) (ty : TypeId) (hb : w.heap[b]? = some (.cells C 5 fr)) (hC : C.size = cap) (hfr : cap ≤ fr.1) (rd : Reads w (some ⟨b, 0, none⟩) n cap l) (hn : ∀ c ∈ news, c < 256) (hs : Src Tryz.prog 1 32 x m (cellsOf news) w) (hsm : n + m ≤ 1000000) : ∃ p c w', (Builtin.append_ #[32, 32] ty #[.slice (some ⟨b, 0, none⟩) n cap, x]).run Tryz.prog w = .ok (.slice p (n + m) c) w' ∧ Reads w' p (n + m) c (l ++ news) ∧ Kept (fun k => k = b) w w' := by
  obtain ⟨i, hi, hz, hsize, hby⟩ := info_parts Tryz.info5
  have ll := rd.length
  have ln : news.length = m := by have := hs.newsLen; rw [cellsOf_length] at this; omega
  have hL : (cellsOf l).length = n := by rw [cellsOf_length]; exact ll
  have rb : ∀ c ∈ l ++ news, c < 256 := fun c hc => (List.mem_append.1 hc).elim (rd.bytes c) (hn c)
  have oldc : ∀ j, j < n → w.cell? ⟨b, j, none⟩ = some (.int .u8 ((l.getD j 0 : Nat) : Int)) := fun j hj => by
    obtain ⟨b', off, e, hc⟩ := rd.cells (by omega)
    simp at e
    obtain ⟨rfl, rfl⟩ := e
    have := hc j hj
    rw [Nat.zero_add] at this
    exact this
  by_cases hroom : n + m ≤ cap
  · have hs' : Src Tryz.prog i.size 32 x m (cellsOf news) w := by rw [hsize]; exact hs
    have hc1 : ∀ j, j < (cellsOf news).length → (w.cell? ⟨b, 0 + n * i.size + j, none⟩).isSome = true := fun j hj => by
      rw [hsize, cell_of_row w b _ C 5 fr hb]
      rw [cellsOf_length] at hj
      have : n + j < C.size := by omega
      simp [this]
    have hf1 : ∀ j, j < (cellsOf news).length → w.frozen? ⟨b, 0 + n * i.size + j, none⟩ = false := fun j hj => by
      rw [hsize]
      rw [cellsOf_length] at hj
      exact frozen_mark hb (by omega)
    have hr := run_append_room_src (P := Tryz.prog) w 32 32 ty 5 i Tryz.underlying32 hi b 0 n cap x m (cellsOf news) hs' hroom hc1 hf1
    rw [hsize] at hr hc1
    simp only [Nat.zero_add, Nat.mul_one] at hr hc1
    refine ⟨_, _, _, hr, ⟨by rw [List.length_append]; omega, hroom, rd.small, rb, fun _ => ⟨b, 0, rfl, fun k hk => ?_⟩⟩, ⟨World.os_setCells _ _ _ _, ?_, World.output_setCells _ _ _ _, by simp, fun k hk hne => World.heap_setCells_other _ _ _ _ hk hne⟩⟩
    · show (w.setCells b n (cellsOf news)).cell? ⟨b, 0 + k, none⟩ = _
      rw [Nat.zero_add k]
      by_cases hkn : k < n
      · rw [World.cell?_setCells_out b _ _ _ _ (fun _ _ => .inl (show k < n by omega)), oldc k hkn, List.getD_eq_getElem?_getD, List.getD_eq_getElem?_getD, List.getElem?_append_left (by omega)]
      · have := World.cell?_setCells_in b (cellsOf news) n w hc1 (k - n) (by rw [cellsOf_length]; omega)
        rw [show n + (k - n) = k by omega] at this
        rw [this, List.getD_eq_getElem?_getD, List.getElem?_append_right (by omega), ll, ← List.getD_eq_getElem?_getD]
        have e := cellsOf_get news (k - n) (by omega)
        rw [List.getElem?_eq_getElem (by rw [cellsOf_length]; omega)] at e
        exact e
    · exact tape_setCells b _ _ w
  · have holds : ∀ j u, (cellsOf l)[j]? = some u → w.drew.cell? ((⟨b, 0, none⟩ : Addr).add j) = some u := fun j u hj => by
      have hjl : j < n := by have := (List.getElem?_eq_some_iff.1 hj).1; omega
      rw [Addr.add_none, Nat.zero_add]
      have e := cellsOf_get l j (by omega)
      rw [hj] at e
      rw [e]
      exact oldc j hjl
    have hs' : Src Tryz.prog i.size 32 x m (cellsOf news) w := by rw [hsize]; exact hs
    have hr := run_append_grow_src (P := Tryz.prog) w 32 32 ty 5 i _ Tryz.underlying32 hi hz (some ⟨b, 0, none⟩) n cap (cellsOf l) (run_firstCells_some w.drew i.size n ⟨b, 0, none⟩ n cap (cellsOf l) (by rw [hsize]; simpa using hL) holds) x m (cellsOf news) hs' (by omega) (by omega) (growslice_fits_wide (by omega) (by rw [hby]; omega))
    refine ⟨_, _, _, hr, ⟨by rw [List.length_append]; omega, grownCap_ge w _ _ _, grownCap_le_maxLen w _ _ _ (by unfold maxLen; omega), rb, fun _ => ⟨w.heap.size, 0, rfl, fun k hk => ?_⟩⟩, ((Kept.refl _ w).drew).alloc _⟩
    rw [cell_of_row _ w.heap.size (0 + k) _ 5 _ (heap_alloc_new w.drew _), Nat.zero_add]
    have e := cellsOf_get (l ++ news) k (by rw [List.length_append]; omega)
    rw [cellsOf_append] at e
    have hk2 : k < (cellsOf l ++ cellsOf news).toArray.size := by simp [cellsOf_length]; omega
    rw [Array.getElem?_append_left hk2, List.getElem?_toArray]
    exact e
theorem bytesRow_size (s : ByteArray) (cap : Nat) (h : s.size ≤ cap) : (bytesRow s cap).size = cap := by
  unfold bytesRow
  rw [Array.size_append, Array.size_map, Array.size_replicate]
  show s.size + _ = _
  omega
/-- '[]byte(s)'. -/
theorem convert_bytes (s : ByteArray) (w : World) (hs : s.size ≤ 140737488355328) : ∃ c w', (convert 9 32 (.string s)).run Tryz.prog w = .ok (.slice (some ⟨w.heap.size, 0, none⟩) s.size c) w' ∧ Reads w' (some ⟨w.heap.size, 0, none⟩) s.size c (sb s) ∧ Kept (fun _ => False) w w' ∧ ∃ C fr, w'.heap[w.heap.size]? = some (.cells C 5 fr) ∧ C.size = c ∧ c ≤ fr.1 := by
  have hge := grownCap_ge w s.size 0 5
  refine ⟨_, _, run_bytes_of_string (P := Tryz.prog) w 9 32 5 s Tryz.underlying9 Tryz.underlying32 Tryz.underlying5, ⟨sb_length s, hge, grownCap_le_maxLen w _ _ _ (by unfold maxLen; omega), sb_bytes s, fun _ => ⟨w.heap.size, 0, rfl, fun i hi => ?_⟩⟩, ((Kept.refl _ w).drew).alloc _, _, _, heap_alloc_new w.drew _, bytesRow_size s _ hge, Nat.le_of_eq (bytesRow_size s _ hge).symm⟩
  rw [cell_of_row _ w.heap.size (0 + i) _ 5 _ (heap_alloc_new w.drew _), Nat.zero_add]
  have hi3 : i < (s.data.map (fun b => Value.int .u8 b.toNat)).size := by simpa using hi
  unfold bytesRow
  rw [Array.getElem?_append_left hi3]
  have hi4 : i < s.data.size := hi
  simp [sb, List.getD_eq_getElem?_getD]
  rw [Array.getElem?_eq_getElem hi4]
  exact ⟨_, rfl, rfl⟩
/-- append, where its run is known. -/
theorem wpList_append_run {ops : Array Oper} {rest : List Oper} {o : Oper} {a : Act} {Q : Exit → Act → World → Prop} (w : World) (hgd : o.guard = none) (s x : Operand) (t tx : TypeId)
    (ho : o.op = .call { callee := .builtin .append, args := #[s, x], argTypes := #[t, tx] }) (vs vx v' : Value) (w' : World) (hs : a.eval s = vs) (hx : a.eval x = vx)
    (hr : (Builtin.append_ #[t, tx] o.type #[vs, vx]).run Tryz.prog w = .ok v' w') (h : wpList Tryz.prog ops Q rest (a.put o.dst v') w') : wpList Tryz.prog ops Q (o :: rest) a w := by
  refine wpList_plain hgd fun K hK => ?_
  unfold Oper.wp execOp
  simp only [ho, resolve, invoke, builtin, Sem.run_bind, Sem.run_pure, Result.andThen_ok, List.map_toArray, List.map_cons, List.map_nil, hs, hx, hr]
  exact hK _ _ h
end Go.Proofs.YtojepeefphbekabGreat

namespace Go.Proofs.YtojepeefphbekabGreat
open Go.RowKit

theorem Kept.set1 {X : Nat} {a b : World} (h : Kept (fun k => k = X) a b) (i : Nat) (u : Value) : Kept (fun k => k = X) a (b.setCell ⟨X, i, none⟩ u) := h.setCell (p := ⟨X, i, none⟩) (fun _ => rfl) u
theorem key3_size (k : Int) : (key3 k).size ≤ 2 := by
  unfold key3
  split
  · decide
  · split
    · decide
    · decide
theorem Tryz.info36 : (Tryz.prog.info? 36).map (·.size) = some 7 := by kernel_rfl
theorem results_upd {fn : Func} {p : Tmp} (h : fn.results = #[.cell p 36]) (tmps : Array Value) (w : World) (b : Nat) (cs : Array Value) (hz : cs.size = 7) (hp : tmps.getD p undef = .pointer (some ⟨b, 0, none⟩)) (hb : w.heap[b]? = some (.cells cs 36 (0, 0))) : (results fn tmps).run Tryz.prog w = .ok (.agg cs) w :=
  results_cell_row h tmps w b 36 _ (0, 0) _ hp hb Tryz.underlying36 rfl (by rw [Tryz.info36, hz])
theorem no_byte39 (i : Nat) (z : Int) (h : (#[.int .i64 0, .string ⟨#[]⟩, .int .i64 0, .int .i64 0, .bool false, .bool false, .slice none 0 0] : Array Value)[i]? = some (.int .u8 z)) : False := by
  match i with
  | 0 => simp at h
  | 1 => simp at h
  | 2 => simp at h
  | 3 => simp at h
  | 4 => simp at h
  | 5 => simp at h
  | 6 => simp at h
  | n + 7 => simp at h
end Go.Proofs.YtojepeefphbekabGreat

namespace Go.Proofs.YtojepeefphbekabGreat
open Go.RowKit

/-- The state of 'taken'. -/
structure TQ (w wr : World) (t : TK) (n A B : Nat) : Prop where
  tab : IsT wr n t
  dat : DatT wr t
  len : ∀ k r, t.R k = some r → r.len ≤ n
  delta : t.delta = 0
  kept : Kept (fun _ => False) w wr
  fresh : ∀ b, t.Uses b → w.heap.size ≤ b
  one : wr.heap[A]? = some (.cells #[.int .i64 1, .int .i64 1] 31 (0, 0))
  two : wr.heap[B]? = some (.cells #[.int .i64 2, .int .i64 1] 31 (0, 0))
  nf : ¬ t.Uses A ∧ ¬ t.Uses B
theorem TQ.k0 {w wr w' : World} {t : TK} {n A B : Nat} (h : TQ w wr t n A B) (K : Kept (fun _ => False) wr w') : TQ w w' t n A B :=
  ⟨h.tab.k0 K, h.dat.k0 K, h.len, h.delta, h.kept.and0 K, h.fresh, K.get h.one (fun z => z), K.get h.two (fun z => z), h.nf⟩
theorem TQ.ap {w wr w' : World} {t t' : TK} {n A B : Nat} {u : Upd} (h : TQ w wr t n A B) (p : Ap wr w' n t t' u) (i' : IsT w' (n + 1) t') : TQ w w' t' (n + 1) A B := by
  have sw := h.kept.size
  have lf := block_lt h.one
  have lt := block_lt h.two
  refine ⟨i', p.dat, p.len, p.delta.trans h.delta, h.kept.trans p.kept (fun j hj z => ?_), fun b hb => ?_, p.kept.get h.one h.nf.1, p.kept.get h.two h.nf.2, ⟨fun z => ?_, fun z => ?_⟩⟩
  · have := h.fresh j z
    omega
  · rcases p.near b hb with z | z
    · exact h.fresh b z
    · omega
  · rcases p.near _ z with q | q
    · exact h.nf.1 q
    · omega
  · rcases p.near _ z with q | q
    · exact h.nf.2 q
    · omega
theorem would_of {t : TK} {u : Upd} {a b : Bool} (h : u.may = true) (hl : lackF (TS t u.key) (TMp t u.key) u t.delta = (a, b)) : wouldV t u = (a || b, 0) := by
  unfold wouldV wouldF
  rw [if_pos h, hl]
def kk : ByteArray := ⟨#[29]⟩
/-- The row that is there. -/
theorem row_there {t : TK} {k : ByteArray} {g : Int × Int} {h : Hd} (e : TMp t k g = some h) : ∃ r, t.R k = some r := by
  cases hr : t.R k with
  | some r => exact ⟨r, rfl⟩
  | none => rw [TMp_no hr] at e; cases e
/-- Behind the first update. -/
def After1 (t : TK) : Prop := TS t kk = [] ∧ ∃ h, TMp t kk (1, 1) = some h ∧ (∀ g, g ≠ (1, 1) → TMp t kk g = none) ∧ h.has = true ∧ h.fin = false
def After2 (t : TK) : Prop := TS t kk = [(1, 1)] ∧ ∃ h, TMp t kk (1, 1) = some h ∧ (∀ g, g ≠ (1, 1) → TMp t kk g = none) ∧ h.has = true ∧ h.fin = true
def After3 (t : TK) : Prop := TS t kk = [(2, 1)] ∧ ∃ h, TMp t kk (2, 1) = some h ∧ (∀ g, g ≠ (2, 1) → TMp t kk g = none) ∧ h.has = false ∧ h.fin = true ∧ h.n = 0
theorem take1 {t : TK} (hd : t.delta = 0) (hr : t.R kk = none) (a : Option Addr) (c : Nat) : wouldV t ⟨1, kk, 1, 1, false, false, a, 1, c⟩ = (true, 0) ∧ ∀ w w' m t', Ap w w' m t t' ⟨1, kk, 1, 1, false, false, a, 1, c⟩ → After1 t' := by
  have hl : lackF (TS t kk) (TMp t kk) ⟨1, kk, 1, 1, false, false, a, 1, c⟩ t.delta = (true, false) := by
    rw [TS_no hr, TMp_no hr, hd]
    rfl
  have wv := would_of (t := t) (u := ⟨1, kk, 1, 1, false, false, a, 1, c⟩) rfl hl
  refine ⟨wv, fun w w' m t' p => ?_⟩
  obtain ⟨h2, q⟩ := p.yes (by rw [wv]; rfl)
  rw [hd] at q hl
  have q : App 0 (TS t kk) (TS t' kk) (TMp t kk) (TMp t' kk) 1 1 1 (lackF (TS t kk) (TMp t kk) ⟨1, kk, 1, 1, false, false, a, 1, c⟩ 0) h2 := q
  rw [hl, TS_no hr, TMp_no hr] at q
  obtain ⟨z1, z2, z3, z4, z5⟩ := tk1 q
  exact ⟨z1, h2, z2, z3, z4, z5⟩
theorem take2 {t : TK} (hd : t.delta = 0) (hr : After1 t) : wouldV t ⟨2, kk, 1, 1, false, false, none, 0, 0⟩ = (true, 0) ∧ ∀ w w' m t', Ap w w' m t t' ⟨2, kk, 1, 1, false, false, none, 0, 0⟩ → After2 t' := by
  obtain ⟨e1, h, e2, e3, e4, e5⟩ := hr
  have hl : lackF (TS t kk) (TMp t kk) ⟨2, kk, 1, 1, false, false, none, 0, 0⟩ t.delta = (false, true) := by
    rw [e1, hd]
    unfold lackF
    dsimp only
    rw [e2, if_neg (by decide)]
    show (_, true && !h.fin) = _
    rw [e5]
    rfl
  have wv := would_of (t := t) (u := ⟨2, kk, 1, 1, false, false, none, 0, 0⟩) rfl hl
  refine ⟨wv, fun w w' m t' p => ?_⟩
  obtain ⟨h2, q⟩ := p.yes (by rw [wv]; rfl)
  rw [hd] at q hl
  have q : App 0 (TS t kk) (TS t' kk) (TMp t kk) (TMp t' kk) 1 1 0 (lackF (TS t kk) (TMp t kk) ⟨2, kk, 1, 1, false, false, none, 0, 0⟩ 0) h2 := q
  rw [hl, e1] at q
  obtain ⟨z1, z2, z3, z4, z5⟩ := tk2 e2 e3 e4 q
  exact ⟨z1, h2, z2, z3, z4, z5⟩
theorem take3 {t : TK} (hd : t.delta = 0) (hr : After2 t) : wouldV t ⟨2, kk, 2, 1, false, false, none, 0, 0⟩ = (true, 0) ∧ ∀ w w' m t', Ap w w' m t t' ⟨2, kk, 2, 1, false, false, none, 0, 0⟩ → After3 t' := by
  obtain ⟨e1, h, e2, e3, e4, e5⟩ := hr
  have hl : lackF (TS t kk) (TMp t kk) ⟨2, kk, 2, 1, false, false, none, 0, 0⟩ t.delta = (false, true) := by
    rw [e1, hd]
    unfold lackF
    dsimp only
    rw [e3 (2, 1) (by decide), if_neg (by decide)]
    rfl
  have wv := would_of (t := t) (u := ⟨2, kk, 2, 1, false, false, none, 0, 0⟩) rfl hl
  refine ⟨wv, fun w w' m t' p => ?_⟩
  obtain ⟨h2, q⟩ := p.yes (by rw [wv]; rfl)
  rw [hd] at q hl
  have q : App 0 (TS t kk) (TS t' kk) (TMp t kk) (TMp t' kk) 2 1 0 (lackF (TS t kk) (TMp t kk) ⟨2, kk, 2, 1, false, false, none, 0, 0⟩ 0) h2 := q
  rw [hl, e1] at q
  obtain ⟨z1, z2, z3, z4, z5, z6⟩ := tk3 e3 q
  exact ⟨z1, h2, z2, z3, z4, z5, z6⟩
theorem top2 {w wr : World} {t : TK} {A B : Nat} (q : TQ w wr t 2 A B) (a : After2 t) : Calls Tryz.prog 13 #[.pointer (some ⟨t.tb, 0, none⟩), .string kk] wr fun o w' => o = .returned (.agg #[.int .i64 1, .int .i64 1]) ∧ Kept (fun _ => False) wr w' := by
  refine (tTop 2 t kk wr q.tab (by decide)).mono ?_
  rintro o w' ⟨x, y, rfl, e, K⟩
  rw [a.1] at e
  have e2 : floorT [((1 : Int), (1 : Int))] 0 = (1, 1) := by decide
  rw [e2] at e
  have ex : (1 : Int) = x := congrArg Prod.fst e
  have ey : (1 : Int) = y := congrArg Prod.snd e
  rw [← ex, ← ey]
  exact ⟨rfl, K⟩
theorem floor3 {w wr : World} {t : TK} {A B : Nat} (q : TQ w wr t 3 A B) (a : After3 t) : Calls Tryz.prog 15 #[.pointer (some ⟨t.tb, 0, none⟩), .string kk] wr fun o w' => o = .returned (.agg #[.int .i64 2, .int .i64 1]) ∧ Kept (fun _ => False) wr w' := by
  refine (tFloor 3 t kk wr q.tab (by decide)).mono ?_
  rintro o w' ⟨x, y, rfl, e, K⟩
  rw [a.1, q.delta] at e
  have e2 : floorT [((2 : Int), (1 : Int))] 0 = (2, 1) := by decide
  rw [e2] at e
  have ex : (2 : Int) = x := congrArg Prod.fst e
  have ey : (1 : Int) = y := congrArg Prod.snd e
  rw [← ex, ← ey]
  exact ⟨rfl, K⟩
/-- The one entry behind the third update. -/
theorem ents3 {w wr : World} {t : TK} {A B : Nat} (q : TQ w wr t 3 A B) (a : After3 t) : Calls Tryz.prog 18 #[.pointer (some ⟨t.tb, 0, none⟩), .string kk] wr fun o w' => ∃ g cp a1 c1, o = .returned (.slice (some ⟨g, 0, none⟩) 1 cp) ∧ (w'.cell? ⟨g, 0, none⟩ = some (.int .i64 2) ∧ w'.cell? ⟨g, 1, none⟩ = some (.int .i64 1) ∧ w'.cell? ⟨g, 2, none⟩ = some (.bool true) ∧ w'.cell? ⟨g, 3, none⟩ = some (.bool false) ∧ w'.cell? ⟨g, 4, none⟩ = some (.slice a1 0 c1)) ∧ Kept (fun _ => False) wr w' := by
  obtain ⟨e1, h, e2, e3, e4, e5, e6⟩ := a
  obtain ⟨dat, hdat⟩ : ∃ dat, ∀ r, t.R kk = some r → DataAt wr r.M dat := by
    cases hr : t.R kk with
    | none => exact ⟨fun _ => [], fun r h => by cases h⟩
    | some r0 =>
      obtain ⟨dat, hd⟩ := Classical.axiomOfChoice (r := fun (g : Int × Int) (l : List Nat) => ∀ h, r0.M g = some h → Reads wr h.a h.n h.c l ∧ h.n ≤ 140737488355328) (fun g => by
        cases hm : r0.M g with
        | none => exact ⟨[], fun h z => by cases z⟩
        | some h0 =>
          obtain ⟨⟨l, hl⟩, h2, _⟩ := q.dat kk r0 hr g h0 hm
          exact ⟨l, fun h z => by cases z; exact ⟨hl, h2⟩⟩)
      exact ⟨dat, fun r h => by cases h; exact fun g h hm => hd g h hm⟩
  refine (tEntries 3 t kk dat wr q.tab (by decide) hdat (by omega)).mono ?_
  rintro o w' ⟨p, cp, L, rfl, g, _, ow, K, _⟩
  obtain ⟨a1, c1, rfl⟩ := one_ent g e2 e3
  rw [e4, e5, e6] at ow
  rcases ow.2 with ⟨_, z⟩ | ⟨b, cap, cur, z, _⟩
  · cases z
  · have z : Value.slice p 1 cp = .slice (some ⟨b, 0, none⟩) 1 cap := z
    injection z with z1 _ z3
    subst z1
    subst z3
    have hc := ow.cells (g := b) rfl
    have cell : ∀ j v, ([.int .i64 2, .int .i64 1, .bool true, .bool false, .slice a1 0 c1] : List Value)[j]? = some v → w'.cell? ⟨b, j, none⟩ = some v := fun j v hj => by
      have := hc j v hj
      rw [Addr.add_none, Nat.zero_add] at this
      exact this
    exact ⟨b, cp, a1, c1, rfl, ⟨cell 0 _ rfl, cell 1 _ rfl, cell 2 _ rfl, cell 3 _ rfl, cell 4 _ rfl⟩, K⟩
end Go.Proofs.YtojepeefphbekabGreat
