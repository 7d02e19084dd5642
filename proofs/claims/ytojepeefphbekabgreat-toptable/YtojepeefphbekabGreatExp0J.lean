import Derived.Test.YtojepeefphbekabGreatTknJ
import Derived.Test.YtojepeefphbekabGreatDoneJ
namespace Go.Proofs.YtojepeefphbekabGreat
open Go.RowKit 

theorem typed_setCell {w : World} {b : Nat} {t : TypeId} (h : ∃ C fr, w.heap[b]? = some (.cells C t fr)) (i : Nat) (u : Value) : ∃ C fr, (w.setCell ⟨b, i, none⟩ u).heap[b]? = some (.cells C t fr) := by
  obtain ⟨C, fr, hb⟩ := h
  have hl : b < w.heap.size := block_lt hb
  refine ⟨C.setIfInBounds i u, fr, ?_⟩
  simp [World.setCell, Array.getElem?_modify, hb]
theorem typed_setCells (b : Nat) (t : TypeId) : ∀ (vs : List Value) (o : Nat) (w : World), (∃ C fr, w.heap[b]? = some (.cells C t fr)) → ∃ C fr, (w.setCells b o vs).heap[b]? = some (.cells C t fr)
  | [], _, _, h => h
  | v :: r, o, w, h => typed_setCells b t r (o + 1) (w.setCell ⟨b, o, none⟩ v) (typed_setCell h o v)
/-- append onto a row of bytes that lies whole, whatever mark is behind it. -/
theorem append_lieT (w : World) (b n cap : Nat) (l : List Nat) (C : Array Value) (fr : Nat × Nat) (x : Value) (m : Nat) (news : List Nat) (ty : TypeId) (hb : w.heap[b]? = some (.cells C 5 fr)) (hC : C.size = cap) (hfr : cap ≤ fr.1) (rd : Reads w (some ⟨b, 0, none⟩) n cap l) (hn : ∀ c ∈ news, c < 256) (hs : Src Tryz.prog 1 32 x m (cellsOf news) w) (hsm : n + m ≤ 1000000) : ∃ p c w', (Builtin.append_ #[32, 32] ty #[.slice (some ⟨b, 0, none⟩) n cap, x]).run Tryz.prog w = .ok (.slice p (n + m) c) w' ∧ Reads w' p (n + m) c (l ++ news) ∧ Kept (fun k => k = b) w w' ∧ ∀ k, blockOf p = some k → ∃ cs fr, w'.heap[k]? = some (.cells cs 5 fr) := by
  obtain ⟨i, hi, hz, hsize, hby⟩ := info_parts Tryz.info5
  have ll := rd.length
  have ln : news.length = m := by have := hs.newsLen; rw [cellsOf_length] at this; omega
  have hL : (cellsOf l).length = n := by rw [cellsOf_length]; exact ll
  have rb : ∀ c ∈ l ++ news, c < 256 := fun c hc => (List.mem_append.1 hc).elim (rd.bytes c) (hn c)
  have oldc : ∀ j, j < n → w.cell? ⟨b, j, none⟩ = some (.int .u8 ((l.getD j 0 : Nat) : Int)) := fun j hj => by
    obtain ⟨b', off, e, hc⟩ := rd.cells (by omega)
    simp at e
    obtain ⟨rfl, rfl⟩ := e
    have := hc j hj
    rw [Nat.zero_add] at this
    exact this
  by_cases hroom : n + m ≤ cap
  · have hs' : Src Tryz.prog i.size 32 x m (cellsOf news) w := by rw [hsize]; exact hs
    have hc1 : ∀ j, j < (cellsOf news).length → (w.cell? ⟨b, 0 + n * i.size + j, none⟩).isSome = true := fun j hj => by
      rw [hsize, cell_of_row w b _ C 5 fr hb]
      rw [cellsOf_length] at hj
      have : n + j < C.size := by omega
      simp [this]
    have hf1 : ∀ j, j < (cellsOf news).length → w.frozen? ⟨b, 0 + n * i.size + j, none⟩ = false := fun j hj => by
      rw [hsize]
      rw [cellsOf_length] at hj
      exact frozen_mark hb (by omega)
    have hr := run_append_room_src (P := Tryz.prog) w 32 32 ty 5 i Tryz.underlying32 hi b 0 n cap x m (cellsOf news) hs' hroom hc1 hf1
    rw [hsize] at hr hc1
    simp only [Nat.zero_add, Nat.mul_one] at hr hc1
    refine ⟨_, _, _, hr, ⟨by rw [List.length_append]; omega, hroom, rd.small, rb, fun _ => ⟨b, 0, rfl, fun k hk => ?_⟩⟩, ⟨World.os_setCells _ _ _ _, ?_, World.output_setCells _ _ _ _, by simp, fun k hk hne => World.heap_setCells_other _ _ _ _ hk hne⟩, fun k hk => ?_⟩
    · show (w.setCells b n (cellsOf news)).cell? ⟨b, 0 + k, none⟩ = _
      rw [Nat.zero_add k]
      by_cases hkn : k < n
      · rw [World.cell?_setCells_out b _ _ _ _ (fun _ _ => .inl (show k < n by omega)), oldc k hkn, List.getD_eq_getElem?_getD, List.getD_eq_getElem?_getD, List.getElem?_append_left (by omega)]
      · have := World.cell?_setCells_in b (cellsOf news) n w hc1 (k - n) (by rw [cellsOf_length]; omega)
        rw [show n + (k - n) = k by omega] at this
        rw [this, List.getD_eq_getElem?_getD, List.getElem?_append_right (by omega), ll, ← List.getD_eq_getElem?_getD]
        have e := cellsOf_get news (k - n) (by omega)
        rw [List.getElem?_eq_getElem (by rw [cellsOf_length]; omega)] at e
        exact e
    · exact tape_setCells b _ _ w
    · have hk : b = k := Option.some.inj hk
      subst hk
      exact typed_setCells b 5 _ _ w ⟨_, _, hb⟩
  · have holds : ∀ j u, (cellsOf l)[j]? = some u → w.drew.cell? ((⟨b, 0, none⟩ : Addr).add j) = some u := fun j u hj => by
      have hjl : j < n := by have := (List.getElem?_eq_some_iff.1 hj).1; omega
      rw [Addr.add_none, Nat.zero_add]
      have e := cellsOf_get l j (by omega)
      rw [hj] at e
      rw [e]
      exact oldc j hjl
    have hs' : Src Tryz.prog i.size 32 x m (cellsOf news) w := by rw [hsize]; exact hs
    have hr := run_append_grow_src (P := Tryz.prog) w 32 32 ty 5 i _ Tryz.underlying32 hi hz (some ⟨b, 0, none⟩) n cap (cellsOf l) (run_firstCells_some w.drew i.size n ⟨b, 0, none⟩ n cap (cellsOf l) (by rw [hsize]; simpa using hL) holds) x m (cellsOf news) hs' (by omega) (by omega) (growslice_fits_wide (by omega) (by rw [hby]; omega))
    refine ⟨_, _, _, hr, ⟨by rw [List.length_append]; omega, grownCap_ge w _ _ _, grownCap_le_maxLen w _ _ _ (by unfold maxLen; omega), rb, fun _ => ⟨w.heap.size, 0, rfl, fun k hk => ?_⟩⟩, ((Kept.refl _ w).drew).alloc _, fun k hk => (by
      have hk : w.heap.size = k := Option.some.inj hk
      subst hk
      exact ⟨_, _, heap_alloc_new w.drew _⟩)⟩
    rw [cell_of_row _ w.heap.size (0 + k) _ 5 _ (heap_alloc_new w.drew _), Nat.zero_add]
    have e := cellsOf_get (l ++ news) k (by rw [List.length_append]; omega)
    rw [cellsOf_append] at e
    have hk2 : k < (cellsOf l ++ cellsOf news).toArray.size := by simp [cellsOf_length]; omega
    rw [Array.getElem?_append_left hk2, List.getElem?_toArray]
    exact e
end Go.Proofs.YtojepeefphbekabGreat

namespace Go.Proofs.YtojepeefphbekabGreat
open Go.RowKit 

/-- The sixty tags. -/
def tagN (n : Nat) : Int × Int := (((n / 5 + 1 : Nat) : Int), ((n % 5 + 1 : Nat) : Int))
def fins (l : List Mv) (key : ByteArray) : Nat → Nat
  | 0 => 0
  | k + 1 => fins l key k + (if hF l key (tagN (59 - k)) = true then 1 else 0)
theorem fins_le (l : List Mv) (key : ByteArray) (k : Nat) : fins l key k ≤ k := by
  induction k with
  | zero => exact Nat.le_refl _
  | succ k ih =>
    unfold fins
    split <;> omega
/-- The entry that is made. -/
structure EMk (w wr : World) (key : ByteArray) (X Y TB EB : Nat) (f h : Bool) (a : Option Addr) (n c : Nat) : Prop where
  tag : wr.heap[TB]? = some (.cells #[.int .i64 (X : Int), .int .i64 (Y : Int)] 31 (0, 0))
  ent : wr.heap[EB]? = some (.cells #[.int .i64 (X : Int), .int .i64 (Y : Int), .bool f, .bool h, .slice a n c] 34 (0, 0))
  dat : Reads wr a n c (if h = true then fragD key ((X : Int), (Y : Int)) else [])
  blk : ∀ k, blockOf a = some k → ∃ cs fr, wr.heap[k]? = some (.cells cs 5 fr)
  kept : Kept (fun _ => False) w wr
  lo : w.heap.size ≤ EB
theorem EMk.k0 {w wr w' : World} {key : ByteArray} {X Y TB EB : Nat} {f h : Bool} {a : Option Addr} {n c : Nat} (e : EMk w wr key X Y TB EB f h a n c) (K : Kept (fun _ => False) wr w') : EMk w w' key X Y TB EB f h a n c :=
  ⟨K.get e.tag (fun z => z), K.get e.ent (fun z => z), e.dat.kept K (fun _ _ z => z), fun k hk => by obtain ⟨cs, fr, hc⟩ := e.blk k hk; exact ⟨cs, fr, K.get hc (fun z => z)⟩, e.kept.and0 K, e.lo⟩
theorem EMk.ne {w wr : World} {key : ByteArray} {X Y TB EB : Nat} {f h : Bool} {a : Option Addr} {n c : Nat} (e : EMk w wr key X Y TB EB f h a n c) : TB ≠ EB := by
  intro z
  have h1 := e.tag
  rw [z, e.ent] at h1
  have := Option.some.inj h1
  injection this with _ e2
  exact absurd e2 (by decide)
theorem EMk.nb {w wr : World} {key : ByteArray} {X Y TB EB : Nat} {f h : Bool} {a : Option Addr} {n c : Nat} (e : EMk w wr key X Y TB EB f h a n c) {k : Nat} {cs : Array Value} {fr : Nat × Nat} (hk : wr.heap[k]? = some (.cells cs 5 fr)) : ¬ k = EB := by
  intro z
  rw [z, e.ent] at hk
  have := Option.some.inj hk
  injection this with _ e2
  exact absurd e2 (by decide)
theorem EMk.fin {w wr : World} {key : ByteArray} {X Y TB EB : Nat} {f h : Bool} {a : Option Addr} {n c : Nat} (e : EMk w wr key X Y TB EB f h a n c) (f' : Bool) : EMk w (wr.setCell ⟨EB, 2, none⟩ (.bool f')) key X Y TB EB f' h a n c := by
  have K : Kept (fun k => k = EB) wr (wr.setCell ⟨EB, 2, none⟩ (.bool f')) := (Kept.refl (fun k => k = EB) wr).setCell (p := ⟨EB, 2, none⟩) (fun _ => rfl) _
  refine ⟨K.get e.tag e.ne, set_heap e.ent 2 _, e.dat.kept K (fun p hp => ?_), fun k hk => ?_, e.kept.trans K (fun j hj z => ?_), e.lo⟩
  · obtain ⟨cs, fr, hc⟩ := e.blk p.block (by rw [hp]; rfl)
    exact e.nb hc
  · obtain ⟨cs, fr, hc⟩ := e.blk k hk
    exact ⟨cs, fr, K.get hc (e.nb hc)⟩
  · have z : j = EB := z
    have := e.lo
    omega
theorem EMk.data {w wr w2 : World} {key : ByteArray} {X Y TB EB : Nat} {f h : Bool} {a : Option Addr} {n c : Nat} (e : EMk w wr key X Y TB EB f h a n c) (K : Kept (fun _ => False) (wr.setCell ⟨EB, 3, none⟩ (.bool true)) w2) {p : Option Addr} {m cp : Nat} (rd : Reads w2 p m cp (fragD key ((X : Int), (Y : Int)))) (tb : ∀ k, blockOf p = some k → ∃ cs fr, w2.heap[k]? = some (.cells cs 5 fr)) : EMk w (w2.setCell ⟨EB, 4, none⟩ (.slice p m cp)) key X Y TB EB f true p m cp := by
  have K1 : Kept (fun k => k = EB) wr (wr.setCell ⟨EB, 3, none⟩ (.bool true)) := (Kept.refl (fun k => k = EB) wr).setCell (p := ⟨EB, 3, none⟩) (fun _ => rfl) _
  have K2 : Kept (fun k => k = EB) w2 (w2.setCell ⟨EB, 4, none⟩ (.slice p m cp)) := (Kept.refl (fun k => k = EB) w2).setCell (p := ⟨EB, 4, none⟩) (fun _ => rfl) _
  have e1 : (wr.setCell ⟨EB, 3, none⟩ (.bool true)).heap[EB]? = some (.cells #[.int .i64 (X : Int), .int .i64 (Y : Int), .bool f, .bool true, .slice a n c] 34 (0, 0)) := set_heap e.ent 3 _
  have e2 := K.get e1 (fun z => z)
  have nb : ∀ k cs fr, w2.heap[k]? = some (.cells cs 5 fr) → ¬ k = EB := by
    intro k cs fr hk z
    rw [z, e2] at hk
    have := Option.some.inj hk
    injection this with _ e2
    exact absurd e2 (by decide)
  refine ⟨K2.get (K.get (K1.get e.tag e.ne) (fun z => z)) e.ne, set_heap e2 4 _, ?_, fun k hk => ?_, ((e.kept.trans K1 (fun j hj z => ?_)).and0 K).trans K2 (fun j hj z => ?_), e.lo⟩
  · rw [if_pos rfl]
    refine rd.kept K2 (fun q hq => ?_)
    obtain ⟨cs, fr, hc⟩ := tb q.block (by rw [hq]; rfl)
    exact nb _ _ _ hc
  · obtain ⟨cs, fr, hc⟩ := tb k hk
    exact ⟨cs, fr, K2.get hc (nb _ _ _ hc)⟩
  · have z : j = EB := z
    have := e.lo
    omega
  · have z : j = EB := z
    have := e.lo
    omega
/-- The list that is made. -/
structure TopS (w wr : World) (p : Option Addr) (n c : Nat) (es : List Ev) : Prop where
  len : es.length = n
  row : ∃ L : List Et, wr.ownsRow w.heap.size 34 5 (.slice p n c) n (ecells L) ∧ Along (EvRd wr) L es
  kept : Kept (fun _ => False) w wr
theorem TopS.k0 {w wr w' : World} {p : Option Addr} {n c : Nat} {es : List Ev} (h : TopS w wr p n c es) (K : Kept (fun _ => False) wr w') : TopS w w' p n c es := by
  obtain ⟨L, ow, al⟩ := h.row
  exact ⟨h.len, ⟨L, K.owns ow (fun _ _ z => z), al.imp (fun a b q => q.off K (fun _ _ _ _ z => z))⟩, h.kept.and0 K⟩
theorem TopS.nil (w : World) : TopS w w none 0 0 [] := ⟨rfl, ⟨[], ⟨rfl, .inl ⟨rfl, rfl⟩⟩, Along.nil _⟩, Kept.refl _ _⟩
theorem top_more {w wi w9 : World} {p p9 : Option Addr} {n c c9 : Nat} {es : List Ev} {L : List Et} {e : Et} {v : Ev} {o : Obj} (ow : wi.ownsRow w.heap.size 34 5 (.slice p n c) n (ecells L)) (al : Along (EvRd wi) L es) (ln : es.length = n) (kw : Kept (fun _ => False) w wi) (ev : EvRd wi e v)
    (ho : w9.ownsRow w.heap.size 34 5 (.slice p9 (n + 1) c9) (n + 1) (ecells L ++ encE e)) (hg : (wi.alloc o).grownBy w9 (Value.slice p n c).ownBlock) : TopS w w9 p9 (n + 1) c9 (es ++ [v]) := by
  have KG : Kept (fun k => blockOf p = some k) wi w9 := ((Kept.refl (fun k => blockOf p = some k) wi).alloc _).grown hg (fun k _ z => by rw [blockOf_own] at z; exact z)
  have ng : ∀ k cs fr, wi.heap[k]? = some (.cells cs 5 fr) → ¬ blockOf p = some k := fun k cs fr hc z => by
    obtain ⟨c2, h2⟩ := own_type ow k z
    rw [h2] at hc
    simp at hc
  refine ⟨by rw [List.length_append, ln]; rfl, ⟨L ++ [e], ?_, (al.imp (fun a b q => q.off KG ng)).snoc (ev.off KG ng)⟩, kw.trans KG (fun j hj z => ?_)⟩
  · rw [ecells_append]
    have e0 : ecells [e] = encE e := by simp [ecells]
    rw [e0]
    exact ho
  · have := (own_lt ow j z).1
    omega
theorem TopS.rd {w wr : World} {p : Option Addr} {n c : Nat} {es : List Ev} (h : TopS w wr p n c es) : EntRd wr p n c es := by
  obtain ⟨L, ow, al⟩ := h.row
  exact ⟨h.len, L, owns_mono ow (Nat.zero_le _), al⟩
theorem EMk.ev {w wr : World} {key : ByteArray} {X Y TB EB : Nat} {f h : Bool} {a : Option Addr} {n c : Nat} (e : EMk w wr key X Y TB EB f h a n c) : EvRd wr (((X : Int), (Y : Int)), f, h, a, n, c) (((X : Int), (Y : Int)), f, h, if h = true then fragD key ((X : Int), (Y : Int)) else []) := ⟨rfl, rfl, rfl, e.dat, e.blk⟩
end Go.Proofs.YtojepeefphbekabGreat
