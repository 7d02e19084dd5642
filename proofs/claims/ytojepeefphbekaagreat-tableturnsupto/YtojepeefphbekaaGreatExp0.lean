import Derived.Test.YtojepeefphbekaaGreatDone
import Derived.Test.YtojepeefphbekaaGreatDataT
namespace Go.Proofs.YtojepeefphbekaaGreat
open Go.RowKit 

/-- The sixty tags. -/
def tagN (n : Nat) : Int × Int := (((n / 5 + 1 : Nat) : Int), ((n % 5 + 1 : Nat) : Int))
def evN (l : List Mv) (key : ByteArray) (n : Nat) : Ev := (tagN n, hF l key (tagN n), hH l key (tagN n), if hH l key (tagN n) = true then fragD key (tagN n) else [])
/-- The entries of the k highest tags, from the highest down. -/
def desc (l : List Mv) (key : ByteArray) : Nat → List Ev
  | 0 => []
  | k + 1 => desc l key k ++ (if (hF l key (tagN (59 - k)) || hH l key (tagN (59 - k))) = true then [evN l key (59 - k)] else [])
def fins (l : List Mv) (key : ByteArray) : Nat → Nat
  | 0 => 0
  | k + 1 => fins l key k + (if hF l key (tagN (59 - k)) = true then 1 else 0)
theorem desc_len (l : List Mv) (key : ByteArray) (k : Nat) : (desc l key k).length ≤ k := by
  induction k with
  | zero => exact Nat.le_refl _
  | succ k ih =>
    unfold desc
    rw [List.length_append]
    split <;> simp <;> omega
theorem fins_le (l : List Mv) (key : ByteArray) (k : Nat) : fins l key k ≤ k := by
  induction k with
  | zero => exact Nat.le_refl _
  | succ k ih =>
    unfold fins
    split <;> omega
/-- The entry that is made. -/
structure EMk (w wr : World) (key : ByteArray) (X Y TB EB : Nat) (f h : Bool) (a : Option Addr) (n c : Nat) : Prop where
  tag : wr.heap[TB]? = some (.cells #[.int .i64 (X : Int), .int .i64 (Y : Int)] 37 (0, 0))
  ent : wr.heap[EB]? = some (.cells #[.int .i64 (X : Int), .int .i64 (Y : Int), .bool f, .bool h, .slice a n c] 40 (0, 0))
  dat : Reads wr a n c (if h = true then fragD key ((X : Int), (Y : Int)) else [])
  blk : ∀ k, blockOf a = some k → ∃ cs fr, wr.heap[k]? = some (.cells cs 5 fr)
  kept : Kept (fun _ => False) w wr
  lo : w.heap.size ≤ EB
theorem EMk.k0 {w wr w' : World} {key : ByteArray} {X Y TB EB : Nat} {f h : Bool} {a : Option Addr} {n c : Nat} (e : EMk w wr key X Y TB EB f h a n c) (K : Kept (fun _ => False) wr w') : EMk w w' key X Y TB EB f h a n c :=
  ⟨K.get e.tag (fun z => z), K.get e.ent (fun z => z), e.dat.kept K (fun _ _ z => z), fun k hk => by obtain ⟨cs, fr, hc⟩ := e.blk k hk; exact ⟨cs, fr, K.get hc (fun z => z)⟩, e.kept.and0 K, e.lo⟩
theorem EMk.ne {w wr : World} {key : ByteArray} {X Y TB EB : Nat} {f h : Bool} {a : Option Addr} {n c : Nat} (e : EMk w wr key X Y TB EB f h a n c) : TB ≠ EB := by
  intro z
  have h1 := e.tag
  rw [z, e.ent] at h1
  have := Option.some.inj h1
  injection this with _ e2
  exact absurd e2 (by decide)
theorem EMk.nb {w wr : World} {key : ByteArray} {X Y TB EB : Nat} {f h : Bool} {a : Option Addr} {n c : Nat} (e : EMk w wr key X Y TB EB f h a n c) {k : Nat} {cs : Array Value} {fr : Nat × Nat} (hk : wr.heap[k]? = some (.cells cs 5 fr)) : ¬ k = EB := by
  intro z
  rw [z, e.ent] at hk
  have := Option.some.inj hk
  injection this with _ e2
  exact absurd e2 (by decide)
theorem EMk.fin {w wr : World} {key : ByteArray} {X Y TB EB : Nat} {f h : Bool} {a : Option Addr} {n c : Nat} (e : EMk w wr key X Y TB EB f h a n c) (f' : Bool) : EMk w (wr.setCell ⟨EB, 2, none⟩ (.bool f')) key X Y TB EB f' h a n c := by
  have K : Kept (fun k => k = EB) wr (wr.setCell ⟨EB, 2, none⟩ (.bool f')) := (Kept.refl (fun k => k = EB) wr).setCell (p := ⟨EB, 2, none⟩) (fun _ => rfl) _
  refine ⟨K.get e.tag e.ne, set_heap e.ent 2 _, e.dat.kept K (fun p hp => ?_), fun k hk => ?_, e.kept.trans K (fun j hj z => ?_), e.lo⟩
  · obtain ⟨cs, fr, hc⟩ := e.blk p.block (by rw [hp]; rfl)
    exact e.nb hc
  · obtain ⟨cs, fr, hc⟩ := e.blk k hk
    exact ⟨cs, fr, K.get hc (e.nb hc)⟩
  · have z : j = EB := z
    have := e.lo
    omega
theorem EMk.data {w wr w2 : World} {key : ByteArray} {X Y TB EB : Nat} {f h : Bool} {a : Option Addr} {n c : Nat} (e : EMk w wr key X Y TB EB f h a n c) (K : Kept (fun _ => False) (wr.setCell ⟨EB, 3, none⟩ (.bool true)) w2) {p : Option Addr} {m cp : Nat} (rd : Reads w2 p m cp (fragD key ((X : Int), (Y : Int)))) (tb : ∀ k, blockOf p = some k → ∃ cs fr, w2.heap[k]? = some (.cells cs 5 fr)) : EMk w (w2.setCell ⟨EB, 4, none⟩ (.slice p m cp)) key X Y TB EB f true p m cp := by
  have K1 : Kept (fun k => k = EB) wr (wr.setCell ⟨EB, 3, none⟩ (.bool true)) := (Kept.refl (fun k => k = EB) wr).setCell (p := ⟨EB, 3, none⟩) (fun _ => rfl) _
  have K2 : Kept (fun k => k = EB) w2 (w2.setCell ⟨EB, 4, none⟩ (.slice p m cp)) := (Kept.refl (fun k => k = EB) w2).setCell (p := ⟨EB, 4, none⟩) (fun _ => rfl) _
  have e1 : (wr.setCell ⟨EB, 3, none⟩ (.bool true)).heap[EB]? = some (.cells #[.int .i64 (X : Int), .int .i64 (Y : Int), .bool f, .bool true, .slice a n c] 40 (0, 0)) := set_heap e.ent 3 _
  have e2 := K.get e1 (fun z => z)
  have nb : ∀ k cs fr, w2.heap[k]? = some (.cells cs 5 fr) → ¬ k = EB := by
    intro k cs fr hk z
    rw [z, e2] at hk
    have := Option.some.inj hk
    injection this with _ e2
    exact absurd e2 (by decide)
  refine ⟨K2.get (K.get (K1.get e.tag e.ne) (fun z => z)) e.ne, set_heap e2 4 _, ?_, fun k hk => ?_, ((e.kept.trans K1 (fun j hj z => ?_)).and0 K).trans K2 (fun j hj z => ?_), e.lo⟩
  · rw [if_pos rfl]
    refine rd.kept K2 (fun q hq => ?_)
    obtain ⟨cs, fr, hc⟩ := tb q.block (by rw [hq]; rfl)
    exact nb _ _ _ hc
  · obtain ⟨cs, fr, hc⟩ := tb k hk
    exact ⟨cs, fr, K2.get hc (nb _ _ _ hc)⟩
  · have z : j = EB := z
    have := e.lo
    omega
  · have z : j = EB := z
    have := e.lo
    omega
/-- The list that is made. -/
structure TopS (w wr : World) (p : Option Addr) (n c : Nat) (es : List Ev) : Prop where
  len : es.length = n
  row : ∃ L : List Et, wr.ownsRow w.heap.size 40 5 (.slice p n c) n (ecells L) ∧ Along (EvRd wr) L es
  kept : Kept (fun _ => False) w wr
theorem TopS.k0 {w wr w' : World} {p : Option Addr} {n c : Nat} {es : List Ev} (h : TopS w wr p n c es) (K : Kept (fun _ => False) wr w') : TopS w w' p n c es := by
  obtain ⟨L, ow, al⟩ := h.row
  exact ⟨h.len, ⟨L, K.owns ow (fun _ _ z => z), al.imp (fun a b q => q.off K (fun _ _ _ _ z => z))⟩, h.kept.and0 K⟩
theorem TopS.nil (w : World) : TopS w w none 0 0 [] := ⟨rfl, ⟨[], ⟨rfl, .inl ⟨rfl, rfl⟩⟩, Along.nil _⟩, Kept.refl _ _⟩
theorem top_more {w wi w9 : World} {p p9 : Option Addr} {n c c9 : Nat} {es : List Ev} {L : List Et} {e : Et} {v : Ev} {o : Obj} (ow : wi.ownsRow w.heap.size 40 5 (.slice p n c) n (ecells L)) (al : Along (EvRd wi) L es) (ln : es.length = n) (kw : Kept (fun _ => False) w wi) (ev : EvRd wi e v)
    (ho : w9.ownsRow w.heap.size 40 5 (.slice p9 (n + 1) c9) (n + 1) (ecells L ++ encE e)) (hg : (wi.alloc o).grownBy w9 (Value.slice p n c).ownBlock) : TopS w w9 p9 (n + 1) c9 (es ++ [v]) := by
  have KG : Kept (fun k => blockOf p = some k) wi w9 := ((Kept.refl (fun k => blockOf p = some k) wi).alloc _).grown hg (fun k _ z => by rw [blockOf_own] at z; exact z)
  have ng : ∀ k cs fr, wi.heap[k]? = some (.cells cs 5 fr) → ¬ blockOf p = some k := fun k cs fr hc z => by
    obtain ⟨c2, h2⟩ := own_type ow k z
    rw [h2] at hc
    simp at hc
  refine ⟨by rw [List.length_append, ln]; rfl, ⟨L ++ [e], ?_, (al.imp (fun a b q => q.off KG ng)).snoc (ev.off KG ng)⟩, kw.trans KG (fun j hj z => ?_)⟩
  · rw [ecells_append]
    have e0 : ecells [e] = encE e := by simp [ecells]
    rw [e0]
    exact ho
  · have := (own_lt ow j z).1
    omega
theorem TopS.rd {w wr : World} {p : Option Addr} {n c : Nat} {es : List Ev} (h : TopS w wr p n c es) : EntRd wr p n c es := by
  obtain ⟨L, ow, al⟩ := h.row
  exact ⟨h.len, L, owns_mono ow (Nat.zero_le _), al⟩
theorem EMk.ev {w wr : World} {key : ByteArray} {X Y TB EB : Nat} {f h : Bool} {a : Option Addr} {n c : Nat} (e : EMk w wr key X Y TB EB f h a n c) : EvRd wr (((X : Int), (Y : Int)), f, h, a, n, c) (((X : Int), (Y : Int)), f, h, if h = true then fragD key ((X : Int), (Y : Int)) else []) := ⟨rfl, rfl, rfl, e.dat, e.blk⟩
/-- One move more. -/
theorem h_skip {l : List Mv} {j : Nat} {m : Mv} {key : ByteArray} {t : Int × Int} (e : l.take j ++ [m] = l.take (j + 1)) (hn : ¬ (key3 m.key = key ∧ m.tag = t)) : hF (l.take (j + 1)) key t = hF (l.take j) key t ∧ hH (l.take (j + 1)) key t = hH (l.take j) key t := by
  rw [← e, hF_snoc, hH_snoc]
  by_cases hk : key3 m.key = key
  · rw [if_pos hk, if_pos hk]
    have : t ≠ m.tag := fun z => hn ⟨hk, z.symm⟩
    exact ⟨more_ne _ _ this, more_ne _ _ this⟩
  · rw [if_neg hk, if_neg hk]
    exact ⟨rfl, rfl⟩
theorem h_take {l : List Mv} {j : Nat} {m : Mv} {key : ByteArray} {t : Int × Int} (e : l.take j ++ [m] = l.take (j + 1)) (hk : key3 m.key = key) (ht : m.tag = t) : hF (l.take (j + 1)) key t = (hF (l.take j) key t || m.fin) ∧ hH (l.take (j + 1)) key t = (hH (l.take j) key t || m.brings) := by
  rw [← e, hF_snoc, hH_snoc, if_pos hk, if_pos hk, ← ht]
  exact ⟨more_at _ _ _, more_at _ _ _⟩
end Go.Proofs.YtojepeefphbekaaGreat
