import Derived.Test.YtojepeefphbekabGreatInv
import Derived.Test.YtojepeefphbekabGreatChg
namespace Go.Proofs.YtojepeefphbekabGreat
open Go.RowKit

/-- A table whose keys are at most m, the entries of each at most n. -/
structure IsU (w : World) (m n : Nat) (t : TK) : Prop where
  blk : w.heap[t.tb]? = some (.cells #[.int .i64 t.delta, .map (some t.rb)] 54 (0, 0))
  rows : TM 9 (fun s : ByteArray => Lit.string s.data.toList) (fun s : ByteArray => s.size ≤ maxLen) RV.val RR w t.rb m t.rv
  row : ∀ k r, t.R k = some r → IsRow w n r
  apart : ∀ k k' r r', t.R k = some r → t.R k' = some r' → k ≠ k' → ∀ b, r.Uses b → ¬ r'.Uses b
  own : ∀ k r, t.R k = some r → ¬ r.Uses t.rb ∧ ¬ r.Uses t.tb
theorem IsT.u {w : World} {n : Nat} {t : TK} (h : IsT w n t) : IsU w n n t := ⟨h.blk, h.rows, h.row, h.apart, h.own⟩
theorem IsU.t {w : World} {n : Nat} {t : TK} (h : IsU w n n t) (hl : ∀ k r, t.R k = some r → (r.len + 1) * 16 ≤ 211106232532992) : IsT w n t := ⟨h.blk, h.rows, h.row, hl, h.apart, h.own⟩
theorem IsRow.mono {w : World} {n n' : Nat} {r : RK} (h : IsRow w n r) (hn : n ≤ n') : IsRow w n' r := ⟨h.tm.mono hn, h.st, h.up⟩
theorem IsU.mono {w : World} {m m' n n' : Nat} {t : TK} (h : IsU w m n t) (hm : m ≤ m') (hn : n ≤ n') : IsU w m' n' t := ⟨h.blk, h.rows.mono hm, fun k r hr => (h.row k r hr).mono hn, h.apart, h.own⟩
theorem IsU.k0 {w w' : World} {m n : Nat} {t : TK} (h : IsU w m n t) (K : Kept (fun _ => False) w w') : IsU w' m n t :=
  ⟨K.get h.blk (fun z => z), h.rows.kept K (fun z => z), fun k r hr => (h.row k r hr).k0 K, h.apart, h.own⟩
/-- All that a table may write into. -/
def TK.Uses (t : TK) (b : Nat) : Prop := b = t.rb ∨ ∃ k r, t.R k = some r ∧ r.Uses b
theorem IsU.lt {w : World} {m n : Nat} {t : TK} (h : IsU w m n t) {b : Nat} (hb : t.Uses b) : b < w.heap.size := by
  rcases hb with rfl | ⟨k, r, hr, hu⟩
  · exact h.rows.lt
  · exact (h.row k r hr).lt hu
theorem IsU.ntb {w : World} {m n : Nat} {t : TK} (h : IsU w m n t) : ¬ t.Uses t.tb := by
  rintro (e | ⟨k, r, hr, hu⟩)
  · obtain ⟨D, ⟨es, clock, hb, _⟩, _⟩ := h.rows
    rw [← e, h.blk] at hb
    cases hb
  · exact (h.own k r hr).2 hu
theorem IsU.off {U : Nat → Prop} {w w' : World} {m n : Nat} {t : TK} (h : IsU w m n t) (K : Kept U w w') (h0 : ¬ U t.tb) (h1 : ∀ b, t.Uses b → ¬ U b) : IsU w' m n t :=
  ⟨K.get h.blk h0, h.rows.kept K (h1 _ (.inl rfl)), fun k r hr => (h.row k r hr).off K (fun b hb => h1 b (.inr ⟨k, r, hr, hb⟩)), h.apart, h.own⟩
/-- No block of bytes is the table's own. -/
theorem IsU.nb {w : World} {m n : Nat} {t : TK} (h : IsU w m n t) {k : Nat} {cs : Array Value} (hk : w.heap[k]? = some (.cells cs 5 (0, 0))) : ¬ t.Uses k := by
  rintro (e | ⟨j, r, hr, hu⟩)
  · obtain ⟨D, ⟨es, clock, hb, _⟩, _⟩ := h.rows
    rw [← e, hk] at hb
    cases hb
  · exact (h.row j r hr).nb hk hu
/-- Another row for a key. -/
def TK.set (t : TK) (k : ByteArray) (r : RK) : TK := ⟨t.tb, t.rb, t.delta, fun j => if j = k then some r else t.R j⟩
theorem TK.set_at (t : TK) (k : ByteArray) (r : RK) : (t.set k r).R k = some r := if_pos rfl
theorem TK.set_ne (t : TK) (k : ByteArray) (r : RK) {j : ByteArray} (h : j ≠ k) : (t.set k r).R j = t.R j := if_neg h
theorem TK.set_of {t : TK} {k : ByteArray} {r : RK} {j : ByteArray} {r2 : RK} (h : (t.set k r).R j = some r2) : (j = k ∧ r2 = r) ∨ (j ≠ k ∧ t.R j = some r2) := by
  by_cases e : j = k
  · rw [e, TK.set_at] at h
    exact .inl ⟨e, (Option.some.inj h).symm⟩
  · rw [TK.set_ne t k r e] at h
    exact .inr ⟨e, h⟩
theorem IsU.chg {w w' : World} {m n : Nat} {t : TK} {k : ByteArray} {r r' : RK} (h : IsU w m n t) (hr : t.R k = some r) (i' : IsRow w' (n + 1) r') (mv : RMoved w w' r r') : IsU w' m (n + 1) (t.set k r') := by
  have o := h.own k r hr
  refine ⟨mv.kept.get h.blk o.2, ?_, fun j r2 hj => ?_, fun j j' r2 r2' hj hj' hn b hb hb' => ?_, fun j r2 hj => ?_⟩
  · have e : (t.set k r').rv = t.rv := by
      funext j
      unfold TK.rv
      by_cases e : j = k
      · rw [e, TK.set_at, hr]
        show some (RV.mk (some r'.mb) (some r'.sb)) = some (RV.mk (some r.mb) (some r.sb))
        rw [mv.mb, mv.sb]
      · rw [TK.set_ne t k r' e]
    rw [e]
    exact h.rows.kept mv.kept o.1
  · rcases TK.set_of hj with ⟨_, rfl⟩ | ⟨e, q⟩
    · exact i'
    · exact ((h.row j r2 q).off mv.kept (fun b hb hb2 => h.apart j k r2 r q hr e b hb hb2)).mono (by omega)
  · have far : ∀ i ri, i ≠ k → t.R i = some ri → ri.Uses b → ¬ r'.Uses b := by
      intro i ri e q hb hb'
      rcases mv.near b hb' with z | z
      · exact h.apart i k ri r q hr e b hb z
      · have := (h.row i ri q).lt hb
        omega
    rcases TK.set_of hj with ⟨e1, rfl⟩ | ⟨e1, q1⟩
    · rcases TK.set_of hj' with ⟨e2, rfl⟩ | ⟨e2, q2⟩
      · exact hn (e1.trans e2.symm)
      · exact far j' r2' e2 q2 hb' hb
    · rcases TK.set_of hj' with ⟨e2, rfl⟩ | ⟨e2, q2⟩
      · exact far j r2 e1 q1 hb hb'
      · exact h.apart j j' r2 r2' q1 q2 hn b hb hb'
  · rcases TK.set_of hj with ⟨_, rfl⟩ | ⟨e, q⟩
    · have l1 : t.rb < w.heap.size := h.rows.lt
      have l2 : t.tb < w.heap.size := block_lt h.blk
      refine ⟨fun z => ?_, fun z => ?_⟩
      · rcases mv.near _ z with q | q
        · exact o.1 q
        · have q : w.heap.size ≤ t.rb := q
          omega
      · rcases mv.near _ z with q | q
        · exact o.2 q
        · have q : w.heap.size ≤ t.tb := q
          omega
    · exact h.own j r2 q
theorem IsU.new {w w1 w2 : World} {m n : Nat} {t : TK} {k : ByteArray} {r : RK} (h : IsU w m n t) (i1 : IsRow w1 0 r) (fr : ∀ b, r.Uses b → w.heap.size ≤ b) (K1 : Kept (fun _ => False) w w1)
    (tm : TM 9 (fun s : ByteArray => Lit.string s.data.toList) (fun s : ByteArray => s.size ≤ maxLen) RV.val RR w2 t.rb (m + 1) (upd t.rv k ⟨some r.mb, some r.sb⟩)) (K2 : Kept (fun j => j = t.rb) w1 w2) : IsU w2 (m + 1) n (t.set k r) := by
  have l1 : t.rb < w.heap.size := h.rows.lt
  have l2 : t.tb < w.heap.size := block_lt h.blk
  have nt : t.tb ≠ t.rb := fun e => h.ntb (.inl e)
  refine ⟨K2.get (K1.get h.blk (fun z => z)) nt, ?_, fun j r2 hj => ?_, fun j j' r2 r2' hj hj' hn b hb hb' => ?_, fun j r2 hj => ?_⟩
  · have e : (t.set k r).rv = upd t.rv k ⟨some r.mb, some r.sb⟩ := by
      funext j
      unfold upd TK.rv
      by_cases e : j = k
      · rw [if_pos e, e, TK.set_at]
        rfl
      · rw [if_neg e, TK.set_ne t k r e]
    rw [e]
    exact tm
  · rcases TK.set_of hj with ⟨_, rfl⟩ | ⟨e, q⟩
    · exact (i1.off K2 (fun b hb z => by have := fr b hb; have z : b = t.rb := z; omega)).mono (Nat.zero_le _)
    · exact ((h.row j r2 q).k0 K1).off K2 (fun b hb z => (h.own j r2 q).1 (by have z : b = t.rb := z; rw [← z]; exact hb))
  · rcases TK.set_of hj with ⟨e1, rfl⟩ | ⟨e1, q1⟩
    · rcases TK.set_of hj' with ⟨e2, rfl⟩ | ⟨e2, q2⟩
      · exact hn (e1.trans e2.symm)
      · have := fr b hb
        have := (h.row j' r2' q2).lt hb'
        omega
    · rcases TK.set_of hj' with ⟨e2, rfl⟩ | ⟨e2, q2⟩
      · have := fr b hb'
        have := (h.row j r2 q1).lt hb
        omega
      · exact h.apart j j' r2 r2' q1 q2 hn b hb hb'
  · rcases TK.set_of hj with ⟨_, rfl⟩ | ⟨e, q⟩
    · refine ⟨fun z => ?_, fun z => ?_⟩
      · have q : w.heap.size ≤ t.rb := fr _ z
        omega
      · have q : w.heap.size ≤ t.tb := fr _ z
        omega
    · exact h.own j r2 q
/-- All fragments can be read, and lie in blocks of bytes. -/
def DatB (w : World) (M : Int × Int → Option Hd) : Prop := ∀ t h, M t = some h → (∃ l, Reads w h.a h.n h.c l) ∧ h.n ≤ 140737488355328 ∧ ∀ k, blockOf h.a = some k → ∃ cs, w.heap[k]? = some (.cells cs 5 (0, 0))
theorem DatB.ok {w : World} {M : Int × Int → Option Hd} (h : DatB w M) : DataOK w M := fun t k hk => by
  obtain ⟨⟨l, hl⟩, h2, _⟩ := h t k hk
  exact ⟨l, hl, h2⟩
theorem DatB.off {U : Nat → Prop} {w w' : World} {M : Int × Int → Option Hd} (h : DatB w M) (K : Kept U w w') (hu : ∀ k cs, w.heap[k]? = some (.cells cs 5 (0, 0)) → ¬ U k) : DatB w' M := fun t k hk => by
  obtain ⟨⟨l, hl⟩, h2, h3⟩ := h t k hk
  refine ⟨⟨l, hl.kept K (fun p hp => ?_)⟩, h2, fun b hb => ?_⟩
  · obtain ⟨cs, hcs⟩ := h3 p.block (by rw [hp]; rfl)
    exact hu _ _ hcs
  · obtain ⟨cs, hcs⟩ := h3 b hb
    exact ⟨cs, K.get hcs (hu _ _ hcs)⟩
def DatT (w : World) (t : TK) : Prop := ∀ k r, t.R k = some r → DatB w r.M
theorem DatT.off {U : Nat → Prop} {w w' : World} {t : TK} (h : DatT w t) (K : Kept U w w') (hu : ∀ k cs, w.heap[k]? = some (.cells cs 5 (0, 0)) → ¬ U k) : DatT w' t := fun k r hr => (h k r hr).off K hu
theorem DatT.k0 {w w' : World} {t : TK} (h : DatT w t) (K : Kept (fun _ => False) w w') : DatT w' t := h.off K (fun _ _ _ z => z)
/-- What is read twice is the same. -/
theorem Reads.one {w : World} {a : Option Addr} {n c : Nat} {l l' : List Nat} (h : Reads w a n c l) (h' : Reads w a n c l') : l = l' := by
  refine List.ext_getElem (h.length.trans h'.length.symm) (fun i h1 h2 => ?_)
  have hi : i < n := by rw [← h.length]; exact h1
  obtain ⟨b, off, e, hc⟩ := h.cells (by omega)
  obtain ⟨b', off', e', hc'⟩ := h'.cells (by omega)
  rw [e] at e'
  simp at e'
  obtain ⟨rfl, rfl⟩ := e'
  have q := (hc i hi).symm.trans (hc' i hi)
  simp at q
  rw [List.getElem?_eq_getElem h1, List.getElem?_eq_getElem h2] at q
  simp at q
  exact Int.ofNat.inj q
/-- Which bytes the fragments are. -/
def DatH (w : World) (M : Int × Int → Option Hd) (D : Int × Int → List Nat) : Prop := ∀ t h, M t = some h → Reads w h.a h.n h.c (if h.has = true then D t else [])
theorem DatH.off {U : Nat → Prop} {w w' : World} {M : Int × Int → Option Hd} {D : Int × Int → List Nat} (h : DatH w M D) (b : DatB w M) (K : Kept U w w') (hu : ∀ k cs, w.heap[k]? = some (.cells cs 5 (0, 0)) → ¬ U k) : DatH w' M D := fun t k hk => by
  refine (h t k hk).kept K (fun p hp => ?_)
  obtain ⟨cs, hcs⟩ := (b t k hk).2.2 p.block (by rw [hp]; rfl)
  exact hu _ _ hcs
def DatD (w : World) (t : TK) (D : ByteArray → Int × Int → List Nat) : Prop := ∀ k r, t.R k = some r → DatH w r.M (D k)
theorem DatD.off {U : Nat → Prop} {w w' : World} {t : TK} {D : ByteArray → Int × Int → List Nat} (h : DatD w t D) (b : DatT w t) (K : Kept U w w') (hu : ∀ k cs, w.heap[k]? = some (.cells cs 5 (0, 0)) → ¬ U k) : DatD w' t D := fun k r hr => (h k r hr).off (b k r hr) K hu
theorem DatD.k0 {w w' : World} {t : TK} {D : ByteArray → Int × Int → List Nat} (h : DatD w t D) (b : DatT w t) (K : Kept (fun _ => False) w w') : DatD w' t D := h.off b K (fun _ _ _ z => z)
theorem ChgR.app {w w' : World} {nn : Nat} {r : RK} {x y : Int} {n : Nat} {d : Int} {l : List Nat} {F : Bool × Bool} (h : ChgR w w' nn r x y n d l F) (hl : ∀ c ∈ l, c < 256) (hn : n ≤ 140737488355328) (i : IsRow w nn r) (db : DatB w r.M) : ∃ h2 r', App d r.S r'.S r.M r'.M x y n F h2 ∧ IsRow w' (nn + 1) r' ∧ RMoved w w' r r' ∧ r'.len ≤ r.len + 1 ∧ DatB w' r'.M ∧ (∀ D, DatH w r.M D → (F.1 = true → l = D (x, y)) → DatH w' r'.M D) ∧ ∀ t k, r'.M t = some k → ∀ b, blockOf k.a = some b → (∃ t0 k0, r.M t0 = some k0 ∧ blockOf k0.a = some b) ∨ w.heap.size ≤ b := by
  obtain ⟨h2, r', i', mv, e1, e2, e3, e4, e5⟩ := h
  have p : App d r.S r'.S r.M r'.M x y n F h2 := ⟨e1, e2, fun z => ⟨(e3 z).1, (e3 z).2.1⟩, fun z => ⟨(e4 z).1, (e4 z).2.2⟩, fun z => by
    obtain ⟨b, e, S1, fx, fy, q1, q2, _, q3⟩ := e5 z
    exact ⟨b, e, S1, fx, fy, q1, q2, q3⟩⟩
  refine ⟨h2, r', p, i', mv, ?_, ?_, fun D hD hl2 => ?_, fun t k hk b hb => ?_⟩
  · cases hf : F.2
    · rw [(e4 hf).2.1]
      omega
    · obtain ⟨_, _, _, _, _, _, _, q, _⟩ := e5 hf
      exact q
  · have dw : DatB w' r.M := db.off mv.kept (fun k cs hk => i.nb hk)
    intro t k hk
    rcases p.held t k hk with e | e
    · rw [e]
      cases hf : F.1
      · obtain ⟨_, q1, q2, q3⟩ := e2 hf
        rw [q1, q2, q3]
        cases hm : r.M (x, y) with
        | none => exact ⟨⟨[], Reads.nil w'⟩, by show (0 : Nat) ≤ _; omega, fun b hb => by cases hb⟩
        | some k' => exact dw _ _ hm
      · obtain ⟨_, q1, q2⟩ := e3 hf
        obtain ⟨a, cap, ev, rd, _⟩ := owns_reads q2 hl
        have ev := ev
        injection ev with z1 z2 z3
        refine ⟨⟨l, by rw [z1, z3]; exact rd⟩, by rw [q1]; exact hn, fun b hb => own_type q2 b hb⟩
    · exact dw t k e
  · have dw : DatH w' r.M D := hD.off db mv.kept (fun k cs hk => i.nb hk)
    intro t k hk
    have ow : ∀ t0, t0 = (x, y) → Reads w' h2.a h2.n h2.c (if h2.has = true then D t0 else []) := by
      intro t0 e0
      rw [e0]
      cases hf : F.1
      · obtain ⟨q0, q1, q2, q3⟩ := e2 hf
        rw [q0, q1, q2, q3]
        cases hm : r.M (x, y) with
        | none => exact Reads.nil w'
        | some k' => exact dw _ _ hm
      · obtain ⟨q0, q1, q2⟩ := e3 hf
        obtain ⟨a, cap, ev, rd, _⟩ := owns_reads q2 hl
        have ev := ev
        injection ev with z1 z2 z3
        rw [q0, if_pos rfl, ← hl2 hf, z1, z3]
        exact rd
    have at1 : upd r.M (x, y) h2 t = some k → Reads w' k.a k.n k.c (if k.has = true then D t else []) := by
      intro ht
      unfold upd at ht
      by_cases e : t = (x, y)
      · rw [if_pos e] at ht
        have := Option.some.inj ht
        subst this
        exact ow t e
      · rw [if_neg e] at ht
        exact dw t k ht
    cases hf : F.2
    · rw [(p.same hf).2] at hk
      exact at1 hk
    · obtain ⟨b, e, S1, fx, fy, _, _, ⟨_, _, eM⟩ | ⟨_, _, eM⟩⟩ := p.more hf
      · rw [eM] at hk
        exact at1 hk
      · rw [eM] at hk
        unfold throwM at hk
        split at hk
        · cases hk
        · exact at1 hk
  · rcases p.held t k hk with e | e
    · rw [e] at hb
      cases hf : F.1
      · obtain ⟨_, q1, _, _⟩ := e2 hf
        rw [q1] at hb
        cases hm : r.M (x, y) with
        | none => rw [hm] at hb; cases hb
        | some k' => rw [hm] at hb; exact .inl ⟨_, k', hm, hb⟩
      · obtain ⟨_, _, q2⟩ := e3 hf
        exact .inr (own_lt q2 b hb).1
    · exact .inl ⟨t, k, e, hb⟩
/-- What Apply makes of a table. -/
structure Ap (w w' : World) (m : Nat) (t t' : TK) (u : Upd) : Prop where
  tb : t'.tb = t.tb
  rb : t'.rb = t.rb
  delta : t'.delta = t.delta
  others : ∀ k, k ≠ u.key → t'.R k = t.R k
  kept : Kept t.Uses w w'
  near : ∀ k, t'.Uses k → t.Uses k ∨ w.heap.size ≤ k
  dat : DatT w' t'
  dd : ∀ D, DatD w t D → ((lackF (TS t u.key) (TMp t u.key) u t.delta).1 = true → Reads w u.a u.n u.c (D u.key (u.x, u.y))) → DatD w' t' D
  len : ∀ k r, t'.R k = some r → r.len ≤ m + 1
  fresh : ∀ k g h, TMp t' k g = some h → ∀ b, blockOf h.a = some b → (∃ k0 g0 h0, TMp t k0 g0 = some h0 ∧ blockOf h0.a = some b) ∨ w.heap.size ≤ b
  no : (wouldV t u).1 = false → t' = t
  yes : (wouldV t u).1 = true → ∃ h2, App t.delta (TS t u.key) (TS t' u.key) (TMp t u.key) (TMp t' u.key) u.x u.y u.n (lackF (TS t u.key) (TMp t u.key) u t.delta) h2
theorem TS_set (t : TK) (k : ByteArray) (r : RK) : TS (t.set k r) k = r.S := by unfold TS; rw [TK.set_at]; rfl
theorem TMp_set (t : TK) (k : ByteArray) (r : RK) : TMp (t.set k r) k = r.M := by unfold TMp; rw [TK.set_at]; rfl
theorem TS_at {t : TK} {k : ByteArray} {r : RK} (h : t.R k = some r) : TS t k = r.S := by unfold TS; rw [h]; rfl
theorem TMp_at {t : TK} {k : ByteArray} {r : RK} (h : t.R k = some r) : TMp t k = r.M := by unfold TMp; rw [h]; rfl
theorem TS_no {t : TK} {k : ByteArray} (h : t.R k = none) : TS t k = [] := by unfold TS; rw [h]; rfl
theorem TMp_no {t : TK} {k : ByteArray} (h : t.R k = none) : TMp t k = fun _ => none := by unfold TMp; rw [h]; rfl
/-- Behind 'change' of a row that is there. -/
theorem Ap.of {w w0 w' : World} {m km n : Nat} {t t0 : TK} {u : Upd} {l : List Nat} {r : RK} (h0 : IsU w0 km n t0) (hr : t0.R u.key = some r) (e1 : t0.tb = t.tb) (e2 : t0.rb = t.rb) (e3 : t0.delta = t.delta) (e4 : ∀ k, k ≠ u.key → t0.R k = t.R k) (eS : TS t u.key = r.S) (eM : TMp t u.key = r.M)
    (K0 : Kept t.Uses w w0) (ru : ∀ b, r.Uses b → t.Uses b ∨ w.heap.size ≤ b) (d0 : DatT w0 t0) (ll : ∀ k r, t0.R k = some r → r.len ≤ m) (wy : (wouldV t u).1 = true)
    (c : ChgR w0 w' n r u.x u.y u.n t.delta l (lackF r.S r.M u t.delta)) (hl : ∀ c ∈ l, c < 256) (hn : u.n ≤ 140737488355328) (rd : Reads w u.a u.n u.c l) (dh : ∀ D, DatD w t D → DatD w0 t0 D) : ∃ t', Ap w w' m t t' u ∧ IsU w' km (n + 1) t' := by
  obtain ⟨h2, r', p, i', mv, q1, q2, q4, q5⟩ := c.app hl hn (h0.row _ _ hr) (d0 _ _ hr)
  have K1 : Kept t.Uses w w' := K0.trans mv.kept (fun j hj z => (ru j z).resolve_right (by omega))
  have ux : ∀ j r2, (t0.set u.key r').R j = some r2 → (j = u.key ∧ r2 = r') ∨ (j ≠ u.key ∧ t0.R j = some r2 ∧ t.R j = some r2) := by
    intro j r2 hj
    rcases TK.set_of hj with z | ⟨e, q⟩
    · exact .inl z
    · exact .inr ⟨e, q, by rw [← e4 j e]; exact q⟩
  refine ⟨t0.set u.key r', ⟨e1, e2, e3, fun k hk => ?_, K1, fun k hk => ?_, fun k r2 hk => ?_, fun D hD hr2 => ?_, fun k r2 hk => ?_, fun k g hh hm b hb => ?_, fun z => (by rw [wy] at z; cases z), fun _ => ⟨h2, ?_⟩⟩, h0.chg hr i' mv⟩
  · rw [TK.set_ne t0 u.key r' hk]
    exact e4 k hk
  · rcases hk with z | ⟨j, r2, hj, hu⟩
    · have z : k = t0.rb := z
      exact .inl (.inl (z.trans e2))
    · rcases ux j r2 hj with ⟨_, rfl⟩ | ⟨_, _, q⟩
      · rcases mv.near k hu with z | z
        · exact ru k z
        · have := K0.size
          exact .inr (by omega)
      · exact .inl (.inr ⟨j, r2, q, hu⟩)
  · rcases ux k r2 hk with ⟨_, rfl⟩ | ⟨_, q, _⟩
    · exact q2
    · exact (d0 k r2 q).off mv.kept (fun b cs hb => (h0.row _ _ hr).nb hb)
  · intro k r2 hk
    have D0 := dh D hD
    rcases ux k r2 hk with ⟨rfl, rfl⟩ | ⟨_, q, _⟩
    · refine q4 (D u.key) (D0 _ _ hr) (fun z => ?_)
      rw [← eS, ← eM] at z
      exact rd.one (hr2 z)
    · exact (D0 k r2 q).off (d0 k r2 q) mv.kept (fun b cs hb => (h0.row _ _ hr).nb hb)
  · rcases ux k r2 hk with ⟨_, rfl⟩ | ⟨_, q, _⟩
    · have := ll _ _ hr
      omega
    · have := ll _ _ q
      omega
  · by_cases e : k = u.key
    · rw [e, TMp_set] at hm
      rcases q5 g hh hm b hb with ⟨g0, k0, z1, z2⟩ | z
      · exact .inl ⟨u.key, g0, k0, by rw [eM]; exact z1, z2⟩
      · exact .inr (Nat.le_trans K0.size z)
    · refine .inl ⟨k, g, hh, ?_, hb⟩
      unfold TMp at hm ⊢
      rw [← e4 k e, ← TK.set_ne t0 u.key r' e]
      exact hm
  · rw [TS_set, TMp_set, eS, eM]
    exact p
theorem Ap.same {w w' : World} {m : Nat} {t : TK} {u : Upd} (K : Kept (fun _ => False) w w') (d0 : DatT w t) (ll : ∀ k r, t.R k = some r → r.len ≤ m) (wn : (wouldV t u).1 = false) : Ap w w' m t t u :=
  ⟨rfl, rfl, rfl, fun _ _ => rfl, K.mono (fun _ _ z => z.elim), fun _ hk => .inl hk, d0.k0 K, fun D hD _ => hD.k0 d0 K, fun k r hr => Nat.le_succ_of_le (ll k r hr), fun k g h hm b hb => .inl ⟨k, g, h, hm, hb⟩, fun _ => rfl, fun z => (by rw [wn] at z; cases z)⟩
end Go.Proofs.YtojepeefphbekabGreat
