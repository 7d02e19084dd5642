import Derived.Test.YtojepeefphbekaaGreatSameJ
import Derived.Test.YtojepeefphbekaaGreatData
namespace Go.Proofs.YtojepeefphbekaaGreat
open Go.RowKit

/-- The state of 'taken'. -/
structure TQ (w wr : World) (t : TK) (n A B : Nat) : Prop where
  tab : IsT wr n t
  dat : DatT wr t
  len : ∀ k r, t.R k = some r → r.len ≤ n
  delta : t.delta = 0
  kept : Kept (fun _ => False) w wr
  fresh : ∀ b, t.Uses b → w.heap.size ≤ b
  one : wr.heap[A]? = some (.cells #[.int .i64 1, .int .i64 1] 37 (0, 0))
  two : wr.heap[B]? = some (.cells #[.int .i64 2, .int .i64 1] 37 (0, 0))
  nf : ¬ t.Uses A ∧ ¬ t.Uses B
theorem TQ.k0 {w wr w' : World} {t : TK} {n A B : Nat} (h : TQ w wr t n A B) (K : Kept (fun _ => False) wr w') : TQ w w' t n A B :=
  ⟨h.tab.k0 K, h.dat.k0 K, h.len, h.delta, h.kept.and0 K, h.fresh, K.get h.one (fun z => z), K.get h.two (fun z => z), h.nf⟩
theorem TQ.ap {w wr w' : World} {t t' : TK} {n A B : Nat} {u : Upd} (h : TQ w wr t n A B) (p : Ap wr w' n t t' u) (i' : IsT w' (n + 1) t') : TQ w w' t' (n + 1) A B := by
  have sw := h.kept.size
  have lf := block_lt h.one
  have lt := block_lt h.two
  refine ⟨i', p.dat, p.len, p.delta.trans h.delta, h.kept.trans p.kept (fun j hj z => ?_), fun b hb => ?_, p.kept.get h.one h.nf.1, p.kept.get h.two h.nf.2, ⟨fun z => ?_, fun z => ?_⟩⟩
  · have := h.fresh j z
    omega
  · rcases p.near b hb with z | z
    · exact h.fresh b z
    · omega
  · rcases p.near _ z with q | q
    · exact h.nf.1 q
    · omega
  · rcases p.near _ z with q | q
    · exact h.nf.2 q
    · omega
theorem would_of {t : TK} {u : Upd} {a b : Bool} (h : u.may = true) (hl : lackF (TS t u.key) (TMp t u.key) u t.delta = (a, b)) : wouldV t u = (a || b, 0) := by
  unfold wouldV wouldF
  rw [if_pos h, hl]
def kk : ByteArray := ⟨#[107]⟩
/-- The row that is there. -/
theorem row_there {t : TK} {k : ByteArray} {g : Int × Int} {h : Hd} (e : TMp t k g = some h) : ∃ r, t.R k = some r := by
  cases hr : t.R k with
  | some r => exact ⟨r, rfl⟩
  | none => rw [TMp_no hr] at e; cases e
/-- Behind the first update. -/
def After1 (t : TK) : Prop := TS t kk = [] ∧ ∃ h, TMp t kk (1, 1) = some h ∧ (∀ g, g ≠ (1, 1) → TMp t kk g = none) ∧ h.has = true ∧ h.fin = false
def After2 (t : TK) : Prop := TS t kk = [(1, 1)] ∧ ∃ h, TMp t kk (1, 1) = some h ∧ (∀ g, g ≠ (1, 1) → TMp t kk g = none) ∧ h.has = true ∧ h.fin = true
def After3 (t : TK) : Prop := TS t kk = [(2, 1)] ∧ ∃ h, TMp t kk (2, 1) = some h ∧ (∀ g, g ≠ (2, 1) → TMp t kk g = none) ∧ h.has = false ∧ h.fin = true ∧ h.n = 0
theorem take1 {t : TK} (hd : t.delta = 0) (hr : t.R kk = none) (a : Option Addr) (c : Nat) : wouldV t ⟨1, kk, 1, 1, false, false, a, 1, c⟩ = (true, 0) ∧ ∀ w w' m t', Ap w w' m t t' ⟨1, kk, 1, 1, false, false, a, 1, c⟩ → After1 t' := by
  have hl : lackF (TS t kk) (TMp t kk) ⟨1, kk, 1, 1, false, false, a, 1, c⟩ t.delta = (true, false) := by
    rw [TS_no hr, TMp_no hr, hd]
    rfl
  have wv := would_of (t := t) (u := ⟨1, kk, 1, 1, false, false, a, 1, c⟩) rfl hl
  refine ⟨wv, fun w w' m t' p => ?_⟩
  obtain ⟨h2, q⟩ := p.yes (by rw [wv]; rfl)
  rw [hd] at q hl
  have q : App 0 (TS t kk) (TS t' kk) (TMp t kk) (TMp t' kk) 1 1 1 (lackF (TS t kk) (TMp t kk) ⟨1, kk, 1, 1, false, false, a, 1, c⟩ 0) h2 := q
  rw [hl, TS_no hr, TMp_no hr] at q
  obtain ⟨z1, z2, z3, z4, z5⟩ := tk1 q
  exact ⟨z1, h2, z2, z3, z4, z5⟩
theorem take2 {t : TK} (hd : t.delta = 0) (hr : After1 t) : wouldV t ⟨2, kk, 1, 1, false, false, none, 0, 0⟩ = (true, 0) ∧ ∀ w w' m t', Ap w w' m t t' ⟨2, kk, 1, 1, false, false, none, 0, 0⟩ → After2 t' := by
  obtain ⟨e1, h, e2, e3, e4, e5⟩ := hr
  have hl : lackF (TS t kk) (TMp t kk) ⟨2, kk, 1, 1, false, false, none, 0, 0⟩ t.delta = (false, true) := by
    rw [e1, hd]
    unfold lackF
    dsimp only
    rw [e2, if_neg (by decide)]
    show (_, true && !h.fin) = _
    rw [e5]
    rfl
  have wv := would_of (t := t) (u := ⟨2, kk, 1, 1, false, false, none, 0, 0⟩) rfl hl
  refine ⟨wv, fun w w' m t' p => ?_⟩
  obtain ⟨h2, q⟩ := p.yes (by rw [wv]; rfl)
  rw [hd] at q hl
  have q : App 0 (TS t kk) (TS t' kk) (TMp t kk) (TMp t' kk) 1 1 0 (lackF (TS t kk) (TMp t kk) ⟨2, kk, 1, 1, false, false, none, 0, 0⟩ 0) h2 := q
  rw [hl, e1] at q
  obtain ⟨z1, z2, z3, z4, z5⟩ := tk2 e2 e3 e4 q
  exact ⟨z1, h2, z2, z3, z4, z5⟩
theorem take3 {t : TK} (hd : t.delta = 0) (hr : After2 t) : wouldV t ⟨2, kk, 2, 1, false, false, none, 0, 0⟩ = (true, 0) ∧ ∀ w w' m t', Ap w w' m t t' ⟨2, kk, 2, 1, false, false, none, 0, 0⟩ → After3 t' := by
  obtain ⟨e1, h, e2, e3, e4, e5⟩ := hr
  have hl : lackF (TS t kk) (TMp t kk) ⟨2, kk, 2, 1, false, false, none, 0, 0⟩ t.delta = (false, true) := by
    rw [e1, hd]
    unfold lackF
    dsimp only
    rw [e3 (2, 1) (by decide), if_neg (by decide)]
    rfl
  have wv := would_of (t := t) (u := ⟨2, kk, 2, 1, false, false, none, 0, 0⟩) rfl hl
  refine ⟨wv, fun w w' m t' p => ?_⟩
  obtain ⟨h2, q⟩ := p.yes (by rw [wv]; rfl)
  rw [hd] at q hl
  have q : App 0 (TS t kk) (TS t' kk) (TMp t kk) (TMp t' kk) 2 1 0 (lackF (TS t kk) (TMp t kk) ⟨2, kk, 2, 1, false, false, none, 0, 0⟩ 0) h2 := q
  rw [hl, e1] at q
  obtain ⟨z1, z2, z3, z4, z5, z6⟩ := tk3 e3 q
  exact ⟨z1, h2, z2, z3, z4, z5, z6⟩
/-- What is told behind the second update. -/
theorem frag2 {w wr : World} {t : TK} {A B : Nat} (q : TQ w wr t 2 A B) (a : After2 t) : Calls Tryz.prog 38 #[.pointer (some ⟨t.tb, 0, none⟩), .string kk] wr fun o w' => o = .returned (.int .i64 1) ∧ Kept (fun _ => False) wr w' := by
  obtain ⟨e1, h, e2, e3, e4, e5⟩ := a
  obtain ⟨r, hr⟩ := row_there e2
  rw [TMp_at hr] at e2 e3
  refine (tFrag 2 t kk r wr q.tab (by decide) hr (by omega)).mono ?_
  rintro o w' ⟨L, rfl, g, K⟩
  obtain ⟨p, c, rfl⟩ := one_ent g e2 e3
  rw [hasN_one, if_pos e4]
  exact ⟨rfl, K⟩
theorem top2 {w wr : World} {t : TK} {A B : Nat} (q : TQ w wr t 2 A B) (a : After2 t) : Calls Tryz.prog 23 #[.pointer (some ⟨t.tb, 0, none⟩), .string kk] wr fun o w' => o = .returned (.agg #[.int .i64 1, .int .i64 1]) ∧ Kept (fun _ => False) wr w' := by
  refine (tTop 2 t kk wr q.tab (by decide)).mono ?_
  rintro o w' ⟨x, y, rfl, e, K⟩
  rw [a.1] at e
  have e2 : floorT [((1 : Int), (1 : Int))] 0 = (1, 1) := by decide
  rw [e2] at e
  have ex : (1 : Int) = x := congrArg Prod.fst e
  have ey : (1 : Int) = y := congrArg Prod.snd e
  rw [← ex, ← ey]
  exact ⟨rfl, K⟩
theorem frag3 {w wr : World} {t : TK} {A B : Nat} (q : TQ w wr t 3 A B) (a : After3 t) : Calls Tryz.prog 38 #[.pointer (some ⟨t.tb, 0, none⟩), .string kk] wr fun o w' => o = .returned (.int .i64 0) ∧ Kept (fun _ => False) wr w' := by
  obtain ⟨e1, h, e2, e3, e4, e5, e6⟩ := a
  obtain ⟨r, hr⟩ := row_there e2
  rw [TMp_at hr] at e2 e3
  refine (tFrag 3 t kk r wr q.tab (by decide) hr (by omega)).mono ?_
  rintro o w' ⟨L, rfl, g, K⟩
  obtain ⟨p, c, rfl⟩ := one_ent g e2 e3
  rw [hasN_one, if_neg (by rw [e4]; decide)]
  exact ⟨rfl, K⟩
theorem floor3 {w wr : World} {t : TK} {A B : Nat} (q : TQ w wr t 3 A B) (a : After3 t) : Calls Tryz.prog 24 #[.pointer (some ⟨t.tb, 0, none⟩), .string kk] wr fun o w' => o = .returned (.agg #[.int .i64 2, .int .i64 1]) ∧ Kept (fun _ => False) wr w' := by
  refine (tFloor 3 t kk wr q.tab (by decide)).mono ?_
  rintro o w' ⟨x, y, rfl, e, K⟩
  rw [a.1, q.delta] at e
  have e2 : floorT [((2 : Int), (1 : Int))] 0 = (2, 1) := by decide
  rw [e2] at e
  have ex : (2 : Int) = x := congrArg Prod.fst e
  have ey : (1 : Int) = y := congrArg Prod.snd e
  rw [← ex, ← ey]
  exact ⟨rfl, K⟩
/-- The one entry behind the third update. -/
theorem ents3 {w wr : World} {t : TK} {A B : Nat} (q : TQ w wr t 3 A B) (a : After3 t) : Calls Tryz.prog 14 #[.pointer (some ⟨t.tb, 0, none⟩), .string kk] wr fun o w' => ∃ g cp a1 c1, o = .returned (.slice (some ⟨g, 0, none⟩) 1 cp) ∧ (w'.cell? ⟨g, 0, none⟩ = some (.int .i64 2) ∧ w'.cell? ⟨g, 1, none⟩ = some (.int .i64 1) ∧ w'.cell? ⟨g, 2, none⟩ = some (.bool true) ∧ w'.cell? ⟨g, 3, none⟩ = some (.bool false) ∧ w'.cell? ⟨g, 4, none⟩ = some (.slice a1 0 c1)) ∧ Kept (fun _ => False) wr w' := by
  obtain ⟨e1, h, e2, e3, e4, e5, e6⟩ := a
  obtain ⟨dat, hdat⟩ : ∃ dat, ∀ r, t.R kk = some r → DataAt wr r.M dat := by
    cases hr : t.R kk with
    | none => exact ⟨fun _ => [], fun r h => by cases h⟩
    | some r0 =>
      obtain ⟨dat, hd⟩ := Classical.axiomOfChoice (r := fun (g : Int × Int) (l : List Nat) => ∀ h, r0.M g = some h → Reads wr h.a h.n h.c l ∧ h.n ≤ 140737488355328) (fun g => by
        cases hm : r0.M g with
        | none => exact ⟨[], fun h z => by cases z⟩
        | some h0 =>
          obtain ⟨⟨l, hl⟩, h2, _⟩ := q.dat kk r0 hr g h0 hm
          exact ⟨l, fun h z => by cases z; exact ⟨hl, h2⟩⟩)
      exact ⟨dat, fun r h => by cases h; exact fun g h hm => hd g h hm⟩
  refine (tEntries 3 t kk dat wr q.tab (by decide) hdat (by omega)).mono ?_
  rintro o w' ⟨p, cp, L, rfl, g, _, ow, K, _⟩
  obtain ⟨a1, c1, rfl⟩ := one_ent g e2 e3
  rw [e4, e5, e6] at ow
  rcases ow.2 with ⟨_, z⟩ | ⟨b, cap, cur, z, _⟩
  · cases z
  · have z : Value.slice p 1 cp = .slice (some ⟨b, 0, none⟩) 1 cap := z
    injection z with z1 _ z3
    subst z1
    subst z3
    have hc := ow.cells (g := b) rfl
    have cell : ∀ j v, ([.int .i64 2, .int .i64 1, .bool true, .bool false, .slice a1 0 c1] : List Value)[j]? = some v → w'.cell? ⟨b, j, none⟩ = some v := fun j v hj => by
      have := hc j v hj
      rw [Addr.add_none, Nat.zero_add] at this
      exact this
    exact ⟨b, cp, a1, c1, rfl, ⟨cell 0 _ rfl, cell 1 _ rfl, cell 2 _ rfl, cell 3 _ rfl, cell 4 _ rfl⟩, K⟩
end Go.Proofs.YtojepeefphbekaaGreat
