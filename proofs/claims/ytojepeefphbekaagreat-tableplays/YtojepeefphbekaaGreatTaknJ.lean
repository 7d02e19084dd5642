import Derived.Test.YtojepeefphbekaaGreatSameJ
import Derived.Test.YtojepeefphbekaaGreatDataJ
import Derived.Lib.SlBytesConst
namespace Go.Proofs.YtojepeefphbekaaGreat
open Go.RowKit

/-- The state of 'taken'. -/
structure TQ (w wr : World) (t : TK) (n A B : Nat) : Prop where
  tab : IsT wr n t
  dat : DatT wr t
  len : ∀ k r, t.R k = some r → r.len ≤ n
  delta : t.delta = 0
  kept : Kept (fun _ => False) w wr
  fresh : ∀ b, t.Uses b → w.heap.size ≤ b
  one : wr.heap[A]? = some (.cells #[.int .i64 1, .int .i64 1] 37 (0, 0))
  two : wr.heap[B]? = some (.cells #[.int .i64 2, .int .i64 1] 37 (0, 0))
  nf : ¬ t.Uses A ∧ ¬ t.Uses B
theorem TQ.k0 {w wr w' : World} {t : TK} {n A B : Nat} (h : TQ w wr t n A B) (K : Kept (fun _ => False) wr w') : TQ w w' t n A B :=
  ⟨h.tab.k0 K, h.dat.k0 K, h.len, h.delta, h.kept.and0 K, h.fresh, K.get h.one (fun z => z), K.get h.two (fun z => z), h.nf⟩
theorem TQ.ap {w wr w' : World} {t t' : TK} {n A B : Nat} {u : Upd} (h : TQ w wr t n A B) (p : Ap wr w' n t t' u) (i' : IsT w' (n + 1) t') : TQ w w' t' (n + 1) A B := by
  have sw := h.kept.size
  have lf := block_lt h.one
  have lt := block_lt h.two
  refine ⟨i', p.dat, p.len, p.delta.trans h.delta, h.kept.trans p.kept (fun j hj z => ?_), fun b hb => ?_, p.kept.get h.one h.nf.1, p.kept.get h.two h.nf.2, ⟨fun z => ?_, fun z => ?_⟩⟩
  · have := h.fresh j z
    omega
  · rcases p.near b hb with z | z
    · exact h.fresh b z
    · omega
  · rcases p.near _ z with q | q
    · exact h.nf.1 q
    · omega
  · rcases p.near _ z with q | q
    · exact h.nf.2 q
    · omega
theorem would_of {t : TK} {u : Upd} {a b : Bool} (h : u.may = true) (hl : lackF (TS t u.key) (TMp t u.key) u t.delta = (a, b)) : wouldV t u = (a || b, 0) := by
  unfold wouldV wouldF
  rw [if_pos h, hl]
def kk : ByteArray := ⟨#[107]⟩
/-- The row that is there. -/
theorem row_there {t : TK} {k : ByteArray} {g : Int × Int} {h : Hd} (e : TMp t k g = some h) : ∃ r, t.R k = some r := by
  cases hr : t.R k with
  | some r => exact ⟨r, rfl⟩
  | none => rw [TMp_no hr] at e; cases e
/-- Behind the first update. -/
def After1 (t : TK) : Prop := TS t kk = [] ∧ ∃ h, TMp t kk (1, 1) = some h ∧ (∀ g, g ≠ (1, 1) → TMp t kk g = none) ∧ h.has = true ∧ h.fin = false
def After2 (t : TK) : Prop := TS t kk = [(1, 1)] ∧ ∃ h, TMp t kk (1, 1) = some h ∧ (∀ g, g ≠ (1, 1) → TMp t kk g = none) ∧ h.has = true ∧ h.fin = true
def After3 (t : TK) : Prop := TS t kk = [(2, 1)] ∧ ∃ h, TMp t kk (2, 1) = some h ∧ (∀ g, g ≠ (2, 1) → TMp t kk g = none) ∧ h.has = false ∧ h.fin = true ∧ h.n = 0
theorem take1 {t : TK} (hd : t.delta = 0) (hr : t.R kk = none) (a : Option Addr) (c : Nat) : wouldV t ⟨1, kk, 1, 1, false, false, a, 1, c⟩ = (true, 0) ∧ ∀ w w' m t', Ap w w' m t t' ⟨1, kk, 1, 1, false, false, a, 1, c⟩ → After1 t' := by
  have hl : lackF (TS t kk) (TMp t kk) ⟨1, kk, 1, 1, false, false, a, 1, c⟩ t.delta = (true, false) := by
    rw [TS_no hr, TMp_no hr, hd]
    rfl
  have wv := would_of (t := t) (u := ⟨1, kk, 1, 1, false, false, a, 1, c⟩) rfl hl
  refine ⟨wv, fun w w' m t' p => ?_⟩
  obtain ⟨h2, q⟩ := p.yes (by rw [wv]; rfl)
  rw [hd] at q hl
  have q : App 0 (TS t kk) (TS t' kk) (TMp t kk) (TMp t' kk) 1 1 1 (lackF (TS t kk) (TMp t kk) ⟨1, kk, 1, 1, false, false, a, 1, c⟩ 0) h2 := q
  rw [hl, TS_no hr, TMp_no hr] at q
  obtain ⟨z1, z2, z3, z4, z5⟩ := tk1 q
  exact ⟨z1, h2, z2, z3, z4, z5⟩
theorem take2 {t : TK} (hd : t.delta = 0) (hr : After1 t) : wouldV t ⟨2, kk, 1, 1, false, false, none, 0, 0⟩ = (true, 0) ∧ ∀ w w' m t', Ap w w' m t t' ⟨2, kk, 1, 1, false, false, none, 0, 0⟩ → After2 t' := by
  obtain ⟨e1, h, e2, e3, e4, e5⟩ := hr
  have hl : lackF (TS t kk) (TMp t kk) ⟨2, kk, 1, 1, false, false, none, 0, 0⟩ t.delta = (false, true) := by
    rw [e1, hd]
    unfold lackF
    dsimp only
    rw [e2, if_neg (by decide)]
    show (_, true && !h.fin) = _
    rw [e5]
    rfl
  have wv := would_of (t := t) (u := ⟨2, kk, 1, 1, false, false, none, 0, 0⟩) rfl hl
  refine ⟨wv, fun w w' m t' p => ?_⟩
  obtain ⟨h2, q⟩ := p.yes (by rw [wv]; rfl)
  rw [hd] at q hl
  have q : App 0 (TS t kk) (TS t' kk) (TMp t kk) (TMp t' kk) 1 1 0 (lackF (TS t kk) (TMp t kk) ⟨2, kk, 1, 1, false, false, none, 0, 0⟩ 0) h2 := q
  rw [hl, e1] at q
  obtain ⟨z1, z2, z3, z4, z5⟩ := tk2 e2 e3 e4 q
  exact ⟨z1, h2, z2, z3, z4, z5⟩
theorem take3 {t : TK} (hd : t.delta = 0) (hr : After2 t) : wouldV t ⟨2, kk, 2, 1, false, false, none, 0, 0⟩ = (true, 0) ∧ ∀ w w' m t', Ap w w' m t t' ⟨2, kk, 2, 1, false, false, none, 0, 0⟩ → After3 t' := by
  obtain ⟨e1, h, e2, e3, e4, e5⟩ := hr
  have hl : lackF (TS t kk) (TMp t kk) ⟨2, kk, 2, 1, false, false, none, 0, 0⟩ t.delta = (false, true) := by
    rw [e1, hd]
    unfold lackF
    dsimp only
    rw [e3 (2, 1) (by decide), if_neg (by decide)]
    rfl
  have wv := would_of (t := t) (u := ⟨2, kk, 2, 1, false, false, none, 0, 0⟩) rfl hl
  refine ⟨wv, fun w w' m t' p => ?_⟩
  obtain ⟨h2, q⟩ := p.yes (by rw [wv]; rfl)
  rw [hd] at q hl
  have q : App 0 (TS t kk) (TS t' kk) (TMp t kk) (TMp t' kk) 2 1 0 (lackF (TS t kk) (TMp t kk) ⟨2, kk, 2, 1, false, false, none, 0, 0⟩ 0) h2 := q
  rw [hl, e1] at q
  obtain ⟨z1, z2, z3, z4, z5, z6⟩ := tk3 e3 q
  exact ⟨z1, h2, z2, z3, z4, z5, z6⟩
/-- What is told behind the second update. -/
theorem frag2 {w wr : World} {t : TK} {A B : Nat} (q : TQ w wr t 2 A B) (a : After2 t) : Calls Tryz.prog 38 #[.pointer (some ⟨t.tb, 0, none⟩), .string kk] wr fun o w' => o = .returned (.int .i64 1) ∧ Kept (fun _ => False) wr w' := by
  obtain ⟨e1, h, e2, e3, e4, e5⟩ := a
  obtain ⟨r, hr⟩ := row_there e2
  rw [TMp_at hr] at e2 e3
  refine (tFrag 2 t kk r wr q.tab (by decide) hr (by omega)).mono ?_
  rintro o w' ⟨L, rfl, g, K⟩
  obtain ⟨p, c, rfl⟩ := one_ent g e2 e3
  rw [hasN_one, if_pos e4]
  exact ⟨rfl, K⟩
theorem top2 {w wr : World} {t : TK} {A B : Nat} (q : TQ w wr t 2 A B) (a : After2 t) : Calls Tryz.prog 23 #[.pointer (some ⟨t.tb, 0, none⟩), .string kk] wr fun o w' => o = .returned (.agg #[.int .i64 1, .int .i64 1]) ∧ Kept (fun _ => False) wr w' := by
  refine (tTop 2 t kk wr q.tab (by decide)).mono ?_
  rintro o w' ⟨x, y, rfl, e, K⟩
  rw [a.1] at e
  have e2 : floorT [((1 : Int), (1 : Int))] 0 = (1, 1) := by decide
  rw [e2] at e
  have ex : (1 : Int) = x := congrArg Prod.fst e
  have ey : (1 : Int) = y := congrArg Prod.snd e
  rw [← ex, ← ey]
  exact ⟨rfl, K⟩
theorem frag3 {w wr : World} {t : TK} {A B : Nat} (q : TQ w wr t 3 A B) (a : After3 t) : Calls Tryz.prog 38 #[.pointer (some ⟨t.tb, 0, none⟩), .string kk] wr fun o w' => o = .returned (.int .i64 0) ∧ Kept (fun _ => False) wr w' := by
  obtain ⟨e1, h, e2, e3, e4, e5, e6⟩ := a
  obtain ⟨r, hr⟩ := row_there e2
  rw [TMp_at hr] at e2 e3
  refine (tFrag 3 t kk r wr q.tab (by decide) hr (by omega)).mono ?_
  rintro o w' ⟨L, rfl, g, K⟩
  obtain ⟨p, c, rfl⟩ := one_ent g e2 e3
  rw [hasN_one, if_neg (by rw [e4]; decide)]
  exact ⟨rfl, K⟩
theorem floor3 {w wr : World} {t : TK} {A B : Nat} (q : TQ w wr t 3 A B) (a : After3 t) : Calls Tryz.prog 24 #[.pointer (some ⟨t.tb, 0, none⟩), .string kk] wr fun o w' => o = .returned (.agg #[.int .i64 2, .int .i64 1]) ∧ Kept (fun _ => False) wr w' := by
  refine (tFloor 3 t kk wr q.tab (by decide)).mono ?_
  rintro o w' ⟨x, y, rfl, e, K⟩
  rw [a.1, q.delta] at e
  have e2 : floorT [((2 : Int), (1 : Int))] 0 = (2, 1) := by decide
  rw [e2] at e
  have ex : (2 : Int) = x := congrArg Prod.fst e
  have ey : (1 : Int) = y := congrArg Prod.snd e
  rw [← ex, ← ey]
  exact ⟨rfl, K⟩
/-- The one entry behind the third update. -/
theorem ents3 {w wr : World} {t : TK} {A B : Nat} (q : TQ w wr t 3 A B) (a : After3 t) : Calls Tryz.prog 14 #[.pointer (some ⟨t.tb, 0, none⟩), .string kk] wr fun o w' => ∃ g cp a1 c1, o = .returned (.slice (some ⟨g, 0, none⟩) 1 cp) ∧ (w'.cell? ⟨g, 0, none⟩ = some (.int .i64 2) ∧ w'.cell? ⟨g, 1, none⟩ = some (.int .i64 1) ∧ w'.cell? ⟨g, 2, none⟩ = some (.bool true) ∧ w'.cell? ⟨g, 3, none⟩ = some (.bool false) ∧ w'.cell? ⟨g, 4, none⟩ = some (.slice a1 0 c1)) ∧ Kept (fun _ => False) wr w' := by
  obtain ⟨e1, h, e2, e3, e4, e5, e6⟩ := a
  obtain ⟨dat, hdat⟩ : ∃ dat, ∀ r, t.R kk = some r → DataAt wr r.M dat := by
    cases hr : t.R kk with
    | none => exact ⟨fun _ => [], fun r h => by cases h⟩
    | some r0 =>
      obtain ⟨dat, hd⟩ := Classical.axiomOfChoice (r := fun (g : Int × Int) (l : List Nat) => ∀ h, r0.M g = some h → Reads wr h.a h.n h.c l ∧ h.n ≤ 140737488355328) (fun g => by
        cases hm : r0.M g with
        | none => exact ⟨[], fun h z => by cases z⟩
        | some h0 =>
          obtain ⟨⟨l, hl⟩, h2, _⟩ := q.dat kk r0 hr g h0 hm
          exact ⟨l, fun h z => by cases z; exact ⟨hl, h2⟩⟩)
      exact ⟨dat, fun r h => by cases h; exact fun g h hm => hd g h hm⟩
  refine (tEntries 3 t kk dat wr q.tab (by decide) hdat (by omega)).mono ?_
  rintro o w' ⟨p, cp, L, rfl, g, _, ow, K, _⟩
  obtain ⟨a1, c1, rfl⟩ := one_ent g e2 e3
  rw [e4, e5, e6] at ow
  rcases ow.2 with ⟨_, z⟩ | ⟨b, cap, cur, z, _⟩
  · cases z
  · have z : Value.slice p 1 cp = .slice (some ⟨b, 0, none⟩) 1 cap := z
    injection z with z1 _ z3
    subst z1
    subst z3
    have hc := ow.cells (g := b) rfl
    have cell : ∀ j v, ([.int .i64 2, .int .i64 1, .bool true, .bool false, .slice a1 0 c1] : List Value)[j]? = some v → w'.cell? ⟨b, j, none⟩ = some v := fun j v hj => by
      have := hc j v hj
      rw [Addr.add_none, Nat.zero_add] at this
      exact this
    exact ⟨b, cp, a1, c1, rfl, ⟨cell 0 _ rfl, cell 1 _ rfl, cell 2 _ rfl, cell 3 _ rfl, cell 4 _ rfl⟩, K⟩
end Go.Proofs.YtojepeefphbekaaGreat

namespace Go.Proofs.YtojepeefphbekaaGreat
open Go.RowKit

theorem kk_small : kk.size ≤ maxLen := by decide
theorem fit11 : TFit (1, 1) := ⟨by decide, by decide⟩
theorem fit21 : TFit (2, 1) := ⟨by decide, by decide⟩
/-- The three calls of Apply in 'taken'. -/
theorem ap1 {w wr : World} {t : TK} {A B : Nat} (q : TQ w wr t 0 A B) (hr : t.R kk = none) (a : Option Addr) (c : Nat) (rd : Reads wr a 1 c [120]) : Calls Tryz.prog 27 #[.pointer (some ⟨t.tb, 0, none⟩), .agg #[.int .i64 1, .string kk, .int .i64 1, .int .i64 1, .bool false, .bool false, .slice a 1 c]] wr fun o w' => o = .returned (.tuple #[.bool true, .int .i64 0]) ∧ ∃ t', TQ w w' t' 1 A B ∧ After1 t' ∧ t'.tb = t.tb := by
  obtain ⟨wv, nx⟩ := take1 q.delta hr a c
  refine (apply 0 0 t ⟨1, kk, 1, 1, false, false, a, 1, c⟩ [120] wr q.tab q.dat q.len (by decide) kk_small fit11 rd (show 1 ≤ 140737488355328 by omega) (by unfold maxLen; omega)).mono ?_
  rintro o w' ⟨rfl, t', p, i'⟩
  rw [wv]
  exact ⟨rfl, t', q.ap p i', nx _ _ _ _ p, p.tb⟩
theorem ap2 {w wr : World} {t : TK} {A B : Nat} (q : TQ w wr t 1 A B) (hr : After1 t) : Calls Tryz.prog 27 #[.pointer (some ⟨t.tb, 0, none⟩), .agg #[.int .i64 2, .string kk, .int .i64 1, .int .i64 1, .bool false, .bool false, .slice none 0 0]] wr fun o w' => o = .returned (.tuple #[.bool true, .int .i64 0]) ∧ ∃ t', TQ w w' t' 2 A B ∧ After2 t' ∧ t'.tb = t.tb := by
  obtain ⟨wv, nx⟩ := take2 q.delta hr
  refine (apply 1 1 t ⟨2, kk, 1, 1, false, false, none, 0, 0⟩ [] wr q.tab q.dat q.len (by decide) kk_small fit11 (Reads.nil _) (show 0 ≤ 140737488355328 by omega) (by unfold maxLen; omega)).mono ?_
  rintro o w' ⟨rfl, t', p, i'⟩
  rw [wv]
  exact ⟨rfl, t', q.ap p i', nx _ _ _ _ p, p.tb⟩
theorem ap3 {w wr : World} {t : TK} {A B : Nat} (q : TQ w wr t 2 A B) (hr : After2 t) : Calls Tryz.prog 27 #[.pointer (some ⟨t.tb, 0, none⟩), .agg #[.int .i64 2, .string kk, .int .i64 2, .int .i64 1, .bool false, .bool false, .slice none 0 0]] wr fun o w' => o = .returned (.tuple #[.bool true, .int .i64 0]) ∧ ∃ t', TQ w w' t' 3 A B ∧ After3 t' ∧ t'.tb = t.tb := by
  obtain ⟨wv, nx⟩ := take3 q.delta hr
  refine (apply 2 2 t ⟨2, kk, 2, 1, false, false, none, 0, 0⟩ [] wr q.tab q.dat q.len (by decide) kk_small fit21 (Reads.nil _) (show 0 ≤ 140737488355328 by omega) (by unfold maxLen; omega)).mono ?_
  rintro o w' ⟨rfl, t', p, i'⟩
  rw [wv]
  exact ⟨rfl, t', q.ap p i', nx _ _ _ _ p, p.tb⟩
theorem conv_one (w : World) : (convert 38 38 (.slice (some ⟨w.heap.size, 0, none⟩) 1 1)).run Tryz.prog (w.alloc (.cells #[.int .u8 120] 5)) = .ok (.slice (some ⟨w.heap.size, 0, none⟩) 1 1) (w.alloc (.cells #[.int .u8 120] 5 (1, 2))) := Lib.run_convert_bytes_const w 38 5 #[.int .u8 120] 1 1 Tryz.underlying38 Tryz.underlying5
theorem reads_one (w : World) : Reads (w.alloc (.cells #[.int .u8 120] 5 (1, 2))) (some ⟨w.heap.size, 0, none⟩) 1 1 [120] := by
  refine ⟨rfl, Nat.le_refl _, by unfold maxLen; omega, fun c hc => by simp at hc; omega, fun _ => ⟨w.heap.size, 0, rfl, fun i hi => ?_⟩⟩
  have e : i = 0 := by omega
  subst e
  rw [cell_of_row _ w.heap.size _ _ 5 _ (heap_alloc_new w _)]
  rfl
theorem erd_cells {w : World} {g : Nat} {a1 : Option Addr} {c1 : Nat} (cs : w.cell? ⟨g, 0, none⟩ = some (.int .i64 2) ∧ w.cell? ⟨g, 1, none⟩ = some (.int .i64 1) ∧ w.cell? ⟨g, 2, none⟩ = some (.bool true) ∧ w.cell? ⟨g, 3, none⟩ = some (.bool false) ∧ w.cell? ⟨g, 4, none⟩ = some (.slice a1 0 c1)) : ERd w g 0 1 (fun _ => ((2, 1), true, false)) (fun _ => (a1, 0, c1)) (fun _ => []) := by
  refine ⟨fun i hi => ?_, fun i _ => txt_nil w a1 c1⟩
  have e : i = 0 := by omega
  subst e
  exact cs
theorem erd_blk {w : World} {g : Nat} (h : w.heap[g]? = some (.cells #[.int .i64 2, .int .i64 1, .bool true, .bool false, .slice none 0 0] 40 (0, 0))) : ERd w g 0 1 (fun _ => ((2, 1), true, false)) (fun _ => (none, 0, 0)) (fun _ => []) :=
  erd_cells ⟨cell_blk h 0 rfl, cell_blk h 1 rfl, cell_blk h 2 rfl, cell_blk h 3 rfl, cell_blk h 4 rfl⟩
set_option maxRecDepth 100000 in
set_option maxHeartbeats 4000000 in
/-- taken. -/
theorem taken (w : World) : Calls Tryz.prog 19 #[] w fun o w' => o = .returned (.bool true) ∧ Kept (fun _ => False) w w' := by
  go_enter Tryz.func19, Tryz.ntmps19
  go_wp2_with fail
  refine (new_good 0 w (by omega) (by omega)).mono ?_
  rintro o w1 ⟨tb, rb, rfl, i1, K1, l1, l2⟩
  have H1 : Hid (IsT w1 0 ⟨tb, rb, 0, fun _ => none⟩ ∧ Kept (fun _ => False) w w1 ∧ w.heap.size ≤ rb) := ⟨i1, K1, l2⟩
  clear i1 K1 l1 l2
  go_upto_region 6 with fail
  obtain ⟨W, hW⟩ : ∃ W, W = (w1.alloc (.cells #[.int .i64 1, .int .i64 1] 37)).alloc (.cells #[.int .i64 2, .int .i64 1] 37) := ⟨_, rfl⟩
  obtain ⟨B, hB⟩ : ∃ B, B = w1.heap.size + 1 := ⟨_, rfl⟩
  obtain ⟨A, hA⟩ : ∃ A, A = w1.heap.size := ⟨_, rfl⟩
  have Q0 : Hid (TQ w W ⟨tb, rb, 0, fun _ => none⟩ 0 A B) := by
    have K : Kept (fun _ => False) w1 W := by rw [hW]; exact ((Kept.refl _ w1).alloc _).alloc _
    have l := H1.out.1.rows.lt
    have l : rb < w1.heap.size := l
    refine ⟨H1.out.1.k0 K, fun k r hr => (by cases hr), fun k r hr => (by cases hr), rfl, H1.out.2.1.and0 K, fun b hb => ?_, by rw [hW, hA]; exact two0 _ _ _, by rw [hW, hB]; exact two1 _ _ _, ⟨fun z => ?_, fun z => ?_⟩⟩
    · rcases hb with z | ⟨k, r, hr, _⟩
      · have z : b = rb := z
        have := H1.out.2.2
        omega
      · cases hr
    · rcases z with z | ⟨k, r, hr, _⟩
      · have z : A = rb := z
        omega
      · cases hr
    · rcases z with z | ⟨k, r, hr, _⟩
      · have z : B = rb := z
        omega
      · cases hr
  rw [← hW, ← hB, ← hA]
  clear hW hB hA
  have a0 := cell_blk Q0.out.one 0 (v := .int .i64 1) rfl
  have a1 := cell_blk Q0.out.one 1 (v := .int .i64 1) rfl
  have cv := conv_one W
  go_wp2_with fail
  refine (ap1 (t := ⟨tb, rb, 0, fun _ => none⟩) (Q0.out.k0 (k0_alloc _ _)) rfl (some ⟨W.heap.size, 0, none⟩) 1 (reads_one W)).mono ?_
  rintro o w2 ⟨rfl, t1, q1, f1, e1⟩
  have Q1 : Hid (TQ w w2 t1 1 A B ∧ After1 t1) := ⟨q1, f1⟩
  have e1 : tb = t1.tb := e1.symm
  subst e1
  clear q1 f1 a0 a1 cv
  have a0 := cell_blk Q1.out.1.one 0 (v := .int .i64 1) rfl
  have a1 := cell_blk Q1.out.1.one 1 (v := .int .i64 1) rfl
  go_wp2_with fail
  refine (ap2 Q1.out.1 Q1.out.2).mono ?_
  rintro o w3 ⟨rfl, t2, q2, f2, e2⟩
  have Q2 : Hid (TQ w w3 t2 2 A B ∧ After2 t2) := ⟨q2, f2⟩
  rw [← e2]
  clear q2 f2 a0 a1 e2
  have a0 := cell_blk Q2.out.1.one 0 (v := .int .i64 1) rfl
  have a1 := cell_blk Q2.out.1.one 1 (v := .int .i64 1) rfl
  go_upto_region 8 with fail
  go_region_held3 (fun V => V.cell? ⟨A, 0, none⟩ = some (.int .i64 1) ∧ V.cell? ⟨A, 1, none⟩ = some (.int .i64 1)) (first | go_keep)
    (first
      | (go_at_call 38; refine (frag2 (Q2.out.1.k0 (Kept.refl _ _).drew) Q2.out.2).mono ?_; rintro o w4 ⟨rfl, K4⟩
         have Q3 : Hid (TQ w w4 t2 2 A B) := Q2.out.1.k0 ((Kept.refl _ _).drew.and0 K4)
         have a0 := cell_blk Q3.out.one 0 (v := .int .i64 1) rfl
         have a1 := cell_blk Q3.out.one 1 (v := .int .i64 1) rfl
         clear K4)
      | (go_at_call 23; refine (top2 Q3.out Q2.out.2).mono ?_; rintro o w5 ⟨rfl, K5⟩
         have Q4 : Hid (TQ w w5 t2 2 A B) := Q3.out.k0 K5
         have a0 := cell_blk Q4.out.one 0 (v := .int .i64 1) rfl
         have a1 := cell_blk Q4.out.one 1 (v := .int .i64 1) rfl
         clear K5)
      | fail)
  clear a0 a1
  have b0 := cell_blk Q4.out.two 0 (v := .int .i64 2) rfl
  have b1 := cell_blk Q4.out.two 1 (v := .int .i64 1) rfl
  go_wp2_with fail
  refine (ap3 Q4.out Q2.out.2).mono ?_
  rintro o w6 ⟨rfl, t3, q3, f3, e3⟩
  have Q5 : Hid (TQ w w6 t3 3 A B ∧ After3 t3) := ⟨q3, f3⟩
  rw [← e3]
  clear q3 f3 b0 b1 e3
  have b0 := cell_blk Q5.out.1.two 0 (v := .int .i64 2) rfl
  have b1 := cell_blk Q5.out.1.two 1 (v := .int .i64 1) rfl
  go_upto_region 11 with fail
  go_region_held3 (fun V => V.cell? ⟨B, 0, none⟩ = some (.int .i64 2) ∧ V.cell? ⟨B, 1, none⟩ = some (.int .i64 1)) (first | go_keep)
    (first
      | (go_at_call 38; refine (frag3 (Q5.out.1.k0 (Kept.refl _ _).drew) Q5.out.2).mono ?_; rintro o w7 ⟨rfl, K7⟩
         have Q6 : Hid (TQ w w7 t3 3 A B) := Q5.out.1.k0 ((Kept.refl _ _).drew.and0 K7)
         have b0 := cell_blk Q6.out.two 0 (v := .int .i64 2) rfl
         have b1 := cell_blk Q6.out.two 1 (v := .int .i64 1) rfl
         clear K7)
      | (go_at_call 24; refine (floor3 Q6.out Q5.out.2).mono ?_; rintro o w8 ⟨rfl, K8⟩
         have Q7 : Hid (TQ w w8 t3 3 A B) := Q6.out.k0 K8
         have b0 := cell_blk Q7.out.two 0 (v := .int .i64 2) rfl
         have b1 := cell_blk Q7.out.two 1 (v := .int .i64 1) rfl
         clear K8)
      | (go_at_call 14; refine (ents3 (Q7.out.k0 (by repeat (first | with_reducible exact Kept.refl _ _ | with_reducible refine Kept.drew ?_ | with_reducible refine Kept.alloc ?_ _))) Q5.out.2).mono ?_; rintro o w9 ⟨g, cp, a1, c1, rfl, cs, K9⟩
         have Q8 : Hid (TQ w w9 t3 3 A B) := Q7.out.k0 (Kept.and0 (by repeat (first | with_reducible exact Kept.refl _ _ | with_reducible refine Kept.drew ?_ | with_reducible refine Kept.alloc ?_ _)) K9)
         have E8 : Hid (ERd w9 g 0 1 (fun _ => ((2, 1), true, false)) (fun _ => (a1, 0, c1)) (fun _ => [])) := erd_cells cs
         (try (have L8 : Hid (w9.heap[w8.heap.size]? = some (.cells #[.int .i64 2, .int .i64 1, .bool true, .bool false, .slice none 0 0] 40 (0, 0))) := K9.get (heap_alloc_new _ _) (fun z => z)))
         have b0 := cell_blk Q8.out.two 0 (v := .int .i64 2) rfl
         have b1 := cell_blk Q8.out.two 1 (v := .int .i64 1) rfl
         clear K9 cs)
      | (go_at_call 22; refine (sameEntries g 0 _ 0 1 cp 1 (fun _ => ((2, 1), true, false)) (fun _ => (a1, 0, c1)) (fun _ => (none, 0, 0)) (fun _ => []) _ (E8.out.k0 (by repeat (first | with_reducible exact Kept.refl _ _ | with_reducible refine Kept.drew ?_ | with_reducible refine Kept.alloc ?_ _))) (by first | exact erd_blk L8.out | exact erd_blk (heap_alloc_new _ _)) (by unfold maxLen; omega)).mono ?_; rintro o w10 ⟨rfl, K10⟩
         have Q9 : Hid (TQ w w10 t3 3 A B) := Q8.out.k0 (Kept.and0 (by repeat (first | with_reducible exact Kept.refl _ _ | with_reducible refine Kept.drew ?_ | with_reducible refine Kept.alloc ?_ _)) K10)
         have b0 := cell_blk Q9.out.two 0 (v := .int .i64 2) rfl
         have b1 := cell_blk Q9.out.two 1 (v := .int .i64 1) rfl
         clear K10)
      | fail)
  all_goals go_wp2_with fail
  all_goals go_ret
  all_goals exact ⟨rfl, Q9.out.kept⟩
end Go.Proofs.YtojepeefphbekaaGreat
