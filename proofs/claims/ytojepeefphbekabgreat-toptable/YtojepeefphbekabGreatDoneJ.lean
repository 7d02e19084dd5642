import Derived.Test.YtojepeefphbekabGreatTknJ
import Derived.Lib.SlBytesConst
import Derived.Test.YtojepeefphbekabGreatMovesJ
namespace Go.Proofs.YtojepeefphbekabGreat
open Go.RowKit

theorem kk_small : kk.size ≤ maxLen := by decide
theorem fit11 : TFit (1, 1) := ⟨by decide, by decide⟩
theorem fit21 : TFit (2, 1) := ⟨by decide, by decide⟩
/-- The three calls of Apply in 'taken'. -/
theorem ap1 {w wr : World} {t : TK} {A B : Nat} (q : TQ w wr t 0 A B) (hr : t.R kk = none) (a : Option Addr) (c : Nat) (rd : Reads wr a 1 c [120]) : Calls Tryz.prog 7 #[.pointer (some ⟨t.tb, 0, none⟩), .agg #[.int .i64 1, .string kk, .int .i64 1, .int .i64 1, .bool false, .bool false, .slice a 1 c]] wr fun o w' => o = .returned (.tuple #[.bool true, .int .i64 0]) ∧ ∃ t', TQ w w' t' 1 A B ∧ After1 t' ∧ t'.tb = t.tb := by
  obtain ⟨wv, nx⟩ := take1 q.delta hr a c
  refine (apply 0 0 t ⟨1, kk, 1, 1, false, false, a, 1, c⟩ [120] wr q.tab q.dat q.len (by decide) kk_small fit11 rd (show 1 ≤ 140737488355328 by omega) (by unfold maxLen; omega)).mono ?_
  rintro o w' ⟨rfl, t', p, i'⟩
  rw [wv]
  exact ⟨rfl, t', q.ap p i', nx _ _ _ _ p, p.tb⟩
theorem ap2 {w wr : World} {t : TK} {A B : Nat} (q : TQ w wr t 1 A B) (hr : After1 t) : Calls Tryz.prog 7 #[.pointer (some ⟨t.tb, 0, none⟩), .agg #[.int .i64 2, .string kk, .int .i64 1, .int .i64 1, .bool false, .bool false, .slice none 0 0]] wr fun o w' => o = .returned (.tuple #[.bool true, .int .i64 0]) ∧ ∃ t', TQ w w' t' 2 A B ∧ After2 t' ∧ t'.tb = t.tb := by
  obtain ⟨wv, nx⟩ := take2 q.delta hr
  refine (apply 1 1 t ⟨2, kk, 1, 1, false, false, none, 0, 0⟩ [] wr q.tab q.dat q.len (by decide) kk_small fit11 (Reads.nil _) (show 0 ≤ 140737488355328 by omega) (by unfold maxLen; omega)).mono ?_
  rintro o w' ⟨rfl, t', p, i'⟩
  rw [wv]
  exact ⟨rfl, t', q.ap p i', nx _ _ _ _ p, p.tb⟩
theorem ap3 {w wr : World} {t : TK} {A B : Nat} (q : TQ w wr t 2 A B) (hr : After2 t) : Calls Tryz.prog 7 #[.pointer (some ⟨t.tb, 0, none⟩), .agg #[.int .i64 2, .string kk, .int .i64 2, .int .i64 1, .bool false, .bool false, .slice none 0 0]] wr fun o w' => o = .returned (.tuple #[.bool true, .int .i64 0]) ∧ ∃ t', TQ w w' t' 3 A B ∧ After3 t' ∧ t'.tb = t.tb := by
  obtain ⟨wv, nx⟩ := take3 q.delta hr
  refine (apply 2 2 t ⟨2, kk, 2, 1, false, false, none, 0, 0⟩ [] wr q.tab q.dat q.len (by decide) kk_small fit21 (Reads.nil _) (show 0 ≤ 140737488355328 by omega) (by unfold maxLen; omega)).mono ?_
  rintro o w' ⟨rfl, t', p, i'⟩
  rw [wv]
  exact ⟨rfl, t', q.ap p i', nx _ _ _ _ p, p.tb⟩
theorem conv_one (w : World) : (convert 32 32 (.slice (some ⟨w.heap.size, 0, none⟩) 1 1)).run Tryz.prog (w.alloc (.cells #[.int .u8 120] 5)) = .ok (.slice (some ⟨w.heap.size, 0, none⟩) 1 1) (w.alloc (.cells #[.int .u8 120] 5 (1, 2))) := Lib.run_convert_bytes_const w 32 5 #[.int .u8 120] 1 1 Tryz.underlying32 Tryz.underlying5
theorem reads_one (w : World) : Reads (w.alloc (.cells #[.int .u8 120] 5 (1, 2))) (some ⟨w.heap.size, 0, none⟩) 1 1 [120] := by
  refine ⟨rfl, Nat.le_refl _, by unfold maxLen; omega, fun c hc => by simp at hc; omega, fun _ => ⟨w.heap.size, 0, rfl, fun i hi => ?_⟩⟩
  have e : i = 0 := by omega
  subst e
  rw [cell_of_row _ w.heap.size _ _ 5 _ (heap_alloc_new w _)]
  rfl
theorem erd_cells {w : World} {g : Nat} {a1 : Option Addr} {c1 : Nat} (cs : w.cell? ⟨g, 0, none⟩ = some (.int .i64 2) ∧ w.cell? ⟨g, 1, none⟩ = some (.int .i64 1) ∧ w.cell? ⟨g, 2, none⟩ = some (.bool true) ∧ w.cell? ⟨g, 3, none⟩ = some (.bool false) ∧ w.cell? ⟨g, 4, none⟩ = some (.slice a1 0 c1)) : ERd w g 0 1 (fun _ => ((2, 1), true, false)) (fun _ => (a1, 0, c1)) (fun _ => []) := by
  refine ⟨fun i hi => ?_, fun i _ => txt_nil w a1 c1⟩
  have e : i = 0 := by omega
  subst e
  exact cs
theorem erd_blk {w : World} {g : Nat} (h : w.heap[g]? = some (.cells #[.int .i64 2, .int .i64 1, .bool true, .bool false, .slice none 0 0] 34 (0, 0))) : ERd w g 0 1 (fun _ => ((2, 1), true, false)) (fun _ => (none, 0, 0)) (fun _ => []) :=
  erd_cells ⟨cell_blk h 0 rfl, cell_blk h 1 rfl, cell_blk h 2 rfl, cell_blk h 3 rfl, cell_blk h 4 rfl⟩
end Go.Proofs.YtojepeefphbekabGreat

namespace Go.Proofs.YtojepeefphbekabGreat
open Go.RowKit 

/-- The one fragment of a tag of a key. -/
def fragD (k : ByteArray) (g : Int × Int) : List Nat := sb k ++ [g.1.toNat, g.2.toNat, 0]
def Mv.brings (m : Mv) : Bool := m.both || !m.fin
def Mv.tag (m : Mv) : Int × Int := tag60 m.c m.k
/-- What ever was finalized, what fragments ever came. -/
def hF : List Mv → ByteArray → Int × Int → Bool
  | [], _, _ => false
  | m :: ms, k, t => (decide (key3 m.key = k) && decide (t = m.tag) && m.fin) || hF ms k t
def hH : List Mv → ByteArray → Int × Int → Bool
  | [], _, _ => false
  | m :: ms, k, t => (decide (key3 m.key = k) && decide (t = m.tag) && m.brings) || hH ms k t
theorem tag60_proper (c k : Int) : isProper (tag60 c k).1 (tag60 c k).2 = true ∧ isZero (tag60 c k).1 (tag60 c k).2 = false := by
  have a0 := Int.emod_nonneg c (show (12 : Int) ≠ 0 by omega)
  have a1 := Int.emod_lt_of_pos c (show (0 : Int) < 12 by omega)
  have b0 := Int.emod_nonneg k (show (5 : Int) ≠ 0 by omega)
  have b1 := Int.emod_lt_of_pos k (show (0 : Int) < 5 by omega)
  unfold tag60 isProper isZero
  constructor
  · simp; omega
  · simp; omega
theorem fragD_len (k : ByteArray) (g : Int × Int) : (fragD k g).length = k.size + 3 := by
  unfold fragD
  rw [List.length_append, sb_length]
  rfl
theorem key3_keyB (d : Int) : keyB (key3 d) = true := by
  unfold key3
  split
  · decide
  · split <;> decide
/-- A table that these moves made. -/
structure Dst (w wr : World) (d : Int) (t : TK) (ms : List Mv) : Prop where
  tab : IsT wr ms.length t
  dat : DatT wr t
  dd : DatD wr t fragD
  len : ∀ k r, t.R k = some r → r.len ≤ ms.length
  delta : t.delta = d
  inv : ∀ k, Inv d (TS t k) (TMp t k)
  hist : ∀ k, By d (TS t k) (TMp t k) (hF ms k) (hH ms k)
  keys : ∀ k, t.R k ≠ none ↔ ∃ m ∈ ms, key3 m.key = k
  kept : Kept (fun _ => False) w wr
  fresh : ∀ b, t.Uses b → w.heap.size ≤ b
  ftb : w.heap.size ≤ t.tb
theorem Dst.k0 {w wr w' : World} {d : Int} {t : TK} {ms : List Mv} (h : Dst w wr d t ms) (K : Kept (fun _ => False) wr w') : Dst w w' d t ms :=
  ⟨h.tab.k0 K, h.dat.k0 K, h.dd.k0 h.dat K, h.len, h.delta, h.inv, h.hist, h.keys, h.kept.and0 K, h.fresh, h.ftb⟩
theorem Dst.new {w w' : World} {d : Int} {tb rb : Nat} (h0 : 0 ≤ d) (i : IsT w' 0 ⟨tb, rb, d, fun _ => none⟩) (K : Kept (fun _ => False) w w') (h1 : w.heap.size ≤ tb) (h2 : w.heap.size ≤ rb) : Dst w w' d ⟨tb, rb, d, fun _ => none⟩ [] := by
  refine ⟨i, fun k r hr => (by cases hr), fun k r hr => (by cases hr), fun k r hr => (by cases hr), rfl, fun k => ?_, fun k => ?_, fun k => ⟨fun z => absurd rfl z, fun ⟨m, hm, _⟩ => (by cases hm)⟩, K, fun b hb => ?_, h1⟩
  · exact Inv.nil d h0
  · exact By.nil d
  · rcases hb with z | ⟨k, r, hr, _⟩
    · have z : b = rb := z
      omega
    · cases hr
/-- What All tells there. -/
def datOf (t : TK) (k : ByteArray) (g : Int × Int) : List Nat := if ((TMp t k g).getD Hd.zero).has = true then fragD k g else []
theorem Dst.datAll {w wr : World} {d : Int} {t : TK} {ms : List Mv} (h : Dst w wr d t ms) : DatAll wr t (datOf t) := by
  intro k r hr g hd hm
  refine ⟨?_, (h.dat k r hr g hd hm).2.1⟩
  have := h.dd k r hr g hd hm
  unfold datOf
  rw [TMp_at hr, hm]
  exact this
def flags (t : TK) (k : ByteArray) (g : Int × Int) : Option (Bool × Bool) := (TMp t k g).map fun h => (h.fin, h.has)
theorem ab_flags (t : TK) (k : ByteArray) (g : Int × Int) : Ab t (datOf t) k g = (flags t k g).map fun x => (x.1, x.2, if x.2 = true then fragD k g else []) := by
  unfold Ab flags datOf
  cases TMp t k g with
  | none => rfl
  | some h => rfl
theorem flags_ab {t t' : TK} {k : ByteArray} {g : Int × Int} (h : Ab t (datOf t) k g = Ab t' (datOf t') k g) : flags t k g = flags t' k g := by
  rw [ab_flags, ab_flags] at h
  cases h1 : flags t k g with
  | none =>
    cases h2 : flags t' k g with
    | none => rfl
    | some b => rw [h1, h2] at h; cases h
  | some a =>
    cases h2 : flags t' k g with
    | none => rw [h1, h2] at h; cases h
    | some b =>
      rw [h1, h2] at h
      have h : (a.1, a.2, if a.2 = true then fragD k g else []) = (b.1, b.2, if b.2 = true then fragD k g else []) := Option.some.inj h
      have q1 : a.1 = b.1 := congrArg (fun x : Bool × Bool × List Nat => x.1) h
      have q2 : a.2 = b.2 := congrArg (fun x : Bool × Bool × List Nat => x.2.1) h
      rw [Prod.ext q1 q2]
end Go.Proofs.YtojepeefphbekabGreat

namespace Go.Proofs.YtojepeefphbekabGreat
open Go.RowKit 

theorem IsRow.nbT {w : World} {n : Nat} {r : RK} (h : IsRow w n r) {k : Nat} {cs : Array Value} {ty : TypeId} {fr : Nat × Nat} (hk : w.heap[k]? = some (.cells cs ty fr)) (ht : ty = 5 ∨ ty = 34 ∨ ty = 73) : ¬ r.Uses k := by
  rintro (z | z | z)
  · obtain ⟨D, ⟨es, clock, hb, _⟩, _⟩ := h.tm
    rw [← z, hk] at hb
    cases hb
  · have hb := h.st.blk
    rw [← z, hk] at hb
    have := Option.some.inj hb
    injection this with _ e
    rcases ht with rfl | rfl | rfl <;> exact absurd e (by decide)
  · rcases h.st.row.pos with ⟨e1, _⟩ | ⟨g, off, cur, e1, h1, _⟩
    · rw [e1] at z
      cases z
    · rw [e1] at z
      have z : g = k := Option.some.inj z
      rw [z, hk] at h1
      have := Option.some.inj h1
      injection this with _ e
      rcases ht with rfl | rfl | rfl <;> exact absurd e (by decide)
theorem IsU.nbT {w : World} {m n : Nat} {t : TK} (h : IsU w m n t) {k : Nat} {cs : Array Value} {ty : TypeId} {fr : Nat × Nat} (hk : w.heap[k]? = some (.cells cs ty fr)) (ht : ty = 5 ∨ ty = 34 ∨ ty = 73) : ¬ t.Uses k := by
  rintro (e | ⟨j, r, hr, hu⟩)
  · obtain ⟨D, ⟨es, clock, hb, _⟩, _⟩ := h.rows
    rw [← e, hk] at hb
    cases hb
  · exact (h.row j r hr).nbT hk ht hu
theorem AllRd.off {S : Nat → Prop} {w w' : World} {p : Option Addr} {n c : Nat} {vs : List Av} (h : AllRd w p n c vs) (K : Kept S w w') (hn : ∀ k cs ty fr, (ty = 5 ∨ ty = 34 ∨ ty = 73) → w.heap[k]? = some (.cells cs ty fr) → ¬ S k) : AllRd w' p n c vs := by
  obtain ⟨L, ow, al⟩ := h.row
  refine ⟨h.len, L, K.owns ow (fun k hk => ?_), al.imp (fun a b q => q.off K (fun k cs t fr ht hc => hn k cs t fr (by rcases ht with z | z; exact .inl z; exact .inr (.inl z)) hc))⟩
  obtain ⟨cs, hc⟩ := own_type ow k (by rw [← blockOf_own p n c]; exact hk)
  exact hn k cs 73 _ (.inr (.inr rfl)) hc
theorem dAll {w wr : World} {d : Int} {t : TK} {ms : List Mv} {tb : Nat} (h : Dst w wr d t ms) (et : t.tb = tb) (hl : ms.length ≤ 4398046511104) : Calls Tryz.prog 12 #[.pointer (some ⟨tb, 0, none⟩)] wr fun o w' => ∃ p n c vs, o = .returned (.slice p n c) ∧ Hid (AllRd w' p n c vs ∧ AllOf t (datOf t) vs ∧ Kept (fun _ => False) wr w') := by
  rw [← et]
  exact tAll ms.length t (datOf t) wr h.tab h.datAll hl
/-- Two tellings of one table. -/
theorem all_same {t : TK} {vs vs' : List Av} (h : AllOf t (datOf t) vs) (h' : AllOf t (datOf t) vs') : vs = vs' := all_one h h' (fun _ => Iff.rfl) (fun _ _ => rfl)
/-- Tellings behind an update. -/
theorem all_step {t t' : TK} {vs vs' : List Av} {k : ByteArray} {g : Int × Int} {b : Bool} (h : AllOf t (datOf t) vs) (h' : AllOf t' (datOf t') vs') (h1 : b = true → flags t' k g ≠ flags t k g) (h2 : b = false → t' = t) : vs' = vs ↔ b = false := by
  constructor
  · rintro rfl
    cases b
    · rfl
    · exact absurd (flags_ab (all_ne h' h k g)) (h1 rfl)
  · intro hb
    have := h2 hb
    subst this
    exact all_same h' h
end Go.Proofs.YtojepeefphbekabGreat

namespace Go.Proofs.YtojepeefphbekabGreat
open Go.RowKit 

/-- Would a move change something? -/
def wM (t : TK) (m : Mv) : Bool := if tc m.tag (floorT (TS t (key3 m.key)) t.delta) < 0 then false else ((m.brings && !((TMp t (key3 m.key) m.tag).getD Hd.zero).has) || (m.fin && !((TMp t (key3 m.key) m.tag).getD Hd.zero).fin))
end Go.Proofs.YtojepeefphbekabGreat
