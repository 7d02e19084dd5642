import Derived.Test.YtojepeefphbekaaGreatDst
namespace Go.Proofs.YtojepeefphbekaaGreat
open Go.RowKit 

theorem IsRow.nbT {w : World} {n : Nat} {r : RK} (h : IsRow w n r) {k : Nat} {cs : Array Value} {ty : TypeId} {fr : Nat × Nat} (hk : w.heap[k]? = some (.cells cs ty fr)) (ht : ty = 5 ∨ ty = 40 ∨ ty = 35) : ¬ r.Uses k := by
  rintro (z | z | z)
  · obtain ⟨D, ⟨es, clock, hb, _⟩, _⟩ := h.tm
    rw [← z, hk] at hb
    cases hb
  · have hb := h.st.blk
    rw [← z, hk] at hb
    have := Option.some.inj hb
    injection this with _ e
    rcases ht with rfl | rfl | rfl <;> exact absurd e (by decide)
  · rcases h.st.row.pos with ⟨e1, _⟩ | ⟨g, off, cur, e1, h1, _⟩
    · rw [e1] at z
      cases z
    · rw [e1] at z
      have z : g = k := Option.some.inj z
      rw [z, hk] at h1
      have := Option.some.inj h1
      injection this with _ e
      rcases ht with rfl | rfl | rfl <;> exact absurd e (by decide)
theorem IsU.nbT {w : World} {m n : Nat} {t : TK} (h : IsU w m n t) {k : Nat} {cs : Array Value} {ty : TypeId} {fr : Nat × Nat} (hk : w.heap[k]? = some (.cells cs ty fr)) (ht : ty = 5 ∨ ty = 40 ∨ ty = 35) : ¬ t.Uses k := by
  rintro (e | ⟨j, r, hr, hu⟩)
  · obtain ⟨D, ⟨es, clock, hb, _⟩, _⟩ := h.rows
    rw [← e, hk] at hb
    cases hb
  · exact (h.row j r hr).nbT hk ht hu
theorem AllRd.off {S : Nat → Prop} {w w' : World} {p : Option Addr} {n c : Nat} {vs : List Av} (h : AllRd w p n c vs) (K : Kept S w w') (hn : ∀ k cs ty fr, (ty = 5 ∨ ty = 40 ∨ ty = 35) → w.heap[k]? = some (.cells cs ty fr) → ¬ S k) : AllRd w' p n c vs := by
  obtain ⟨L, ow, al⟩ := h.row
  refine ⟨h.len, L, K.owns ow (fun k hk => ?_), al.imp (fun a b q => q.off K (fun k cs t fr ht hc => hn k cs t fr (by rcases ht with z | z; exact .inl z; exact .inr (.inl z)) hc))⟩
  obtain ⟨cs, hc⟩ := own_type ow k (by rw [← blockOf_own p n c]; exact hk)
  exact hn k cs 35 _ (.inr (.inr rfl)) hc
theorem dAll {w wr : World} {d : Int} {t : TK} {ms : List Mv} {tb : Nat} (h : Dst w wr d t ms) (et : t.tb = tb) (hl : ms.length ≤ 4398046511104) : Calls Tryz.prog 11 #[.pointer (some ⟨tb, 0, none⟩)] wr fun o w' => ∃ p n c vs, o = .returned (.slice p n c) ∧ Hid (AllRd w' p n c vs ∧ AllOf t (datOf t) vs ∧ Kept (fun _ => False) wr w') := by
  rw [← et]
  exact tAll ms.length t (datOf t) wr h.tab h.datAll hl
/-- The update of a move. -/
theorem dUpdate (m : Mv) (w : World) : Calls Tryz.prog 28 #[.agg #[.int .i64 m.key, .bool m.fin, .bool m.both, .int .i64 m.c, .int .i64 m.k]] w fun o w' => ∃ (kd : Int) (key : ByteArray) (x y : Int) (fin has : Bool) (ua : Option Addr) (un uc : Nat) (lu : List Nat), o = .returned (.agg #[.int .i64 kd, .string key, .int .i64 x, .int .i64 y, .bool fin, .bool has, .slice ua un uc]) ∧ Hid (UOf ⟨kd, key, x, y, fin, has, ua, un, uc⟩ m lu ∧ Reads w' ua un uc lu ∧ Kept (fun _ => False) w w') := by
  refine (update m.key m.fin m.both m.c m.k w).mono ?_
  rintro o w' ⟨⟨kd, key, x, y, fin, has, ua, un, uc⟩, l, rfl, h1, h2, h3, h4, h5, h6, h7, h8, h9⟩
  exact ⟨kd, key, x, y, fin, has, ua, un, uc, l, rfl, ⟨h1, h2, h3, h4, h5, h6.length.symm, h8⟩, h6, h9⟩
theorem UOf.fit {u : Upd} {m : Mv} {l : List Nat} (h : UOf u m l) : TFit (u.x, u.y) ∧ u.key.size ≤ maxLen ∧ u.n ≤ 140737488355328 := by
  have a0 := Int.emod_nonneg m.c (show (12 : Int) ≠ 0 by omega)
  have a1 := Int.emod_lt_of_pos m.c (show (0 : Int) < 12 by omega)
  have b0 := Int.emod_nonneg m.k (show (5 : Int) ≠ 0 by omega)
  have b1 := Int.emod_lt_of_pos m.k (show (0 : Int) < 5 by omega)
  have ex : u.x = m.c % 12 + 1 := h.tag1.1
  have ey : u.y = m.k % 5 + 1 := h.tag1.2
  have ks := key3_size m.key
  refine ⟨⟨⟨by show _ ≤ u.x; omega, by show u.x < _; omega⟩, ⟨by show _ ≤ u.y; omega, by show u.y < _; omega⟩⟩, by rw [h.key]; unfold maxLen; omega, ?_⟩
  rw [h.n, h.data]
  split
  · rw [fragD_len]; omega
  · simp
theorem would_zero {t : TK} {u : Upd} {m : Mv} {l : List Nat} (h : UOf u m l) : (wouldV t u).2 = 0 := by
  unfold wouldV
  rw [if_pos h.may]
theorem dWould {w wr : World} {d : Int} {t : TK} {ms : List Mv} {tb : Nat} (h : Dst w wr d t ms) (et : t.tb = tb) {kd : Int} {key : ByteArray} {x y : Int} {fin has : Bool} {ua : Option Addr} {un uc : Nat} {m : Mv} {lu : List Nat} (uo : UOf ⟨kd, key, x, y, fin, has, ua, un, uc⟩ m lu) : Calls Tryz.prog 33 #[.pointer (some ⟨tb, 0, none⟩), .agg #[.int .i64 kd, .string key, .int .i64 x, .int .i64 y, .bool fin, .bool has, .slice ua un uc]] wr fun o w' => o = .returned (.tuple #[.bool (wouldV t ⟨kd, key, x, y, fin, has, ua, un, uc⟩).1, .int .i64 0]) ∧ Kept (fun _ => False) wr w' := by
  rw [← et]
  have := would ms.length t ⟨kd, key, x, y, fin, has, ua, un, uc⟩ wr h.tab uo.fit.2.1 uo.fit.1
  rw [would_zero uo] at this
  exact this
theorem dApply {w wr : World} {d : Int} {t : TK} {ms : List Mv} {tb : Nat} (h : Dst w wr d t ms) (et : t.tb = tb) (h0 : 0 ≤ d) (hl : ms.length < 4398046511104) {kd : Int} {key : ByteArray} {x y : Int} {fin has : Bool} {ua : Option Addr} {un uc : Nat} {m : Mv} {lu : List Nat} (uo : UOf ⟨kd, key, x, y, fin, has, ua, un, uc⟩ m lu) (rd : Reads wr ua un uc lu) : Calls Tryz.prog 27 #[.pointer (some ⟨tb, 0, none⟩), .agg #[.int .i64 kd, .string key, .int .i64 x, .int .i64 y, .bool fin, .bool has, .slice ua un uc]] wr fun o w' => o = .returned (.tuple #[.bool (wouldV t ⟨kd, key, x, y, fin, has, ua, un, uc⟩).1, .int .i64 0]) ∧ Hid (∃ t', Dst w w' d t' (ms ++ [m]) ∧ t'.tb = tb ∧ Kept t.Uses wr w' ∧ ((wouldV t ⟨kd, key, x, y, fin, has, ua, un, uc⟩).1 = true → flags t' key (x, y) ≠ flags t key (x, y)) ∧ ((wouldV t ⟨kd, key, x, y, fin, has, ua, un, uc⟩).1 = false → t' = t)) := by
  rw [← et]
  refine (apply ms.length ms.length t ⟨kd, key, x, y, fin, has, ua, un, uc⟩ lu wr h.tab h.dat h.len (by omega) uo.fit.2.1 uo.fit.1 rd uo.fit.2.2 (by unfold maxLen; omega)).mono ?_
  rintro o w' ⟨rfl, t', p, i'⟩
  obtain ⟨q1, q2, q3⟩ := p.onward h h0 i' uo rd
  rw [would_zero uo]
  exact ⟨rfl, t', q1, p.tb, p.kept, q2, q3⟩
/-- Two tellings of one table. -/
theorem all_same {t : TK} {vs vs' : List Av} (h : AllOf t (datOf t) vs) (h' : AllOf t (datOf t) vs') : vs = vs' := all_one h h' (fun _ => Iff.rfl) (fun _ _ => rfl)
/-- Tellings behind an update. -/
theorem all_step {t t' : TK} {vs vs' : List Av} {k : ByteArray} {g : Int × Int} {b : Bool} (h : AllOf t (datOf t) vs) (h' : AllOf t' (datOf t') vs') (h1 : b = true → flags t' k g ≠ flags t k g) (h2 : b = false → t' = t) : vs' = vs ↔ b = false := by
  constructor
  · rintro rfl
    cases b
    · rfl
    · exact absurd (flags_ab (all_ne h' h k g)) (h1 rfl)
  · intro hb
    have := h2 hb
    subst this
    exact all_same h' h
end Go.Proofs.YtojepeefphbekaaGreat
