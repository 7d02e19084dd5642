import Derived.Test.YtojepeefphbekaaGreatDataJ
import Derived.Test.YtojepeefphbekaaGreatUpdt
import Derived.Test.YtojepeefphbekaaGreatTaknJ
namespace Go.Proofs.YtojepeefphbekaaGreat
open Go.RowKit 

/-- The one fragment of a tag of a key. -/
def fragD (k : ByteArray) (g : Int × Int) : List Nat := sb k ++ [g.1.toNat, g.2.toNat, 0]
def Mv.brings (m : Mv) : Bool := m.both || !m.fin
def Mv.tag (m : Mv) : Int × Int := tag60 m.c m.k
/-- What ever was finalized, what fragments ever came. -/
def hF : List Mv → ByteArray → Int × Int → Bool
  | [], _, _ => false
  | m :: ms, k, t => (decide (key3 m.key = k) && decide (t = m.tag) && m.fin) || hF ms k t
def hH : List Mv → ByteArray → Int × Int → Bool
  | [], _, _ => false
  | m :: ms, k, t => (decide (key3 m.key = k) && decide (t = m.tag) && m.brings) || hH ms k t
theorem hF_snoc (ms : List Mv) (m : Mv) (k : ByteArray) : hF (ms ++ [m]) k = if key3 m.key = k then more (hF ms k) m.tag m.fin else hF ms k := by
  funext t
  induction ms with
  | nil =>
    show ((decide (key3 m.key = k) && decide (t = m.tag) && m.fin) || false) = _
    by_cases e : key3 m.key = k
    · rw [if_pos e]; unfold more; simp [e, hF]
    · rw [if_neg e]; simp [e, hF]
  | cons a ms ih =>
    show ((decide (key3 a.key = k) && decide (t = a.tag) && a.fin) || hF (ms ++ [m]) k t) = _
    rw [ih]
    by_cases e : key3 m.key = k
    · rw [if_pos e, if_pos e]; unfold more; simp only [hF]; rw [Bool.or_assoc]
    · rw [if_neg e, if_neg e]; simp only [hF]
theorem hH_snoc (ms : List Mv) (m : Mv) (k : ByteArray) : hH (ms ++ [m]) k = if key3 m.key = k then more (hH ms k) m.tag m.brings else hH ms k := by
  funext t
  induction ms with
  | nil =>
    show ((decide (key3 m.key = k) && decide (t = m.tag) && m.brings) || false) = _
    by_cases e : key3 m.key = k
    · rw [if_pos e]; unfold more; simp [e, hH]
    · rw [if_neg e]; simp [e, hH]
  | cons a ms ih =>
    show ((decide (key3 a.key = k) && decide (t = a.tag) && a.brings) || hH (ms ++ [m]) k t) = _
    rw [ih]
    by_cases e : key3 m.key = k
    · rw [if_pos e, if_pos e]; unfold more; simp only [hH]; rw [Bool.or_assoc]
    · rw [if_neg e, if_neg e]; simp only [hH]
/-- An update of a move. -/
structure UOf (u : Upd) (m : Mv) (l : List Nat) : Prop where
  key : u.key = key3 m.key
  tag : (u.x, u.y) = m.tag
  kind : u.kind = (if m.both = true then 3 else if m.fin = true then 2 else 1)
  fin : u.fin = (m.both && m.fin)
  has : u.has = m.both
  n : u.n = l.length
  data : l = if m.both = true ∨ m.fin = false then fragD (key3 m.key) m.tag else []
theorem UOf.brings {u : Upd} {m : Mv} {l : List Nat} (h : UOf u m l) : u.brings = m.brings := by
  unfold Upd.brings Mv.brings
  rw [h.kind, h.has]
  cases m.both <;> cases m.fin <;> rfl
theorem UOf.final {u : Upd} {m : Mv} {l : List Nat} (h : UOf u m l) : u.final = m.fin := by
  unfold Upd.final
  rw [h.kind, h.fin]
  cases m.both <;> cases m.fin <;> rfl
theorem tag60_proper (c k : Int) : isProper (tag60 c k).1 (tag60 c k).2 = true ∧ isZero (tag60 c k).1 (tag60 c k).2 = false := by
  have a0 := Int.emod_nonneg c (show (12 : Int) ≠ 0 by omega)
  have a1 := Int.emod_lt_of_pos c (show (0 : Int) < 12 by omega)
  have b0 := Int.emod_nonneg k (show (5 : Int) ≠ 0 by omega)
  have b1 := Int.emod_lt_of_pos k (show (0 : Int) < 5 by omega)
  unfold tag60 isProper isZero
  constructor
  · simp; omega
  · simp; omega
theorem UOf.tag1 {u : Upd} {m : Mv} {l : List Nat} (h : UOf u m l) : u.x = m.tag.1 ∧ u.y = m.tag.2 := ⟨congrArg Prod.fst h.tag, congrArg Prod.snd h.tag⟩
theorem UOf.proper {u : Upd} {m : Mv} {l : List Nat} (h : UOf u m l) : isProper u.x u.y = true := by
  rw [h.tag1.1, h.tag1.2]
  exact (tag60_proper m.c m.k).1
theorem fragD_len (k : ByteArray) (g : Int × Int) : (fragD k g).length = k.size + 3 := by
  unfold fragD
  rw [List.length_append, sb_length]
  rfl
theorem key3_keyB (d : Int) : keyB (key3 d) = true := by
  unfold key3
  split
  · decide
  · split <;> decide
theorem UOf.may {u : Upd} {m : Mv} {l : List Nat} (h : UOf u m l) : u.may = true := by
  have hz : isZero u.x u.y = false := by
    rw [h.tag1.1, h.tag1.2]
    exact (tag60_proper m.c m.k).2
  have hn : u.n ≤ 65540 ∧ (m.both = false → m.fin = true → u.n = 0) := by
    rw [h.n, h.data]
    split
    · rename_i q
      rw [fragD_len]
      have := key3_size m.key
      refine ⟨by omega, fun z1 z2 => ?_⟩
      rw [z1, z2] at q
      simp at q
    · exact ⟨by simp, fun _ _ => rfl⟩
  have hf : u.fits = true := by
    unfold Upd.fits
    rw [h.kind, h.fin, h.has]
    have := hn.2
    revert this
    cases m.both <;> cases m.fin <;> simp
  unfold Upd.may
  rw [h.key, key3_keyB, hz, h.proper, hf]
  simp [hn.1]
/-- A table that these moves made. -/
structure Dst (w wr : World) (d : Int) (t : TK) (ms : List Mv) : Prop where
  tab : IsT wr ms.length t
  dat : DatT wr t
  dd : DatD wr t fragD
  len : ∀ k r, t.R k = some r → r.len ≤ ms.length
  delta : t.delta = d
  inv : ∀ k, Inv d (TS t k) (TMp t k)
  hist : ∀ k, By d (TS t k) (TMp t k) (hF ms k) (hH ms k)
  keys : ∀ k, t.R k ≠ none ↔ ∃ m ∈ ms, key3 m.key = k
  kept : Kept (fun _ => False) w wr
  fresh : ∀ b, t.Uses b → w.heap.size ≤ b
  ftb : w.heap.size ≤ t.tb
theorem Dst.k0 {w wr w' : World} {d : Int} {t : TK} {ms : List Mv} (h : Dst w wr d t ms) (K : Kept (fun _ => False) wr w') : Dst w w' d t ms :=
  ⟨h.tab.k0 K, h.dat.k0 K, h.dd.k0 h.dat K, h.len, h.delta, h.inv, h.hist, h.keys, h.kept.and0 K, h.fresh, h.ftb⟩
theorem Dst.new {w w' : World} {d : Int} {tb rb : Nat} (h0 : 0 ≤ d) (i : IsT w' 0 ⟨tb, rb, d, fun _ => none⟩) (K : Kept (fun _ => False) w w') (h1 : w.heap.size ≤ tb) (h2 : w.heap.size ≤ rb) : Dst w w' d ⟨tb, rb, d, fun _ => none⟩ [] := by
  refine ⟨i, fun k r hr => (by cases hr), fun k r hr => (by cases hr), fun k r hr => (by cases hr), rfl, fun k => ?_, fun k => ?_, fun k => ⟨fun z => absurd rfl z, fun ⟨m, hm, _⟩ => (by cases hm)⟩, K, fun b hb => ?_, h1⟩
  · exact Inv.nil d h0
  · exact By.nil d
  · rcases hb with z | ⟨k, r, hr, _⟩
    · have z : b = rb := z
      omega
    · cases hr
/-- What All tells there. -/
def datOf (t : TK) (k : ByteArray) (g : Int × Int) : List Nat := if ((TMp t k g).getD Hd.zero).has = true then fragD k g else []
theorem Dst.datAll {w wr : World} {d : Int} {t : TK} {ms : List Mv} (h : Dst w wr d t ms) : DatAll wr t (datOf t) := by
  intro k r hr g hd hm
  refine ⟨?_, (h.dat k r hr g hd hm).2.1⟩
  have := h.dd k r hr g hd hm
  unfold datOf
  rw [TMp_at hr, hm]
  exact this
def flags (t : TK) (k : ByteArray) (g : Int × Int) : Option (Bool × Bool) := (TMp t k g).map fun h => (h.fin, h.has)
theorem ab_flags (t : TK) (k : ByteArray) (g : Int × Int) : Ab t (datOf t) k g = (flags t k g).map fun x => (x.1, x.2, if x.2 = true then fragD k g else []) := by
  unfold Ab flags datOf
  cases TMp t k g with
  | none => rfl
  | some h => rfl
theorem flags_ab {t t' : TK} {k : ByteArray} {g : Int × Int} (h : Ab t (datOf t) k g = Ab t' (datOf t') k g) : flags t k g = flags t' k g := by
  rw [ab_flags, ab_flags] at h
  cases h1 : flags t k g with
  | none =>
    cases h2 : flags t' k g with
    | none => rfl
    | some b => rw [h1, h2] at h; cases h
  | some a =>
    cases h2 : flags t' k g with
    | none => rw [h1, h2] at h; cases h
    | some b =>
      rw [h1, h2] at h
      have h : (a.1, a.2, if a.2 = true then fragD k g else []) = (b.1, b.2, if b.2 = true then fragD k g else []) := Option.some.inj h
      have q1 : a.1 = b.1 := congrArg (fun x : Bool × Bool × List Nat => x.1) h
      have q2 : a.2 = b.2 := congrArg (fun x : Bool × Bool × List Nat => x.2.1) h
      rw [Prod.ext q1 q2]
theorem Ap.onward {w wr w' : World} {d : Int} {t t' : TK} {ms : List Mv} {u : Upd} {m : Mv} {l : List Nat} (h : Dst w wr d t ms) (h0 : 0 ≤ d) (p : Ap wr w' ms.length t t' u) (i' : IsT w' (ms.length + 1) t') (uo : UOf u m l) (rd : Reads wr u.a u.n u.c l) :
    Dst w w' d t' (ms ++ [m]) ∧ ((wouldV t u).1 = true → flags t' u.key (u.x, u.y) ≠ flags t u.key (u.x, u.y)) ∧ ((wouldV t u).1 = false → t' = t) := by
  obtain ⟨a, b, hl⟩ : ∃ a b, lackF (TS t u.key) (TMp t u.key) u t.delta = (a, b) := ⟨_, _, rfl⟩
  have wv := would_of uo.may hl
  have hb : By d (TS t' u.key) (TMp t' u.key) (more (hF ms u.key) (u.x, u.y) u.final) (more (hH ms u.key) (u.x, u.y) u.brings) ∧ Inv d (TS t' u.key) (TMp t' u.key) ∧ ((wouldV t u).1 = true → flags t' u.key (u.x, u.y) ≠ flags t u.key (u.x, u.y)) ∧ t'.R u.key ≠ none := by
    cases hw : (wouldV t u).1
    · have e := p.no hw
      rw [wv] at hw
      have hab : lackF (TS t u.key) (TMp t u.key) u d = (false, false) := by
        rw [← h.delta, hl]
        revert hw
        cases a <;> cases b <;> simp
      rw [e]
      refine ⟨(h.hist u.key).no uo.proper hab, h.inv _, fun z => absurd z (by decide), fun z => ?_⟩
      rw [TS_no z, TMp_no z] at hab
      unfold lackF at hab
      have fl : floorT [] d = (0, 0) := by
        rcases floor_mem [] d h0 with ⟨_, q⟩ | ⟨q, _⟩
        · exact q
        · simp at q; omega
      rw [fl, if_neg (tc_asym _ _ (proper_pos _ _ uo.proper)), uo.brings, uo.final] at hab
      revert hab
      unfold Mv.brings
      cases m.both <;> cases m.fin <;> simp [Hd.zero]
    · obtain ⟨h2, ap⟩ := p.yes hw
      rw [h.delta] at ap
      have hx : (lackF (TS t u.key) (TMp t u.key) u d).1 = true ∨ (lackF (TS t u.key) (TMp t u.key) u d).2 = true := by
        rw [wv] at hw
        rw [← h.delta, hl]
        revert hw
        cases a <;> cases b <;> simp
      obtain ⟨b1, b2⟩ := (h.hist u.key).app (h.inv _) h0 uo.proper hx ap
      refine ⟨b1, ((h.inv _).app h0 uo.proper hx ap).1, fun _ => b2, fun z => ?_⟩
      apply b2
      have q := b1.inn (u.x, u.y)
      rw [TS_no z, TMp_no z] at q
      have fl : floorT [] d = (0, 0) := by
        rcases floor_mem [] d h0 with ⟨_, q⟩ | ⟨q, _⟩
        · exact q
        · simp at q; omega
      rw [fl] at q
      have q := q (tc_asym _ _ (proper_pos _ _ uo.proper))
      rw [more_at, more_at, uo.brings, uo.final] at q
      exfalso
      revert q
      unfold Mv.brings
      cases m.both <;> cases m.fin <;> simp
  refine ⟨⟨?_, p.dat, p.dd fragD h.dd (fun z => ?_), fun k r hr => ?_, p.delta.trans h.delta, fun k => ?_, fun k => ?_, fun k => ?_, h.kept.trans p.kept (fun j hj z => ?_), fun b hb => ?_, ?_⟩, hb.2.2.1, p.no⟩
  · rw [List.length_append]
    exact i'
  · have e : l = fragD u.key (u.x, u.y) := by
      rw [uo.data, uo.key, uo.tag, if_pos]
      have : u.brings = true := by
        rw [hl] at z
        have z : a = true := z
        unfold lackF at hl
        split at hl
        · have q : false = a := congrArg Prod.fst hl
          rw [← q] at z; cases z
        · have q : (u.brings && !((TMp t u.key (u.x, u.y)).getD Hd.zero).has) = a := congrArg Prod.fst hl
          rw [z] at q
          exact (Bool.and_eq_true_iff.1 q).1
      rw [uo.brings] at this
      revert this
      unfold Mv.brings
      cases m.both <;> cases m.fin <;> simp
    rw [← e]
    exact rd
  · have := p.len k r hr
    rw [List.length_append]
    exact this
  · by_cases e : k = u.key
    · rw [e]; exact hb.2.1
    · have e1 : TS t' k = TS t k := by unfold TS; rw [p.others k e]
      have e2 : TMp t' k = TMp t k := by unfold TMp; rw [p.others k e]
      rw [e1, e2]
      exact h.inv k
  · rw [hF_snoc, hH_snoc]
    by_cases e : k = u.key
    · rw [e, if_pos uo.key.symm, if_pos uo.key.symm, ← uo.tag, ← uo.final, ← uo.brings]
      exact hb.1
    · have e1 : TS t' k = TS t k := by unfold TS; rw [p.others k e]
      have e2 : TMp t' k = TMp t k := by unfold TMp; rw [p.others k e]
      rw [e1, e2, if_neg (fun z => e (z.symm.trans uo.key.symm)), if_neg (fun z => e (z.symm.trans uo.key.symm))]
      exact h.hist k
  · by_cases e : k = u.key
    · rw [e]
      exact ⟨fun _ => ⟨m, by simp, uo.key.symm⟩, fun _ => hb.2.2.2⟩
    · rw [p.others k e, h.keys k]
      constructor
      · rintro ⟨x, hx, hk⟩
        exact ⟨x, by simp [hx], hk⟩
      · rintro ⟨x, hx, hk⟩
        rcases List.mem_append.1 hx with z | z
        · exact ⟨x, z, hk⟩
        · rw [List.mem_singleton] at z
          subst z
          exact absurd (hk.symm.trans uo.key.symm) e
  · have := h.fresh j z
    omega
  · rcases p.near b hb with z | z
    · exact h.fresh b z
    · have := h.kept.size
      omega
  · rw [p.tb]
    exact h.ftb
end Go.Proofs.YtojepeefphbekaaGreat

namespace Go.Proofs.YtojepeefphbekaaGreat
open Go.RowKit 

theorem IsRow.nbT {w : World} {n : Nat} {r : RK} (h : IsRow w n r) {k : Nat} {cs : Array Value} {ty : TypeId} {fr : Nat × Nat} (hk : w.heap[k]? = some (.cells cs ty fr)) (ht : ty = 5 ∨ ty = 40 ∨ ty = 35) : ¬ r.Uses k := by
  rintro (z | z | z)
  · obtain ⟨D, ⟨es, clock, hb, _⟩, _⟩ := h.tm
    rw [← z, hk] at hb
    cases hb
  · have hb := h.st.blk
    rw [← z, hk] at hb
    have := Option.some.inj hb
    injection this with _ e
    rcases ht with rfl | rfl | rfl <;> exact absurd e (by decide)
  · rcases h.st.row.pos with ⟨e1, _⟩ | ⟨g, off, cur, e1, h1, _⟩
    · rw [e1] at z
      cases z
    · rw [e1] at z
      have z : g = k := Option.some.inj z
      rw [z, hk] at h1
      have := Option.some.inj h1
      injection this with _ e
      rcases ht with rfl | rfl | rfl <;> exact absurd e (by decide)
theorem IsU.nbT {w : World} {m n : Nat} {t : TK} (h : IsU w m n t) {k : Nat} {cs : Array Value} {ty : TypeId} {fr : Nat × Nat} (hk : w.heap[k]? = some (.cells cs ty fr)) (ht : ty = 5 ∨ ty = 40 ∨ ty = 35) : ¬ t.Uses k := by
  rintro (e | ⟨j, r, hr, hu⟩)
  · obtain ⟨D, ⟨es, clock, hb, _⟩, _⟩ := h.rows
    rw [← e, hk] at hb
    cases hb
  · exact (h.row j r hr).nbT hk ht hu
theorem AllRd.off {S : Nat → Prop} {w w' : World} {p : Option Addr} {n c : Nat} {vs : List Av} (h : AllRd w p n c vs) (K : Kept S w w') (hn : ∀ k cs ty fr, (ty = 5 ∨ ty = 40 ∨ ty = 35) → w.heap[k]? = some (.cells cs ty fr) → ¬ S k) : AllRd w' p n c vs := by
  obtain ⟨L, ow, al⟩ := h.row
  refine ⟨h.len, L, K.owns ow (fun k hk => ?_), al.imp (fun a b q => q.off K (fun k cs t fr ht hc => hn k cs t fr (by rcases ht with z | z; exact .inl z; exact .inr (.inl z)) hc))⟩
  obtain ⟨cs, hc⟩ := own_type ow k (by rw [← blockOf_own p n c]; exact hk)
  exact hn k cs 35 _ (.inr (.inr rfl)) hc
theorem dAll {w wr : World} {d : Int} {t : TK} {ms : List Mv} {tb : Nat} (h : Dst w wr d t ms) (et : t.tb = tb) (hl : ms.length ≤ 4398046511104) : Calls Tryz.prog 11 #[.pointer (some ⟨tb, 0, none⟩)] wr fun o w' => ∃ p n c vs, o = .returned (.slice p n c) ∧ Hid (AllRd w' p n c vs ∧ AllOf t (datOf t) vs ∧ Kept (fun _ => False) wr w') := by
  rw [← et]
  exact tAll ms.length t (datOf t) wr h.tab h.datAll hl
/-- The update of a move. -/
theorem dUpdate (m : Mv) (w : World) : Calls Tryz.prog 28 #[.agg #[.int .i64 m.key, .bool m.fin, .bool m.both, .int .i64 m.c, .int .i64 m.k]] w fun o w' => ∃ (kd : Int) (key : ByteArray) (x y : Int) (fin has : Bool) (ua : Option Addr) (un uc : Nat) (lu : List Nat), o = .returned (.agg #[.int .i64 kd, .string key, .int .i64 x, .int .i64 y, .bool fin, .bool has, .slice ua un uc]) ∧ Hid (UOf ⟨kd, key, x, y, fin, has, ua, un, uc⟩ m lu ∧ Reads w' ua un uc lu ∧ Kept (fun _ => False) w w') := by
  refine (update m.key m.fin m.both m.c m.k w).mono ?_
  rintro o w' ⟨⟨kd, key, x, y, fin, has, ua, un, uc⟩, l, rfl, h1, h2, h3, h4, h5, h6, h7, h8, h9⟩
  exact ⟨kd, key, x, y, fin, has, ua, un, uc, l, rfl, ⟨h1, h2, h3, h4, h5, h6.length.symm, h8⟩, h6, h9⟩
theorem UOf.fit {u : Upd} {m : Mv} {l : List Nat} (h : UOf u m l) : TFit (u.x, u.y) ∧ u.key.size ≤ maxLen ∧ u.n ≤ 140737488355328 := by
  have a0 := Int.emod_nonneg m.c (show (12 : Int) ≠ 0 by omega)
  have a1 := Int.emod_lt_of_pos m.c (show (0 : Int) < 12 by omega)
  have b0 := Int.emod_nonneg m.k (show (5 : Int) ≠ 0 by omega)
  have b1 := Int.emod_lt_of_pos m.k (show (0 : Int) < 5 by omega)
  have ex : u.x = m.c % 12 + 1 := h.tag1.1
  have ey : u.y = m.k % 5 + 1 := h.tag1.2
  have ks := key3_size m.key
  refine ⟨⟨⟨by show _ ≤ u.x; omega, by show u.x < _; omega⟩, ⟨by show _ ≤ u.y; omega, by show u.y < _; omega⟩⟩, by rw [h.key]; unfold maxLen; omega, ?_⟩
  rw [h.n, h.data]
  split
  · rw [fragD_len]; omega
  · simp
theorem would_zero {t : TK} {u : Upd} {m : Mv} {l : List Nat} (h : UOf u m l) : (wouldV t u).2 = 0 := by
  unfold wouldV
  rw [if_pos h.may]
theorem dWould {w wr : World} {d : Int} {t : TK} {ms : List Mv} {tb : Nat} (h : Dst w wr d t ms) (et : t.tb = tb) {kd : Int} {key : ByteArray} {x y : Int} {fin has : Bool} {ua : Option Addr} {un uc : Nat} {m : Mv} {lu : List Nat} (uo : UOf ⟨kd, key, x, y, fin, has, ua, un, uc⟩ m lu) : Calls Tryz.prog 33 #[.pointer (some ⟨tb, 0, none⟩), .agg #[.int .i64 kd, .string key, .int .i64 x, .int .i64 y, .bool fin, .bool has, .slice ua un uc]] wr fun o w' => o = .returned (.tuple #[.bool (wouldV t ⟨kd, key, x, y, fin, has, ua, un, uc⟩).1, .int .i64 0]) ∧ Kept (fun _ => False) wr w' := by
  rw [← et]
  have := would ms.length t ⟨kd, key, x, y, fin, has, ua, un, uc⟩ wr h.tab uo.fit.2.1 uo.fit.1
  rw [would_zero uo] at this
  exact this
theorem dApply {w wr : World} {d : Int} {t : TK} {ms : List Mv} {tb : Nat} (h : Dst w wr d t ms) (et : t.tb = tb) (h0 : 0 ≤ d) (hl : ms.length < 4398046511104) {kd : Int} {key : ByteArray} {x y : Int} {fin has : Bool} {ua : Option Addr} {un uc : Nat} {m : Mv} {lu : List Nat} (uo : UOf ⟨kd, key, x, y, fin, has, ua, un, uc⟩ m lu) (rd : Reads wr ua un uc lu) : Calls Tryz.prog 27 #[.pointer (some ⟨tb, 0, none⟩), .agg #[.int .i64 kd, .string key, .int .i64 x, .int .i64 y, .bool fin, .bool has, .slice ua un uc]] wr fun o w' => o = .returned (.tuple #[.bool (wouldV t ⟨kd, key, x, y, fin, has, ua, un, uc⟩).1, .int .i64 0]) ∧ Hid (∃ t', Dst w w' d t' (ms ++ [m]) ∧ t'.tb = tb ∧ Kept t.Uses wr w' ∧ ((wouldV t ⟨kd, key, x, y, fin, has, ua, un, uc⟩).1 = true → flags t' key (x, y) ≠ flags t key (x, y)) ∧ ((wouldV t ⟨kd, key, x, y, fin, has, ua, un, uc⟩).1 = false → t' = t)) := by
  rw [← et]
  refine (apply ms.length ms.length t ⟨kd, key, x, y, fin, has, ua, un, uc⟩ lu wr h.tab h.dat h.len (by omega) uo.fit.2.1 uo.fit.1 rd uo.fit.2.2 (by unfold maxLen; omega)).mono ?_
  rintro o w' ⟨rfl, t', p, i'⟩
  obtain ⟨q1, q2, q3⟩ := p.onward h h0 i' uo rd
  rw [would_zero uo]
  exact ⟨rfl, t', q1, p.tb, p.kept, q2, q3⟩
/-- Two tellings of one table. -/
theorem all_same {t : TK} {vs vs' : List Av} (h : AllOf t (datOf t) vs) (h' : AllOf t (datOf t) vs') : vs = vs' := all_one h h' (fun _ => Iff.rfl) (fun _ _ => rfl)
/-- Tellings behind an update. -/
theorem all_step {t t' : TK} {vs vs' : List Av} {k : ByteArray} {g : Int × Int} {b : Bool} (h : AllOf t (datOf t) vs) (h' : AllOf t' (datOf t') vs') (h1 : b = true → flags t' k g ≠ flags t k g) (h2 : b = false → t' = t) : vs' = vs ↔ b = false := by
  constructor
  · rintro rfl
    cases b
    · rfl
    · exact absurd (flags_ab (all_ne h' h k g)) (h1 rfl)
  · intro hb
    have := h2 hb
    subst this
    exact all_same h' h
end Go.Proofs.YtojepeefphbekaaGreat

namespace Go.Proofs.YtojepeefphbekaaGreat
open Go.RowKit 

/-- Would a move change something? -/
def wM (t : TK) (m : Mv) : Bool := if tc m.tag (floorT (TS t (key3 m.key)) t.delta) < 0 then false else ((m.brings && !((TMp t (key3 m.key) m.tag).getD Hd.zero).has) || (m.fin && !((TMp t (key3 m.key) m.tag).getD Hd.zero).fin))
theorem would_m {t : TK} {u : Upd} {m : Mv} {l : List Nat} (h : UOf u m l) : (wouldV t u).1 = wM t m := by
  unfold wouldV wM
  rw [if_pos h.may]
  unfold wouldF lackF
  rw [h.brings, h.final, h.key, h.tag]
  split <;> rfl
set_option maxRecDepth 100000 in
set_option maxHeartbeats 4000000 in
/-- A table to which the moves were applied. -/
theorem tDone (d : Int) (a : Option Addr) (len cap : Nat) (l : List Mv) (w : World) (r : MReads w a len cap l) (hl : len ≤ 4398046510976) (h0 : 0 ≤ d) (h1 : d ≤ 4) : Calls Tryz.prog 9 #[.int .i64 d, .slice a len cap] w fun o w' => ∃ (tb : Nat), o = .returned (.tuple #[.pointer (some ⟨tb, 0, none⟩), .bool true]) ∧ Hid (∃ t, Dst w w' d t l ∧ t.tb = tb) := by
  have HM : Hid (MReads w a len cap l) := r
  have room := r.room
  have smallc := r.small
  unfold maxLen at smallc
  clear r
  go_enter Tryz.func9, Tryz.ntmps9
  go_wp2_with fail
  refine (new_good d w h0 (by omega)).mono ?_
  rintro o w1 ⟨tb, rb, rfl, i, K, e1, e2⟩
  have D0 : Hid (∃ t, Dst w w1 d t (l.take 0) ∧ t.tb = tb) := ⟨⟨tb, rb, d, fun _ => none⟩, Dst.new h0 i K e1 e2, rfl⟩
  clear i K e1 e2
  go_wp2_with fail
  go_loopw [4, 5, 9, 10, 11, 12, 13, 14, 28] (fun _ _ _ _ _ _ _ _ z wr => ∃ (i : Nat), z = .int .i64 (i : Int) ∧ i ≤ len ∧ Hid (∃ t, Dst w wr d t (l.take i) ∧ t.tb = tb)) (fun _ _ _ _ _ _ _ _ z _ => len - (intOf z).toNat)
  case atStart => exact ⟨0, rfl, Nat.zero_le _, D0⟩
  case round =>
    obtain ⟨i, rfl, hi, S⟩ := hrel
    clear D0
    by_cases hlt : i < len
    · have i1 : (i : Int) < (len : Int) := by omega
      obtain ⟨t, dst, et⟩ := S.out
      have B1 : Hid (Dst w wr d t (l.take i) ∧ t.tb = tb ∧ (l.take i).length = i) := ⟨dst, et, by rw [List.length_take, HM.out.length]; omega⟩
      obtain ⟨mb, off, rfl, hc0⟩ := (HM.out.by B1.out.1.kept (fun _ _ z => z)).cells (by omega)
      obtain ⟨⟨mk, mf, mo, mc, ml⟩, hm⟩ : ∃ m, m = l.getD i Mv.zero := ⟨_, rfl⟩
      have HK : Hid (l.take i ++ [⟨mk, mf, mo, mc, ml⟩] = l.take (i + 1)) := by
        have hil : i < l.length := by rw [HM.out.length]; exact hlt
        rw [hm, List.getD_eq_getElem?_getD, List.getElem?_eq_getElem hil, List.take_add_one, List.getElem?_eq_getElem hil]
        rfl
      have hc := hc0 i hlt
      clear hc0
      rw [← hm] at hc
      obtain ⟨m0, m1, m2, m3, m4⟩ := hc
      clear hm dst et S
      dsimp only at m0 m1 m2 m3 m4
      rw [Nat.add_zero] at m0
      go_upto_region 7 with fail
      obtain ⟨W, hW⟩ : ∃ W, W = wr.alloc (.cells #[.int .i64 mk, .bool mf, .bool mo, .int .i64 mc, .int .i64 ml] 28) := ⟨_, rfl⟩
      obtain ⟨X, hX⟩ : ∃ X, X = wr.heap.size := ⟨_, rfl⟩
      have B2 : Hid (Dst w W d t (l.take i) ∧ W.heap[X]? = some (.cells #[.int .i64 mk, .bool mf, .bool mo, .int .i64 mc, .int .i64 ml] 28 (0, 0)) ∧ w.heap.size ≤ X) := by
        rw [hW, hX]
        exact ⟨B1.out.1.k0 (k0_alloc _ _), heap_alloc_new _ _, B1.out.1.kept.size⟩
      rw [← hW, ← hX]
      clear hW hX m0 m1 m2 m3 m4
      go_wp2_with fail
      refine (dAll B2.out.1 B1.out.2.1 (by rw [B1.out.2.2]; omega)).mono ?_
      rintro o w2 ⟨p2, n2, c2, v2, rfl, A2⟩
      have B3 : Hid (Dst w w2 d t (l.take i) ∧ w2.heap[X]? = some (.cells #[.int .i64 mk, .bool mf, .bool mo, .int .i64 mc, .int .i64 ml] 28 (0, 0))) := ⟨B2.out.1.k0 A2.out.2.2, A2.out.2.2.get B2.out.2.1 (fun z => z)⟩
      have m0 := cell_blk B3.out.2 0 (v := .int .i64 mk) rfl
      have m1 := cell_blk B3.out.2 1 (v := .bool mf) rfl
      have m2 := cell_blk B3.out.2 2 (v := .bool mo) rfl
      have m3 := cell_blk B3.out.2 3 (v := .int .i64 mc) rfl
      have m4 := cell_blk B3.out.2 4 (v := .int .i64 ml) rfl
      go_wp2_with fail
      refine (dUpdate ⟨mk, mf, mo, mc, ml⟩ w2).mono ?_
      rintro o w3 ⟨kd, key, x, y, fin, has, ua, un, uc, lu, rfl, U3⟩
      have B4 : Hid (Dst w w3 d t (l.take i)) := B3.out.1.k0 U3.out.2.2
      clear m0 m1 m2 m3 m4
      obtain ⟨wv, hwv⟩ : ∃ wv, wv = wM t ⟨mk, mf, mo, mc, ml⟩ := ⟨_, rfl⟩
      have WV : Hid (wv = wM t ⟨mk, mf, mo, mc, ml⟩) := hwv
      have WO : Hid (Calls Tryz.prog 33 #[.pointer (some ⟨tb, 0, none⟩), .agg #[.int .i64 kd, .string key, .int .i64 x, .int .i64 y, .bool fin, .bool has, .slice ua un uc]] w3 fun o w' => o = .returned (.tuple #[.bool wv, .int .i64 0]) ∧ Kept (fun _ => False) w3 w') := by
        rw [hwv, ← would_m U3.out.1]
        exact dWould B4.out B1.out.2.1 U3.out.1
      clear hwv
      go_wp2_with fail
      refine WO.out.mono ?_
      rintro o w4 ⟨rfl, K4'⟩
      have K24 : Hid (Kept (fun _ => False) w2 w4) := U3.out.2.2.and0 K4'
      have B5 : Hid (Dst w w4 d t (l.take i)) := B4.out.k0 K4'
      clear K4' WO
      go_wp2_with fail
      refine (dAll B5.out B1.out.2.1 (by rw [B1.out.2.2]; omega)).mono ?_
      rintro o w5 ⟨p5, n5, c5, v5, rfl, A5⟩
      have B6 : Hid (Dst w w5 d t (l.take i) ∧ AllRd w5 p2 n2 c2 v2 ∧ w5.heap[X]? = some (.cells #[.int .i64 mk, .bool mf, .bool mo, .int .i64 mc, .int .i64 ml] 28 (0, 0)) ∧ v5 = v2) := ⟨B5.out.k0 A5.out.2.2, A2.out.1.k0 (K24.out.and0 A5.out.2.2), A5.out.2.2.get (K24.out.get B3.out.2 (fun z => z)) (fun z => z), all_same A5.out.2.1 A2.out.2.1⟩
      go_wp2_with fail
      refine (sameAllG p5 p2 n5 n2 c5 c2 v5 v2 w5 A5.out.1 B6.out.2.1).mono ?_
      rintro o w6 ⟨⟨yb, rfl, hyb⟩, K6⟩
      have ey : yb = true := hyb.2 B6.out.2.2.2
      subst ey
      have B7 : Hid (Dst w w6 d t (l.take i) ∧ AllRd w6 p2 n2 c2 v2 ∧ w6.heap[X]? = some (.cells #[.int .i64 mk, .bool mf, .bool mo, .int .i64 mc, .int .i64 ml] 28 (0, 0))) := ⟨B6.out.1.k0 K6, B6.out.2.1.k0 K6, K6.get B6.out.2.2.1 (fun z => z)⟩
      have AO : Hid (AllOf t (datOf t) v2) := A2.out.2.1
      have m0 := cell_blk B7.out.2.2 0 (v := .int .i64 mk) rfl
      have m1 := cell_blk B7.out.2.2 1 (v := .bool mf) rfl
      have m2 := cell_blk B7.out.2.2 2 (v := .bool mo) rfl
      have m3 := cell_blk B7.out.2.2 3 (v := .int .i64 mc) rfl
      have m4 := cell_blk B7.out.2.2 4 (v := .int .i64 ml) rfl
      clear hyb K6 B6 A5 B5 K24 A2 B4 B3 B2 U3
      go_wp2_with fail
      refine (dUpdate ⟨mk, mf, mo, mc, ml⟩ w6).mono ?_
      rintro o w7 ⟨kd', key', x', y', fin', has', ua', un', uc', lu', rfl, U7⟩
      have B8 : Hid (Dst w w7 d t (l.take i) ∧ AllRd w7 p2 n2 c2 v2) := ⟨B7.out.1.k0 U7.out.2.2, B7.out.2.1.k0 U7.out.2.2⟩
      have AP : Hid (Calls Tryz.prog 27 #[.pointer (some ⟨tb, 0, none⟩), .agg #[.int .i64 kd', .string key', .int .i64 x', .int .i64 y', .bool fin', .bool has', .slice ua' un' uc']] w7 fun o w' => o = .returned (.tuple #[.bool wv, .int .i64 0]) ∧ Hid (∃ t', Dst w w' d t' (l.take (i + 1)) ∧ t'.tb = tb ∧ Kept t.Uses w7 w' ∧ (wv = true → flags t' key' (x', y') ≠ flags t key' (x', y')) ∧ (wv = false → t' = t))) := by
        have := dApply B8.out.1 B1.out.2.1 h0 (by rw [B1.out.2.2]; omega) U7.out.1 U7.out.2.1
        rw [would_m U7.out.1, ← WV.out, HK.out] at this
        exact this
      clear m0 m1 m2 m3 m4
      go_wp2_with fail
      refine AP.out.mono ?_
      rintro o w8 ⟨rfl, S8⟩
      obtain ⟨t', dst', et', K8, f1, f2⟩ := S8.out
      have B9 : Hid (Dst w w8 d t' (l.take (i + 1)) ∧ t'.tb = tb ∧ AllRd w8 p2 n2 c2 v2) := ⟨dst', et', B8.out.2.off K8 (fun k cs ty fr ht hc => B8.out.1.tab.u.nbT hc ht)⟩
      have F9 : Hid ((wv = true → flags t' key' (x', y') ≠ flags t key' (x', y')) ∧ (wv = false → t' = t)) := ⟨f1, f2⟩
      clear dst' et' K8 f1 f2 S8 AP
      go_wp2_with fail
      refine (dAll B9.out.1 B9.out.2.1 (by rw [List.length_take]; omega)).mono ?_
      rintro o w9 ⟨p9, n9, c9, v9, rfl, A9⟩
      have B10 : Hid (Dst w w9 d t' (l.take (i + 1)) ∧ AllRd w9 p2 n2 c2 v2) := ⟨B9.out.1.k0 A9.out.2.2, B9.out.2.2.k0 A9.out.2.2⟩
      have SA : Hid (Calls Tryz.prog 17 #[.slice p9 n9 c9, .slice p2 n2 c2] w9 fun o w' => o = .returned (.bool (!wv)) ∧ Kept (fun _ => False) w9 w') := by
        refine (sameAllG p9 p2 n9 n2 c9 c2 v9 v2 w9 A9.out.1 B10.out.2).mono ?_
        rintro o w' ⟨⟨yb, rfl, hyb⟩, K⟩
        rw [all_step AO.out A9.out.2.1 F9.out.1 F9.out.2] at hyb
        refine ⟨?_, K⟩
        revert hyb
        cases yb <;> cases wv <;> simp
      go_wp2_with fail
      refine SA.out.mono ?_
      rintro o w10 ⟨rfl, K10⟩
      have B11 : Hid (∃ t, Dst w w10 d t (l.take (i + 1)) ∧ t.tb = tb) := ⟨t', B10.out.1.k0 K10, B9.out.2.1⟩
      clear K10 SA
      cases wv
      · go_wp2_with fail
        go_roundw
        case rel => exact ⟨i + 1, by go_num, by omega, B11⟩
        case measure => simp [intOf]; omega
      · go_wp2_with fail
        go_roundw
        case rel => exact ⟨i + 1, by go_num, by omega, B11⟩
        case measure => simp [intOf]; omega
    · have i1 : ¬ (i : Int) < (len : Int) := by omega
      have G : Hid (∃ t, Dst w wr d t l ∧ t.tb = tb) := by
        obtain ⟨t, h, e⟩ := S.out
        rw [List.take_of_length_le (by rw [HM.out.length]; omega)] at h
        exact ⟨t, h, e⟩
      clear S
      go_wp2_with fail
      go_ret2
      exact ⟨tb, rfl, G⟩
end Go.Proofs.YtojepeefphbekaaGreat
