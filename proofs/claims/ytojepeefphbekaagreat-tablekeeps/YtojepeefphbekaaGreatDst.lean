import Derived.Test.YtojepeefphbekaaGreatDataJ
import Derived.Test.YtojepeefphbekaaGreatSortLayJ
import Derived.Test.YtojepeefphbekaaGreatUpdt
import Derived.Test.YtojepeefphbekaaGreatTaknJ
namespace Go.Proofs.YtojepeefphbekaaGreat
open Go.RowKit 

/-- The one fragment of a tag of a key. -/
def fragD (k : ByteArray) (g : Int × Int) : List Nat := sb k ++ [g.1.toNat, g.2.toNat, 0]
def Mv.brings (m : Mv) : Bool := m.both || !m.fin
def Mv.tag (m : Mv) : Int × Int := tag60 m.c m.k
/-- What ever was finalized, what fragments ever came. -/
def hF : List Mv → ByteArray → Int × Int → Bool
  | [], _, _ => false
  | m :: ms, k, t => (decide (key3 m.key = k) && decide (t = m.tag) && m.fin) || hF ms k t
def hH : List Mv → ByteArray → Int × Int → Bool
  | [], _, _ => false
  | m :: ms, k, t => (decide (key3 m.key = k) && decide (t = m.tag) && m.brings) || hH ms k t
theorem hF_snoc (ms : List Mv) (m : Mv) (k : ByteArray) : hF (ms ++ [m]) k = if key3 m.key = k then more (hF ms k) m.tag m.fin else hF ms k := by
  funext t
  induction ms with
  | nil =>
    show ((decide (key3 m.key = k) && decide (t = m.tag) && m.fin) || false) = _
    by_cases e : key3 m.key = k
    · rw [if_pos e]; unfold more; simp [e, hF]
    · rw [if_neg e]; simp [e, hF]
  | cons a ms ih =>
    show ((decide (key3 a.key = k) && decide (t = a.tag) && a.fin) || hF (ms ++ [m]) k t) = _
    rw [ih]
    by_cases e : key3 m.key = k
    · rw [if_pos e, if_pos e]; unfold more; simp only [hF]; rw [Bool.or_assoc]
    · rw [if_neg e, if_neg e]; simp only [hF]
theorem hH_snoc (ms : List Mv) (m : Mv) (k : ByteArray) : hH (ms ++ [m]) k = if key3 m.key = k then more (hH ms k) m.tag m.brings else hH ms k := by
  funext t
  induction ms with
  | nil =>
    show ((decide (key3 m.key = k) && decide (t = m.tag) && m.brings) || false) = _
    by_cases e : key3 m.key = k
    · rw [if_pos e]; unfold more; simp [e, hH]
    · rw [if_neg e]; simp [e, hH]
  | cons a ms ih =>
    show ((decide (key3 a.key = k) && decide (t = a.tag) && a.brings) || hH (ms ++ [m]) k t) = _
    rw [ih]
    by_cases e : key3 m.key = k
    · rw [if_pos e, if_pos e]; unfold more; simp only [hH]; rw [Bool.or_assoc]
    · rw [if_neg e, if_neg e]; simp only [hH]
/-- An update of a move. -/
structure UOf (u : Upd) (m : Mv) (l : List Nat) : Prop where
  key : u.key = key3 m.key
  tag : (u.x, u.y) = m.tag
  kind : u.kind = (if m.both = true then 3 else if m.fin = true then 2 else 1)
  fin : u.fin = (m.both && m.fin)
  has : u.has = m.both
  n : u.n = l.length
  data : l = if m.both = true ∨ m.fin = false then fragD (key3 m.key) m.tag else []
theorem UOf.brings {u : Upd} {m : Mv} {l : List Nat} (h : UOf u m l) : u.brings = m.brings := by
  unfold Upd.brings Mv.brings
  rw [h.kind, h.has]
  cases m.both <;> cases m.fin <;> rfl
theorem UOf.final {u : Upd} {m : Mv} {l : List Nat} (h : UOf u m l) : u.final = m.fin := by
  unfold Upd.final
  rw [h.kind, h.fin]
  cases m.both <;> cases m.fin <;> rfl
theorem tag60_proper (c k : Int) : isProper (tag60 c k).1 (tag60 c k).2 = true ∧ isZero (tag60 c k).1 (tag60 c k).2 = false := by
  have a0 := Int.emod_nonneg c (show (12 : Int) ≠ 0 by omega)
  have a1 := Int.emod_lt_of_pos c (show (0 : Int) < 12 by omega)
  have b0 := Int.emod_nonneg k (show (5 : Int) ≠ 0 by omega)
  have b1 := Int.emod_lt_of_pos k (show (0 : Int) < 5 by omega)
  unfold tag60 isProper isZero
  constructor
  · simp; omega
  · simp; omega
theorem UOf.tag1 {u : Upd} {m : Mv} {l : List Nat} (h : UOf u m l) : u.x = m.tag.1 ∧ u.y = m.tag.2 := ⟨congrArg Prod.fst h.tag, congrArg Prod.snd h.tag⟩
theorem UOf.proper {u : Upd} {m : Mv} {l : List Nat} (h : UOf u m l) : isProper u.x u.y = true := by
  rw [h.tag1.1, h.tag1.2]
  exact (tag60_proper m.c m.k).1
theorem fragD_len (k : ByteArray) (g : Int × Int) : (fragD k g).length = k.size + 3 := by
  unfold fragD
  rw [List.length_append, sb_length]
  rfl
theorem key3_keyB (d : Int) : keyB (key3 d) = true := by
  unfold key3
  split
  · decide
  · split <;> decide
theorem UOf.may {u : Upd} {m : Mv} {l : List Nat} (h : UOf u m l) : u.may = true := by
  have hz : isZero u.x u.y = false := by
    rw [h.tag1.1, h.tag1.2]
    exact (tag60_proper m.c m.k).2
  have hn : u.n ≤ 65540 ∧ (m.both = false → m.fin = true → u.n = 0) := by
    rw [h.n, h.data]
    split
    · rename_i q
      rw [fragD_len]
      have := key3_size m.key
      refine ⟨by omega, fun z1 z2 => ?_⟩
      rw [z1, z2] at q
      simp at q
    · exact ⟨by simp, fun _ _ => rfl⟩
  have hf : u.fits = true := by
    unfold Upd.fits
    rw [h.kind, h.fin, h.has]
    have := hn.2
    revert this
    cases m.both <;> cases m.fin <;> simp
  unfold Upd.may
  rw [h.key, key3_keyB, hz, h.proper, hf]
  simp [hn.1]
/-- A table that these moves made. -/
structure Dst (w wr : World) (d : Int) (t : TK) (ms : List Mv) : Prop where
  tab : IsT wr ms.length t
  dat : DatT wr t
  dd : DatD wr t fragD
  len : ∀ k r, t.R k = some r → r.len ≤ ms.length
  delta : t.delta = d
  inv : ∀ k, Inv d (TS t k) (TMp t k)
  hist : ∀ k, By d (TS t k) (TMp t k) (hF ms k) (hH ms k)
  keys : ∀ k, t.R k ≠ none ↔ ∃ m ∈ ms, key3 m.key = k
  kept : Kept (fun _ => False) w wr
  fresh : ∀ b, t.Uses b → w.heap.size ≤ b
  ftb : w.heap.size ≤ t.tb
theorem Dst.k0 {w wr w' : World} {d : Int} {t : TK} {ms : List Mv} (h : Dst w wr d t ms) (K : Kept (fun _ => False) wr w') : Dst w w' d t ms :=
  ⟨h.tab.k0 K, h.dat.k0 K, h.dd.k0 h.dat K, h.len, h.delta, h.inv, h.hist, h.keys, h.kept.and0 K, h.fresh, h.ftb⟩
theorem Dst.new {w w' : World} {d : Int} {tb rb : Nat} (h0 : 0 ≤ d) (i : IsT w' 0 ⟨tb, rb, d, fun _ => none⟩) (K : Kept (fun _ => False) w w') (h1 : w.heap.size ≤ tb) (h2 : w.heap.size ≤ rb) : Dst w w' d ⟨tb, rb, d, fun _ => none⟩ [] := by
  refine ⟨i, fun k r hr => (by cases hr), fun k r hr => (by cases hr), fun k r hr => (by cases hr), rfl, fun k => ?_, fun k => ?_, fun k => ⟨fun z => absurd rfl z, fun ⟨m, hm, _⟩ => (by cases hm)⟩, K, fun b hb => ?_, h1⟩
  · exact Inv.nil d h0
  · exact By.nil d
  · rcases hb with z | ⟨k, r, hr, _⟩
    · have z : b = rb := z
      omega
    · cases hr
/-- What All tells there. -/
def datOf (t : TK) (k : ByteArray) (g : Int × Int) : List Nat := if ((TMp t k g).getD Hd.zero).has = true then fragD k g else []
theorem Dst.datAll {w wr : World} {d : Int} {t : TK} {ms : List Mv} (h : Dst w wr d t ms) : DatAll wr t (datOf t) := by
  intro k r hr g hd hm
  refine ⟨?_, (h.dat k r hr g hd hm).2.1⟩
  have := h.dd k r hr g hd hm
  unfold datOf
  rw [TMp_at hr, hm]
  exact this
def flags (t : TK) (k : ByteArray) (g : Int × Int) : Option (Bool × Bool) := (TMp t k g).map fun h => (h.fin, h.has)
theorem ab_flags (t : TK) (k : ByteArray) (g : Int × Int) : Ab t (datOf t) k g = (flags t k g).map fun x => (x.1, x.2, if x.2 = true then fragD k g else []) := by
  unfold Ab flags datOf
  cases TMp t k g with
  | none => rfl
  | some h => rfl
theorem flags_ab {t t' : TK} {k : ByteArray} {g : Int × Int} (h : Ab t (datOf t) k g = Ab t' (datOf t') k g) : flags t k g = flags t' k g := by
  rw [ab_flags, ab_flags] at h
  cases h1 : flags t k g with
  | none =>
    cases h2 : flags t' k g with
    | none => rfl
    | some b => rw [h1, h2] at h; cases h
  | some a =>
    cases h2 : flags t' k g with
    | none => rw [h1, h2] at h; cases h
    | some b =>
      rw [h1, h2] at h
      have h : (a.1, a.2, if a.2 = true then fragD k g else []) = (b.1, b.2, if b.2 = true then fragD k g else []) := Option.some.inj h
      have q1 : a.1 = b.1 := congrArg (fun x : Bool × Bool × List Nat => x.1) h
      have q2 : a.2 = b.2 := congrArg (fun x : Bool × Bool × List Nat => x.2.1) h
      rw [Prod.ext q1 q2]
theorem Ap.onward {w wr w' : World} {d : Int} {t t' : TK} {ms : List Mv} {u : Upd} {m : Mv} {l : List Nat} (h : Dst w wr d t ms) (h0 : 0 ≤ d) (p : Ap wr w' ms.length t t' u) (i' : IsT w' (ms.length + 1) t') (uo : UOf u m l) (rd : Reads wr u.a u.n u.c l) :
    Dst w w' d t' (ms ++ [m]) ∧ ((wouldV t u).1 = true → flags t' u.key (u.x, u.y) ≠ flags t u.key (u.x, u.y)) ∧ ((wouldV t u).1 = false → t' = t) := by
  obtain ⟨a, b, hl⟩ : ∃ a b, lackF (TS t u.key) (TMp t u.key) u t.delta = (a, b) := ⟨_, _, rfl⟩
  have wv := would_of uo.may hl
  have hb : By d (TS t' u.key) (TMp t' u.key) (more (hF ms u.key) (u.x, u.y) u.final) (more (hH ms u.key) (u.x, u.y) u.brings) ∧ Inv d (TS t' u.key) (TMp t' u.key) ∧ ((wouldV t u).1 = true → flags t' u.key (u.x, u.y) ≠ flags t u.key (u.x, u.y)) ∧ t'.R u.key ≠ none := by
    cases hw : (wouldV t u).1
    · have e := p.no hw
      rw [wv] at hw
      have hab : lackF (TS t u.key) (TMp t u.key) u d = (false, false) := by
        rw [← h.delta, hl]
        revert hw
        cases a <;> cases b <;> simp
      rw [e]
      refine ⟨(h.hist u.key).no uo.proper hab, h.inv _, fun z => absurd z (by decide), fun z => ?_⟩
      rw [TS_no z, TMp_no z] at hab
      unfold lackF at hab
      have fl : floorT [] d = (0, 0) := by
        rcases floor_mem [] d h0 with ⟨_, q⟩ | ⟨q, _⟩
        · exact q
        · simp at q; omega
      rw [fl, if_neg (tc_asym _ _ (proper_pos _ _ uo.proper)), uo.brings, uo.final] at hab
      revert hab
      unfold Mv.brings
      cases m.both <;> cases m.fin <;> simp [Hd.zero]
    · obtain ⟨h2, ap⟩ := p.yes hw
      rw [h.delta] at ap
      have hx : (lackF (TS t u.key) (TMp t u.key) u d).1 = true ∨ (lackF (TS t u.key) (TMp t u.key) u d).2 = true := by
        rw [wv] at hw
        rw [← h.delta, hl]
        revert hw
        cases a <;> cases b <;> simp
      obtain ⟨b1, b2⟩ := (h.hist u.key).app (h.inv _) h0 uo.proper hx ap
      refine ⟨b1, ((h.inv _).app h0 uo.proper hx ap).1, fun _ => b2, fun z => ?_⟩
      apply b2
      have q := b1.inn (u.x, u.y)
      rw [TS_no z, TMp_no z] at q
      have fl : floorT [] d = (0, 0) := by
        rcases floor_mem [] d h0 with ⟨_, q⟩ | ⟨q, _⟩
        · exact q
        · simp at q; omega
      rw [fl] at q
      have q := q (tc_asym _ _ (proper_pos _ _ uo.proper))
      rw [more_at, more_at, uo.brings, uo.final] at q
      exfalso
      revert q
      unfold Mv.brings
      cases m.both <;> cases m.fin <;> simp
  refine ⟨⟨?_, p.dat, p.dd fragD h.dd (fun z => ?_), fun k r hr => ?_, p.delta.trans h.delta, fun k => ?_, fun k => ?_, fun k => ?_, h.kept.trans p.kept (fun j hj z => ?_), fun b hb => ?_, ?_⟩, hb.2.2.1, p.no⟩
  · rw [List.length_append]
    exact i'
  · have e : l = fragD u.key (u.x, u.y) := by
      rw [uo.data, uo.key, uo.tag, if_pos]
      have : u.brings = true := by
        rw [hl] at z
        have z : a = true := z
        unfold lackF at hl
        split at hl
        · have q : false = a := congrArg Prod.fst hl
          rw [← q] at z; cases z
        · have q : (u.brings && !((TMp t u.key (u.x, u.y)).getD Hd.zero).has) = a := congrArg Prod.fst hl
          rw [z] at q
          exact (Bool.and_eq_true_iff.1 q).1
      rw [uo.brings] at this
      revert this
      unfold Mv.brings
      cases m.both <;> cases m.fin <;> simp
    rw [← e]
    exact rd
  · have := p.len k r hr
    rw [List.length_append]
    exact this
  · by_cases e : k = u.key
    · rw [e]; exact hb.2.1
    · have e1 : TS t' k = TS t k := by unfold TS; rw [p.others k e]
      have e2 : TMp t' k = TMp t k := by unfold TMp; rw [p.others k e]
      rw [e1, e2]
      exact h.inv k
  · rw [hF_snoc, hH_snoc]
    by_cases e : k = u.key
    · rw [e, if_pos uo.key.symm, if_pos uo.key.symm, ← uo.tag, ← uo.final, ← uo.brings]
      exact hb.1
    · have e1 : TS t' k = TS t k := by unfold TS; rw [p.others k e]
      have e2 : TMp t' k = TMp t k := by unfold TMp; rw [p.others k e]
      rw [e1, e2, if_neg (fun z => e (z.symm.trans uo.key.symm)), if_neg (fun z => e (z.symm.trans uo.key.symm))]
      exact h.hist k
  · by_cases e : k = u.key
    · rw [e]
      exact ⟨fun _ => ⟨m, by simp, uo.key.symm⟩, fun _ => hb.2.2.2⟩
    · rw [p.others k e, h.keys k]
      constructor
      · rintro ⟨x, hx, hk⟩
        exact ⟨x, by simp [hx], hk⟩
      · rintro ⟨x, hx, hk⟩
        rcases List.mem_append.1 hx with z | z
        · exact ⟨x, z, hk⟩
        · rw [List.mem_singleton] at z
          subst z
          exact absurd (hk.symm.trans uo.key.symm) e
  · have := h.fresh j z
    omega
  · rcases p.near b hb with z | z
    · exact h.fresh b z
    · have := h.kept.size
      omega
  · rw [p.tb]
    exact h.ftb
end Go.Proofs.YtojepeefphbekaaGreat
