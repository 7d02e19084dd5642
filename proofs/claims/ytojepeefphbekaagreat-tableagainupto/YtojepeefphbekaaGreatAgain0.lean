import Derived.Test.YtojepeefphbekaaGreatByOneJ
import Derived.Test.YtojepeefphbekaaGreatTurnRJ
import Derived.Test.YtojepeefphbekaaGreatUpds
import Derived.Test.YtojepeefphbekaaGreatDoneJ
namespace Go.Proofs.YtojepeefphbekaaGreat
open Go.RowKit 

/-- An update that does what a move says. -/
structure UOk (u : Upd) (m : Mv) (l : List Nat) : Prop where
  key : u.key = key3 m.key
  tag : (u.x, u.y) = m.tag
  may : u.may = true
  brings : u.brings = m.brings
  final : u.final = m.fin
  n : u.n = l.length
  data : m.brings = true → l = fragD (key3 m.key) m.tag
  small : u.n ≤ 5
theorem UOf.ok {u : Upd} {m : Mv} {l : List Nat} (h : UOf u m l) : UOk u m l := by
  refine ⟨h.key, h.tag, h.may, h.brings, h.final, h.n, fun z => ?_, ?_⟩
  · rw [h.data, if_pos]
    revert z
    unfold Mv.brings
    cases m.both <;> cases m.fin <;> simp
  · rw [h.n, h.data]
    split
    · rw [fragD_len]
      have := key3_size m.key
      omega
    · simp
theorem UOk.tag1 {u : Upd} {m : Mv} {l : List Nat} (h : UOk u m l) : u.x = m.tag.1 ∧ u.y = m.tag.2 := ⟨congrArg Prod.fst h.tag, congrArg Prod.snd h.tag⟩
theorem UOk.proper {u : Upd} {m : Mv} {l : List Nat} (h : UOk u m l) : isProper u.x u.y = true := by
  rw [h.tag1.1, h.tag1.2]
  exact (tag60_proper m.c m.k).1
theorem UOk.fit {u : Upd} {m : Mv} {l : List Nat} (h : UOk u m l) : TFit (u.x, u.y) ∧ u.key.size ≤ maxLen ∧ u.n ≤ 140737488355328 := by
  have a0 := Int.emod_nonneg m.c (show (12 : Int) ≠ 0 by omega)
  have a1 := Int.emod_lt_of_pos m.c (show (0 : Int) < 12 by omega)
  have b0 := Int.emod_nonneg m.k (show (5 : Int) ≠ 0 by omega)
  have b1 := Int.emod_lt_of_pos m.k (show (0 : Int) < 5 by omega)
  have ex : u.x = m.c % 12 + 1 := h.tag1.1
  have ey : u.y = m.k % 5 + 1 := h.tag1.2
  have ks := key3_size m.key
  refine ⟨⟨⟨by show _ ≤ u.x; omega, by show u.x < _; omega⟩, ⟨by show _ ≤ u.y; omega, by show u.y < _; omega⟩⟩, by rw [h.key]; unfold maxLen; omega, ?_⟩
  have := h.small
  omega
theorem UOk.zero {t : TK} {u : Upd} {m : Mv} {l : List Nat} (h : UOk u m l) : (wouldV t u).2 = 0 := by
  unfold wouldV
  rw [if_pos h.may]
theorem UOk.would {t : TK} {u : Upd} {m : Mv} {l : List Nat} (h : UOk u m l) : (wouldV t u).1 = wM t m := by
  unfold wouldV wM
  rw [if_pos h.may]
  unfold wouldF lackF
  rw [h.brings, h.final, h.key, h.tag]
  split <;> rfl
theorem Ap.onwardK {w wr w' : World} {d : Int} {t t' : TK} {ms : List Mv} {u : Upd} {m : Mv} {l : List Nat} (h : Dst w wr d t ms) (h0 : 0 ≤ d) (p : Ap wr w' ms.length t t' u) (i' : IsT w' (ms.length + 1) t') (uo : UOk u m l) (rd : Reads wr u.a u.n u.c l) :
    Dst w w' d t' (ms ++ [m]) ∧ ((wouldV t u).1 = true → flags t' u.key (u.x, u.y) ≠ flags t u.key (u.x, u.y)) ∧ ((wouldV t u).1 = false → t' = t) := by
  obtain ⟨a, b, hl⟩ : ∃ a b, lackF (TS t u.key) (TMp t u.key) u t.delta = (a, b) := ⟨_, _, rfl⟩
  have wv := would_of uo.may hl
  have hb : By d (TS t' u.key) (TMp t' u.key) (more (hF ms u.key) (u.x, u.y) u.final) (more (hH ms u.key) (u.x, u.y) u.brings) ∧ Inv d (TS t' u.key) (TMp t' u.key) ∧ ((wouldV t u).1 = true → flags t' u.key (u.x, u.y) ≠ flags t u.key (u.x, u.y)) ∧ t'.R u.key ≠ none := by
    cases hw : (wouldV t u).1
    · have e := p.no hw
      rw [wv] at hw
      have hab : lackF (TS t u.key) (TMp t u.key) u d = (false, false) := by
        rw [← h.delta, hl]
        revert hw
        cases a <;> cases b <;> simp
      rw [e]
      refine ⟨(h.hist u.key).no uo.proper hab, h.inv _, fun z => absurd z (by decide), fun z => ?_⟩
      rw [TS_no z, TMp_no z] at hab
      unfold lackF at hab
      have fl : floorT [] d = (0, 0) := by
        rcases floor_mem [] d h0 with ⟨_, q⟩ | ⟨q, _⟩
        · exact q
        · simp at q; omega
      rw [fl, if_neg (tc_asym _ _ (proper_pos _ _ uo.proper)), uo.brings, uo.final] at hab
      revert hab
      unfold Mv.brings
      cases m.both <;> cases m.fin <;> simp [Hd.zero]
    · obtain ⟨h2, ap⟩ := p.yes hw
      rw [h.delta] at ap
      have hx : (lackF (TS t u.key) (TMp t u.key) u d).1 = true ∨ (lackF (TS t u.key) (TMp t u.key) u d).2 = true := by
        rw [wv] at hw
        rw [← h.delta, hl]
        revert hw
        cases a <;> cases b <;> simp
      obtain ⟨b1, b2⟩ := (h.hist u.key).app (h.inv _) h0 uo.proper hx ap
      refine ⟨b1, ((h.inv _).app h0 uo.proper hx ap).1, fun _ => b2, fun z => ?_⟩
      apply b2
      have q := b1.inn (u.x, u.y)
      rw [TS_no z, TMp_no z] at q
      have fl : floorT [] d = (0, 0) := by
        rcases floor_mem [] d h0 with ⟨_, q⟩ | ⟨q, _⟩
        · exact q
        · simp at q; omega
      rw [fl] at q
      have q := q (tc_asym _ _ (proper_pos _ _ uo.proper))
      rw [more_at, more_at, uo.brings, uo.final] at q
      exfalso
      revert q
      unfold Mv.brings
      cases m.both <;> cases m.fin <;> simp
  refine ⟨⟨?_, p.dat, p.dd fragD h.dd (fun z => ?_), fun k r hr => ?_, p.delta.trans h.delta, fun k => ?_, fun k => ?_, fun k => ?_, h.kept.trans p.kept (fun j hj z => ?_), fun b hb => ?_, ?_⟩, hb.2.2.1, p.no⟩
  · rw [List.length_append]
    exact i'
  · have e : l = fragD u.key (u.x, u.y) := by
      rw [uo.key, uo.tag]
      refine uo.data ?_
      rw [← uo.brings]
      rw [hl] at z
      have z : a = true := z
      unfold lackF at hl
      split at hl
      · have q : false = a := congrArg Prod.fst hl
        rw [← q] at z; cases z
      · have q : (u.brings && !((TMp t u.key (u.x, u.y)).getD Hd.zero).has) = a := congrArg Prod.fst hl
        rw [z] at q
        exact (Bool.and_eq_true_iff.1 q).1
    rw [← e]
    exact rd
  · have := p.len k r hr
    rw [List.length_append]
    exact this
  · by_cases e : k = u.key
    · rw [e]; exact hb.2.1
    · have e1 : TS t' k = TS t k := by unfold TS; rw [p.others k e]
      have e2 : TMp t' k = TMp t k := by unfold TMp; rw [p.others k e]
      rw [e1, e2]
      exact h.inv k
  · rw [hF_snoc, hH_snoc]
    by_cases e : k = u.key
    · rw [e, if_pos uo.key.symm, if_pos uo.key.symm, ← uo.tag, ← uo.final, ← uo.brings]
      exact hb.1
    · have e1 : TS t' k = TS t k := by unfold TS; rw [p.others k e]
      have e2 : TMp t' k = TMp t k := by unfold TMp; rw [p.others k e]
      rw [e1, e2, if_neg (fun z => e (z.symm.trans uo.key.symm)), if_neg (fun z => e (z.symm.trans uo.key.symm))]
      exact h.hist k
  · by_cases e : k = u.key
    · rw [e]
      exact ⟨fun _ => ⟨m, by simp, uo.key.symm⟩, fun _ => hb.2.2.2⟩
    · rw [p.others k e, h.keys k]
      constructor
      · rintro ⟨x, hx, hk⟩
        exact ⟨x, by simp [hx], hk⟩
      · rintro ⟨x, hx, hk⟩
        rcases List.mem_append.1 hx with z | z
        · exact ⟨x, z, hk⟩
        · rw [List.mem_singleton] at z
          subst z
          exact absurd (hk.symm.trans uo.key.symm) e
  · have := h.fresh j z
    omega
  · rcases p.near b hb with z | z
    · exact h.fresh b z
    · have := h.kept.size
      omega
  · rw [p.tb]
    exact h.ftb
theorem dApplyK {w wr : World} {d : Int} {t : TK} {ms : List Mv} {tb : Nat} (h : Dst w wr d t ms) (et : t.tb = tb) (h0 : 0 ≤ d) (hl : ms.length < 4398046511104) {kd : Int} {key : ByteArray} {x y : Int} {fin has : Bool} {ua : Option Addr} {un uc : Nat} {m : Mv} {lu : List Nat} (uo : UOk ⟨kd, key, x, y, fin, has, ua, un, uc⟩ m lu) (rd : Reads wr ua un uc lu) : Calls Tryz.prog 27 #[.pointer (some ⟨tb, 0, none⟩), .agg #[.int .i64 kd, .string key, .int .i64 x, .int .i64 y, .bool fin, .bool has, .slice ua un uc]] wr fun o w' => o = .returned (.tuple #[.bool (wM t m), .int .i64 0]) ∧ Hid (∃ t', Dst w w' d t' (ms ++ [m]) ∧ t'.tb = tb ∧ Kept t.Uses wr w' ∧ (∀ k, t'.Uses k → t.Uses k ∨ wr.heap.size ≤ k)) := by
  rw [← et]
  refine (apply ms.length ms.length t ⟨kd, key, x, y, fin, has, ua, un, uc⟩ lu wr h.tab h.dat h.len (by omega) uo.fit.2.1 uo.fit.1 rd uo.fit.2.2 (by unfold maxLen; omega)).mono ?_
  rintro o w' ⟨rfl, t', p, i'⟩
  obtain ⟨q1, q2, q3⟩ := p.onwardK h h0 i' uo rd
  rw [uo.zero, uo.would]
  exact ⟨rfl, t', q1, p.tb, p.kept, p.near⟩
/-- What another table does leaves this one as it is. -/
theorem Dst.off {U : Nat → Prop} {w wr w' : World} {d : Int} {t : TK} {ms : List Mv} (h : Dst w wr d t ms) (K : Kept U wr w') (h0 : ¬ U t.tb) (h1 : ∀ b, t.Uses b → ¬ U b) (hu : ∀ k cs, wr.heap[k]? = some (.cells cs 5 (0, 0)) → ¬ U k) (K0 : Kept (fun _ => False) w w') : Dst w w' d t ms :=
  ⟨⟨K.get h.tab.blk h0, h.tab.rows.kept K (h1 _ (.inl rfl)), fun k r hr => (h.tab.row k r hr).off K (fun b hb => h1 b (.inr ⟨k, r, hr, hb⟩)), h.tab.len, h.tab.apart, h.tab.own⟩, h.dat.off K hu, h.dd.off h.dat K hu, h.len, h.delta, h.inv, h.hist, h.keys, K0, h.fresh, h.ftb⟩
/-- Two tables side by side. -/
structure Duo (w wr : World) (d : Int) (ta tb : TK) (la lb : List Mv) : Prop where
  a : Dst w wr d ta la
  b : Dst w wr d tb lb
  apart : ∀ k, ta.Uses k → ¬ tb.Uses k
  ab : ¬ ta.Uses tb.tb
  ba : ¬ tb.Uses ta.tb
theorem Duo.turn {w wr : World} {d : Int} {ta tb : TK} {la lb : List Mv} (h : Duo w wr d ta tb la lb) : Duo w wr d tb ta lb la := ⟨h.b, h.a, fun k h1 h2 => h.apart k h2 h1, h.ba, h.ab⟩
theorem Duo.k0 {w wr w' : World} {d : Int} {ta tb : TK} {la lb : List Mv} (h : Duo w wr d ta tb la lb) (K : Kept (fun _ => False) wr w') : Duo w w' d ta tb la lb := ⟨h.a.k0 K, h.b.k0 K, h.apart, h.ab, h.ba⟩
theorem Dst.lt {w wr : World} {d : Int} {t : TK} {ms : List Mv} (h : Dst w wr d t ms) {b : Nat} (hb : t.Uses b) : b < wr.heap.size := h.tab.u.lt hb
theorem Dst.ltb {w wr : World} {d : Int} {t : TK} {ms : List Mv} (h : Dst w wr d t ms) : t.tb < wr.heap.size := block_lt h.tab.blk
theorem Duo.step {w wr w' : World} {d : Int} {ta tb ta' : TK} {la lb la' : List Mv} (h : Duo w wr d ta tb la lb) (h1 : Dst w w' d ta' la') (et : ta'.tb = ta.tb) (K : Kept ta.Uses wr w') (near : ∀ k, ta'.Uses k → ta.Uses k ∨ wr.heap.size ≤ k) : Duo w w' d ta' tb la' lb := by
  refine ⟨h1, h.b.off K h.ab (fun b hb z => h.apart b z hb) (fun k cs hk => h.a.tab.u.nb hk) h1.kept, fun k hk z => ?_, fun z => ?_, by rw [et]; exact h.ba⟩
  · rcases near k hk with q | q
    · exact h.apart k q z
    · have := h.b.lt z
      omega
  · rcases near _ z with q | q
    · exact h.ab q
    · have := h.b.ltb
      omega
/-- What is told, as moves. -/
def keyN (k : ByteArray) : Int := if k = ⟨#[97]⟩ then 0 else if k = ⟨#[97, 98]⟩ then 1 else 2
def mvOf (u : Uv) : Mv := ⟨keyN u.1, u.2.2.1, u.2.2.2.1, u.2.1.1 - 1, u.2.1.2 - 1⟩
theorem keyN_key {k : ByteArray} (h : k ∈ [(⟨#[97]⟩ : ByteArray), ⟨#[97, 98]⟩, ⟨#[98]⟩]) : key3 (keyN k) = k := by
  simp only [List.mem_cons, List.not_mem_nil, or_false] at h
  rcases h with rfl | rfl | rfl <;> decide
theorem flat_mem (vs : List Av) (u : Uv) : u ∈ flat vs ↔ ∃ v ∈ vs, v.1 = u.1 ∧ u.2 ∈ v.2 := by
  unfold flat
  rw [List.mem_flatMap]
  constructor
  · rintro ⟨v, hv, hu⟩
    obtain ⟨e, he, rfl⟩ := List.mem_map.1 hu
    exact ⟨v, hv, rfl, he⟩
  · rintro ⟨v, hv, h1, h2⟩
    exact ⟨v, hv, List.mem_map.2 ⟨u.2, h2, by rw [h1]⟩⟩
theorem flat_ab {t : TK} {vs : List Av} (h : AllOf t (datOf t) vs) (u : Uv) : u ∈ flat vs ↔ Ab t (datOf t) u.1 u.2.1 = some (u.2.2.1, u.2.2.2.1, u.2.2.2.2) := by
  rw [flat_mem, all_ab h]
/-- One of what is told. -/
structure Told (t : TK) (u : Uv) : Prop where
  key : key3 (mvOf u).key = u.1
  tag : (mvOf u).tag = u.2.1
  any : (u.2.2.1 || u.2.2.2.1) = true
  held : ∃ hd, TMp t u.1 u.2.1 = some hd ∧ u.2.2.1 = hd.fin ∧ u.2.2.2.1 = hd.has
  data : u.2.2.2.2 = if u.2.2.2.1 = true then fragD u.1 u.2.1 else []
theorem held_came {w wr : World} {d : Int} {t : TK} {ms : List Mv} (h : Dst w wr d t ms) {k : ByteArray} {g : Int × Int} {hd : Hd} (hm : TMp t k g = some hd) : ∃ m ∈ ms, key3 m.key = k ∧ g = m.tag := by
  have lo := (h.inv k).low _ hd hm
  have q := (h.hist k).inn _ lo
  rw [hm] at q
  have hs : (hF ms k g || hH ms k g) = true := by
    split at q
    · assumption
    · cases q
  rw [Bool.or_eq_true, hF_iff, hH_iff] at hs
  rcases hs with ⟨m, h1, h2, h3, _⟩ | ⟨m, h1, h2, h3, _⟩
  · exact ⟨m, h1, h2, h3⟩
  · exact ⟨m, h1, h2, h3⟩
theorem told_of {w wr : World} {d : Int} {t : TK} {ms : List Mv} (h : Dst w wr d t ms) {vs : List Av} (e : AllOf t (datOf t) vs) {u : Uv} (hu : u ∈ flat vs) : Told t u := by
  have q := (flat_ab e u).1 hu
  unfold Ab at q
  cases hm : TMp t u.1 u.2.1 with
  | none => rw [hm] at q; cases q
  | some hd =>
    rw [hm] at q
    have q := Option.some.inj q
    have q1 : hd.fin = u.2.2.1 := congrArg Prod.fst q
    have q2 : hd.has = u.2.2.2.1 := congrArg (fun x => x.2.1) q
    have q3 : datOf t u.1 u.2.1 = u.2.2.2.2 := congrArg (fun x => x.2.2) q
    obtain ⟨m, m1, m2, m3⟩ := held_came h hm
    refine ⟨?_, ?_, ?_, ⟨hd, hm, q1.symm, q2.symm⟩, ?_⟩
    · show key3 (keyN u.1) = u.1
      apply keyN_key
      rw [← m2]
      exact key3_in _
    · show tag60 (u.2.1.1 - 1) (u.2.1.2 - 1) = u.2.1
      rw [m3]
      show tag60 (m.c % 12 + 1 - 1) (m.k % 5 + 1 - 1) = tag60 m.c m.k
      unfold tag60
      refine Prod.ext ?_ ?_
      · show (m.c % 12 + 1 - 1) % 12 + 1 = m.c % 12 + 1
        omega
      · show (m.k % 5 + 1 - 1) % 5 + 1 = m.k % 5 + 1
        omega
    · rw [← q1, ← q2, Bool.or_eq_true]
      exact (h.inv u.1).some _ hd hm
    · rw [← q3]
      unfold datOf
      rw [hm, ← q2]
      rfl
theorem Told.brings {t : TK} {u : Uv} (h : Told t u) : (mvOf u).brings = u.2.2.2.1 := by
  have := h.any
  show (u.2.2.2.1 || !u.2.2.1) = u.2.2.2.1
  revert this
  cases u.2.2.1 <;> cases u.2.2.2.1 <;> simp
/-- What is told again does what its move says. -/
theorem Told.ok {t : TK} {u : Uv} (h : Told t u) {a : Option Addr} {n c : Nat} (hn : n = u.2.2.2.2.length) : UOk ⟨3, u.1, u.2.1.1, u.2.1.2, u.2.2.1, u.2.2.2.1, a, n, c⟩ (mvOf u) u.2.2.2.2 := by
  have hs : n ≤ 5 ∧ (u.2.2.2.1 = false → n = 0) := by
    rw [hn, h.data]
    split
    · rename_i z
      rw [fragD_len]
      have := key3_size (mvOf u).key
      rw [h.key] at this
      exact ⟨by omega, fun y => by rw [y] at z; cases z⟩
    · exact ⟨by simp, fun _ => rfl⟩
  refine ⟨h.key.symm, h.tag.symm, ?_, ?_, ?_, hn, fun z => ?_, hs.1⟩
  · have hp := tag60_proper (mvOf u).c (mvOf u).k
    have e : tag60 (mvOf u).c (mvOf u).k = u.2.1 := h.tag
    rw [e] at hp
    unfold Upd.may
    show (keyB u.1 && (isZero u.2.1.1 u.2.1.2 || isProper u.2.1.1 u.2.1.2) && !isZero u.2.1.1 u.2.1.2 && decide (n ≤ 65540) && Upd.fits _) = true
    rw [hp.1, hp.2, ← h.key, key3_keyB]
    have n5 : n ≤ 65540 := by omega
    have hf : Upd.fits ⟨3, key3 (mvOf u).key, u.2.1.1, u.2.1.2, u.2.2.1, u.2.2.2.1, a, n, c⟩ = true := by
      show (u.2.2.2.1 || (u.2.2.1 && ((n : Int) == 0))) = true
      have := h.any
      have := hs.2
      revert this
      revert h
      intro h
      have hx := h.any
      revert hx
      cases u.2.2.1 <;> cases u.2.2.2.1 <;> simp
    rw [hf]
    simp [n5]
  · rw [h.brings]
    show (decide ((3 : Int) = 1) || u.2.2.2.1) = u.2.2.2.1
    simp
  · show (decide ((3 : Int) = 2) || u.2.2.1) = u.2.2.1
    simp
  · rw [h.brings] at z
    rw [h.key, h.tag, h.data, if_pos z]
theorem flat_up {t : TK} {vs : List Av} (h : AllOf t (datOf t) vs) : (flat vs).Pairwise fun u u' => u.1 = u'.1 → tc u.2.1 u'.2.1 < 0 := by
  unfold flat
  rw [List.pairwise_flatMap]
  refine ⟨fun v hv => ?_, ?_⟩
  · rw [List.pairwise_map]
    exact (h.ents v hv).up.imp (fun {a b} hab (_ : v.1 = v.1) => hab)
  · have q := h.keys.one
    unfold List.Nodup at q
    rw [List.pairwise_map] at q
    refine q.imp (fun {a b} hab x hx y hy e => ?_)
    obtain ⟨x', _, rfl⟩ := List.mem_map.1 hx
    obtain ⟨y', _, rfl⟩ := List.mem_map.1 hy
    exact absurd e hab
theorem told_hist {t : TK} {vs : List Av} (h : AllOf t (datOf t) vs) (ht : ∀ u ∈ flat vs, Told t u) {L : List Uv} (e : ∀ u, u ∈ L ↔ u ∈ flat vs) (k : ByteArray) : hF (L.map mvOf) k = (fun g => ((TMp t k g).getD Hd.zero).fin) ∧ hH (L.map mvOf) k = (fun g => ((TMp t k g).getD Hd.zero).has) := by
  constructor
  · funext g
    rw [Bool.eq_iff_iff, hF_iff]
    constructor
    · rintro ⟨m, hm, h1, h2, h3⟩
      obtain ⟨u, hu, rfl⟩ := List.mem_map.1 hm
      have td := ht u ((e u).1 hu)
      obtain ⟨hd, q1, q2, q3⟩ := td.held
      rw [td.key] at h1
      rw [td.tag] at h2
      rw [← h1, h2, q1]
      exact q2.symm.trans h3
    · intro z
      cases hm : TMp t k g with
      | none => rw [hm] at z; cases z
      | some hd =>
        rw [hm] at z
        have hu : ((k, g, hd.fin, hd.has, datOf t k g) : Uv) ∈ flat vs := (flat_ab h _).2 (by unfold Ab; rw [hm]; rfl)
        have td := ht _ hu
        exact ⟨mvOf (k, g, hd.fin, hd.has, datOf t k g), List.mem_map.2 ⟨_, (e _).2 hu, rfl⟩, td.key, td.tag.symm, z⟩
  · funext g
    rw [Bool.eq_iff_iff, hH_iff]
    constructor
    · rintro ⟨m, hm, h1, h2, h3⟩
      obtain ⟨u, hu, rfl⟩ := List.mem_map.1 hm
      have td := ht u ((e u).1 hu)
      obtain ⟨hd, q1, q2, q3⟩ := td.held
      rw [td.key] at h1
      rw [td.tag] at h2
      rw [td.brings] at h3
      rw [← h1, h2, q1]
      exact q3.symm.trans h3
    · intro z
      cases hm : TMp t k g with
      | none => rw [hm] at z; cases z
      | some hd =>
        rw [hm] at z
        have hu : ((k, g, hd.fin, hd.has, datOf t k g) : Uv) ∈ flat vs := (flat_ab h _).2 (by unfold Ab; rw [hm]; rfl)
        have td := ht _ hu
        exact ⟨mvOf (k, g, hd.fin, hd.has, datOf t k g), List.mem_map.2 ⟨_, (e _).2 hu, rfl⟩, td.key, td.tag.symm, by rw [td.brings]; exact z⟩
theorem By.self {d : Int} {S : List (Int × Int)} {M : Int × Int → Option Hd} (i : Inv d S M) : By d S M (fun g => ((M g).getD Hd.zero).fin) (fun g => ((M g).getD Hd.zero).has) := by
  refine ⟨fun t _ => ?_, fun t z => ?_⟩
  · cases hm : M t with
    | none => rfl
    | some hd =>
      have := i.some t hd hm
      rw [← Bool.or_eq_true] at this
      show some (hd.fin, hd.has) = if (hd.fin || hd.has) = true then some (hd.fin, hd.has) else none
      rw [if_pos this]
  · cases hm : M t with
    | none => rw [hm] at z; cases z
    | some hd => exact i.pos t hd hm
theorem row_some {w wr : World} {d : Int} {t : TK} {ms : List Mv} (h : Dst w wr d t ms) (h0 : 0 ≤ d) {k : ByteArray} (hk : t.R k ≠ none) : ∃ g hd, TMp t k g = some hd := by
  obtain ⟨m, hm, rfl⟩ := (h.keys k).1 hk
  cases hS : TS t (key3 m.key) with
  | nil =>
    have fl : floorT (TS t (key3 m.key)) d = (0, 0) := by
      rcases floor_mem (TS t (key3 m.key)) d h0 with ⟨_, q⟩ | ⟨q, _⟩
      · exact q
      · rw [hS] at q; simp at q; omega
    have q := (h.hist (key3 m.key)).inn m.tag (by rw [fl]; exact tc_asym _ _ (proper_pos _ _ (tag60_proper m.c m.k).1))
    have hs : (hF ms (key3 m.key) m.tag || hH ms (key3 m.key) m.tag) = true := by
      rw [Bool.or_eq_true, hF_iff, hH_iff]
      cases hf : m.fin
      · exact .inr ⟨m, hm, rfl, rfl, by unfold Mv.brings; rw [hf]; simp⟩
      · exact .inl ⟨m, hm, rfl, rfl, hf⟩
    rw [if_pos hs] at q
    cases hq : TMp t (key3 m.key) m.tag with
    | none => rw [hq] at q; cases q
    | some hd => exact ⟨_, hd, hq⟩
  | cons g S =>
    obtain ⟨hd, hq, _⟩ := ((h.inv (key3 m.key)).fin g).1 (by rw [hS]; simp)
    exact ⟨g, hd, hq⟩
/-- What is told, told to a new table, makes the same table. -/
theorem same_made {w wr w' wr' : World} {d : Int} {t t' : TK} {ms : List Mv} {vs : List Av} {L : List Uv} (h : Dst w wr d t ms) (a : AllOf t (datOf t) vs) (h' : Dst w' wr' d t' (L.map mvOf)) (h0 : 0 ≤ d) (e : ∀ u, u ∈ L ↔ u ∈ flat vs) : (∀ k, t.R k = none ↔ t'.R k = none) ∧ ∀ k g, Ab t (datOf t) k g = Ab t' (datOf t') k g := by
  have ht : ∀ u ∈ flat vs, Told t u := fun u hu => told_of h a hu
  constructor
  · intro k
    have key : t.R k ≠ none ↔ t'.R k ≠ none := by
      rw [h'.keys k]
      constructor
      · intro z
        obtain ⟨g, hd, hm⟩ := row_some h h0 z
        have hu : ((k, g, hd.fin, hd.has, datOf t k g) : Uv) ∈ flat vs := (flat_ab a _).2 (by unfold Ab; rw [hm]; rfl)
        exact ⟨mvOf (k, g, hd.fin, hd.has, datOf t k g), List.mem_map.2 ⟨_, (e _).2 hu, rfl⟩, (ht _ hu).key⟩
      · rintro ⟨m, hm, hk⟩ z
        obtain ⟨u, hu, rfl⟩ := List.mem_map.1 hm
        have td := ht u ((e u).1 hu)
        obtain ⟨hd, q1, _⟩ := td.held
        rw [td.key] at hk
        rw [hk, TMp_no z] at q1
        cases q1
    exact ⟨fun z => Classical.byContradiction fun q => key.2 q z, fun z => Classical.byContradiction fun q => key.1 q z⟩
  · intro k g
    obtain ⟨e1, e2⟩ := told_hist a ht e k
    have hb := h'.hist k
    rw [e1, e2] at hb
    have := (By.one (By.self (h.inv k)) (h.inv k) hb (h'.inv k) h0).2 g
    rw [ab_flags, ab_flags]
    unfold flags
    rw [this]
/-- Each of what is told changes the new table. -/
theorem told_new {w wr w' wr' : World} {d : Int} {t t' : TK} {ms : List Mv} {vs : List Av} {i : Nat} (h : Dst w wr d t ms) (a : AllOf t (datOf t) vs) (h' : Dst w' wr' d t' (((flat vs).take i).map mvOf)) (h0 : 0 ≤ d) (hi : i < (flat vs).length) : wM t' (mvOf (flat vs)[i]) = true := by
  have ht : ∀ u ∈ flat vs, Told t u := fun u hu => told_of h a hu
  have td := ht _ (List.getElem_mem hi)
  have old : ∀ g hd, TMp t' (flat vs)[i].1 g = some hd → tc g (flat vs)[i].2.1 < 0 := by
    intro g hd hm
    obtain ⟨m, h1, h2, h3⟩ := held_came h' hm
    obtain ⟨u, hu, rfl⟩ := List.mem_map.1 h1
    have tu := ht u (List.mem_of_mem_take hu)
    rw [tu.key] at h2
    rw [tu.tag] at h3
    have up := flat_up a
    rw [← List.take_append_drop i (flat vs), List.pairwise_append] at up
    rw [h3]
    refine up.2.2 u hu (flat vs)[i] ?_ h2
    rw [List.drop_eq_getElem_cons hi]
    exact List.mem_cons_self
  unfold wM
  rw [td.key, td.tag, td.brings]
  have fl : ¬ tc (flat vs)[i].2.1 (floorT (TS t' (flat vs)[i].1) t'.delta) < 0 := by
    rw [h'.delta]
    rcases floor_mem (TS t' (flat vs)[i].1) d h0 with ⟨_, q⟩ | ⟨_, q2, q3⟩
    · rw [q, ← td.tag]
      exact tc_asym _ _ (proper_pos _ _ (tag60_proper _ _).1)
    · rw [q3]
      obtain ⟨hd, hm, _⟩ := ((h'.inv (flat vs)[i].1).fin _).1 (List.getElem_mem q2)
      exact tc_asym _ _ (old _ hd hm)
  rw [if_neg fl]
  have no : TMp t' (flat vs)[i].1 (flat vs)[i].2.1 = none := by
    cases hm : TMp t' (flat vs)[i].1 (flat vs)[i].2.1 with
    | none => rfl
    | some hd =>
      have := old _ hd hm
      rw [tc_self] at this
      exact absurd this (by decide)
  rw [no]
  have := td.any
  show ((flat vs)[i].2.2.2.1 && true || (flat vs)[i].2.2.1 && true) = true
  revert this
  cases (flat vs)[i].2.2.1 <;> cases (flat vs)[i].2.2.2.1 <;> simp
end Go.Proofs.YtojepeefphbekaaGreat
