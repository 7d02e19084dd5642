import Derived.Test.YtojepeefphbekaaTab2
import Derived.Test.YtojepeefphbekaaLaw
namespace Go.Proofs.Ytojepeefphbekaa
open Go.RowKit

/-- Three tags in a row of six cells. -/
def fc (F : Nat → Int × Int) : Array Value := #[.int .i64 (F 0).1, .int .i64 (F 0).2, .int .i64 (F 1).1, .int .i64 (F 1).2, .int .i64 (F 2).1, .int .i64 (F 2).2]
def setF (F : Nat → Int × Int) (n : Nat) (v : Int × Int) : Nat → Int × Int := fun j => if j = n then v else F j
theorem fc_get (F : Nat → Int × Int) (n : Nat) (h : n < 3) : (fc F)[n * 2]? = some (.int .i64 (F n).1) ∧ (fc F)[n * 2 + 1]? = some (.int .i64 (F n).2) := by
  match n, h with
  | 0, _ => exact ⟨rfl, rfl⟩
  | 1, _ => exact ⟨rfl, rfl⟩
  | 2, _ => exact ⟨rfl, rfl⟩
theorem fc_set (F : Nat → Int × Int) (n : Nat) (h : n < 3) (x y : Int) : ((fc F).setIfInBounds (n * 2) (.int .i64 x)).setIfInBounds (n * 2 + 1) (.int .i64 y) = fc (setF F n (x, y)) := by
  match n, h with
  | 0, _ => rfl
  | 1, _ => rfl
  | 2, _ => rfl
/-- The state of TableBounds behind i moves. -/
structure BS (w wr : World) (d : Int) (t : TK) (i FB TB : Nat) (F G : Nat → Int × Int) : Prop where
  tab : IsT wr i t
  dat : DatT wr t
  len : ∀ k r, t.R k = some r → r.len ≤ i
  delta : t.delta = d
  inv : ∀ k, Inv d (TS t k) (TMp t k)
  kept : Kept (fun _ => False) w wr
  fresh : ∀ b, t.Uses b → w.heap.size ≤ b
  ftb : w.heap.size ≤ t.tb
  fl : wr.heap[FB]? = some (.cells (fc F) 30 (0, 0))
  tp : wr.heap[TB]? = some (.cells (fc G) 30 (0, 0))
  lo : w.heap.size ≤ FB ∧ w.heap.size ≤ TB ∧ FB ≠ TB
  nf : ¬ t.Uses FB ∧ ¬ t.Uses TB
  le : ∀ n : Nat, n < 3 → ¬ tc (floorT (TS t (key3 (n : Int))) d) (F n) < 0 ∧ ¬ tc (floorT (TS t (key3 (n : Int))) 0) (G n) < 0
theorem IsT.k0' {w w' : World} {n : Nat} {t : TK} {U : Nat → Prop} (h : IsT w n t) (K : Kept U w w') (h0 : ¬ U t.tb) (h1 : ∀ b, t.Uses b → ¬ U b) : IsT w' n t := (h.u.off K h0 h1).t h.len
theorem BS.k0 {w wr w' : World} {d : Int} {t : TK} {i FB TB : Nat} {F G : Nat → Int × Int} (h : BS w wr d t i FB TB F G) (K : Kept (fun _ => False) wr w') : BS w w' d t i FB TB F G :=
  ⟨h.tab.k0 K, h.dat.k0 K, h.len, h.delta, h.inv, h.kept.and0 K, h.fresh, h.ftb, K.get h.fl (fun z => z), K.get h.tp (fun z => z), h.lo, h.nf, h.le⟩
theorem BS.ne {w wr : World} {d : Int} {t : TK} {i FB TB : Nat} {F G : Nat → Int × Int} (h : BS w wr d t i FB TB F G) : t.tb ≠ FB ∧ t.tb ≠ TB := by
  constructor
  · intro e
    have h1 := h.tab.blk
    rw [e, h.fl] at h1
    have := Option.some.inj h1
    injection this with _ e2
    exact absurd e2 (by decide)
  · intro e
    have h1 := h.tab.blk
    rw [e, h.tp] at h1
    have := Option.some.inj h1
    injection this with _ e2
    exact absurd e2 (by decide)
/-- Behind an update. -/
theorem BS.ap {w wr w' : World} {d : Int} {t t' : TK} {i FB TB : Nat} {F G : Nat → Int × Int} {u : Upd} (h : BS w wr d t i FB TB F G) (p : Ap wr w' i t t' u) (i' : IsT w' (i + 1) t') (h0 : 0 ≤ d) (hp : isProper u.x u.y = true) : BS w w' d t' (i + 1) FB TB F G := by
  have step : ∀ k, Inv d (TS t' k) (TMp t' k) ∧ ¬ tc (floorT (TS t' k) d) (floorT (TS t k) d) < 0 ∧ ¬ tc (floorT (TS t' k) 0) (floorT (TS t k) 0) < 0 := by
    intro k
    have idn : ∀ s : TK, s.R k = t.R k → Inv d (TS s k) (TMp s k) ∧ ¬ tc (floorT (TS s k) d) (floorT (TS t k) d) < 0 ∧ ¬ tc (floorT (TS s k) 0) (floorT (TS t k) 0) < 0 := by
      intro s e
      have e1 : TS s k = TS t k := by unfold TS; rw [e]
      have e2 : TMp s k = TMp t k := by unfold TMp; rw [e]
      rw [e1, e2]
      exact ⟨h.inv k, by rw [tc_self]; decide, by rw [tc_self]; decide⟩
    by_cases ek : k = u.key
    · subst ek
      cases hw : (wouldV t u).1
      · exact idn t' (by rw [p.no hw])
      · obtain ⟨h2, q⟩ := p.yes hw
        rw [h.delta] at q
        have hx : (lackF (TS t u.key) (TMp t u.key) u d).1 = true ∨ (lackF (TS t u.key) (TMp t u.key) u d).2 = true := by
          unfold wouldV wouldF at hw
          rw [h.delta] at hw
          split at hw
          · simpa using hw
          · cases hw
        exact (h.inv u.key).app h0 hp hx q
    · exact idn t' (p.others k ek)
  have sz : ∀ b, t'.Uses b → t.Uses b ∨ wr.heap.size ≤ b := p.near
  have sw := h.kept.size
  have lf := block_lt h.fl
  have lt := block_lt h.tp
  refine ⟨i', p.dat, p.len, p.delta.trans h.delta, fun k => (step k).1, h.kept.trans p.kept (fun j hj z => ?_), fun b hb => ?_, by rw [p.tb]; exact h.ftb, p.kept.get h.fl h.nf.1, p.kept.get h.tp h.nf.2, h.lo, ⟨fun z => ?_, fun z => ?_⟩, fun n hn => ⟨tc_le_trans _ _ _ (h.le n hn).1 (step _).2.1, tc_le_trans _ _ _ (h.le n hn).2 (step _).2.2⟩⟩
  · have := h.fresh j z
    omega
  · rcases sz b hb with z | z
    · exact h.fresh b z
    · omega
  · rcases sz _ z with q | q
    · exact h.nf.1 q
    · omega
  · rcases sz _ z with q | q
    · exact h.nf.2 q
    · omega
theorem BS.off {w wr w' : World} {d : Int} {t : TK} {i FB TB X : Nat} {F G F' G' : Nat → Int × Int} (h : BS w wr d t i FB TB F G) (K : Kept (fun k => k = X) wr w') (hX : X = FB ∨ X = TB) (f1 : w'.heap[FB]? = some (.cells (fc F') 30 (0, 0))) (f2 : w'.heap[TB]? = some (.cells (fc G') 30 (0, 0)))
    (le : ∀ n : Nat, n < 3 → ¬ tc (floorT (TS t (key3 (n : Int))) d) (F' n) < 0 ∧ ¬ tc (floorT (TS t (key3 (n : Int))) 0) (G' n) < 0) : BS w w' d t i FB TB F' G' := by
  have lo := h.lo
  have nu : ∀ b, t.Uses b → ¬ b = X := by
    intro b hb e
    rcases hX with z | z
    · exact h.nf.1 (by rw [← z, ← e]; exact hb)
    · exact h.nf.2 (by rw [← z, ← e]; exact hb)
  have n5 : ∀ k cs, wr.heap[k]? = some (.cells cs 5 (0, 0)) → ¬ k = X := by
    intro k cs hk e
    rcases hX with z | z
    · rw [e, z, h.fl] at hk
      have := Option.some.inj hk
      injection this with _ e2
      exact absurd e2 (by decide)
    · rw [e, z, h.tp] at hk
      have := Option.some.inj hk
      injection this with _ e2
      exact absurd e2 (by decide)
  have nt : ¬ t.tb = X := by
    rcases hX with z | z
    · rw [z]; exact h.ne.1
    · rw [z]; exact h.ne.2
  refine ⟨h.tab.k0' K nt nu, h.dat.off K n5, h.len, h.delta, h.inv, h.kept.trans K (fun j hj z => ?_), h.fresh, h.ftb, f1, f2, h.lo, h.nf, le⟩
  have z : j = X := z
  rcases hX with q | q <;> omega
theorem BS.setF {w wr : World} {d : Int} {t : TK} {i FB TB : Nat} {F G : Nat → Int × Int} (h : BS w wr d t i FB TB F G) (n : Nat) (hn : n < 3) (x y : Int) (e : floorT (TS t (key3 (n : Int))) d = (x, y)) : BS w ((wr.setCell ⟨FB, n * 2, none⟩ (.int .i64 x)).setCell ⟨FB, n * 2 + 1, none⟩ (.int .i64 y)) d t i FB TB (setF F n (x, y)) G := by
  have K : Kept (fun k => k = FB) wr ((wr.setCell ⟨FB, n * 2, none⟩ (.int .i64 x)).setCell ⟨FB, n * 2 + 1, none⟩ (.int .i64 y)) := ((Kept.refl (fun k => k = FB) wr).setCell (p := ⟨FB, n * 2, none⟩) (fun _ => rfl) _).setCell (p := ⟨FB, n * 2 + 1, none⟩) (fun _ => rfl) _
  have f1 := set_heap (set_heap h.fl (n * 2) (.int .i64 x)) (n * 2 + 1) (.int .i64 y)
  rw [fc_set F n hn] at f1
  refine h.off K (.inl rfl) f1 (K.get h.tp (fun z => h.lo.2.2 z.symm)) (fun m hm => ⟨?_, (h.le m hm).2⟩)
  unfold Ytojepeefphbekaa.setF
  by_cases q : m = n
  · rw [if_pos q, q, e, tc_self]; decide
  · rw [if_neg q]; exact (h.le m hm).1
theorem BS.setG {w wr : World} {d : Int} {t : TK} {i FB TB : Nat} {F G : Nat → Int × Int} (h : BS w wr d t i FB TB F G) (n : Nat) (hn : n < 3) (x y : Int) (e : floorT (TS t (key3 (n : Int))) 0 = (x, y)) : BS w ((wr.setCell ⟨TB, n * 2, none⟩ (.int .i64 x)).setCell ⟨TB, n * 2 + 1, none⟩ (.int .i64 y)) d t i FB TB F (Ytojepeefphbekaa.setF G n (x, y)) := by
  have K : Kept (fun k => k = TB) wr ((wr.setCell ⟨TB, n * 2, none⟩ (.int .i64 x)).setCell ⟨TB, n * 2 + 1, none⟩ (.int .i64 y)) := ((Kept.refl (fun k => k = TB) wr).setCell (p := ⟨TB, n * 2, none⟩) (fun _ => rfl) _).setCell (p := ⟨TB, n * 2 + 1, none⟩) (fun _ => rfl) _
  have f1 := set_heap (set_heap h.tp (n * 2) (.int .i64 x)) (n * 2 + 1) (.int .i64 y)
  rw [fc_set G n hn] at f1
  refine h.off K (.inr rfl) (K.get h.fl (fun z => h.lo.2.2 z)) f1 (fun m hm => ⟨(h.le m hm).1, ?_⟩)
  unfold Ytojepeefphbekaa.setF
  by_cases q : m = n
  · rw [if_pos q, q, e, tc_self]; decide
  · rw [if_neg q]; exact (h.le m hm).2
end Go.Proofs.Ytojepeefphbekaa
