import Derived.Test.YtojepeefphbekabGreatRowCJ
import Derived.Shelf.SlMaps.Clone
import Derived.Test.YtojepeefphbekabGreatProg
import Derived.Test.YtojepeefphbekabGreatInv
import Derived.Test.YtojepeefphbekabGreatPRef0J
import Derived.Test.YtojepeefphbekabGreatDoneJ
namespace Go.Proofs.YtojepeefphbekabGreat
open Go.RowKit 

end Go.Proofs.YtojepeefphbekabGreat

/-
  maps.Clone at the map of tags, laid at this dump.
-/
namespace Go.Proofs
open Go.Shelf
end Go.Proofs

namespace Go.Proofs.YtojepeefphbekabGreat
open Go.RowKit 

theorem ahead_zero {S : List (Int × Int)} (hp : ∀ t ∈ S, isProper t.1 t.2 = true) : ahead S (0, 0) = 0 := by
  unfold ahead
  rw [List.countP_eq_zero]
  intro t ht
  have := hp t ht
  unfold isProper at this
  simp at this
  have : ¬ tc t (0, 0) < 0 := by
    rw [tc_lt]
    show ¬ (t.1 < 0 ∨ t.1 = 0 ∧ t.2 < 0)
    omega
  simpa using this
theorem rising_one : ∀ (l m : List (Int × Int)), Rising l → Rising m → (∀ a, a ∈ l ↔ a ∈ m) → l = m
  | [], [], _, _, _ => rfl
  | [], b :: m, _, _, h => absurd ((h b).2 List.mem_cons_self) (by simp)
  | a :: l, [], _, _, h => absurd ((h a).1 List.mem_cons_self) (by simp)
  | a :: l, b :: m, hl, hm, h => by
    unfold Rising at hl hm
    rw [List.pairwise_cons] at hl hm
    have e : a = b := by
      rcases List.mem_cons.1 ((h a).1 List.mem_cons_self) with z | z
      · exact z
      · rcases List.mem_cons.1 ((h b).2 List.mem_cons_self) with y | y
        · exact y.symm
        · exact absurd (hm.1 a z) (tc_asym _ _ (hl.1 b y))
    subst e
    have nl : a ∉ l := fun z => tc_asym _ _ (hl.1 a z) (hl.1 a z)
    have nm : a ∉ m := fun z => tc_asym _ _ (hm.1 a z) (hm.1 a z)
    congr 1
    refine rising_one l m hl.2 hm.2 (fun c => ⟨fun z => ?_, fun z => ?_⟩)
    · rcases List.mem_cons.1 ((h c).1 (List.mem_cons_of_mem _ z)) with y | y
      · subst y
        exact absurd z nl
      · exact y
    · rcases List.mem_cons.1 ((h c).2 (List.mem_cons_of_mem _ z)) with y | y
      · subst y
        exact absurd z nm
      · exact y
end Go.Proofs.YtojepeefphbekabGreat

namespace Go.Proofs.YtojepeefphbekabGreat
open Go.RowKit 

theorem stop_some (l : List Mv) (key : ByteArray) (d : Int) (h0 : 0 ≤ d) : ∃ k, Stop l key d k := by
  have H : ∀ k, k ≤ 60 → ((fins l key k : Int) ≤ d ∨ ∃ k', Stop l key d k') := by
    intro k
    induction k with
    | zero => intro _; exact .inl h0
    | succ k ih =>
      intro hk
      rcases ih (by omega) with z | z
      · by_cases hf : hF l key (tagN (59 - k)) = true
        · have e : fins l key (k + 1) = fins l key k + 1 := by
            show fins l key k + _ = _
            rw [if_pos hf]
          by_cases hd : (fins l key k : Int) + 1 ≤ d
          · left; rw [e]; omega
          · exact .inr ⟨k + 1, .inr ⟨k, rfl, by omega, hf, by rw [e]; omega⟩⟩
        · have e : fins l key (k + 1) = fins l key k := by
            show fins l key k + _ = _
            rw [if_neg hf]
            rfl
          left
          rw [e]
          exact z
      · exact .inr z
  rcases H 60 (Nat.le_refl _) with z | z
  · exact ⟨60, .inl ⟨rfl, z⟩⟩
  · exact z
/-- Two places change theirs. -/
theorem swap_mem {α : Type} (L : List α) (j k : Nat) (hj : j < L.length) (hk : k < L.length) (m : α) : m ∈ (L.set j L[k]).set k L[j] ↔ m ∈ L := by
  constructor
  · intro h
    rcases List.mem_or_eq_of_mem_set h with z | z
    · rcases List.mem_or_eq_of_mem_set z with y | y
      · exact y
      · rw [y]; exact List.getElem_mem _
    · rw [z]; exact List.getElem_mem _
  · intro h
    obtain ⟨i, hi, rfl⟩ := List.getElem_of_mem h
    rw [List.mem_iff_getElem]
    by_cases e1 : i = j
    · subst e1
      exact ⟨k, by simpa using hk, by simp⟩
    · by_cases e2 : i = k
      · subst e2
        refine ⟨j, by simpa using hj, ?_⟩
        rw [List.getElem_set_ne (by omega), List.getElem_set_self]
      · refine ⟨i, by simpa using hi, ?_⟩
        rw [List.getElem_set_ne (by omega), List.getElem_set_ne (by omega)]
end Go.Proofs.YtojepeefphbekabGreat

namespace Go.Proofs.YtojepeefphbekabGreat
open Go.RowKit 

/-- The round's state of Copy. -/
structure CI (w wr : World) (rb nb rr n cnt0 : Nat) (t : TK) (R' : ByteArray → Option RK) (L : ByteArray → Prop) (m cnt : Nat) : Prop where
  rg : RG 9 (fun s : ByteArray => Lit.string s.data.toList) (fun s : ByteArray => s.size ≤ maxLen) RV.val RR wr rb rr n t.rv L cnt
  tm : TM 9 (fun s : ByteArray => Lit.string s.data.toList) (fun s : ByteArray => s.size ≤ maxLen) RV.val RR wr nb m (fun k => (R' k).map fun r => (⟨some r.mb, some r.sb⟩ : RV))
  row : ∀ k r', R' k = some r' → IsRow wr n r' ∧ ∃ r, t.R k = some r ∧ r'.S = r.S ∧ r'.M = r.M ∧ r'.len = r.len
  all : ∀ k r, t.R k = some r → L k ∨ R' k ≠ none
  fst : ∀ k, L k → R' k = Option.none
  fresh : ∀ k r', R' k = some r' → ∀ b, r'.Uses b → w.heap.size ≤ b ∧ b ≠ nb ∧ b ≠ rr
  apart : ∀ k k' r r', R' k = some r → R' k' = some r' → k ≠ k' → ∀ b, r.Uses b → ¬ r'.Uses b
  kept : Kept (fun _ => False) w wr
  few : m + cnt ≤ cnt0
theorem upd_at {κ ε : Type} [DecidableEq κ] (M : κ → Option ε) (k : κ) (e : ε) : upd M k e k = some e := if_pos rfl
theorem upd_ne {κ ε : Type} [DecidableEq κ] (M : κ → Option ε) {k j : κ} (e : ε) (h : j ≠ k) : upd M k e j = M j := if_neg h
theorem CI.step {w wr w2 w3 w4 : World} {rb nb rr n cnt0 : Nat} {t : TK} {R' : ByteArray → Option RK} {L : ByteArray → Prop} {m cnt cnt2 : Nat} {k : ByteArray} {r r' : RK} (h : CI w wr rb nb rr n cnt0 t R' L m cnt)
    (hk : L k ∧ t.R k = some r) (rg2 : RG 9 (fun s : ByteArray => Lit.string s.data.toList) (fun s : ByteArray => s.size ≤ maxLen) RV.val RR w2 rb rr n t.rv (fun j => L j ∧ j ≠ k) cnt2) (hc : cnt2 < cnt) (K2 : Kept (fun j => j = rr) wr w2) (hw : w.heap.size ≤ nb ∧ w.heap.size ≤ rr ∧ nb ≠ rr ∧ rb < w.heap.size ∧ nb < wr.heap.size ∧ rr < wr.heap.size)
    (K3 : Kept (fun _ => False) w2 w3) (i3 : IsRow w3 n r') (e1 : r'.S = r.S) (e2 : r'.M = r.M) (e3 : r'.len = r.len) (fr : ∀ b, r'.Uses b → w2.heap.size ≤ b)
    (tm4 : TM 9 (fun s : ByteArray => Lit.string s.data.toList) (fun s : ByteArray => s.size ≤ maxLen) RV.val RR w4 nb (m + 1) (upd (fun k => (R' k).map fun r => (⟨some r.mb, some r.sb⟩ : RV)) k ⟨some r'.mb, some r'.sb⟩)) (K4 : Kept (fun j => j = nb) w3 w4) : CI w w4 rb nb rr n cnt0 t (upd R' k r') (fun j => L j ∧ j ≠ k) (m + 1) cnt2 := by
  obtain ⟨a1, a2, a3, a4, a5, a6⟩ := hw
  have z2 := K2.size
  have old : ∀ j r2, upd R' k r' j = some r2 → (j = k ∧ r2 = r') ∨ (j ≠ k ∧ R' j = some r2) := by
    intro j r2 hj
    by_cases e : j = k
    · rw [e, upd_at] at hj
      exact .inl ⟨e, (Option.some.inj hj).symm⟩
    · rw [upd_ne _ _ e] at hj
      exact .inr ⟨e, hj⟩
  have far : ∀ j r2, R' j = some r2 → ∀ b, r2.Uses b → ¬ r'.Uses b := fun j r2 hj b hb hb' => by
    have := (h.row j r2 hj).1.lt hb
    have := fr b hb'
    omega
  refine ⟨rg2.kept K3 (fun z => z) (fun z => z) |>.kept K4 (fun z => by have z : rb = nb := z; omega) (fun z => a3 z.symm), ?_, fun j r2 hj => ?_, fun j r2 hj => ?_, fun j hj => ?_, fun j r2 hj b hb => ?_, fun j j' r2 r2' hj hj' hn b hb hb' => ?_, ?_, by have := h.few; omega⟩
  · have e : (fun j => (upd R' k r' j).map fun r => (⟨some r.mb, some r.sb⟩ : RV)) = upd (fun k => (R' k).map fun r => (⟨some r.mb, some r.sb⟩ : RV)) k ⟨some r'.mb, some r'.sb⟩ := by
      funext j
      by_cases e : j = k
      · rw [e, upd_at, upd_at]; rfl
      · rw [upd_ne _ _ e, upd_ne _ _ e]
    rw [e]
    exact tm4
  · rcases old j r2 hj with ⟨rfl, rfl⟩ | ⟨e, q⟩
    · refine ⟨i3.off K4 (fun b hb z => ?_), r, hk.2, e1, e2, e3⟩
      have z : b = nb := z
      have := fr b hb
      omega
    · obtain ⟨i, q2⟩ := h.row j r2 q
      refine ⟨((i.off K2 (fun b hb z => (h.fresh j r2 q b hb).2.2 z)).k0 K3).off K4 (fun b hb z => (h.fresh j r2 q b hb).2.1 z), q2⟩
  · by_cases e : j = k
    · rw [e, upd_at]
      exact .inr (by simp)
    · rw [upd_ne _ _ e]
      rcases h.all j r2 hj with z | z
      · exact .inl ⟨z, e⟩
      · exact .inr z
  · rw [upd_ne _ _ hj.2]
    exact h.fst j hj.1
  · rcases old j r2 hj with ⟨rfl, rfl⟩ | ⟨e, q⟩
    · have := fr b hb
      have := h.kept.size
      exact ⟨by omega, by omega, by omega⟩
    · exact h.fresh j r2 q b hb
  · rcases old j r2 hj with ⟨rfl, rfl⟩ | ⟨e, q⟩
    · rcases old j' r2' hj' with ⟨rfl, rfl⟩ | ⟨e', q'⟩
      · exact hn rfl
      · exact far j' r2' q' b hb' hb
    · rcases old j' r2' hj' with ⟨rfl, rfl⟩ | ⟨e', q'⟩
      · exact far j r2 q b hb hb'
      · exact h.apart j j' r2 r2' q q' hn b hb hb'
  · exact ((h.kept.trans K2 (fun j hj z => by have z : j = rr := z; omega)).and0 K3).trans K4 (fun j hj z => by have z : j = nb := z; omega)
theorem run_makeMap_hint (t k e : TypeId) (h : Tryz.prog.underlying t = some (.map k e)) (n : Int) (w : World) : (Instr.makeMap t (some (.int .i64 n))).run Tryz.prog w = .ok (.map (some w.heap.size)) (w.alloc (.map #[] 0)) := by
  simp [Instr.makeMap, run_underlying h, asInt, go_sem, Result.andThen]
theorem rv_some {t : TK} {k : ByteArray} {v : RV} (h : t.rv k = some v) : ∃ r, t.R k = some r ∧ v = ⟨some r.mb, some r.sb⟩ := by
  unfold TK.rv at h
  cases hr : t.R k with
  | none => rw [hr] at h; cases h
  | some r => rw [hr] at h; exact ⟨r, rfl, (Option.some.inj h).symm⟩
theorem rv_none {t : TK} {k : ByteArray} : t.rv k = none ↔ t.R k = none := by
  unfold TK.rv
  cases t.R k <;> simp
/-- Behind the loop. -/
theorem CI.done {w0 w wr w' : World} {rb nb rr n cnt0 : Nat} {d : Int} {t : TK} {ms : List Mv} {R' : ByteArray → Option RK} {L : ByteArray → Prop} {m cnt tb : Nat} (h : CI w wr rb nb rr n cnt0 t R' L m cnt) (ht : Dst w0 w d t ms) (hn : n = ms.length) (hc : cnt0 ≤ n) (no : ∀ k r, t.R k = some r → ¬ L k) (h1 : w.heap.size ≤ nb)
    (K : Kept (fun _ => False) wr w') (hb : w'.heap[tb]? = some (.cells #[.int .i64 d, .map (some nb)] 54 (0, 0))) (h2 : wr.heap.size ≤ tb) : Dst w w' d ⟨tb, nb, d, R'⟩ ms := by
  have rn : ∀ k, R' k = none ↔ t.R k = none := by
    intro k
    constructor
    · intro z
      cases hr : t.R k with
      | none => rfl
      | some r =>
        rcases h.all k r hr with q | q
        · exact absurd q (no k r hr)
        · exact absurd z q
    · intro z
      cases hr : R' k with
      | none => rfl
      | some r' =>
        obtain ⟨_, r, hr2, _⟩ := h.row k r' hr
        rw [z] at hr2
        cases hr2
  have eS : ∀ k, TS ⟨tb, nb, d, R'⟩ k = TS t k := by
    intro k
    cases hr : R' k with
    | none => rw [TS_no (t := ⟨tb, nb, d, R'⟩) hr, TS_no ((rn k).1 hr)]
    | some r' =>
      obtain ⟨_, r, hr2, q, _⟩ := h.row k r' hr
      rw [TS_at (t := ⟨tb, nb, d, R'⟩) hr, TS_at hr2, q]
  have eM : ∀ k, TMp ⟨tb, nb, d, R'⟩ k = TMp t k := by
    intro k
    cases hr : R' k with
    | none => rw [TMp_no (t := ⟨tb, nb, d, R'⟩) hr, TMp_no ((rn k).1 hr)]
    | some r' =>
      obtain ⟨_, r, hr2, _, q, _⟩ := h.row k r' hr
      rw [TMp_at (t := ⟨tb, nb, d, R'⟩) hr, TMp_at hr2, q]
  have few := h.few
  have K0 := h.kept.and0 K
  refine ⟨⟨hb, (h.tm.kept K (fun z => z)).mono (by omega), fun k r' hr => by rw [← hn]; exact (h.row k r' hr).1.k0 K, fun k r' hr => ?_, h.apart, fun k r' hr => ⟨fun z => (h.fresh k r' hr _ z).2.1 rfl, fun z => ?_⟩⟩, fun k r' hr => ?_, fun k r' hr => ?_, fun k r' hr => ?_, rfl, fun k => by rw [eS, eM]; exact ht.inv k, fun k => by rw [eS, eM]; exact ht.hist k, fun k => ?_, K0, fun b hbb => ?_, ?_⟩
  · obtain ⟨_, r, hr2, _, _, q⟩ := h.row k r' hr
    rw [q]
    exact ht.tab.len k r hr2
  · have := (h.row k r' hr).1.lt z
    have h2 : wr.heap.size ≤ tb := h2
    have this : tb < wr.heap.size := this
    omega
  · obtain ⟨_, r, hr2, _, q, _⟩ := h.row k r' hr
    rw [q]
    exact (ht.dat k r hr2).off K0 (fun _ _ _ z => z)
  · obtain ⟨_, r, hr2, _, q, _⟩ := h.row k r' hr
    rw [q]
    exact (ht.dd k r hr2).off (ht.dat k r hr2) K0 (fun _ _ _ z => z)
  · obtain ⟨_, r, hr2, _, _, q⟩ := h.row k r' hr
    rw [q]
    exact ht.len k r hr2
  · rw [← ht.keys k]
    exact not_congr (rn k)
  · rcases hbb with z | ⟨k, r', hr, z⟩
    · have z : b = nb := z
      omega
    · exact (h.fresh k r' hr b z).1
  · have := h.kept.size
    show w.heap.size ≤ tb
    omega
end Go.Proofs.YtojepeefphbekabGreat

namespace Go.Proofs.YtojepeefphbekabGreat
open Go.RowKit 

/-- A second table with the same entries. -/
structure CopyOf (w w' : World) (n : Nat) (t c : TK) : Prop where
  tab : IsT w' n c
  delta : c.delta = t.delta
  none : ∀ k, c.R k = none ↔ t.R k = none
  row : ∀ k r', c.R k = some r' → ∃ r, t.R k = some r ∧ r'.S = r.S ∧ r'.M = r.M ∧ r'.len = r.len
  kept : Kept (fun _ => False) w w'
  fresh : ∀ b, c.Uses b → w.heap.size ≤ b
  ftb : w.heap.size ≤ c.tb
theorem CI.copy {w wr w' : World} {rb nb rr n cnt0 : Nat} {d : Int} {t : TK} {R' : ByteArray → Option RK} {L : ByteArray → Prop} {m cnt tb : Nat} (h : CI w wr rb nb rr n cnt0 t R' L m cnt) (ht : IsT w n t) (hd : t.delta = d) (hc : cnt0 ≤ n) (no : ∀ k r, t.R k = some r → ¬ L k) (h1 : w.heap.size ≤ nb)
    (K : Kept (fun _ => False) wr w') (hb : w'.heap[tb]? = some (.cells #[.int .i64 d, .map (some nb)] 54 (0, 0))) (h2 : wr.heap.size ≤ tb) : CopyOf w w' n t ⟨tb, nb, d, R'⟩ := by
  have rn : ∀ k, R' k = none ↔ t.R k = none := by
    intro k
    constructor
    · intro z
      cases hr : t.R k with
      | none => rfl
      | some r =>
        rcases h.all k r hr with q | q
        · exact absurd q (no k r hr)
        · exact absurd z q
    · intro z
      cases hr : R' k with
      | none => rfl
      | some r' =>
        obtain ⟨_, r, hr2, _⟩ := h.row k r' hr
        rw [z] at hr2
        cases hr2
  have few := h.few
  have K0 := h.kept.and0 K
  refine ⟨⟨hb, (h.tm.kept K (fun z => z)).mono (by omega), fun k r' hr => (h.row k r' hr).1.k0 K, fun k r' hr => ?_, h.apart, fun k r' hr => ⟨fun z => (h.fresh k r' hr _ z).2.1 rfl, fun z => ?_⟩⟩, hd.symm, rn, fun k r' hr => (h.row k r' hr).2, K0, fun b hbb => ?_, ?_⟩
  · obtain ⟨_, r, hr2, _, _, q⟩ := h.row k r' hr
    rw [q]
    exact ht.len k r hr2
  · have := (h.row k r' hr).1.lt z
    have h2 : wr.heap.size ≤ tb := h2
    have this : tb < wr.heap.size := this
    omega
  · rcases hbb with z | ⟨k, r', hr, z⟩
    · have z : b = nb := z
      omega
    · exact (h.fresh k r' hr b z).1
  · have := h.kept.size
    show w.heap.size ≤ tb
    omega
end Go.Proofs.YtojepeefphbekabGreat
