import Derived.Test.YtojepeefphbekabGreatKeyzJ
import Derived.Test.YtojepeefphbekabGreatAlls
import Derived.BigQuiet
import Derived.Deep.QuietTactic
import Derived.Test.YtojepeefphbekabGreatTab2
namespace Go.Proofs.YtojepeefphbekabGreat
open Go.RowKit 

theorem ba_loop (b : ByteArray) : ∀ k i r, b.size - i = k → ByteArray.toList.loop b i r = r.reverse ++ b.data.toList.drop i := by
  have hl : b.data.toList.length = b.size := by rw [Array.length_toList]; rfl
  intro k
  induction k with
  | zero =>
    intro i r h
    unfold ByteArray.toList.loop
    rw [if_neg (by omega), List.drop_eq_nil_of_le (by omega)]
    simp
  | succ k ih =>
    intro i r h
    unfold ByteArray.toList.loop
    rw [if_pos (by omega), ih (i+1) _ (by omega), List.drop_eq_getElem_cons (i := i) (by omega)]
    have e : b.get! i = b.data.toList[i]'(by omega) := by
      have hs : i < b.data.size := by
        have : b.size = b.data.size := rfl
        omega
      show b.data[i]! = _
      rw [getElem!_pos b.data i hs]
      simp
    rw [e]
    simp
theorem ba_toList (b : ByteArray) : b.toList = b.data.toList := by
  unfold ByteArray.toList
  rw [ba_loop b _ 0 [] rfl]
  simp
theorem ba_ne {a b : ByteArray} (h : ¬ a = b) : ¬ a.toList = b.toList := by
  rw [ba_toList, ba_toList]
  intro z
  apply h
  cases a
  cases b
  congr 1
  exact Array.toList_inj.1 z
theorem str_inj {l m : List Nat} (hl : ∀ c ∈ l, c < 256) (hm : ∀ c ∈ m, c < 256) (h : str l = str m) : l = m := by
  unfold str at h
  simp at h
  have e : ∀ k : List Nat, (∀ c ∈ k, c < 256) → (k.map UInt8.ofNat).map UInt8.toNat = k := by
    intro k hk
    rw [List.map_map]
    conv => rhs; rw [← List.map_id k]
    refine List.map_congr_left (fun c hc => ?_)
    have := hk c hc
    simp
    omega
  have h2 : l.map UInt8.ofNat = m.map UInt8.ofNat := h
  rw [← e l hl, ← e m hm, h2]
/-- Two entries: alike or not. -/
def entV (x y : Int) (f g : Bool) (l : List Nat) : Ev := ((x, y), f, g, l)
end Go.Proofs.YtojepeefphbekabGreat

namespace Go.Proofs.YtojepeefphbekabGreat
open Go.RowKit 

theorem EntRd.at {w : World} {p : Option Addr} {n c : Nat} {es : List Ev} (h : EntRd w p n c es) {i : Nat} (hi : i < n) : ∃ b x y f g l a m cc, p = some ⟨b, 0, none⟩ ∧ es[i]? = some (entV x y f g l) ∧ w.cell? ⟨b, i * 5, none⟩ = some (.int .i64 x) ∧ w.cell? ⟨b, i * 5 + 1, none⟩ = some (.int .i64 y) ∧ w.cell? ⟨b, i * 5 + 2, none⟩ = some (.bool f) ∧ w.cell? ⟨b, i * 5 + 3, none⟩ = some (.bool g) ∧ w.cell? ⟨b, i * 5 + 4, none⟩ = some (.slice a m cc) ∧ Reads w a m cc l := by
  obtain ⟨L, ow, al⟩ := h.row
  have hl : L.length = n := by rw [al.1]; exact h.len
  rcases ow.2 with ⟨_, hn⟩ | ⟨b, cap, cur, z, _⟩
  · omega
  · have z : Value.slice p n c = .slice (some ⟨b, 0, none⟩) n cap := z
    injection z with z1 _ z3
    subst z1
    subst z3
    have hc := ow.cells (g := b) rfl
    have h1 : i < L.length := by omega
    have h2 : i < es.length := by rw [h.len]; exact hi
    obtain ⟨⟨⟨x, y⟩, f, g, a, m, cc⟩, hL⟩ : ∃ e, L[i] = e := ⟨_, rfl⟩
    have q := al.2 i h1 h2
    rw [hL] at q
    have cell : ∀ j v, j < 5 → (encE ((x, y), f, g, a, m, cc))[j]? = some v → w.cell? ⟨b, i * 5 + j, none⟩ = some v := fun j v hj hv => by
      have := hc (i * 5 + j) v (by rw [ecells_get L i h1 j hj, hL]; exact hv)
      rw [Addr.add_none, Nat.zero_add] at this
      exact this
    refine ⟨b, x, y, f, g, es[i].2.2.2, a, m, cc, rfl, ?_, cell 0 _ (by omega) rfl, cell 1 _ (by omega) rfl, cell 2 _ (by omega) rfl, cell 3 _ (by omega) rfl, cell 4 _ (by omega) rfl, q.data⟩
    rw [List.getElem?_eq_getElem h2]
    congr 1
    have q1 := q.tag
    have q2 := q.fin
    have q3 := q.has
    exact Prod.ext q1.symm (Prod.ext q2.symm (Prod.ext q3.symm rfl))
theorem EntRd.small {w : World} {p : Option Addr} {n c : Nat} {es : List Ev} (h : EntRd w p n c es) : n ≤ c ∧ c ≤ maxLen := by
  obtain ⟨L, ow, al⟩ := h.row
  exact own_room ow
end Go.Proofs.YtojepeefphbekabGreat

namespace Go.Proofs.YtojepeefphbekabGreat
open Go.RowKit 

theorem AllRd.at {w : World} {p : Option Addr} {n c : Nat} {vs : List Av} (h : AllRd w p n c vs) {i : Nat} (hi : i < n) : ∃ b k es a m cc, p = some ⟨b, 0, none⟩ ∧ vs[i]? = some (k, es) ∧ w.cell? ⟨b, i * 2, none⟩ = some (.string k) ∧ w.cell? ⟨b, i * 2 + 1, none⟩ = some (.slice a m cc) ∧ EntRd w a m cc es := by
  obtain ⟨L, ow, al⟩ := h.row
  have hl : L.length = n := by rw [al.1]; exact h.len
  rcases ow.2 with ⟨_, hn⟩ | ⟨b, cap, cur, z, _⟩
  · omega
  · have z : Value.slice p n c = .slice (some ⟨b, 0, none⟩) n cap := z
    injection z with z1 _ z3
    subst z1
    subst z3
    have hc := ow.cells (g := b) rfl
    have h1 : i < L.length := by omega
    have h2 : i < vs.length := by rw [h.len]; exact hi
    obtain ⟨⟨k, a, m, cc⟩, hL⟩ : ∃ e, L[i] = e := ⟨_, rfl⟩
    have q := al.2 i h1 h2
    rw [hL] at q
    have cell : ∀ j v, j < 2 → (encH (k, a, m, cc))[j]? = some v → w.cell? ⟨b, i * 2 + j, none⟩ = some v := fun j v hj hv => by
      have := hc (i * 2 + j) v (by rw [hcells_get L i h1 j hj, hL]; exact hv)
      rw [Addr.add_none, Nat.zero_add] at this
      exact this
    refine ⟨b, k, vs[i].2, a, m, cc, rfl, ?_, cell 0 _ (by omega) rfl, cell 1 _ (by omega) rfl, q.ents⟩
    rw [List.getElem?_eq_getElem h2]
    congr 1
    exact Prod.ext q.key.symm rfl
theorem AllRd.small {w : World} {p : Option Addr} {n c : Nat} {vs : List Av} (h : AllRd w p n c vs) : n ≤ c ∧ c ≤ maxLen := by
  obtain ⟨L, ow, al⟩ := h.row
  exact own_room ow
/-- It answers whether this is so. -/
def YN (o : Ending) (P : Prop) : Prop := ∃ b, o = .returned (.bool b) ∧ (b = true ↔ P)
theorem YN.yes {P : Prop} (h : P) : YN (.returned (.bool true)) P := ⟨true, rfl, fun _ => h, fun _ => rfl⟩
theorem YN.no {P : Prop} (h : ¬ P) : YN (.returned (.bool false)) P := ⟨false, rfl, fun z => absurd z (by decide), fun z => absurd z h⟩
end Go.Proofs.YtojepeefphbekabGreat

namespace Go.Proofs.YtojepeefphbekabGreat
open Go.RowKit 

theorem pairwise_one {α : Type} {r : α → α → Prop} (asy : ∀ a b, r a b → ¬ r b a) : ∀ (l m : List α), l.Pairwise r → m.Pairwise r → (∀ a, a ∈ l ↔ a ∈ m) → l = m
  | [], [], _, _, _ => rfl
  | [], b :: m, _, _, h => absurd ((h b).2 List.mem_cons_self) (by simp)
  | a :: l, [], _, _, h => absurd ((h a).1 List.mem_cons_self) (by simp)
  | a :: l, b :: m, hl, hm, h => by
    rw [List.pairwise_cons] at hl hm
    have e : a = b := by
      rcases List.mem_cons.1 ((h a).1 List.mem_cons_self) with z | z
      · exact z
      · rcases List.mem_cons.1 ((h b).2 List.mem_cons_self) with y | y
        · exact y.symm
        · exact absurd (hm.1 a z) (asy _ _ (hl.1 b y))
    subst e
    have nl : a ∉ l := fun z => asy _ _ (hl.1 a z) (hl.1 a z)
    have nm : a ∉ m := fun z => asy _ _ (hm.1 a z) (hm.1 a z)
    congr 1
    refine pairwise_one asy l m hl.2 hm.2 (fun c => ⟨fun z => ?_, fun z => ?_⟩)
    · rcases List.mem_cons.1 ((h c).1 (List.mem_cons_of_mem _ z)) with y | y
      · subst y
        exact absurd z nl
      · exact y
    · rcases List.mem_cons.1 ((h c).2 (List.mem_cons_of_mem _ z)) with y | y
      · subst y
        exact absurd z nm
      · exact y
theorem pairs_one {α β : Type} : ∀ (l m : List (α × β)), l.map Prod.fst = m.map Prod.fst → (∀ a ∈ l, ∀ b ∈ m, a.1 = b.1 → a.2 = b.2) → l = m
  | [], [], _, _ => rfl
  | [], b :: m, h, _ => by simp at h
  | a :: l, [], h, _ => by simp at h
  | a :: l, b :: m, h, k => by
    simp only [List.map_cons, List.cons.injEq] at h
    have e : a = b := Prod.ext h.1 (k a List.mem_cons_self b List.mem_cons_self h.1)
    rw [e, pairs_one l m h.2 (fun x hx y hy => k x (List.mem_cons_of_mem _ hx) y (List.mem_cons_of_mem _ hy))]
/-- What a table holds of a key and a tag. -/
def Ab (t : TK) (dat : ByteArray → Int × Int → List Nat) (k : ByteArray) (g : Int × Int) : Option (Bool × Bool × List Nat) := (TMp t k g).map fun h => (h.fin, h.has, dat k g)
theorem ents_ab {M : Int × Int → Option Hd} {dat : Int × Int → List Nat} {es : List Ev} (h : EntsOf M dat es) (g : Int × Int) (f b : Bool) (l : List Nat) : (g, f, b, l) ∈ es ↔ (M g).map (fun h => (h.fin, h.has, dat g)) = some (f, b, l) := by
  rw [h.mem]
  constructor
  · rintro ⟨hd, h1, h2, h3, h4⟩
    dsimp only at h1 h2 h3 h4
    rw [h1, h2, h3, h4]
    rfl
  · intro q
    cases hm : M g with
    | none => rw [hm] at q; cases q
    | some hd =>
      rw [hm] at q
      have q := Option.some.inj q
      have q1 : hd.fin = f := congrArg Prod.fst q
      have q2 : hd.has = b := congrArg (fun x => x.2.1) q
      have q3 : dat g = l := congrArg (fun x => x.2.2) q
      exact ⟨hd, rfl, q1.symm, q2.symm, q3.symm⟩
theorem ents_one {M M' : Int × Int → Option Hd} {dat dat' : Int × Int → List Nat} {es es' : List Ev} (h : EntsOf M dat es) (h' : EntsOf M' dat' es') (e : ∀ g, (M g).map (fun h => (h.fin, h.has, dat g)) = (M' g).map (fun h => (h.fin, h.has, dat' g))) : es = es' := by
  refine pairwise_one (r := fun x y : Ev => tc x.1 y.1 < 0) (fun a b => tc_asym _ _) _ _ h.up h'.up (fun v => ?_)
  obtain ⟨g, f, b, l⟩ := v
  rw [ents_ab h, ents_ab h', e]
theorem all_ab {t : TK} {dat : ByteArray → Int × Int → List Nat} {vs : List Av} (h : AllOf t dat vs) (k : ByteArray) (g : Int × Int) (f b : Bool) (l : List Nat) : Ab t dat k g = some (f, b, l) ↔ ∃ v ∈ vs, v.1 = k ∧ (g, f, b, l) ∈ v.2 := by
  constructor
  · intro q
    have hk : t.rv k ≠ none := by
      intro z
      unfold Ab at q
      have : t.R k = none := by
        unfold TK.rv at z
        cases hr : t.R k with
        | none => rfl
        | some r => rw [hr] at z; cases z
      rw [TMp_no this] at q
      cases q
    rcases h.keys.all k hk with z | z
    · exact z.elim
    · obtain ⟨v, hv, rfl⟩ := List.mem_map.1 z
      exact ⟨v, hv, rfl, (ents_ab (h.ents v hv) g f b l).2 q⟩
  · rintro ⟨v, hv, rfl, hm⟩
    exact (ents_ab (h.ents v hv) g f b l).1 hm
theorem all_ne {t t' : TK} {dat dat' : ByteArray → Int × Int → List Nat} {vs : List Av} (h : AllOf t dat vs) (h' : AllOf t' dat' vs) (k : ByteArray) (g : Int × Int) : Ab t dat k g = Ab t' dat' k g := by
  refine Option.ext (fun x => ?_)
  obtain ⟨f, b, l⟩ := x
  rw [all_ab h, all_ab h']
theorem sorted_strict {L : List ByteArray} (s : SortedS L) (n : L.Nodup) : L.Pairwise fun x y => x.data.toList ≤ y.data.toList ∧ x ≠ y := s.and n
theorem strict_asym (a b : ByteArray) (h : a.data.toList ≤ b.data.toList ∧ a ≠ b) : ¬ (b.data.toList ≤ a.data.toList ∧ b ≠ a) := by
  rintro ⟨h2, _⟩
  apply h.2
  have e : a.data.toList = b.data.toList := List.le_antisymm h.1 h2
  cases a
  cases b
  congr 1
  exact Array.toList_inj.1 e
theorem all_one {t t' : TK} {dat dat' : ByteArray → Int × Int → List Nat} {vs vs' : List Av} (h : AllOf t dat vs) (h' : AllOf t' dat' vs') (ek : ∀ k, t.R k = none ↔ t'.R k = none) (e : ∀ k g, Ab t dat k g = Ab t' dat' k g) : vs = vs' := by
  have rvn : ∀ (t : TK) k, t.rv k = none ↔ t.R k = none := by
    intro t k
    unfold TK.rv
    cases t.R k <;> simp
  refine pairs_one _ _ ?_ (fun a ha b hb hab => ?_)
  · refine pairwise_one strict_asym _ _ (sorted_strict h.srt h.keys.one) (sorted_strict h'.srt h'.keys.one) (fun k => ⟨fun z => ?_, fun z => ?_⟩)
    · have := (h.keys.each k z).2
      rw [Ne, rvn, ek, ← rvn] at this
      exact (h'.keys.all k this).resolve_left (fun q => q)
    · have := (h'.keys.each k z).2
      rw [Ne, rvn, ← ek, ← rvn] at this
      exact (h.keys.all k this).resolve_left (fun q => q)
  · refine ents_one (h.ents a ha) (h'.ents b hb) (fun g => ?_)
    have := e a.1 g
    rw [hab] at this ⊢
    exact this
end Go.Proofs.YtojepeefphbekabGreat
