import Derived.Test.YtbangbobfeflcaaGreatDoorKOf
import Derived.Sort.KeysCollected
import Derived.Sort.EncStr
import Derived.Sort.Walk0
namespace Go.Proofs.YtbangbobfeflcaaGreatDoor
open Go.RowKit 

def baL (l : List UInt8) : ByteArray := ⟨l.toArray⟩
theorem baL_inj {a b : List UInt8} (h : baL a = baL b) : a = b := by simpa [baL] using h
theorem baL_list (k : ByteArray) : baL k.data.toList = k := rfl
theorem sum_addS {α : Type} (f g : α → Nat) : ∀ ks : List α, (ks.map (fun k => f k + g k)).sum = (ks.map f).sum + (ks.map g).sum
  | [] => rfl
  | k :: r => by
    simp only [List.map_cons, List.sum_cons, sum_addS f g r]
    omega
theorem sum_noneS (a : ByteArray) : ∀ ks : List ByteArray, a ∉ ks → (ks.map (fun k => if a = k then 1 else 0)).sum = 0
  | [], _ => rfl
  | k :: r, h => by
    rw [List.map_cons, List.sum_cons, sum_noneS a r (fun z => h (List.mem_cons_of_mem _ z)), if_neg (fun z => h (by rw [z]; exact List.mem_cons_self))]
theorem sum_oneS (a : ByteArray) : ∀ ks : List ByteArray, ks.Nodup → a ∈ ks → (ks.map (fun k => if a = k then 1 else 0)).sum = 1
  | [], _, h => by cases h
  | k :: r, nd, h => by
    have hn := List.nodup_cons.1 nd
    rw [List.map_cons, List.sum_cons]
    by_cases e : a = k
    · subst e
      rw [if_pos rfl, sum_noneS _ _ hn.1]
    · rw [if_neg e, sum_oneS a r hn.2 (by
        rcases List.mem_cons.1 h with z | z
        · exact absurd z e
        · exact z)]
theorem len_snocS (es : List Ev) (e : Ev) (k : ByteArray) : (placesS (es ++ [e]) k).length = (placesS es k).length + (if e.key = k then 1 else 0) := by
  rw [places_snocS]
  split
  · rw [List.length_append]
    rfl
  · rfl
theorem sum_take (ks : List ByteArray) (nd : ks.Nodup) (es : List Ev) (h : ∀ e ∈ es, e.key ∈ ks) : ∀ i, i ≤ es.length → (ks.map (fun k => (placesS (es.take i) k).length)).sum = i
  | 0, _ => by
    have e0 : (fun k : ByteArray => (placesS (es.take 0) k).length) = fun _ => 0 := by
      funext k
      rfl
    rw [e0]
    clear e0 nd h
    induction ks with
    | nil => rfl
    | cons k r ih => rw [List.map_cons, List.sum_cons, ih]
  | i + 1, hi => by
    obtain ⟨e, he⟩ : ∃ e, es[i]? = some e := ⟨_, List.getElem?_eq_getElem (by omega)⟩
    have et : es.take (i + 1) = es.take i ++ [e] := by rw [List.take_add_one, he]; rfl
    have e0 : (fun k : ByteArray => (placesS (es.take (i + 1)) k).length) = fun k => (placesS (es.take i) k).length + (if e.key = k then 1 else 0) := by
      funext k
      rw [et, len_snocS]
    rw [e0, sum_addS, sum_take ks nd es h i (by omega), sum_oneS _ _ nd (h e (List.mem_of_getElem? he))]
theorem sum_all (ks : List ByteArray) (nd : ks.Nodup) (es : List Ev) (h : ∀ e ∈ es, e.key ∈ ks) : (ks.map (fun k => (placesS es k).length)).sum = es.length := by
  have q := sum_take ks nd es h es.length (Nat.le_refl _)
  rw [List.take_length] at q
  exact q
theorem sum_part (f : ByteArray → Nat) : ∀ (ks : List ByteArray) (i : Nat), ((ks.take i).map f).sum ≤ (ks.map f).sum
  | [], i => by simp
  | k :: r, 0 => by simp
  | k :: r, i + 1 => by
    have q := sum_part f r i
    rw [List.take_succ_cons, List.map_cons, List.sum_cons, List.map_cons, List.sum_cons]
    omega
theorem sum_next (f : ByteArray → Nat) {ks : List ByteArray} {i : Nat} {k : ByteArray} (h : ks[i]? = some k) : ((ks.take (i + 1)).map f).sum = ((ks.take i).map f).sum + f k := by
  have et : ks.take (i + 1) = ks.take i ++ [k] := by rw [List.take_add_one, h]; rfl
  rw [et, List.map_append, List.sum_append]
  simp
theorem places_pos {es : List Ev} {e : Ev} {k : ByteArray} (he : e ∈ es) (hk : e.key = k) : 0 < (placesS es k).length := by
  obtain ⟨i, hi⟩ := List.mem_iff_getElem?.1 he
  have q := places_atS hi hk
  have := (List.getElem?_eq_some_iff.1 q).1
  omega
/-- A map's keys, sorted. -/
theorem keys_of {w : World} {mb n : Nat} {D : DataW Value} {Mp : ByteArray → Option Sl} {ss : List (List UInt8)} (ho : w.ownsMap Tryz.prog 9 RSl mb n D) (s : Says strL strF Sl.v D Mp) (hp : ss.Perm (strKeys D)) : ss.Nodup ∧ ∀ x, x ∈ ss ↔ (Mp (baL x)).isSome = true := by
  have hle := strKeys_le ho Tryz.underlying9
  obtain ⟨es, hD, hpw, _⟩ := ho.entries strLaw
  obtain ⟨es', hD', hko⟩ := ho.keysOf
  obtain rfl : es = es' := by rw [hD] at hD'; simpa using hD'
  have hk : ∀ p ∈ es, ∃ x, p.1 = .string x := fun p hp => by
    obtain ⟨v, hv⟩ := hko p hp
    obtain ⟨x, _, hx, _⟩ := Maps.keyOf_str Tryz.underlying9 hv
    exact ⟨x, hx⟩
  have nd : (strKeys D).Nodup := by
    rw [hD]
    show (es.map fun p => strOf p.1).Nodup
    refine List.pairwise_map.2 (hpw.imp_of_mem fun {p q} hp' hq' hne e => hne ?_)
    obtain ⟨a, ha⟩ := hk p hp'
    obtain ⟨b, hb⟩ := hk q hq'
    rw [ha, hb] at e ⊢
    exact congrArg _ e
  have mem : ∀ x, x ∈ strKeys D ↔ Maps.has D (.string x) = true := fun x => by
    rw [hD, Maps.has_eq, List.any_eq_true]
    show x ∈ es.map (fun p => strOf p.1) ↔ _
    rw [List.mem_map]
    constructor
    · rintro ⟨p, hp', rfl⟩
      obtain ⟨a, ha⟩ := hk p hp'
      exact ⟨p, hp', by rw [ha]; simp [Lit.sameKey, strOf]⟩
    · rintro ⟨p, hp', hs⟩
      obtain ⟨a, ha⟩ := hk p hp'
      rw [ha] at hs
      exact ⟨p, hp', by rw [ha]; simpa [Lit.sameKey, strOf] using hs⟩
  refine ⟨hp.nodup_iff.2 nd, fun x => ?_⟩
  rw [hp.mem_iff, mem x]
  constructor
  · intro h
    have hx : x.length ≤ maxLen := hle x ((mem x).2 h)
    have q := s.has (k := baL x) (show (baL x).size ≤ maxLen from hx)
    rw [← q]
    exact h
  · intro h
    obtain ⟨sl, hs⟩ := Option.isSome_iff_exists.1 h
    have q := s.has (s.2 _ _ hs)
    rw [hs] at q
    exact q
theorem leB_rise {ss : List (List UInt8)} (nd : ss.Nodup) {i : Nat} {a b : List UInt8} (ha : (ss.mergeSort leB)[i]? = some a) (hb : (ss.mergeSort leB)[i + 1]? = some b) : Op.bytesLess a b = true := by
  have tr : ∀ a b c : List UInt8, leB a b = true → leB b c = true → leB a c = true := fun a b c h1 h2 => by simp only [leB, decide_eq_true_eq] at *; exact List.le_trans h1 h2
  have tt : ∀ a b : List UInt8, (leB a b || leB b a) = true := fun a b => by simp only [leB, Bool.or_eq_true, decide_eq_true_eq]; exact List.le_total a b
  have P := List.pairwise_mergeSort tr tt ss
  have N : (ss.mergeSort leB).Nodup := (List.mergeSort_perm ss leB).nodup_iff.2 nd
  obtain ⟨h1, e1⟩ := List.getElem?_eq_some_iff.1 ha
  obtain ⟨h2, e2⟩ := List.getElem?_eq_some_iff.1 hb
  have q := List.pairwise_iff_getElem.1 P i (i + 1) h1 h2 (by omega)
  have r := List.pairwise_iff_getElem.1 N i (i + 1) h1 h2 (by omega)
  rw [e1, e2] at q r
  simp only [leB, decide_eq_true_eq] at q
  rw [bytesLess_eq]
  refine decide_eq_true ?_
  by_cases h : a < b
  · exact h
  · exact absurd (List.le_antisymm q (List.not_lt.1 h)) r
end Go.Proofs.YtbangbobfeflcaaGreatDoor
