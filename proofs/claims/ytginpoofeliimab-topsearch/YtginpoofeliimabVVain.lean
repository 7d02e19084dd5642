import Derived.Test.YtginpoofeliimabVState
import Derived.Test.YtginpoofeliimabLEnd
namespace Go.Proofs.Ytginpoofeliimab
open Go.RowKit 

/-- Truths as elements. -/
def RBl (v : Value) : Option (DataW Value × List MemPlace) :=
  match v with
  | .bool _ => some (.held v, [])
  | _ => none
theorem vainK : MK 45 9 4 Value.string (fun s : ByteArray => Lit.string s.data.toList) (fun s : ByteArray => s.size ≤ maxLen) Value.bool false RBl where
  law := Maps.string_keyed Try.underlying9
  und := Try.underlying45
  key _ h := WideMaps.keyOf_string_mk Try.underlying9 h
  inv v l h := by
    obtain ⟨s, h1, h2, h3⟩ := WideMaps.string_of_keyOf Try.underlying9 h
    exact ⟨s, h1, h3, h2⟩
  inj k k' _ _ h := by
    obtain ⟨⟨k⟩⟩ := k
    obtain ⟨⟨k'⟩⟩ := k'
    simpa using h
  kvi k k' h := by simpa using h
  rd _ := rfl
  rdi v y h := by
    unfold RBl at h
    split at h
    · rename_i b
      exact ⟨⟨b, rfl⟩, (Option.some.inj h).symm⟩
    · cases h
  evi e e' h := by simpa using h
  zero w := Try.zeroValue4 w
/-- The numbers of the parts. -/
def prts (cs : List Cl) : List Nat := (List.range cs.length).filter fun j => (cs[j]?).elim false Cl.part
theorem mem_prts {cs : List Cl} {i : Nat} : i ∈ prts cs ↔ ∃ c, cs[i]? = some c ∧ c.part = true := by
  unfold prts
  rw [List.mem_filter, List.mem_range]
  constructor
  · rintro ⟨h1, h2⟩
    rw [List.getElem?_eq_getElem h1] at h2
    exact ⟨_, List.getElem?_eq_getElem h1, h2⟩
  · rintro ⟨c, h1, h2⟩
    refine ⟨(List.getElem?_eq_some_iff.1 h1).1, ?_⟩
    rw [h1]
    exact h2
theorem prts_count : ∀ cs : List Cl, (prts cs).length = (cs.filter Cl.part).length
  | [] => rfl
  | a :: l => by
    have ih := prts_count l
    unfold prts at ih ⊢
    have e : ((fun j => ((a :: l)[j]?).elim false Cl.part) ∘ Nat.succ) = fun j => (l[j]?).elim false Cl.part := by
      funext j
      rfl
    rw [List.length_cons, List.range_succ_eq_map, List.filter_cons, List.filter_cons, List.filter_map, e]
    have e0 : ((a :: l)[0]?).elim false Cl.part = a.part := rfl
    rw [e0]
    by_cases h : a.part = true
    · rw [if_pos h, if_pos h, List.length_cons, List.length_cons, List.length_map, ih]
    · rw [if_neg h, if_neg h, List.length_map, ih]
/-- A state's number, and what it stands for. -/
def codeS (cs : List Cl) (p : List Nat) (last : Int) : Nat := wrd (fun t => decide ((prts cs).getD t 0 ∈ p)) 24 * 32 + (if last < 0 then 0 else (prts cs).idxOf last.toNat + 1)
def keyS (cs : List Cl) (c : Nat) : ByteArray := str (stB cs.length ((prts cs).filter fun j => (c / 32).testBit ((prts cs).idxOf j)) (valOf' cs (if c % 32 = 0 then -1 else (((prts cs).getD (c % 32 - 1) 0 : Nat) : Int))))
theorem stB_congr {n : Nat} {p p' : List Nat} {V : Option (List Nat)} (h : ∀ j, j < n → (j ∈ p ↔ j ∈ p')) : stB n p V = stB n p' V := by
  unfold stB
  congr 1
  refine List.map_congr_left fun j hj => ?_
  have := h j (List.mem_range.1 hj)
  simp only [this]
theorem code_lt {cs : List Cl} {p : List Nat} {last : Int} (few : (prts cs).length ≤ 24) (hl : last < 0 ∨ last.toNat ∈ prts cs) : codeS cs p last < 536870912 := by
  have h1 := wrd_lt (fun t => decide ((prts cs).getD t 0 ∈ p)) 24
  unfold codeS
  have h2 : (if last < 0 then 0 else (prts cs).idxOf last.toNat + 1) ≤ 24 := by
    split
    · omega
    · rename_i h
      have := List.idxOf_lt_length_of_mem (hl.resolve_left h)
      omega
  have h3 : (2 : Nat) ^ 24 = 16777216 := by decide
  omega
theorem key_code {cs : List Cl} {p : List Nat} {last : Int} (few : (prts cs).length ≤ 24) (hp : ∀ i ∈ p, i ∈ prts cs) (hl : last = -1 ∨ (0 ≤ last ∧ last.toNat ∈ prts cs)) : keyS cs (codeS cs p last) = str (stB cs.length p (valOf' cs last)) := by
  have h2 : (if last < 0 then 0 else (prts cs).idxOf last.toNat + 1) < 32 := by
    split
    · omega
    · rename_i h
      rcases hl with z | z
      · omega
      · have := List.idxOf_lt_length_of_mem z.2
        omega
  have e1 : codeS cs p last / 32 = wrd (fun t => decide ((prts cs).getD t 0 ∈ p)) 24 := by unfold codeS; omega
  have e2 : codeS cs p last % 32 = (if last < 0 then 0 else (prts cs).idxOf last.toNat + 1) := by unfold codeS; omega
  unfold keyS
  rw [e1, e2]
  congr 1
  have ev : (if (if last < 0 then 0 else (prts cs).idxOf last.toNat + 1) = 0 then (-1 : Int) else (((prts cs).getD ((if last < 0 then 0 else (prts cs).idxOf last.toNat + 1) - 1) 0 : Nat) : Int)) = last := by
    rcases hl with z | z
    · subst z
      rfl
    · rw [if_neg (show ¬ last < 0 by omega), if_neg (by omega), Nat.add_sub_cancel, List.getD_eq_getElem?_getD]
      have hlt := List.idxOf_lt_length_of_mem z.2
      rw [List.getElem?_eq_getElem hlt, List.getElem_idxOf hlt]
      show ((last.toNat : Nat) : Int) = last
      omega
  rw [ev]
  refine stB_congr fun j hj => ?_
  rw [List.mem_filter]
  constructor
  · rintro ⟨h3, h4⟩
    rw [wrd_bit, Bool.and_eq_true, decide_eq_true_iff] at h4
    have h5 := of_decide_eq_true h4.2
    rw [List.getD_eq_getElem?_getD, List.getElem?_eq_getElem (List.idxOf_lt_length_of_mem h3), List.getElem_idxOf (List.idxOf_lt_length_of_mem h3)] at h5
    exact h5
  · intro h3
    have h4 := hp j h3
    refine ⟨h4, ?_⟩
    have h5 := List.idxOf_lt_length_of_mem h4
    rw [wrd_bit, Bool.and_eq_true, decide_eq_true_iff]
    refine ⟨by omega, decide_eq_true ?_⟩
    rw [List.getD_eq_getElem?_getD, List.getElem?_eq_getElem h5, List.getElem_idxOf h5]
    exact h3
theorem few_codes : ∀ (N : Nat) (C : List Nat), C.Nodup → (∀ c ∈ C, c < N) → C.length ≤ N
  | 0, C, _, h => by
    cases C with
    | nil => exact Nat.le_refl _
    | cons a C => exact absurd (h a (by simp)) (by omega)
  | N + 1, C, hn, h => by
    by_cases hm : N ∈ C
    · have h1 := few_codes N (C.erase N) (hn.erase N) (fun c hc => by
        have h2 := (hn.mem_erase_iff).1 hc
        have h3 := h c h2.2
        omega)
      rw [List.length_erase_of_mem hm] at h1
      omega
    · have h1 := few_codes N C hn (fun c hc => by
        have h3 := h c hc
        have h4 : c ≠ N := fun z => hm (z ▸ hc)
        omega)
      omega
/-- What was gone on from in vain, as it lies in memory. -/
structure VM (cs : List Cl) (w : World) (mb : Nat) : Prop where
  ok : ∃ (C : List Nat) (M : ByteArray → Option Bool), TM 9 (fun s : ByteArray => Lit.string s.data.toList) (fun s : ByteArray => s.size ≤ maxLen) Value.bool RBl w mb C.length M ∧ C.Nodup ∧ (∀ c ∈ C, c < 536870912 ∧ M (keyS cs c) ≠ none) ∧ (∀ k, M k ≠ none → M k = some true ∧ (∀ p V, k = str (stB cs.length p V) → (∀ x ∈ stB cs.length p V, x < 256) → ¬ XCan cs (p.filter fun j => decide (j < cs.length)) V))
theorem VM.k0 {cs : List Cl} {w w' : World} {mb : Nat} {S : Nat → Prop} (h : VM cs w mb) (K : Kept S w w') (hn : ¬ S mb) : VM cs w' mb := by
  obtain ⟨C, M, h1, h2⟩ := h.ok
  exact ⟨C, M, h1.kept K hn, h2⟩
end Go.Proofs.Ytginpoofeliimab
