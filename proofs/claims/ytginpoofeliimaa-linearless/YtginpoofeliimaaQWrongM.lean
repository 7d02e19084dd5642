import Derived.Test.YtginpoofeliimaaQMem
import Derived.Test.YtginpoofeliimaaDWalk2
namespace Go.Proofs.Ytginpoofeliimaa
open Go.RowKit 

theorem draft_val (d : Dr) : d.call.val = [] ∨ d.call.val = [97] ∨ d.call.val = [98] ∨ d.call.val = [99] := by
  unfold Dr.call val3 val4
  split
  · show sb _ = _ ∨ sb _ = _ ∨ sb _ = _ ∨ sb _ = _
    split
    · right; left; rfl
    · split
      · right; right; left; rfl
      · right; right; right; rfl
  · show sb _ = _ ∨ sb _ = _ ∨ sb _ = _ ∨ sb _ = _
    split
    · left; rfl
    · split
      · right; left; rfl
      · split
        · right; right; left; rfl
        · right; right; right; rfl
/-- A hundred later. -/
def Cl.sh (c : Cl) : Cl := ⟨c.put, c.opn, c.frm + 100, if 0 ≤ c.to then c.to + 100 else c.to, c.st, c.val⟩
theorem sh_bad {c : Cl} (h : c.bad = false) : c.sh.bad = false := by
  unfold Cl.bad at h ⊢
  rw [Bool.or_eq_false_iff] at h ⊢
  have h1 := of_decide_eq_false h.1
  have h2 := h.2
  refine ⟨decide_eq_false (show ¬ c.frm + 100 < 0 by omega), ?_⟩
  show (!decide ((if 0 ≤ c.to then c.to + 100 else c.to) = -1) && decide ((if 0 ≤ c.to then c.to + 100 else c.to) ≤ c.frm + 100)) = false
  by_cases e : c.to = -1
  · rw [if_neg (by omega), e]
    rfl
  · have h3 : ¬ c.to ≤ c.frm := by simpa [e] using h2
    rw [if_pos (by omega), decide_eq_false (show ¬ c.to + 100 ≤ c.frm + 100 by omega), Bool.and_false]
def Cm.sh (m : Cm) : Cm := ⟨m.client, m.op, m.put, m.key, m.va, m.vn, m.vc, m.st, m.frm + 100, if 0 ≤ m.to then m.to + 100 else m.to, m.opn, m.tx, m.ty, m.val⟩
theorem cm_sh (m : Cm) : m.sh.cl = m.cl.sh := rfl
def shN (ms : List Cm) (i : Nat) : List Cm := (ms.take i).map Cm.sh ++ ms.drop i
theorem shN_len (ms : List Cm) (i : Nat) : (shN ms i).length = ms.length := by
  unfold shN
  rw [List.length_append, List.length_map, List.length_take, List.length_drop]
  omega
theorem shN_get {ms : List Cm} {i : Nat} {m : Cm} (h : ms[i]? = some m) : (shN ms i)[i]? = some m := by
  have hl := (List.getElem?_eq_some_iff.1 h).1
  have el : ((ms.take i).map Cm.sh).length = i := by rw [List.length_map, List.length_take]; omega
  unfold shN
  rw [List.getElem?_append_right (by omega), el, Nat.sub_self, List.getElem?_drop]
  exact h
theorem shN_set {ms : List Cm} {i : Nat} {m : Cm} (h : ms[i]? = some m) : (shN ms i).set i m.sh = shN ms (i + 1) := by
  obtain ⟨hl, he⟩ := List.getElem?_eq_some_iff.1 h
  have el : ((ms.take i).map Cm.sh).length = i := by rw [List.length_map, List.length_take]; omega
  unfold shN
  rw [List.set_append_right _ _ (by omega), el, Nat.sub_self, List.drop_eq_getElem_cons hl, List.set_cons_zero, List.take_add_one, h, List.map_append, List.append_assoc]
  rfl
theorem shN_all (ms : List Cm) : shN ms ms.length = ms.map Cm.sh := by
  unfold shN
  rw [List.take_length, List.drop_length, List.append_nil]
/-- The three kinds. -/
def news (k : Int) : List Cl :=
  if k = 0 then [⟨false, false, 50, 300, 0, [110, 111, 98, 111, 100, 121, 39, 115]⟩]
  else if k = 1 then [⟨true, false, 0, 1, 0, [120]⟩, ⟨false, false, 2, 300, 76, []⟩]
  else [⟨true, false, 0, 1, 0, [120]⟩, ⟨true, false, 2, 3, 0, [121]⟩, ⟨false, false, 4, 300, 0, [120]⟩]
theorem new_at (cs : List Cl) (l : List Cl) (i : Nat) : (cs ++ l)[cs.length + i]? = l[i]? := by
  rw [List.getElem?_append_right (by omega)]
  congr 1
  omega
theorem wrong_all {cs : List Cl} (hv : ∀ c ∈ cs, c.val = [] ∨ c.val = [97] ∨ c.val = [98] ∨ c.val = [99]) (k : Int) : ¬ Xpl (cs ++ news k) := by
  unfold news
  by_cases h0 : k = 0
  · rw [if_pos h0]
    refine wrong0 (new_at cs _ 0) (by rfl) (by rfl) (x := [110, 111, 98, 111, 100, 121, 39, 115]) (by rfl) (fun c hc hp => ?_)
    rcases List.mem_append.1 hc with z | z
    · rcases hv c z with e | e | e | e <;> rw [e] <;> decide
    · have z := List.mem_singleton.1 z
      rw [z] at hp
      cases hp
  · rw [if_neg h0]
    by_cases h1 : k = 1
    · rw [if_pos h1]
      exact wrong1 (new_at cs _ 1) (by rfl) (by rfl) (by rfl) (new_at cs _ 0) (by rfl) (by rfl)
    · rw [if_neg h1]
      refine wrong2 (x := [120]) (new_at cs _ 2) (by rfl) (by rfl) (by rfl) (new_at cs _ 0) (new_at cs _ 1) (by rfl) (by rfl) (by rfl) (fun i c hc hp hi => ?_)
      by_cases z : i < cs.length
      · rw [List.getElem?_append_left z] at hc
        rcases hv c (List.mem_of_getElem? hc) with e | e | e | e <;> rw [e] <;> decide
      · rw [List.getElem?_append_right (by omega)] at hc
        obtain ⟨x, hx⟩ : ∃ x, i - cs.length = x := ⟨_, rfl⟩
        rw [hx] at hc
        match x, hx, hc with
        | 0, hx, _ => omega
        | 1, _, hc =>
          have : c = ⟨true, false, 2, 3, 0, [121]⟩ := by simpa using hc.symm
          rw [this]
          decide
        | 2, _, hc =>
          have : c = ⟨false, false, 4, 300, 0, [120]⟩ := by simpa using hc.symm
          rw [this] at hp
          cases hp
        | n + 3, _, hc => simp at hc
theorem news_bad (k : Int) : ∀ c ∈ news k, c.bad = false := by
  unfold news
  intro c hc
  split at hc
  · simp at hc; rw [hc]; rfl
  · split at hc
    · simp at hc
      rcases hc with e | e <;> rw [e] <;> rfl
    · simp at hc
      rcases hc with e | e | e <;> rw [e] <;> rfl
theorem news_few (k : Int) : (news k).length ≤ 3 := by
  unfold news
  split
  · simp
  · split <;> simp
end Go.Proofs.Ytginpoofeliimaa
