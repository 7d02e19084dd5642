import Derived.Test.YtginpoofeliimabVVain
import Derived.Test.YtginpoofeliimabVWanted
import Derived.Test.YtginpoofeliimabVExp
namespace Go.Proofs.Ytginpoofeliimab
open Go.RowKit 

theorem str_size (l : List Nat) : (str l).size = l.length := by
  show ((l.map UInt8.ofNat).toArray).size = l.length
  simp
theorem stB_small {n : Nat} {p : List Nat} {V : Option (List Nat)} (h : ∀ v, V = some v → ∀ x ∈ v, x < 256) : ∀ x ∈ stB n p V, x < 256 := by
  intro x hx
  unfold stB at hx
  rcases List.mem_append.1 hx with z | z
  · obtain ⟨j, _, rfl⟩ := List.mem_map.1 z
    split <;> omega
  · cases V with
    | none => simp at z
    | some v =>
      rcases List.mem_cons.1 z with z | z
      · omega
      · exact h v rfl x z
theorem TM.ne {w : World} {mb n : Nat} {M : ByteArray → Option Bool} (h : TM 9 (fun s : ByteArray => Lit.string s.data.toList) (fun s : ByteArray => s.size ≤ maxLen) Value.bool RBl w mb n M) : ∀ q v, w.cell? q = some v → ¬ q.block = mb := by
  intro q v hc e
  obtain ⟨D, ⟨es, clock, hb, _⟩, _⟩ := h
  rw [← e] at hb
  simp [World.cell?, hb] at hc
theorem VM.look {cs : List Cl} {w : World} {mb : Nat} (h : VM cs w mb) {p : List Nat} {V : Option (List Nat)} (hs : (str (stB cs.length p V)).size ≤ maxLen) (hb : ∀ x ∈ stB cs.length p V, x < 256) (hp : ∀ j ∈ p, j < cs.length) : ∃ v, (Instr.lookup 45 (.map (some mb)) (.string (str (stB cs.length p V))) false).run Try.prog w = .ok (.bool v) w ∧ (v = true → ¬ XCan cs p V) := by
  obtain ⟨C, M, h1, h2, h3, h4⟩ := h.ok
  refine ⟨_, TM.look vainK h1 hs, fun z => ?_⟩
  have hn : M (str (stB cs.length p V)) ≠ none := fun y => by rw [y] at z; cases z
  have := (h4 _ hn).2 p V rfl hb
  rw [XCan.congr (p' := p) (fun j => ?_)] at this
  · exact this
  · rw [List.mem_filter]
    exact ⟨fun y => y.1, fun y => ⟨y, decide_eq_true (hp j y)⟩⟩
theorem VM.put {cs : List Cl} {w : World} {mb : Nat} (h : VM cs w mb) {p : List Nat} {last : Int} (few : (prts cs).length ≤ 24) (hp : ∀ i ∈ p, i ∈ prts cs) (hl : last = -1 ∨ (0 ≤ last ∧ last.toNat ∈ prts cs)) (hs : (str (stB cs.length p (valOf' cs last))).size ≤ maxLen) (hb : ∀ x ∈ stB cs.length p (valOf' cs last), x < 256) (no : ¬ XCan cs p (valOf' cs last)) {ops : Array Oper} {rest : List Oper} {o : Oper} {a : Act} {Q : Exit → Act → World → Prop} (hg : o.guard = none) (m x v : Operand) (hop : o.op = Op.mapUpdate 45 m x v) (hm : a.eval m = .map (some mb)) (hx : a.eval x = .string (str (stB cs.length p (valOf' cs last)))) (hv : a.eval v = .bool true)
    (hK : ∀ w', Hid (VM cs w' mb) → Hid (Kept (fun j => j = mb) w w') → wpList Try.prog ops Q rest (a.put o.dst undef) w') : wpList Try.prog ops Q (o :: rest) a w := by
  obtain ⟨C, M, h1, h2, h3, h4⟩ := h.ok
  have hC := few_codes 536870912 C h2 (fun c hc => (h3 c hc).1)
  refine wpList_put vainK w hg m x v hop mb C.length M hm h1 (by unfold maxLen; omega) (str (stB cs.length p (valOf' cs last))) hs true hx hv (fun w' ht hk => hK w' ?_ hk)
  obtain ⟨k, hk0⟩ : ∃ k, k = str (stB cs.length p (valOf' cs last)) := ⟨_, rfl⟩
  have kc := key_code few hp hl
  rw [← hk0] at ht kc
  have pl : ∀ j ∈ p, j < cs.length := fun j hj => by
    obtain ⟨c, hc, _⟩ := mem_prts.1 (hp j hj)
    exact (List.getElem?_eq_some_iff.1 hc).1
  have snd : ∀ k', upd M k true k' ≠ none → upd M k true k' = some true ∧ (∀ p' V', k' = str (stB cs.length p' V') → (∀ x ∈ stB cs.length p' V', x < 256) → ¬ XCan cs (p'.filter fun j => decide (j < cs.length)) V') := by
    intro k' hk'
    unfold upd at hk' ⊢
    by_cases e : k' = k
    · rw [if_pos e]
      refine ⟨rfl, fun p' V' e' hb' z => no ?_⟩
      rw [e, hk0] at e'
      have e2 := str_inj hb hb' e'
      obtain ⟨i1, i2⟩ := stB_inj e2
      rw [i2]
      refine (XCan.congr (fun j => ?_)).1 z
      rw [List.mem_filter]
      constructor
      · rintro ⟨y1, y2⟩
        exact (i1 j (of_decide_eq_true y2)).2 y1
      · intro y
        exact ⟨(i1 j (pl j y)).1 y, decide_eq_true (pl j y)⟩
    · rw [if_neg e] at hk' ⊢
      exact h4 k' hk'
  have mono : ∀ c, M (keyS cs c) ≠ none → upd M k true (keyS cs c) ≠ none := fun c hc => by
    unfold upd
    split
    · simp
    · exact hc
  by_cases hsm : (M k).isSome = true
  · have e : nput C.length M k = C.length := by unfold nput; rw [if_pos hsm]
    have ht := ht.out
    rw [e] at ht
    exact ⟨C, upd M k true, ht, h2, fun c hc => ⟨(h3 c hc).1, mono c (h3 c hc).2⟩, snd⟩
  · have e : nput C.length M k = (codeS cs p last :: C).length := by unfold nput; rw [if_neg hsm]; rfl
    have ht := ht.out
    rw [e] at ht
    have hnk : M k = none := by
      cases q : M k with
      | none => rfl
      | some y => rw [q] at hsm; simp at hsm
    refine ⟨codeS cs p last :: C, upd M k true, ht, List.nodup_cons.2 ⟨fun z => ?_, h2⟩, fun c hc => ?_, snd⟩
    · have := (h3 _ z).2
      rw [kc, hnk] at this
      exact this rfl
    · rcases List.mem_cons.1 hc with z | z
      · rw [z, kc]
        refine ⟨code_lt few (hl.imp (fun y => by omega) (fun y => y.2)), ?_⟩
        unfold upd
        rw [if_pos rfl]
        simp
      · exact ⟨(h3 c z).1, mono c (h3 c z).2⟩
theorem VM.start (cs : List Cl) (w : World) : VM cs (w.alloc (.map #[] 0)) w.heap.size := ⟨[], fun _ => none, TM.made w, List.nodup_nil, fun _ h => absurd h (by simp), fun k hk => absurd rfl hk⟩
/-- The search of the whole, on its way. -/
structure FT (cs : List Cl) (w0 wa : World) (g mb n : Nat) (b : List Nat) : Prop where
  kept : Kept (fun _ => False) w0 wa
  is : IS w0.heap.size wa g n b
  vm : VM cs wa mb
  mge : w0.heap.size ≤ mb
theorem FT.k0 {cs : List Cl} {w0 wa w' : World} {g mb n : Nat} {b : List Nat} (h : FT cs w0 wa g mb n b) (K : Kept (fun _ => False) wa w') : FT cs w0 w' g mb n b := ⟨h.kept.trans K (fun _ _ z => z), h.is.k0 K, h.vm.k0 K (fun z => z), h.mge⟩
theorem FT.ne {cs : List Cl} {w0 wa : World} {g mb n : Nat} {b : List Nat} (h : FT cs w0 wa g mb n b) : mb ≠ g := by
  intro e
  obtain ⟨cs', hc⟩ := own_type h.is.row g rfl
  obtain ⟨C, M, ⟨D, ⟨es, clock, hb, _⟩, _⟩, _⟩ := h.vm.ok
  rw [e, hc] at hb
  cases hb
theorem FT.on {cs : List Cl} {w0 wa : World} {g mb n : Nat} {b : List Nat} (h : FT cs w0 wa g mb n b) (i : Nat) : FT cs w0 (wa.setCell ⟨g, i, none⟩ (.bool true)) g mb n (b ++ [i]) := by
  have hg := (own_lt h.is.row g rfl).1
  refine ⟨kept_set h.kept hg _ _, ⟨?_⟩, h.vm.k0 ((Kept.refl (fun j => j = g) wa).setCell (p := ⟨g, i, none⟩) (fun _ => rfl) _) h.ne, h.mge⟩
  rw [← boolsB_on]
  exact owns_set h.is.row i _
theorem FT.off {cs : List Cl} {w0 wa : World} {g mb n : Nat} {b : List Nat} {i : Nat} (h : FT cs w0 wa g mb n (b ++ [i])) (hi : i ∉ b) : FT cs w0 (wa.setCell ⟨g, i, none⟩ (.bool false)) g mb n b := by
  have hg := (own_lt h.is.row g rfl).1
  refine ⟨kept_set h.kept hg _ _, ⟨?_⟩, h.vm.k0 ((Kept.refl (fun j => j = g) wa).setCell (p := ⟨g, i, none⟩) (fun _ => rfl) _) h.ne, h.mge⟩
  rw [← boolsB_off hi]
  exact owns_set h.is.row i _
/-- The parts that are not in yet. -/
def left2 (cs : List Cl) (b : List Nat) : Nat := ((List.range cs.length).filter fun j => (cs[j]?).elim false Cl.part && !b.contains j).length
theorem left2_less {cs : List Cl} {b : List Nat} {i : Nat} {c : Cl} {V : Option (List Nat)} (m : XMay cs b V i c) : left2 cs (b ++ [i]) < left2 cs b := by
  unfold left2
  refine filter_lt (fun j hj => ?_) (List.getElem?_eq_some_iff.1 m.1).1 ?_ ?_
  · simp at hj ⊢
    exact ⟨hj.1, hj.2.1⟩
  · rw [m.1]
    simp [m.2.1, m.2.2.1]
  · simp
theorem XMay.self {cs : List Cl} {b : List Nat} {V : Option (List Nat)} {i : Nat} {c : Cl} (hc : cs[i]? = some c) (nb : c.bad = false) (hp : c.part = true) (hi : i ∉ b) (hv : c.put = true ∨ c.told = V) (ha : ∀ j a, cs[j]? = some a → j ≠ i → a.part = true → a.ahead c = true → j ∈ b) : XMay cs b V i c := by
  refine ⟨hc, hp, hi, hv, fun j a hj hap haa => ?_⟩
  by_cases e : j = i
  · subst e
    rw [hc] at hj
    injection hj with hj
    subst hj
    rw [ahead_self nb] at haa
    cases haa
  · exact ha j a hj e hap haa
end Go.Proofs.Ytginpoofeliimab
