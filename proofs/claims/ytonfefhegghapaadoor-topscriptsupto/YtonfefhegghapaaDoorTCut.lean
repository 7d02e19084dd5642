import Derived.Test.YtonfefhegghapaaDoorSApp
import Derived.Lib.MapLaws
import Derived.Lib.DecodeN
namespace Go.Proofs.YtonfefhegghapaaDoor
open Go.RowKit 

theorem get_bang (s : ByteArray) (j : Nat) (h : j < s.size) : s.data.toList[j]? = some (s.get! j) := by
  rw [get_list s j h]
  congr 1
  simp [ByteArray.get!, getElem!_pos, h]
  rfl
/-- What a rune takes: its other bytes are none of ASCII's. -/
theorem decode_tail (s : ByteArray) (pos : Nat) (h : pos < s.size) : pos + (Utf8.decode s pos).2 ≤ s.size ∧ ∀ j, pos < j → j < pos + (Utf8.decode s pos).2 → 128 ≤ (s.get! j).toNat := by
  rw [Lib.decode_at]
  rcases Lib.decodeN_shape (s.size - pos) (s.get! pos).toNat (s.get! (pos + 1)).toNat (s.get! (pos + 2)).toNat (s.get! (pos + 3)).toNat with ⟨_, e⟩ | ⟨_, h1, h2, _, e⟩ | ⟨_, h1, h2, h3, _, _, e⟩ | ⟨_, h1, h2, h3, h4, _, _, e⟩ | e
  · rw [e]
    exact ⟨by show pos + 1 ≤ _; omega, fun j a b => absurd b (by show ¬ j < pos + 1; omega)⟩
  · rw [e]
    refine ⟨by show pos + 2 ≤ _; omega, fun j a b => ?_⟩
    have b : j < pos + 2 := b
    have : j = pos + 1 := by omega
    rw [this]
    omega
  · rw [e]
    refine ⟨by show pos + 3 ≤ _; omega, fun j a b => ?_⟩
    have b : j < pos + 3 := b
    have : j = pos + 1 ∨ j = pos + 2 := by omega
    rcases this with e | e <;> rw [e] <;> omega
  · rw [e]
    refine ⟨by show pos + 4 ≤ _; omega, fun j a b => ?_⟩
    have b : j < pos + 4 := b
    have : j = pos + 1 ∨ j = pos + 2 ∨ j = pos + 3 := by omega
    rcases this with e | e | e <;> rw [e] <;> omega
  · rw [e]
    exact ⟨by show pos + 1 ≤ _; omega, fun j a b => absurd b (by show ¬ j < pos + 1; omega)⟩
/-- What stands ahead of the first end, and what stands behind. -/
def cutE (e : UInt8) : List UInt8 → List UInt8 × List UInt8
  | [] => ([], [])
  | c :: r => if c = e then ([], r) else (c :: (cutE e r).1, (cutE e r).2)
theorem cutE_at (e : UInt8) : ∀ (l : List UInt8) (i : Nat), l[i]? = some e → (∀ j, j < i → l[j]? ≠ some e) → cutE e l = (l.take i, l.drop (i + 1))
  | [], i, h, _ => by simp at h
  | c :: r, 0, h, _ => by
    have : c = e := by simpa using h
    unfold cutE
    rw [if_pos this]
    rfl
  | c :: r, i + 1, h, hj => by
    have hc : ¬ c = e := fun z => hj 0 (by omega) (by rw [z]; rfl)
    unfold cutE
    rw [if_neg hc, cutE_at e r i (by simpa using h) (fun j hl => by have := hj (j + 1) (by omega); simpa using this)]
    rfl
theorem cutE_none (e : UInt8) : ∀ (l : List UInt8), (∀ j, j < l.length → l[j]? ≠ some e) → cutE e l = (l, [])
  | [], _ => rfl
  | c :: r, hj => by
    have hc : ¬ c = e := fun z => hj 0 (by simp) (by rw [z]; rfl)
    unfold cutE
    rw [if_neg hc, cutE_none e r (fun j hl => by have := hj (j + 1) (by simpa using hl); simpa using this)]
theorem cutE_word (e : UInt8) (x y : List UInt8) (h : ∀ c ∈ x, c ≠ e) : cutE e (x ++ e :: y) = (x, y) := by
  induction x with
  | nil => simp [cutE]
  | cons c r ih =>
    show (if c = e then _ else _) = _
    rw [if_neg (h c (by simp))]
    show (c :: (cutE e (r ++ e :: y)).1, (cutE e (r ++ e :: y)).2) = _
    rw [ih (fun d hd => h d (by simp [hd]))]
theorem cutE_last (e : UInt8) (x : List UInt8) (h : ∀ c ∈ x, c ≠ e) : cutE e x = (x, []) := cutE_none e x (fun _ _ z => h e (List.mem_of_getElem? z) rfl)
theorem cutE_len (e : UInt8) : ∀ l : List UInt8, (cutE e l).1.length ≤ l.length ∧ (cutE e l).2.length ≤ l.length ∧ (l ≠ [] → (cutE e l).2.length < l.length)
  | [] => ⟨Nat.le_refl _, Nat.le_refl _, fun z => absurd rfl z⟩
  | c :: r => by
    have := cutE_len e r
    unfold cutE
    split
    · simp
    · simp
      omega
theorem decode_is (s : ByteArray) (pos : Nat) (h : pos < s.size) (e : UInt8) (he : e.toNat < 128) : ((Utf8.decode s pos).1 = e.toNat ↔ s.data.toList[pos]? = some e) := by
  rw [get_list s pos h]
  by_cases ha : (s[pos]'h).toNat < 128
  · rw [decode_ascii s pos h ha]
    constructor
    · intro z
      congr 1
      exact UInt8.toNat_inj.1 z
    · intro z
      rw [Option.some.inj z]
  · have h1 := (decode_high s pos h (by omega)).1
    constructor
    · intro z
      omega
    · intro z
      rw [Option.some.inj z] at ha
      exact absurd he ha
/-- Nothing of what a rune takes is the end, if it isn't itself. -/
theorem decode_not (s : ByteArray) (pos : Nat) (h : pos < s.size) (e : UInt8) (he : e.toNat < 128) (hd : ¬ (Utf8.decode s pos).1 = e.toNat) : ∀ j, pos ≤ j → j < pos + (Utf8.decode s pos).2 → s.data.toList[j]? ≠ some e := fun j a b z => by
  by_cases q : j = pos
  · rw [q] at z
    exact hd ((decode_is s pos h e he).2 z)
  · obtain ⟨h1, h2⟩ := decode_tail s pos h
    have h3 := h2 j (by omega) b
    rw [get_bang s j (by omega)] at z
    rw [Option.some.inj z] at h3
    omega
theorem cut_hit {s : ByteArray} {i : Nat} {e : UInt8} (h : s.data.toList[i]? = some e) (hj : ∀ j, j < i → s.data.toList[j]? ≠ some e) : s.extract 0 i = ofL (cutE e s.data.toList).1 ∧ s.extract (i + 1) s.size = ofL (cutE e s.data.toList).2 := by
  rw [cutE_at e _ i h hj]
  refine ⟨?_, ?_⟩
  · rw [← ofL_self (s.extract 0 i), extract_take]
  · rw [← ofL_self (s.extract (i + 1) s.size), extract_drop]
set_option maxRecDepth 100000 in
set_option maxHeartbeats 1000000 in
theorem hCutE (s : ByteArray) (e : UInt8) (he : e.toNat < 128) (w : World) (hs : s.size ≤ 281474976710656) : Calls Tryd.prog 35 #[.string s, .int .i32 (e.toNat : Int)] w fun o w' => o = .returned (.tuple #[.string (ofL (cutE e s.data.toList).1), .string (ofL (cutE e s.data.toList).2)]) ∧ Kept (fun _ => False) w w' := by
  have S0 : Hid ((w.iter s 0).heap[w.heap.size]? = some (.stringIter s 0) ∧ Kept (fun _ => False) w (w.iter s 0)) := ⟨World.iter_heap w s 0, (Kept.refl _ w).alloc _⟩
  obtain ⟨A, hA⟩ : ∃ A, A = ofL (cutE e s.data.toList).1 := ⟨_, rfl⟩
  obtain ⟨C, hC⟩ : ∃ C, C = ofL (cutE e s.data.toList).2 := ⟨_, rfl⟩
  obtain ⟨en, hen⟩ : ∃ en, e.toNat = en := ⟨_, rfl⟩
  rw [← hA, ← hC, hen]
  have HH : Hid (A = ofL (cutE e s.data.toList).1 ∧ C = ofL (cutE e s.data.toList).2 ∧ e.toNat = en ∧ e.toNat < 128) := ⟨hA, hC, hen, he⟩
  clear hA hC hen he
  go_enter Tryd.func35, Tryd.ntmps35
  go_wp2_with fail
  go_loopw [6, 7] (fun _ _ wr => ∃ pos : Nat, Hid (wr.heap[w.heap.size]? = some (.stringIter s pos) ∧ Kept (fun _ => False) w wr ∧ (∀ j, j < pos → s.data.toList[j]? ≠ some e))) (fun _ _ wr => s.size - wr.iterPos w.heap.size)
  case atStart => exact ⟨0, S0.out.1, S0.out.2, fun j hj => absurd hj (by omega)⟩
  case round =>
    obtain ⟨pos, S⟩ := hrel
    clear S0
    by_cases hp : pos < s.size
    · have hnx : ∀ ty, (Instr.next (.pointer (some ⟨w.heap.size, 0, none⟩)) true ty).run Tryd.prog wr = _ := fun ty => Lib.run_next_any_at wr w.heap.size s pos ty S.out.1 hp
      have hwd : Hid (1 ≤ (Utf8.decode s pos).2) := width_pos s pos hp
      obtain ⟨ru, hru⟩ : ∃ ru, (Utf8.decode s pos).1 = ru := ⟨_, rfl⟩
      obtain ⟨wi, hwi⟩ : ∃ wi, (Utf8.decode s pos).2 = wi := ⟨_, rfl⟩
      rw [hru, hwi] at hnx
      obtain ⟨W, hW⟩ : ∃ W, wr.iterAt w.heap.size s (pos + wi) = W := ⟨_, rfl⟩
      rw [hW] at hnx
      have NX : Hid (W.heap[w.heap.size]? = some (.stringIter s (pos + wi)) ∧ Kept (fun _ => False) w W) := by
        rw [← hW]
        exact ⟨Lib.iterAt_heap wr w.heap.size s pos (pos + wi) S.out.1, iter_kept S.out.2.1 (Nat.le_refl _) s _⟩
      have RU : Hid ((Utf8.decode s pos).1 = ru ∧ (Utf8.decode s pos).2 = wi ∧ wr.iterPos w.heap.size = pos) := ⟨hru, hwi, by simp [World.iterPos, S.out.1]⟩
      clear hru hwi hW
      by_cases h32 : ru = en
      · subst h32
        have Q := cut_hit ((decode_is s pos hp e HH.out.2.2.2).1 (RU.out.1.trans HH.out.2.2.1.symm)) S.out.2.2
        rw [← HH.out.1, ← HH.out.2.1] at Q
        have q1 := Q.1
        have q2 := Q.2
        have p1 : (pos : Int) < (s.size : Int) := by omega
        clear S RU hwd Q
        go_wp2_with fail
        go_quiet (fail)
        go_wp2_with fail
        go_ret2
        exact ⟨by first | rfl | simp, NX.out.2.drewN _⟩
      · have q32 : ((ru : Int) == (en : Int)) = false := by
          simp
          omega
        have NS : Hid (∀ j, j < pos + wi → s.data.toList[j]? ≠ some e) := fun j hj => by
          by_cases q : j < pos
          · exact S.out.2.2 j q
          · exact decode_not s pos hp e HH.out.2.2.2 (by rw [RU.out.1, HH.out.2.2.1]; exact h32) j (by omega) (by rw [RU.out.2.1]; exact hj)
        clear S
        go_wp2_with fail
        go_roundw
        case rel => exact ⟨pos + wi, NX.out.1, NX.out.2, NS.out⟩
        case measure =>
          have e1 : W.iterPos w.heap.size = pos + wi := by simp [World.iterPos, NX.out.1]
          have := hwd.out
          rw [RU.out.2.1] at this
          rw [e1, RU.out.2.2]
          omega
    · have hnx : ∀ ty, (Instr.next (.pointer (some ⟨w.heap.size, 0, none⟩)) true ty).run Tryd.prog wr = _ := fun ty => Lib.run_next_end_at wr w.heap.size s pos ty S.out.1 hp
      have Q : Hid (s = A ∧ (⟨#[]⟩ : ByteArray) = C ∧ Kept (fun _ => False) w wr) := by
        have q := cutE_none e s.data.toList (fun j hj => S.out.2.2 j (by rw [Array.length_toList] at hj; have : j < s.size := hj; omega))
        refine ⟨?_, ?_, S.out.2.1⟩
        · rw [HH.out.1, q, ofL_self]
        · rw [HH.out.2.1, q]
          rfl
      clear S
      go_wp2_with fail
      go_ret2
      refine ⟨?_, Q.out.2.2⟩
      rw [← Q.out.1, ← Q.out.2.1]
      first | rfl | simp
end Go.Proofs.YtonfefhegghapaaDoor
