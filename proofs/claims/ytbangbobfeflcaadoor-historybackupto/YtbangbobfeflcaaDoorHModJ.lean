import Derived.Test.YtbangbobfeflcaaDoorHGro
import Derived.Deep.Cut
namespace Go.Proofs.YtbangbobfeflcaaDoor
open Go.RowKit 

/-- A copy of bytes, of one's own. -/
structure Cl5 (w : World) (l : List Nat) (p : Option Addr) (n c : Nat) (w' : World) : Prop where
  row : w'.ownsRow w.heap.size 5 1 (.slice p n c) n (cellsOf l)
  rd : Reads w' p n c l
  kept : Kept (fun _ => False) w w'
def RetL (Q : Option Addr → Nat → World → Prop) (n : Nat) (o : Ending) (w : World) : Prop := ∃ p c, o = .returned (.slice p n c) ∧ Q p c w
theorem RetL.mk {Q : Option Addr → Nat → World → Prop} {n : Nat} {o : Ending} {w : World} (p : Option Addr) (c : Nat) (h : o = .returned (.slice p n c)) (hq : Q p c w) : RetL Q n o w := ⟨p, c, h, hq⟩
theorem reads_own {w : World} {base n : Nat} {p : Option Addr} {c : Nat} {l : List Nat} (h : w.ownsRow base 5 1 (.slice p n c) n (cellsOf l)) (hb : ∀ x ∈ l, x < 256) : Reads w p n c l := by
  obtain ⟨a', cap', e', rd, _⟩ := owns_reads h hb
  simp at e'
  obtain ⟨rfl, rfl⟩ := e'
  exact rd
set_option maxRecDepth 100000 in
theorem hClone {w : World} {a : Option Addr} {n c : Nat} {l : List Nat} (r : Reads w a n c l) (hn : n + 1 ≤ 140737488355328) : Calls Tryd.prog 44 #[.slice a n c] w (RetL (fun p c' w' => Cl5 w l p n c' w') n) := by
  have H : Hid (Reads w a n c l) := r
  have rm := r.room
  have sm := r.small
  unfold maxLen at sm
  clear r
  go_enter Tryd.func44, Tryd.ntmps44
  cases a with
  | none =>
    have n0 : n = 0 := by
      refine Classical.byContradiction (fun z => ?_)
      obtain ⟨b, off, e, _⟩ := H.out.cells (by omega)
      cases e
    subst n0
    have l0 : l = [] := List.length_eq_zero_iff.1 H.out.length
    subst l0
    have F : Hid (Cl5 w [] none 0 0 w) := ⟨⟨rfl, .inl ⟨rfl, rfl⟩⟩, Reads.nil w, Kept.refl _ _⟩
    have nn := nil_none c w
    go_wp2_with fail
    go_ret
    exact RetL.mk none 0 (by first | rfl | simp) F.out
  | some ad =>
    have S : Hid ((w.alloc (.cells #[] 5)).ownsRow w.heap.size 5 1 (.slice (some ⟨w.heap.size, 0, none⟩) 0 0) 0 (cellsOf []) ∧ Reads (w.alloc (.cells #[] 5)) (some ad) n c l ∧ Kept (fun _ => False) w (w.alloc (.cells #[] 5))) := by
      have K : Kept (fun _ => False) w (w.alloc (.cells #[] 5)) := (Kept.refl _ _).alloc _
      exact ⟨⟨rfl, .inr ⟨w.heap.size, 0, #[], rfl, Nat.le_refl _, alloc_new _ _, Nat.le_refl _, by unfold maxLen; omega, rfl, rfl⟩⟩, Reads.kept K H.out (fun _ _ z => z), K⟩
    have ns := nil_some ad n c w
    go_upto_region 3 with fail
    go_wp2_with
      (first
        | (at_builtin; refine wpList_append_bytes _ rfl (.tmp 5) (.tmp 6) rfl w.heap.size (.slice (some ⟨w.heap.size, 0, none⟩) 0 0) 0 [] rfl S.out.1 _ n l rfl S.out.2.1.src (by omega) S.out.2.2.size ?_; intro p9 c9 w9 ho hg hn9)
        | fail)
    have F : Hid (Cl5 w l p9 n c9 w9) := by
      have o9 := ho.out
      rw [Nat.zero_add, List.nil_append] at o9
      refine ⟨o9, reads_own o9 H.out.bytes, ?_⟩
      exact Kept.own S.out.2.2 ((Kept.refl (fun j => j = w.heap.size) _).grown hg.out (fun j _ z => by rw [blockOf_own] at z; exact (Option.some.inj z).symm)) (fun b z => by have z : b = w.heap.size := z; omega)
    clear ho hg hn9
    go_wp2_with fail
    go_ret
    exact RetL.mk p9 c9 (by first | rfl | simp) F.out
end Go.Proofs.YtbangbobfeflcaaDoor

namespace Go.Proofs.YtbangbobfeflcaaDoor
open Go.RowKit 

/-- The law's mod. -/
theorem lMod (a : Int) (n : Nat) (h0 : 0 < n) (h1 : n < 4611686018427387904) (w : World) : Calls Tryd.prog 13 #[.int .i64 a, .int .i64 (n : Int)] w fun o w' => (∃ r : Nat, o = .returned (.int .i64 (r : Int)) ∧ r < n ∧ (r : Int) = a % (n : Int)) ∧ w' = w := by
  obtain ⟨t, ht⟩ : ∃ t, t = a.tmod (n : Int) := ⟨_, rfl⟩
  have hn : (n : Int) ≠ 0 := by omega
  have b1 : t < (n : Int) := by rw [ht]; exact Int.tmod_lt_of_pos a (by omega)
  have b2 : -(n : Int) < t := by
    rw [ht]
    exact Int.lt_tmod_of_pos a (by omega)
  have em : a % (n : Int) = if t < 0 then t + (n : Int) else t := by
    rw [ht]
    have e1 := Int.tmod_add_mul_tdiv a (n : Int)
    by_cases z : a.tmod (n : Int) < 0
    · rw [if_pos z]
      have : a = (a.tmod (n : Int) + (n : Int)) + (n : Int) * (a.tdiv (n : Int) - 1) := by rw [Int.mul_sub]; omega
      rw [this, Int.add_mul_emod_self_left]
      have e2 : a.tmod (n : Int) + (n : Int) + (n : Int) * (a.tdiv (n : Int) - 1) = a := this.symm
      rw [e2]
      exact Int.emod_eq_of_lt (by omega) (by omega)
    · rw [if_neg z]
      have : a % (n : Int) = (a.tmod (n : Int) + (n : Int) * a.tdiv (n : Int)) % (n : Int) := by rw [e1]
      rw [this, Int.add_mul_emod_self_left]
      exact Int.emod_eq_of_lt (by omega) (by rw [← ht]; exact b1)
  have pos : Hid (¬ t < 0 → ∃ r : Nat, Ending.returned (Value.int .i64 (a.tmod (n : Int))) = .returned (.int .i64 (r : Int)) ∧ r < n ∧ (r : Int) = a % (n : Int)) := fun z => by
    rw [em, if_neg z, ← ht]
    exact ⟨t.toNat, by rw [Int.toNat_of_nonneg (by omega)], by omega, by omega⟩
  have neg : Hid (t < 0 → ∃ r : Nat, Ending.returned (Value.int .i64 (a.tmod (n : Int) + (n : Int))) = .returned (.int .i64 (r : Int)) ∧ r < n ∧ (r : Int) = a % (n : Int)) := fun z => by
    rw [em, if_pos z, ← ht]
    exact ⟨(t + (n : Int)).toNat, by rw [Int.toNat_of_nonneg (by omega)], by omega, by omega⟩
  clear em
  go_enter Tryd.func13, Tryd.ntmps13
  go_wp2_with fail
  · go_ret
    exact ⟨neg.out (by omega), rfl⟩
  · go_ret
    exact ⟨pos.out (by omega), rfl⟩
theorem str_inj {l m : List Nat} (hl : ∀ c ∈ l, c < 256) (hm : ∀ c ∈ m, c < 256) (h : str l = str m) : l = m := by
  unfold str at h
  have h : (l.map UInt8.ofNat).toArray = (m.map UInt8.ofNat).toArray := congrArg ByteArray.data h
  have h : l.map UInt8.ofNat = m.map UInt8.ofNat := by simpa using h
  have inj : ∀ (l m : List Nat), (∀ c ∈ l, c < 256) → (∀ c ∈ m, c < 256) → l.map UInt8.ofNat = m.map UInt8.ofNat → l = m := by
    intro l
    induction l with
    | nil => intro m _ _ h; cases m with
      | nil => rfl
      | cons b m => simp at h
    | cons a l ih =>
      intro m hl hm h
      cases m with
      | nil => simp at h
      | cons b m =>
        rw [List.map_cons, List.map_cons] at h
        injection h with h1 h2
        have ha := hl a (by simp)
        have hb := hm b (by simp)
        have e : a = b := by
          have := congrArg UInt8.toNat h1
          simp at this
          omega
        rw [e, ih m (fun c hc => hl c (by simp [hc])) (fun c hc => hm c (by simp [hc])) h2]
  exact inj l m hl hm h
theorem str_eq {l m : List Nat} (hl : ∀ c ∈ l, c < 256) (hm : ∀ c ∈ m, c < 256) : ((str l).toList == (str m).toList) = decide (l = m) := by
  by_cases h : l = m
  · rw [h, decide_eq_true rfl]
    exact beq_self_eq_true _
  · rw [decide_eq_false h]
    refine beq_false_of_ne fun z => h (str_inj hl hm ?_)
    rw [ba_toList, ba_toList] at z
    have : (str l).data = (str m).data := Array.toList_inj.1 z
    cases hs : str l
    cases ht : str m
    rw [hs, ht] at this
    exact congrArg ByteArray.mk this
theorem hSame {w : World} {a b : Option Addr} {n c m e : Nat} {l k : List Nat} (h1 : Reads w a n c l) (h2 : Reads w b m e k) : Calls Tryd.prog 25 #[.slice a n c, .slice b m e] w fun o w' => o = .returned (.bool (decide (l = k))) ∧ Kept (fun _ => False) w w' := by
  have c1 := h1.string
  have c2 := h2.string
  obtain ⟨q, hq⟩ : ∃ q, q = decide (l = k) := ⟨_, rfl⟩
  have e1 : ((str l).toList == (str k).toList) = q := by rw [hq]; exact str_eq h1.bytes h2.bytes
  rw [← hq]
  clear h1 h2 hq
  go_enter Tryd.func25, Tryd.ntmps25
  go_wp2_with fail
  go_ret
  exact ⟨by first | rfl | simp, Kept.refl _ _⟩
end Go.Proofs.YtbangbobfeflcaaDoor
