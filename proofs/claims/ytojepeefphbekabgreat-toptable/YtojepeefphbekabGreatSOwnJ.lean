import Derived.Test.YtojepeefphbekabGreatPCopiedJ
import Derived.Deep.CutRange
namespace Go.Proofs.YtojepeefphbekabGreat
open Go.RowKit 

/-- What 'pre' makes of the rows. -/
def preV (fl : Int × Int) (vs : List Uv) (key : ByteArray) (g : Int × Int) (l : List Nat) : Bool × List Uv :=
  if tc g fl < 0 then (false, vs) else
  if plc vs key g 0 < 0 then (true, vs ++ [(key, g, false, true, l)]) else
  match vs[(plc vs key g 0).toNat]? with
  | some v => if v.2.2.2.1 = true then (false, vs) else (true, vs.set (plc vs key g 0).toNat (key, g, v.2.2.1, true, l))
  | none => (false, vs)
/-- Fragments of rows lie where they lay, or in new memory. -/
def FreshL (w : World) (L L' : List Ut) : Prop := ∀ u ∈ L', ∀ k, blockOf u.2.2.2.2.1 = some k → (∃ v ∈ L, blockOf v.2.2.2.2.1 = some k) ∨ w.heap.size ≤ k
theorem FreshL.refl (w : World) (L : List Ut) : FreshL w L L := fun u hu _ hk => .inl ⟨u, hu, hk⟩
/-- The table behind a call that may write into its block and its rows. -/
structure RMv (b0 : Nat) (w w' : World) (tb : Nat) (delta : Int) (p : Option Addr) (L : List Ut) (vs' : List Uv) : Prop where
  tab : ∃ p' n' c' L', RTab b0 w' tb delta p' n' c' L' vs' ∧ (∀ k, blockOf p' = some k → blockOf p = some k ∨ w.heap.size ≤ k) ∧ FreshL w L L'
  kept : Kept (fun k => k = tb ∨ blockOf p = some k) w w'
theorem RMv.same {b0 : Nat} {w w' : World} {tb : Nat} {delta : Int} {p : Option Addr} {n c : Nat} {L : List Ut} {vs : List Uv} (h : RTab b0 w tb delta p n c L vs) (K : Kept (fun _ => False) w w') : RMv b0 w w' tb delta p L vs := ⟨⟨p, n, c, L, h.k0 K, fun _ hk => .inl hk, FreshL.refl w L⟩, K.mono (fun _ _ z => z.elim)⟩
theorem own_ty {w : World} {b0 ty st : Nat} {p : Option Addr} {n c : Nat} {xs : List Value} (h : w.ownsRow b0 ty st (.slice p n c) n xs) {k : Nat} (hk : blockOf p = some k) : ∃ cs, w.heap[k]? = some (.cells cs ty (0, 0)) := own_type h k hk
theorem UvRd.off {S : Nat → Prop} {w w' : World} {u : Ut} {v : Uv} (h : UvRd w u v) (K : Kept S w w') (hn : ∀ k cs fr, w.heap[k]? = some (.cells cs 5 fr) → ¬ S k) : UvRd w' u v := ⟨h.key, h.ent.off K hn⟩
/-- One row more. -/
theorem RTab.push {b0 : Nat} {wi w8 : World} {tb : Nat} {delta : Int} {p p9 : Option Addr} {n c c9 : Nat} {L : List Ut} {vs : List Uv} {u : Ut} {v : Uv} (h : RTab b0 wi tb delta p n c L vs) (uv : UvRd wi u v)
    (ho : w8.ownsRow b0 70 6 (.slice p9 (n + 1) c9) (n + 1) (rcells L ++ encR u)) (hg : wi.grownBy w8 (Value.slice p n c).ownBlock) (hn : (Value.slice p9 (n + 1) c9).ownBlock = (Value.slice p n c).ownBlock ∨ ((Value.slice p9 (n + 1) c9).ownBlock = some wi.heap.size ∧ wi.grownBy w8 none)) :
    w8.heap[tb]? = some (.cells #[.int .i64 delta, .slice p n c] 29 (0, 0)) ∧ RTab b0 (w8.setCell ⟨tb, 1, none⟩ (.slice p9 (n + 1) c9)) tb delta p9 (n + 1) c9 (L ++ [u]) (vs ++ [v]) ∧ Kept (fun k => k = tb ∨ blockOf p = some k) wi (w8.setCell ⟨tb, 1, none⟩ (.slice p9 (n + 1) c9)) ∧ ∀ k, blockOf p9 = some k → blockOf p = some k ∨ wi.heap.size ≤ k := by
  have K8 : Kept (fun k => blockOf p = some k) wi w8 := (Kept.refl (fun k => blockOf p = some k) wi).grown hg (fun k _ z => by rw [blockOf_own] at z; exact z)
  have nt : ¬ blockOf p = some tb := fun z => by
    obtain ⟨c2, h2⟩ := own_ty h.row z
    rw [h.blk] at h2
    simp at h2
  have n5 : ∀ k cs fr, wi.heap[k]? = some (.cells cs 5 fr) → ¬ blockOf p = some k := fun k cs fr hc z => by
    obtain ⟨c2, h2⟩ := own_ty h.row z
    rw [h2] at hc
    simp at hc
  have b8 := K8.get h.blk nt
  have K9 : Kept (fun k => k = tb) w8 (w8.setCell ⟨tb, 1, none⟩ (.slice p9 (n + 1) c9)) := (Kept.refl (fun k => k = tb) w8).setCell (p := ⟨tb, 1, none⟩) (fun _ => rfl) _
  have n6 : ∀ k cs fr, w8.heap[k]? = some (.cells cs 5 fr) → ¬ k = tb := fun k cs fr hc z => by
    rw [z, b8] at hc
    simp at hc
  refine ⟨b8, ⟨heap_set b8 1 _, by rw [List.length_append, h.len]; rfl, ?_, ?_⟩, (K8.mono (fun _ _ z => .inr z)).trans K9 (fun _ _ z => .inl z), fun k hk => ?_⟩
  · rw [rcells_append]
    have e0 : rcells [u] = encR u := by simp [rcells]
    rw [e0]
    refine K9.owns ho (fun k hk z => ?_)
    have z : k = tb := z
    obtain ⟨c2, h2⟩ := own_ty ho (k := k) (by rw [← blockOf_own]; exact hk)
    rw [z, b8] at h2
    simp at h2
  · exact ((h.rd.imp (fun _ _ q => (q.off K8 n5).off K9 n6))).snoc ((uv.off K8 n5).off K9 n6)
  · rcases hn with z | ⟨z, _⟩
    · rw [blockOf_own, blockOf_own, hk] at z
      exact .inl z.symm
    · rw [blockOf_own, hk] at z
      have z := Option.some.inj z
      exact .inr (by omega)
theorem plc_spec : ∀ (vs : List Uv) (k : ByteArray) (g : Int × Int) (s : Nat), ¬ plc vs k g s < 0 → ∃ i, ∃ h : i < vs.length, plc vs k g s = ((s + i : Nat) : Int) ∧ isAt k g vs[i] = true
  | [], _, _, _, h => absurd (show (-1 : Int) < 0 by decide) h
  | v :: vs, k, g, s, h => by
    by_cases e : isAt k g v = true
    · refine ⟨0, by simp, ?_, e⟩
      show (if isAt k g v = true then (s : Int) else plc vs k g (s + 1)) = _
      rw [if_pos e]
      rfl
    · have e2 : plc (v :: vs) k g s = plc vs k g (s + 1) := by
        show (if isAt k g v = true then (s : Int) else plc vs k g (s + 1)) = _
        rw [if_neg e]
      rw [e2] at h ⊢
      obtain ⟨i, hi, h1, h2⟩ := plc_spec vs k g (s + 1) h
      exact ⟨i + 1, by simpa using hi, by rw [h1]; omega, h2⟩
theorem rcells_set : ∀ (L : List Ut) (j : Nat) (_ : j < L.length) (e : Ut), (∀ (h : j < L.length), L[j].1 = e.1) → rcells (L.set j e) = (((((rcells L).set (j * 6 + 1) (.int .i64 e.2.1.1)).set (j * 6 + 2) (.int .i64 e.2.1.2)).set (j * 6 + 3) (.bool e.2.2.1)).set (j * 6 + 4) (.bool e.2.2.2.1)).set (j * 6 + 5) (.slice e.2.2.2.2.1 e.2.2.2.2.2.1 e.2.2.2.2.2.2)
  | [], j, h, e, _ => by simp at h
  | a :: L, 0, _, e, hk => by
    have hk := hk (by simp)
    have hk : a.1 = e.1 := hk
    rw [List.set_cons_zero, rcells_cons, rcells_cons]
    obtain ⟨a1, a2⟩ := a
    obtain ⟨e1, e2⟩ := e
    have hk : a1 = e1 := hk
    subst hk
    rfl
  | a :: L, j + 1, h, e, hk => by
    rw [List.set_cons_succ, rcells_cons, rcells_set L j (by simpa using h) e (fun h2 => hk (by simpa using h2)), rcells_cons]
    have e' : ∀ i, (j + 1) * 6 + i = j * 6 + i + 6 := fun i => by omega
    rw [e' 1, e' 2, e' 3, e' 4, e' 5]
    rfl
theorem Along.set {α β : Type} {R : α → β → Prop} {L : List α} {vs : List β} (h : Along R L vs) {i : Nat} {u : α} {v : β} (hr : R u v) : Along R (L.set i u) (vs.set i v) := by
  refine ⟨by rw [List.length_set, List.length_set]; exact h.1, fun j h1 h2 => ?_⟩
  rw [List.getElem_set, List.getElem_set]
  by_cases e : i = j
  · rw [if_pos e, if_pos e]
    exact hr
  · rw [if_neg e, if_neg e]
    rw [List.length_set] at h1 h2
    exact h.2 j h1 h2
theorem preV_has {fl : Int × Int} {vs : List Uv} {key : ByteArray} {g : Int × Int} {l : List Nat} {i : Nat} (hi : i < vs.length) (h1 : ¬ tc g fl < 0) (h2 : plc vs key g 0 = (i : Int)) : preV fl vs key g l = if vs[i].2.2.2.1 = true then (false, vs) else (true, vs.set i (key, g, vs[i].2.2.1, true, l)) := by
  unfold preV
  rw [if_neg h1, if_neg (by rw [h2]; omega), h2, Int.toNat_natCast, List.getElem?_eq_getElem hi]
/-- A row is written anew. -/
theorem RTab.put {b0 : Nat} {wi : World} {tb : Nat} {delta : Int} {g n c : Nat} {L : List Ut} {vs : List Uv} {u : Ut} {v : Uv} {i : Nat} (h : RTab b0 wi tb delta (some ⟨g, 0, none⟩) n c L vs) (hi : i < L.length) (hk : L[i].1 = u.1) (uv : UvRd wi u v) :
    RTab b0 (((((wi.setCell ⟨g, i * 6 + 1, none⟩ (.int .i64 u.2.1.1)).setCell ⟨g, i * 6 + 2, none⟩ (.int .i64 u.2.1.2)).setCell ⟨g, i * 6 + 3, none⟩ (.bool u.2.2.1)).setCell ⟨g, i * 6 + 4, none⟩ (.bool u.2.2.2.1)).setCell ⟨g, i * 6 + 5, none⟩ (.slice u.2.2.2.2.1 u.2.2.2.2.2.1 u.2.2.2.2.2.2)) tb delta (some ⟨g, 0, none⟩) n c (L.set i u) (vs.set i v) ∧ Kept (fun k => k = g) wi (((((wi.setCell ⟨g, i * 6 + 1, none⟩ (.int .i64 u.2.1.1)).setCell ⟨g, i * 6 + 2, none⟩ (.int .i64 u.2.1.2)).setCell ⟨g, i * 6 + 3, none⟩ (.bool u.2.2.1)).setCell ⟨g, i * 6 + 4, none⟩ (.bool u.2.2.2.1)).setCell ⟨g, i * 6 + 5, none⟩ (.slice u.2.2.2.2.1 u.2.2.2.2.2.1 u.2.2.2.2.2.2)) := by
  have K : Kept (fun k => k = g) wi (((((wi.setCell ⟨g, i * 6 + 1, none⟩ (.int .i64 u.2.1.1)).setCell ⟨g, i * 6 + 2, none⟩ (.int .i64 u.2.1.2)).setCell ⟨g, i * 6 + 3, none⟩ (.bool u.2.2.1)).setCell ⟨g, i * 6 + 4, none⟩ (.bool u.2.2.2.1)).setCell ⟨g, i * 6 + 5, none⟩ (.slice u.2.2.2.2.1 u.2.2.2.2.2.1 u.2.2.2.2.2.2)) := (((((Kept.refl (fun k => k = g) wi).setCell (p := ⟨g, i * 6 + 1, none⟩) (fun _ => rfl) _).setCell (p := ⟨g, i * 6 + 2, none⟩) (fun _ => rfl) _).setCell (p := ⟨g, i * 6 + 3, none⟩) (fun _ => rfl) _).setCell (p := ⟨g, i * 6 + 4, none⟩) (fun _ => rfl) _).setCell (p := ⟨g, i * 6 + 5, none⟩) (fun _ => rfl) _
  obtain ⟨cg, hg⟩ := own_ty h.row (k := g) rfl
  have n5 : ∀ k cs fr, wi.heap[k]? = some (.cells cs 5 fr) → ¬ k = g := fun k cs fr hc z => by
    rw [z, hg] at hc
    simp at hc
  refine ⟨⟨K.get h.blk (fun z => ?_), by rw [List.length_set]; exact h.len, ?_, (h.rd.imp (fun _ _ q => q.off K n5)).set (uv.off K n5)⟩, K⟩
  · have z : tb = g := z
    have hb := h.blk
    rw [z, hg] at hb
    simp at hb
  · rw [rcells_set L i hi u (fun _ => hk)]
    exact (((((h.row.stored _ _).1.stored _ _).1.stored _ _).1.stored _ _).1.stored _ _).1
theorem preV_new {fl : Int × Int} {vs : List Uv} {key : ByteArray} {g : Int × Int} {l : List Nat} (h1 : ¬ tc g fl < 0) (h2 : plc vs key g 0 < 0) : preV fl vs key g l = (true, vs ++ [(key, g, false, true, l)]) := by
  unfold preV
  rw [if_neg h1, if_pos h2]
end Go.Proofs.YtojepeefphbekabGreat

namespace Go.Proofs.YtojepeefphbekabGreat
open Go.RowKit 

set_option maxRecDepth 100000 in
/-- own. -/
theorem sOwn (a : Option Addr) (n c : Nat) (l : List Nat) (w : World) (r : Reads w a n c l) (hn : n ≤ 140737488355328) : Calls Tryz.prog 5 #[.slice a n c] w fun o w' => ∃ p c', o = .returned (.slice p n c') ∧ Hid (Reads w' p n c' l ∧ (∀ k, blockOf p = some k → w.heap.size ≤ k ∧ ∃ cs, w'.heap[k]? = some (.cells cs 5 (0, 0))) ∧ Kept (fun _ => False) w w') := by
  have R : Hid (Reads w a n c l) := r
  have BL : Hid (0 + n ≤ 140737488355328) := by show 0 + n ≤ _; omega
  clear r hn
  go_enter Tryz.func5, Tryz.ntmps5
  go_wp2_with
    (first
      | (at_builtin; refine wpList_append_bytes _ rfl (.const (.slice none 0 0)) (.tmp 3) rfl w.heap.size (.slice none 0 0) 0 [] rfl (World.ownsRow_nil _ _ _ _) (.slice a n c) n l rfl R.out.src BL.out (Nat.le_refl _) ?_; intro p2 k2 w2 ho hg nr)
      | fail)
  have G : Hid (Reads w2 p2 n k2 l ∧ (∀ k, blockOf p2 = some k → w.heap.size ≤ k ∧ ∃ cs, w2.heap[k]? = some (.cells cs 5 (0, 0))) ∧ Kept (fun _ => False) w w2) := by
    have K2 : Kept (fun _ => False) w w2 := (Kept.refl _ _).grown hg.out (fun k _ z => by cases z)
    have o := ho.out
    rw [Nat.zero_add, List.nil_append] at o
    refine ⟨?_, fun k hk => ?_, K2⟩
    · obtain ⟨a3, cap3, e3, r3, _⟩ := owns_reads o R.out.bytes
      simp at e3
      obtain ⟨rfl, rfl⟩ := e3
      exact r3
    · obtain ⟨cs, hc⟩ := own_type o k hk
      exact ⟨(own_lt o k hk).1, cs, hc⟩
  clear ho hg nr
  go_ret
  exact ⟨p2, k2, by simp, G⟩
end Go.Proofs.YtojepeefphbekabGreat
