import Derived.Test.YtojepeefphbekabGreatKeys2
import Derived.Test.YtojepeefphbekabGreatInv
namespace Go.Proofs.YtojepeefphbekabGreat
open Go.RowKit 

/-- An entry as it is told: tag, finalized, has a fragment, the fragment. -/
abbrev Ev : Type := (Int × Int) × Bool × Bool × List Nat
abbrev Et : Type := (Int × Int) × Bool × Bool × Option Addr × Nat × Nat
/-- A told entry reads so. -/
structure EvRd (w : World) (e : Et) (v : Ev) : Prop where
  tag : e.1 = v.1
  fin : e.2.1 = v.2.1
  has : e.2.2.1 = v.2.2.1
  data : Reads w e.2.2.2.1 e.2.2.2.2.1 e.2.2.2.2.2 v.2.2.2
  blk : ∀ k, blockOf e.2.2.2.1 = some k → ∃ cs fr, w.heap[k]? = some (.cells cs 5 fr)
theorem EvRd.off {S : Nat → Prop} {w w' : World} {e : Et} {v : Ev} (h : EvRd w e v) (K : Kept S w w') (hn : ∀ k cs fr, w.heap[k]? = some (.cells cs 5 fr) → ¬ S k) : EvRd w' e v := by
  refine ⟨h.tag, h.fin, h.has, h.data.kept K (fun p hp => ?_), fun k hk => ?_⟩
  · obtain ⟨cs, fr, hc⟩ := h.blk p.block (by rw [hp]; rfl)
    exact hn _ _ _ hc
  · obtain ⟨cs, fr, hc⟩ := h.blk k hk
    exact ⟨cs, fr, K.get hc (hn _ _ _ hc)⟩
/-- Two lists go along. -/
def Along {α β : Type} (P : α → β → Prop) (A : List α) (B : List β) : Prop := A.length = B.length ∧ ∀ i (h1 : i < A.length) (h2 : i < B.length), P A[i] B[i]
theorem Along.nil {α β : Type} (P : α → β → Prop) : Along P [] [] := ⟨rfl, fun i h => by simp at h⟩
theorem Along.snoc {α β : Type} {P : α → β → Prop} {A : List α} {B : List β} (h : Along P A B) {a : α} {b : β} (hp : P a b) : Along P (A ++ [a]) (B ++ [b]) := by
  refine ⟨by rw [List.length_append, List.length_append, h.1]; rfl, fun i h1 h2 => ?_⟩
  by_cases hi : i < A.length
  · rw [List.getElem_append_left hi, List.getElem_append_left (by rw [← h.1]; exact hi)]
    exact h.2 i hi _
  · have e : i = A.length := by rw [List.length_append] at h1; simp at h1; omega
    subst e
    have e2 : B.length = A.length := h.1.symm
    rw [List.getElem_append_right (Nat.le_refl _)]
    rw [List.getElem_append_right (by omega)]
    simp only [e2, Nat.sub_self]
    exact hp
theorem Along.imp {α β : Type} {P Q : α → β → Prop} {A : List α} {B : List β} (h : Along P A B) (f : ∀ a b, P a b → Q a b) : Along Q A B := ⟨h.1, fun i h1 h2 => f _ _ (h.2 i h1 h2)⟩
/-- A list of entries reads so. -/
structure EntRd (w : World) (p : Option Addr) (n c : Nat) (es : List Ev) : Prop where
  len : es.length = n
  row : ∃ L : List Et, w.ownsRow 0 34 5 (.slice p n c) n (ecells L) ∧ Along (EvRd w) L es
theorem EntRd.off {S : Nat → Prop} {w w' : World} {p : Option Addr} {n c : Nat} {es : List Ev} (h : EntRd w p n c es) (K : Kept S w w') (hn : ∀ k cs t fr, (t = 5 ∨ t = 34) → w.heap[k]? = some (.cells cs t fr) → ¬ S k) : EntRd w' p n c es := by
  obtain ⟨L, ow, al⟩ := h.row
  refine ⟨h.len, L, K.owns ow (fun k hk => ?_), al.imp (fun a b q => q.off K (fun k cs fr hc => hn k cs 5 fr (.inl rfl) hc))⟩
  obtain ⟨cs, hc⟩ := own_type ow k (by rw [← blockOf_own p n c]; exact hk)
  exact hn k cs 34 _ (.inr rfl) hc
theorem EntRd.k0 {w w' : World} {p : Option Addr} {n c : Nat} {es : List Ev} (h : EntRd w p n c es) (K : Kept (fun _ => False) w w') : EntRd w' p n c es := h.off K (fun _ _ _ _ _ _ z => z)
/-- Just these entries, by rising tags. -/
structure EntsOf (M : Int × Int → Option Hd) (dat : Int × Int → List Nat) (es : List Ev) : Prop where
  up : es.Pairwise fun x y => tc x.1 y.1 < 0
  mem : ∀ v : Ev, v ∈ es ↔ ∃ hd, M v.1 = some hd ∧ v.2.1 = hd.fin ∧ v.2.2.1 = hd.has ∧ v.2.2.2 = dat v.1
def evOf (dat : Int × Int → List Nat) (e : Et) : Ev := (e.1, e.2.1, e.2.2.1, dat e.1)
theorem entsOf {M : Int × Int → Option Hd} {dat : Int × Int → List Nat} {L : List Et} (g : GE M (fun _ => False) L) (srt : L.Pairwise fun x y => ¬ tc y.1 x.1 < 0) : EntsOf M dat (L.map (evOf dat)) := by
  refine ⟨?_, fun v => ⟨fun h => ?_, fun ⟨hd, h1, h2, h3, h4⟩ => ?_⟩⟩
  · rw [List.pairwise_map]
    have n2 := List.pairwise_map.1 g.one
    refine (srt.and n2).imp (fun {x y} h => ?_)
    exact tc_total y.1 x.1 h.1 (fun e => h.2 e.symm)
  · obtain ⟨e, he, rfl⟩ := List.mem_map.1 h
    obtain ⟨_, hd, h1, h2, h3, _⟩ := g.each e he
    exact ⟨hd, h1, h2, h3, rfl⟩
  · rcases g.all v.1 hd h1 with z | ⟨e, he, h5⟩
    · exact z.elim
    · refine List.mem_map.2 ⟨e, he, ?_⟩
      obtain ⟨_, hd2, k1, k2, k3, _⟩ := g.each e he
      rw [h5, h1] at k1
      have := Option.some.inj k1
      subst this
      unfold evOf
      rw [h5, k2, k3]
      refine Prod.ext rfl (Prod.ext h2.symm (Prod.ext h3.symm h4.symm))
theorem entRd_of {w : World} {b0 : Nat} {p : Option Addr} {cp : Nat} {L : List Et} {dat : Int × Int → List Nat} (ow : w.ownsRow b0 34 5 (.slice p L.length cp) L.length (ecells L)) (eo : EOK w L dat) : EntRd w p L.length cp (L.map (evOf dat)) := by
  refine ⟨by rw [List.length_map], L, owns_mono ow (Nat.zero_le _), by rw [List.length_map], fun i h1 h2 => ?_⟩
  rw [List.getElem_map]
  obtain ⟨r, b⟩ := eo L[i] (List.getElem_mem _)
  exact ⟨rfl, rfl, rfl, r, fun k hk => by obtain ⟨cs, hc⟩ := b k hk; exact ⟨cs, _, hc⟩⟩
/-- A key with its entries. -/
abbrev Hl : Type := ByteArray × Option Addr × Nat × Nat
def encH (x : Hl) : List Value := [.string x.1, .slice x.2.1 x.2.2.1 x.2.2.2]
def hcells (l : List Hl) : List Value := l.flatMap encH
theorem hcells_cons (e : Hl) (l : List Hl) : hcells (e :: l) = encH e ++ hcells l := by simp [hcells]
theorem hcells_append (l m : List Hl) : hcells (l ++ m) = hcells l ++ hcells m := by simp [hcells]
theorem hcells_length (l : List Hl) : (hcells l).length = l.length * 2 := by
  induction l with
  | nil => rfl
  | cons t r ih => rw [hcells_cons, List.length_append, ih, List.length_cons]; show 2 + _ = _; omega
theorem hcells_get (l : List Hl) : ∀ i (h : i < l.length) j, j < 2 → (hcells l)[i * 2 + j]? = (encH l[i])[j]? := by
  induction l with
  | nil => intro i h; simp at h
  | cons t r ih =>
    intro i h j hj
    rw [hcells_cons]
    have e2 : (encH t).length = 2 := rfl
    cases i with
    | zero => rw [List.getElem?_append_left (by rw [e2]; omega)]; simp
    | succ i =>
      rw [List.getElem?_append_right (by rw [e2]; omega), e2, show (i + 1) * 2 + j - 2 = i * 2 + j by omega, ih i (by simpa using h) j hj]
      rfl
abbrev Av : Type := ByteArray × List Ev
structure HRd (w : World) (x : Hl) (v : Av) : Prop where
  key : x.1 = v.1
  ents : EntRd w x.2.1 x.2.2.1 x.2.2.2 v.2
theorem HRd.off {S : Nat → Prop} {w w' : World} {x : Hl} {v : Av} (h : HRd w x v) (K : Kept S w w') (hn : ∀ k cs t fr, (t = 5 ∨ t = 34) → w.heap[k]? = some (.cells cs t fr) → ¬ S k) : HRd w' x v := ⟨h.key, h.ents.off K hn⟩
/-- All entries of all keys read so. -/
structure AllRd (w : World) (p : Option Addr) (n c : Nat) (vs : List Av) : Prop where
  len : vs.length = n
  row : ∃ L : List Hl, w.ownsRow 0 73 2 (.slice p n c) n (hcells L) ∧ Along (HRd w) L vs
theorem AllRd.k0 {w w' : World} {p : Option Addr} {n c : Nat} {vs : List Av} (h : AllRd w p n c vs) (K : Kept (fun _ => False) w w') : AllRd w' p n c vs := by
  obtain ⟨L, ow, al⟩ := h.row
  exact ⟨h.len, L, K.owns ow (fun _ _ z => z), al.imp (fun a b q => q.off K (fun _ _ _ _ _ _ z => z))⟩
theorem Tryz.info73c : (Tryz.prog.info? 73).map (fun i => (i.zero, i.size, i.bytes)) = some (some (.agg #[.string (ByteArray.mk #[]), .slice none 0 0]), 2, 40) := by kernel_rfl
theorem src_held {w : World} {b : Nat} {e : Hl} (h : w.heap[b]? = some (.cells (encH e).toArray 73 (0, 0))) : Src Tryz.prog 2 44 (.slice (some ⟨b, 0, none⟩) 1 1) 1 (encH e) w :=
  Src.ofSlice w Tryz.underlying44 ⟨b, 0, none⟩ 1 1 (encH e) rfl (fun j u hj => by
    rw [Addr.add_none, Nat.zero_add, cell_of_row w b j _ 73 (0, 0) h]
    simpa using hj) (fun v hv => by simp [encH] at hv; rcases hv with rfl | rfl <;> rfl)
/-- What All tells of a table. -/
structure AllOf (t : TK) (dat : ByteArray → Int × Int → List Nat) (vs : List Av) : Prop where
  keys : KE t.rv (fun _ => False) (vs.map fun v => v.1)
  srt : SortedS (vs.map fun v => v.1)
  ents : ∀ v ∈ vs, EntsOf (TMp t v.1) (dat v.1) v.2
/-- All fragments, by key and tag. -/
def DatAll (w : World) (t : TK) (dat : ByteArray → Int × Int → List Nat) : Prop := ∀ k r, t.R k = some r → DataAt w r.M (dat k)
theorem DataAt.k0 {w w' : World} {M : Int × Int → Option Hd} {dat : Int × Int → List Nat} (h : DataAt w M dat) (K : Kept (fun _ => False) w w') : DataAt w' M dat := fun t hd hm => ⟨(h t hd hm).1.kept K (fun _ _ z => z), (h t hd hm).2⟩
theorem DatAll.k0 {w w' : World} {t : TK} {dat : ByteArray → Int × Int → List Nat} (h : DatAll w t dat) (K : Kept (fun _ => False) w w') : DatAll w' t dat := fun k r hr => (h k r hr).k0 K
/-- The round's state of All. -/
structure AS (w wr : World) (p : Option Addr) (i c : Nat) (t : TK) (dat : ByteArray → Int × Int → List Nat) (ks : List ByteArray) (vs : List Av) : Prop where
  row : ∃ L : List Hl, L.length = i ∧ wr.ownsRow w.heap.size 73 2 (.slice p i c) i (hcells L) ∧ Along (HRd wr) L vs
  keys : vs.map (fun v => v.1) = ks.take i
  ents : ∀ v ∈ vs, EntsOf (TMp t v.1) (dat v.1) v.2
  kept : Kept (fun _ => False) w wr
set_option maxRecDepth 100000 in
set_option maxHeartbeats 2000000 in
/-- All. -/
theorem tAll (nn : Nat) (t : TK) (dat : ByteArray → Int × Int → List Nat) (w : World) (h : IsT w nn t) (hd : DatAll w t dat) (hn : nn ≤ 4398046511104) : Calls Tryz.prog 12 #[.pointer (some ⟨t.tb, 0, none⟩)] w fun o w' => ∃ p n c vs, o = .returned (.slice p n c) ∧ Hid (AllRd w' p n c vs ∧ AllOf t dat vs ∧ Kept (fun _ => False) w w') := by
  have H : Hid (IsT w nn t ∧ DatAll w t dat ∧ nn ≤ 4398046511104) := ⟨h, hd, hn⟩
  obtain ⟨tb, htb⟩ : ∃ tb, tb = t.tb := ⟨_, rfl⟩
  have HT : Hid (tb = t.tb) := htb
  rw [← htb]
  clear h hd hn htb
  go_enter Tryz.func12, Tryz.ntmps12
  go_wp2_with fail
  rw [HT.out]
  refine (tKeys nn t w H.out.1 (by have := H.out.2.2; omega)).mono ?_
  rintro o w1 ⟨g, cp, ks, rfl, ke, srt, ow, ln, k1⟩
  have R : Hid (KE t.rv (fun _ => False) ks ∧ SortedS ks ∧ w1.ownsRow w.heap.size 9 1 (.slice (some ⟨g, 0, none⟩) ks.length cp) ks.length (strs ks) ∧ Kept (fun _ => False) w w1 ∧ ks.length ≤ nn) := ⟨ke, srt, ow, k1, ln⟩
  obtain ⟨m, hm⟩ : ∃ m, m = ks.length := ⟨_, rfl⟩
  have HM : Hid (m = ks.length ∧ m ≤ 4398046511104) := ⟨hm, by have := H.out.2.2; omega⟩
  have mb : m ≤ 4398046511104 := HM.out.2
  rw [← hm]
  have A0 : Hid (AS w1 w1 none 0 0 t dat ks []) := ⟨⟨[], rfl, ⟨rfl, .inl ⟨rfl, rfl⟩⟩, Along.nil _⟩, rfl, (fun _ h => by cases h), Kept.refl _ _⟩
  have cr : m ≤ cp := by rw [hm]; exact (own_room ow).1
  clear ke srt ow ln k1 hm
  rw [← HT.out]
  go_wp2_with fail
  (try go_frame)
  go_loopw [3, 9] (fun y z wr => ∃ (i c : Nat) (p : Option Addr) (vs : List Av), z = .int .i64 (i : Int) ∧ y = .slice p i c ∧ i ≤ m ∧ Hid (AS w1 wr p i c t dat ks vs)) (fun _ z _ => m - (intOf z).toNat)
  case atStart => exact ⟨0, 0, none, [], rfl, rfl, Nat.zero_le _, A0⟩
  case round =>
    obtain ⟨i, c, p, vs, rfl, rfl, hi, A⟩ := hrel
    clear A0
    by_cases hlt : i < m
    · obtain ⟨key, hk⟩ : ∃ key, ks[i]? = some key := ⟨ks[i]'(by rw [← HM.out.1]; exact hlt), List.getElem?_eq_getElem _⟩
      have d0 : wr.cell? ⟨g, i, none⟩ = some (.string key) := by
        have := R.out.2.2.1.cells (g := g) rfl i (.string key) (by unfold strs; rw [List.getElem?_map, hk]; rfl)
        rw [Addr.add_none, Nat.zero_add] at this
        exact A.out.kept.cell this (fun z => z)
      have hlt' : (i : Int) < (m : Int) := by omega
      have KM : Hid (ks[i]? = some key ∧ key.size ≤ maxLen) := by
        refine ⟨hk, ?_⟩
        obtain ⟨D, _, sD⟩ := H.out.1.rows
        have := (R.out.1.each key (List.mem_of_getElem? hk)).2
        cases hv : t.rv key with
        | none => exact absurd hv this
        | some e => exact sD.2 key e hv
      clear hk
      go_wp2_with fail
      rw [HT.out]
      have kw : Kept (fun _ => False) w wr := R.out.2.2.2.1.and0 A.out.kept
      refine (tEntries nn t key (dat key) wr (H.out.1.k0 kw) KM.out.2 (fun r hr => (H.out.2.1.k0 kw) key r hr) (by have := H.out.2.2; omega)).mono ?_
      rintro o w2 ⟨pe, ce, L, rfl, ge, srt, ow, k2, eo⟩
      have E2 : Hid (EntRd w2 pe L.length ce (L.map (evOf (dat key))) ∧ EntsOf (TMp t key) (dat key) (L.map (evOf (dat key))) ∧ Kept (fun _ => False) wr w2) := ⟨entRd_of ow eo, entsOf ge srt, k2⟩
      obtain ⟨nL, hnL⟩ : ∃ nL, nL = L.length := ⟨_, rfl⟩
      rw [← hnL] at E2 ⊢
      clear ge srt ow k2 eo kw hnL
      rw [← HT.out]
      obtain ⟨Lh, hl0, ow0, al0⟩ := A.out.row
      have AR : Hid (Lh.length = i ∧ w2.ownsRow w1.heap.size 73 2 (.slice p i c) i (hcells Lh) ∧ Along (HRd w2) Lh vs) := ⟨hl0, E2.out.2.2.owns ow0 (fun _ _ z => z), al0.imp (fun a b q => q.off E2.out.2.2 (fun _ _ _ _ _ _ z => z))⟩
      have BL : Hid (i + 1 ≤ maxLen ∧ ((i + 1) + (i + 1) / 4 + 192) * 40 ≤ 281474976710656) := by
        unfold maxLen
        exact ⟨by omega, by omega⟩
      have K12 : Hid (Kept (fun _ => False) w1 w2) := A.out.kept.and0 E2.out.2.2
      clear hl0 ow0 al0 d0
      go_wp2_with
        (first
          | (at_builtin; refine wpList_append_all _ rfl (.tmp 13) (.tmp 19) 44 73 44 _ 2 40 rfl Tryz.underlying44 Tryz.info73c rfl w1.heap.size (.slice p i c) i (hcells Lh) rfl ((k0_alloc w2 _).owns AR.out.2.1 (fun _ _ z => z)) _ 1 (encH (key, pe, nL, ce)) rfl (src_held (heap_alloc_new w2 _)) BL.out.1 BL.out.2 (Nat.le_trans K12.out.size (k0_alloc w2 _).size) ?_; intro p9 c9 w9 ho hg hn)
          | fail)
      have A9 : Hid (AS w1 w9 p9 (i + 1) c9 t dat ks (vs ++ [(key, L.map (evOf (dat key)))])) := by
        have KG : Kept (fun k => blockOf p = some k) w2 w9 := ((Kept.refl (fun k => blockOf p = some k) w2).alloc _).grown hg.out (fun k _ z => by rw [blockOf_own] at z; exact z)
        have ng : ∀ k cs t fr, (t = 5 ∨ t = 34) → w2.heap[k]? = some (.cells cs t fr) → ¬ blockOf p = some k := fun k cs t fr ht hc z => by
          obtain ⟨c2, h2⟩ := own_type AR.out.2.1 k z
          rcases ht with rfl | rfl <;> (rw [h2] at hc; simp at hc)
        refine ⟨⟨Lh ++ [(key, pe, nL, ce)], by rw [List.length_append, AR.out.1]; rfl, ?_, (AR.out.2.2.imp (fun a b q => q.off KG ng)).snoc ⟨rfl, E2.out.1.off KG ng⟩⟩, ?_, fun v hv => ?_, K12.out.trans KG (fun j hj z => ?_)⟩
        · rw [hcells_append]
          have e : hcells [(key, pe, nL, ce)] = encH (key, pe, nL, ce) := by simp [hcells]
          rw [e]
          exact ho.out
        · rw [List.map_append, A.out.keys, List.take_add_one, KM.out.1]
          rfl
        · rcases List.mem_append.1 hv with z | z
          · exact A.out.ents v z
          · rw [List.mem_singleton] at z
            subst z
            exact E2.out.2.1
        · have := (own_lt AR.out.2.1 j z).1
          omega
      clear ho hg hn A AR
      go_roundw
      case rel => exact ⟨i + 1, c9, p9, _, by go_num, rfl, by omega, A9⟩
      case measure => simp [intOf]; omega
    · have G : Hid (AllRd wr p i c vs ∧ AllOf t dat vs ∧ Kept (fun _ => False) w wr) := by
        obtain ⟨Lh, hl0, ow0, al0⟩ := A.out.row
        have ek : vs.map (fun v => v.1) = ks := by
          rw [A.out.keys]
          exact List.take_of_length_le (by rw [← HM.out.1]; omega)
        refine ⟨⟨by rw [← al0.1, hl0], Lh, owns_mono ow0 (Nat.zero_le _), al0⟩, ⟨by rw [ek]; exact R.out.1, by rw [ek]; exact R.out.2.1, A.out.ents⟩, R.out.2.2.2.1.and0 A.out.kept⟩
      clear A
      go_wp2_with fail
      go_ret
      exact ⟨p, i, c, vs, rfl, G⟩
end Go.Proofs.YtojepeefphbekabGreat
