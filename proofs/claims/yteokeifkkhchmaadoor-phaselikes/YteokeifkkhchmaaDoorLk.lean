import Derived.Test.YteokeifkkhchmaaDoorPhI
import Derived.Test.YteokeifkkhchmaaDoorPhS
import Derived.Test.YteokeifkkhchmaaDoorPhR
import Derived.Test.YteokeifkkhchmaaDoorTaken
import Derived.Test.YteokeifkkhchmaaDoorShelf
import Derived.Deep.OwnRows
namespace Go.Proofs.YteokeifkkhchmaaDoor
open Go.RowKit Go.Shelf Go.Lib Go.Sort

/-- Who has come, and what each said last. -/
def comeA (M : Int → Option Int) (n : Nat) : Array Value := ((List.range n).map fun (i : Nat) => Value.bool (M (i : Int)).isSome).toArray
def lastA (M : Int → Option Int) (n : Nat) : Array Value := ((List.range n).map fun (i : Nat) => Value.int .i64 ((M (i : Int)).getD 0)).toArray
theorem comeA_at (M : Int → Option Int) (n i : Nat) (h : i < n) : (comeA M n)[i]? = some (.bool (M (i : Int)).isSome) := by
  unfold comeA; simp [h]
theorem lastA_at (M : Int → Option Int) (n i : Nat) (h : i < n) : (lastA M n)[i]? = some (.int .i64 ((M (i : Int)).getD 0)) := by
  unfold lastA; simp [h]
theorem comeA_size (M : Int → Option Int) (n : Nat) : (comeA M n).size = n := by unfold comeA; simp
theorem lastA_size (M : Int → Option Int) (n : Nat) : (lastA M n).size = n := by unfold lastA; simp
theorem comeA_set (M : Int → Option Int) (n s : Nat) (v : Int) : (comeA M n).setIfInBounds s (.bool true) = comeA (upd M (s : Int) v) n := by
  apply Array.ext
  · simp [comeA_size]
  · intro i h1 h2
    have hi : i < n := by rw [comeA_size] at h2; exact h2
    have e2 := comeA_at (upd M (s : Int) v) n i hi
    have e1 := comeA_at M n i hi
    rw [Array.getElem_setIfInBounds (by rw [comeA_size]; exact hi)]
    rw [Array.getElem?_eq_getElem h2] at e2
    rw [Array.getElem?_eq_getElem (by rw [comeA_size]; exact hi)] at e1
    have e2 := Option.some.inj e2
    have e1 := Option.some.inj e1
    rw [e2, e1]
    unfold upd
    by_cases h : s = i
    · subst h; simp
    · rw [if_neg h, if_neg (by omega)]
theorem lastA_set (M : Int → Option Int) (n s : Nat) (v : Int) : (lastA M n).setIfInBounds s (.int .i64 v) = lastA (upd M (s : Int) v) n := by
  apply Array.ext
  · simp [lastA_size]
  · intro i h1 h2
    have hi : i < n := by rw [lastA_size] at h2; exact h2
    have e2 := lastA_at (upd M (s : Int) v) n i hi
    have e1 := lastA_at M n i hi
    rw [Array.getElem_setIfInBounds (by rw [lastA_size]; exact hi)]
    rw [Array.getElem?_eq_getElem h2] at e2
    rw [Array.getElem?_eq_getElem (by rw [lastA_size]; exact hi)] at e1
    have e2 := Option.some.inj e2
    have e1 := Option.some.inj e1
    rw [e2, e1]
    unfold upd
    by_cases h : s = i
    · subst h; simp
    · rw [if_neg h, if_neg (by omega)]
theorem comeA_new (n : Nat) : madeCells #[.bool false] n = comeA (fun _ => none) n := by
  apply Array.ext
  · simp [comeA_size, madeCells]
  · intro i h1 h2
    have hi : i < n := by rw [comeA_size] at h2; exact h2
    have e2 := comeA_at (fun _ => none) n i hi
    rw [Array.getElem?_eq_getElem h2] at e2
    rw [Option.some.inj e2]
    simp [madeCells, Nat.mod_one]
theorem lastA_new (n : Nat) : madeCells #[.int .i64 0] n = lastA (fun _ => none) n := by
  apply Array.ext
  · simp [lastA_size, madeCells]
  · intro i h1 h2
    have hi : i < n := by rw [lastA_size] at h2; exact h2
    have e2 := lastA_at (fun _ => none) n i hi
    rw [Array.getElem?_eq_getElem h2] at e2
    rw [Option.some.inj e2]
    simp [madeCells, Nat.mod_one]
theorem bool_info : (Tryd.prog.info? 4).map (fun i => (i.zero, i.size, i.bytes)) = some (some (.bool false), 1, 1) := by kernel_rfl

/-- A number's text. -/
def itS (v : Int) : ByteArray := ⟨(Lib.itoa v).toArray⟩
def rText : ByteArray := ByteArray.mk #[114]
def strM (M : Int → Option Int) : Int → Option ByteArray := fun k => (M k).map itS
def repM (M : Int → Option Int) : Int → Option (Int × ByteArray) := fun k => (M k).map fun v => (v, rText)
theorem map_upd {α β : Type} (f : α → β) (M : Int → Option α) (s : Int) (v : α) : (fun k => (upd M s v k).map f) = upd (fun k => (M k).map f) s (f v) := by
  funext k
  unfold upd
  by_cases h : k = s
  · rw [if_pos h, if_pos h]; rfl
  · rw [if_neg h, if_neg h]
theorem strM_upd (M : Int → Option Int) (s v : Int) : strM (upd M s v) = upd (strM M) s (itS v) := map_upd itS M s v
theorem repM_upd (M : Int → Option Int) (s v : Int) : repM (upd M s v) = upd (repM M) s (v, rText) := map_upd (fun v => (v, rText)) M s v
theorem cnt_map {α β : Type} (f : α → β) (M : Int → Option α) (n : Nat) : cntM (fun k => (M k).map f) n = cntM M n := by
  induction n with
  | zero => rfl
  | succ n ih =>
    rw [cntM_succ, cntM_succ, ih]
    cases M (n : Int) <;> rfl
theorem some_map {α β : Type} (f : α → β) (o : Option α) : (o.map f).isSome = o.isSome := by cases o <;> rfl
/-- Three phases of one story, what came last, and who came. -/
structure LK (w wr : World) (bc pa ma pb mb pd md lb cb n : Nat) (M : Int → Option Int) : Prop where
  box : wr.heap[bc]? = some (.cells #[.int .i64 (n : Int), .int .i64 1, .int .i64 0] 23 (0, 0))
  a : IsP 57 (Value.int .i64) RI wr pa ma (n : Int) (quo (n : Int) 1) M
  b : IsP 60 Value.string RS wr pb mb (n : Int) (quo (n : Int) 1) (strM M)
  d : IsP 63 rpv RR wr pd md (n : Int) (quo (n : Int) 1) (repM M)
  last : wr.heap[lb]? = some (.cells (lastA M n) 3 (0, 0))
  come : wr.heap[cb]? = some (.cells (comeA M n) 4 (0, 0))
  ne : ma ≠ mb ∧ ma ≠ md ∧ mb ≠ md
  new : w.heap.size ≤ bc ∧ w.heap.size ≤ ma ∧ w.heap.size ≤ mb ∧ w.heap.size ≤ md ∧ w.heap.size ≤ lb ∧ w.heap.size ≤ cb
  kept : Kept (fun _ => False) w wr
  fit : ∀ k v, M k = some v → KF v
theorem LK.k0 {w wr w' : World} {bc pa ma pb mb pd md lb cb n : Nat} {M : Int → Option Int} (h : LK w wr bc pa ma pb mb pd md lb cb n M) (K : Kept (fun _ => False) wr w') : LK w w' bc pa ma pb mb pd md lb cb n M :=
  ⟨K.get h.box (fun z => z), h.a.k0 K, h.b.k0 K, h.d.k0 K, K.get h.last (fun z => z), K.get h.come (fun z => z), h.ne, h.new, h.kept.and0 K, h.fit⟩
theorem IsP.map {ε : Type} {T : TypeId} {ev : ε → Value} {RD : Value → Option (DataW Value × List MemPlace)} {w : World} {pb mb : Nat} {N Q : Int} {M : Int → Option ε} (h : IsP T ev RD w pb mb N Q M) : ∃ es c, w.heap[mb]? = some (.map es c) := by
  obtain ⟨D, ⟨es, clock, hb, _⟩, _⟩ := h.tm
  exact ⟨es, clock, hb⟩
theorem cells_ne {w : World} {i j : Nat} {cs : Array Value} {t : TypeId} {es : Array MapEntry} {c : Nat} (h : w.heap[i]? = some (.cells cs t (0, 0))) (h2 : w.heap[j]? = some (.map es c)) : i ≠ j := fun e => by rw [e, h2] at h; cases h
theorem type_ne {w : World} {i j : Nat} {cs cs' : Array Value} {t t' : TypeId} (h : w.heap[i]? = some (.cells cs t (0, 0))) (h2 : w.heap[j]? = some (.cells cs' t' (0, 0))) (ht : t ≠ t') : i ≠ j := fun e => by rw [e, h2] at h; simp at h; exact ht h.2.symm
/-- The three Answers, then the two lists. -/
theorem LK.put {w wr w1 w2 w3 : World} {bc pa ma pb mb pd md lb cb n : Nat} {M : Int → Option Int} (h : LK w wr bc pa ma pb mb pd md lb cb n M) (s : Nat) (v : Int) (kv : KF v)
    (i1 : IsP 57 (Value.int .i64) RI w1 pa ma (n : Int) (quo (n : Int) 1) (upd M (s : Int) v)) (k1 : Kept (fun j => j = ma) wr w1)
    (i2 : IsP 60 Value.string RS w2 pb mb (n : Int) (quo (n : Int) 1) (upd (strM M) (s : Int) (itS v))) (k2 : Kept (fun j => j = mb) w1 w2)
    (i3 : IsP 63 rpv RR w3 pd md (n : Int) (quo (n : Int) 1) (upd (repM M) (s : Int) (v, rText))) (k3 : Kept (fun j => j = md) w2 w3) :
    LK w ((w3.setCell ⟨cb, s, none⟩ (.bool true)).setCell ⟨lb, s, none⟩ (.int .i64 v)) bc pa ma pb mb pd md lb cb n (upd M (s : Int) v) := by
  obtain ⟨e1, c1, m1⟩ := h.a.map
  obtain ⟨e2, c2, m2⟩ := h.b.map
  obtain ⟨e3, c3, m3⟩ := h.d.map
  obtain ⟨n1, n2, n3⟩ := h.ne
  have K : Kept (fun j => j = ma ∨ j = mb ∨ j = md) wr w3 := ((k1.mono (fun _ _ z => .inl z)).trans k2 (fun _ _ z => .inr (.inl z))).trans k3 (fun _ _ z => .inr (.inr z))
  have off : ∀ {i : Nat} {cs : Array Value} {t : TypeId}, wr.heap[i]? = some (.cells cs t (0, 0)) → w3.heap[i]? = some (.cells cs t (0, 0)) := fun hi => K.get hi (by rintro (z | z | z); exact cells_ne hi m1 z; exact cells_ne hi m2 z; exact cells_ne hi m3 z)
  have la := off h.last
  have co := off h.come
  have bo := off h.box
  have lc : cb ≠ lb := type_ne co la (by decide)
  have KS : Kept (fun j => j = cb ∨ j = lb) w3 ((w3.setCell ⟨cb, s, none⟩ (.bool true)).setCell ⟨lb, s, none⟩ (.int .i64 v)) := ((Kept.refl (fun j => j = cb ∨ j = lb) w3).setCell (p := ⟨cb, s, none⟩) (fun _ => .inl rfl) _).setCell (p := ⟨lb, s, none⟩) (fun _ => .inr rfl) _
  have i1' : IsP 57 (Value.int .i64) RI w3 pa ma (n : Int) (quo (n : Int) 1) (upd M (s : Int) v) := by
    have b2 := i1.kept k2 (fun z => cells_ne h.a.blk m2 z) n1
    exact b2.kept k3 (fun z => cells_ne h.a.blk m3 z) n2
  have i2' : IsP 60 Value.string RS w3 pb mb (n : Int) (quo (n : Int) 1) (upd (strM M) (s : Int) (itS v)) := i2.kept k3 (fun z => cells_ne h.b.blk m3 z) n3
  obtain ⟨f1, g1, q1⟩ := i1'.map
  obtain ⟨f2, g2, q2⟩ := i2'.map
  obtain ⟨f3, g3, q3⟩ := i3.map
  have r4 : ∀ {i : Nat} {cs : Array Value} {t : TypeId}, w3.heap[i]? = some (.cells cs t (0, 0)) → t ≠ 4 → t ≠ 3 → ¬ (i = cb ∨ i = lb) := fun hi h4 h3 z => by
    rcases z with z | z
    · exact type_ne hi co h4 z
    · exact type_ne hi la h3 z
  have rm : ∀ {i : Nat} {es : Array MapEntry} {c : Nat}, w3.heap[i]? = some (.map es c) → ¬ (i = cb ∨ i = lb) := fun hi z => by
    rcases z with z | z
    · exact cells_ne co hi z.symm
    · exact cells_ne la hi z.symm
  obtain ⟨w1', w2', w3', w4', w5', w6'⟩ := h.new
  refine ⟨KS.get bo (r4 bo (by decide) (by decide)), i1'.kept KS (r4 i1'.blk (by decide) (by decide)) (rm q1), ?_, ?_, ?_, ?_, h.ne, h.new, ?_, fun k u hk => ?_⟩
  · rw [strM_upd]; exact i2'.kept KS (r4 i2'.blk (by decide) (by decide)) (rm q2)
  · rw [repM_upd]; exact i3.kept KS (r4 i3.blk (by decide) (by decide)) (rm q3)
  · rw [heap_set (cs := lastA M n) (t := 3) (fr := (0, 0)) (by rw [Below.heap_setCell _ _ _ _ (by exact fun e => lc e.symm)]; exact la), lastA_set M n s v]
  · rw [Below.heap_setCell _ _ _ _ (by exact lc), heap_set co, comeA_set M n s v]
  · refine (h.kept.trans K (fun j hj z => ?_)).trans KS (fun j hj z => ?_)
    · rcases z with z | z | z <;> omega
    · rcases z with z | z <;> omega
  · unfold upd at hk
    by_cases e : k = (s : Int)
    · rw [if_pos e] at hk; cases hk; exact kv
    · rw [if_neg e] at hk; exact h.fit k u hk
/-- The variable of strconv. -/
def Vars (w : World) : Prop := Lib.TabIs Tryd.prog w "internal/strconv.uint64pow10" .u64 Lib.pow10Tab
theorem var_by {P : Program} {w w' : World} (B : Kept (fun _ => False) w w') {n : String} {cs : Array Value} (h : w.var? P n = some cs) : w'.var? P n = some cs := by
  unfold World.var? at h ⊢
  cases e : P.globalNamed n with
  | none => rw [e] at h; cases h
  | some g =>
    rw [e] at h
    simp only [Option.bind_some] at h ⊢
    cases q : w.heap[g]? with
    | none => rw [q] at h; cases h
    | some o =>
      have lt : g < w.heap.size := (Array.getElem?_eq_some_iff.1 q).1
      rw [B.block g lt (fun z => z)]
      exact h
theorem Vars.by {w w' : World} (h : Vars w) (B : Kept (fun _ => False) w w') : Vars w' := var_by B h
theorem kept_grow (w : World) (k : Nat) (os : Array Obj) : Kept (fun _ => False) w (grow (w.drewN k) os) := by
  refine ⟨rfl, rfl, rfl, ?_, fun i hi _ => ?_⟩
  · unfold grow; simp
  · unfold grow
    simp only
    rw [Array.getElem?_append_left (by simpa using hi)]
    rfl
theorem itoa (v : Int) (kf : KF v) (w : World) (V : Vars w) : Calls Tryd.prog 9 #[.int .i64 v] w fun o w' => o = .returned (.string (itS v)) ∧ Kept (fun _ => False) w w' := by
  refine (Tryd.strconv_Itoa v kf.1 (by have := kf.2; omega) w V).mono ?_
  rintro o w' ⟨rfl, k, os, rfl⟩
  exact ⟨rfl, kept_grow w k os⟩

theorem LK.n255 {w wr : World} {bc pa ma pb mb pd md lb cb n : Nat} {M : Int → Option Int} (h : LK w wr bc pa ma pb mb pd md lb cb n M) : n ≤ 255 := by have := h.a.ok; omega
theorem LK.len {w wr : World} {bc pa ma pb mb pd md lb cb n : Nat} {M : Int → Option Int} (h : LK w wr bc pa ma pb mb pd md lb cb n M) : Calls Tryd.prog 11 #[.pointer (some ⟨pa, 0, none⟩)] wr fun o w' => o = .returned (.int .i64 (cntM M n : Int)) ∧ Kept (fun _ => False) wr w' := by
  refine (lenI wr h.a).mono ?_
  rintro o w' ⟨rfl, rfl⟩
  exact ⟨by rw [show ((n : Int)).toNat = n by omega], Kept.refl _ _⟩
def metV (M : Int → Option Int) (n : Nat) : Bool := decide (quo (n : Int) 1 ≤ (cntM M n : Int))
theorem metV_eq (M : Int → Option Int) (n : Nat) : decide ((n : Int) + 1 ≤ 2 * (cntM M n : Int)) = metV M n := by
  unfold metV quo
  apply decide_eq_decide.2
  omega
theorem LK.met1 {w wr : World} {bc pa ma pb mb pd md lb cb n : Nat} {M : Int → Option Int} (h : LK w wr bc pa ma pb mb pd md lb cb n M) : Calls Tryd.prog 12 #[.pointer (some ⟨pa, 0, none⟩)] wr fun o w' => o = .returned (.bool (metV M n)) ∧ Kept (fun _ => False) wr w' := by
  refine (metI wr h.a).mono ?_
  rintro o w' ⟨rfl, k, rfl⟩
  exact ⟨by rw [show ((n : Int)).toNat = n by omega]; rfl, (Kept.refl _ _).drewN k⟩
theorem LK.met2 {w wr : World} {bc pa ma pb mb pd md lb cb n : Nat} {M : Int → Option Int} (h : LK w wr bc pa ma pb mb pd md lb cb n M) : Calls Tryd.prog 13 #[.pointer (some ⟨pb, 0, none⟩)] wr fun o w' => o = .returned (.bool (metV M n)) ∧ Kept (fun _ => False) wr w' := by
  refine (metS wr h.b).mono ?_
  rintro o w' ⟨rfl, k, rfl⟩
  exact ⟨by rw [show ((n : Int)).toNat = n by omega]; unfold strM; rw [cnt_map]; rfl, (Kept.refl _ _).drewN k⟩
theorem LK.met3 {w wr : World} {bc pa ma pb mb pd md lb cb n : Nat} {M : Int → Option Int} (h : LK w wr bc pa ma pb mb pd md lb cb n M) : Calls Tryd.prog 14 #[.pointer (some ⟨pd, 0, none⟩)] wr fun o w' => o = .returned (.bool (metV M n)) ∧ Kept (fun _ => False) wr w' := by
  refine (metR wr h.d).mono ?_
  rintro o w' ⟨rfl, k, rfl⟩
  exact ⟨by rw [show ((n : Int)).toNat = n by omega]; unfold repM; rw [cnt_map]; rfl, (Kept.refl _ _).drewN k⟩
theorem LK.mis {w wr : World} {bc pa ma pb mb pd md lb cb n : Nat} {M : Int → Option Int} (h : LK w wr bc pa ma pb mb pd md lb cb n M) : Calls Tryd.prog 15 #[.pointer (some ⟨pd, 0, none⟩)] wr fun o w' => ∃ q L c, o = .returned (.slice q L c) ∧ L ≤ c ∧ (L : Int) = (n : Int) - (cntM M n : Int) ∧ Kept (fun _ => False) wr w' := by
  refine (misR wr h.d).mono ?_
  rintro o w' ⟨q, L, c, rfl, R⟩
  refine ⟨q, L, c, rfl, R.out.1.room, ?_, R.out.2.2⟩
  have e := R.out.1.length
  rw [ints_length, show ((n : Int)).toNat = n by omega] at e
  have f := pick_false (repM M) n
  have g : cntM (repM M) n = cntM M n := cnt_map _ M n
  omega
theorem LK.cells {w wr : World} {bc pa ma pb mb pd md lb cb n : Nat} {M : Int → Option Int} (h : LK w wr bc pa ma pb mb pd md lb cb n M) : wr.cell? ⟨bc, 0, none⟩ = some (.int .i64 (n : Int)) ∧ wr.cell? ⟨bc, 1, none⟩ = some (.int .i64 1) ∧ wr.cell? ⟨bc, 2, none⟩ = some (.int .i64 0) := ⟨cell_blk h.box 0 rfl, cell_blk h.box 1 rfl, cell_blk h.box 2 rfl⟩
theorem LK.at {w wr : World} {bc pa ma pb mb pd md lb cb n : Nat} {M : Int → Option Int} (h : LK w wr bc pa ma pb mb pd md lb cb n M) (s : Nat) (hs : s < n) : wr.cell? ⟨cb, s, none⟩ = some (.bool (M (s : Int)).isSome) ∧ wr.cell? ⟨lb, s, none⟩ = some (.int .i64 ((M (s : Int)).getD 0)) ∧ wr.frozen? ⟨cb, s, none⟩ = false ∧ wr.frozen? ⟨lb, s, none⟩ = false ∧ cb ≠ lb :=
  ⟨cell_blk h.come s (comeA_at M n s hs), cell_blk h.last s (lastA_at M n s hs), soft_blk h.come s, soft_blk h.last s, type_ne h.come h.last (by decide)⟩
/-- Behind the three Answers. -/
structure L3 (w wr w3 : World) (bc pa ma pb mb pd md lb cb n : Nat) (M : Int → Option Int) (s : Nat) (v : Int) : Prop where
  up : LK w ((w3.setCell ⟨cb, s, none⟩ (.bool true)).setCell ⟨lb, s, none⟩ (.int .i64 v)) bc pa ma pb mb pd md lb cb n (upd M (s : Int) v)
  c : w3.cell? ⟨cb, s, none⟩ = some (.bool (M (s : Int)).isSome)
  l : w3.cell? ⟨lb, s, none⟩ = some (.int .i64 ((M (s : Int)).getD 0))
  fc : w3.frozen? ⟨cb, s, none⟩ = false
  fl : w3.frozen? ⟨lb, s, none⟩ = false
  b : w3.cell? ⟨bc, 0, none⟩ = some (.int .i64 (n : Int))
  b' : ((w3.setCell ⟨cb, s, none⟩ (.bool true)).setCell ⟨lb, s, none⟩ (.int .i64 v)).cell? ⟨bc, 0, none⟩ = some (.int .i64 (n : Int))
  ne : cb ≠ lb ∧ bc ≠ cb ∧ bc ≠ lb
theorem LK.three {w wr w1 w2 w3 : World} {bc pa ma pb mb pd md lb cb n : Nat} {M : Int → Option Int} (h : LK w wr bc pa ma pb mb pd md lb cb n M) (s : Nat) (v : Int) (hs : s < n) (kv : KF v)
    (i1 : IsP 57 (Value.int .i64) RI w1 pa ma (n : Int) (quo (n : Int) 1) (upd M (s : Int) v)) (k1 : Kept (fun j => j = ma) wr w1)
    (i2 : IsP 60 Value.string RS w2 pb mb (n : Int) (quo (n : Int) 1) (upd (strM M) (s : Int) (itS v))) (k2 : Kept (fun j => j = mb) w1 w2)
    (i3 : IsP 63 rpv RR w3 pd md (n : Int) (quo (n : Int) 1) (upd (repM M) (s : Int) (v, rText))) (k3 : Kept (fun j => j = md) w2 w3) :
    L3 w wr w3 bc pa ma pb mb pd md lb cb n M s v := by
  obtain ⟨e1, c1, m1⟩ := h.a.map
  obtain ⟨e2, c2, m2⟩ := h.b.map
  obtain ⟨e3, c3, m3⟩ := h.d.map
  have K : Kept (fun j => j = ma ∨ j = mb ∨ j = md) wr w3 := ((k1.mono (fun _ _ z => .inl z)).trans k2 (fun _ _ z => .inr (.inl z))).trans k3 (fun _ _ z => .inr (.inr z))
  have off : ∀ {i : Nat} {cs : Array Value} {t : TypeId}, wr.heap[i]? = some (.cells cs t (0, 0)) → w3.heap[i]? = some (.cells cs t (0, 0)) := fun hi => K.get hi (by rintro (z | z | z); exact cells_ne hi m1 z; exact cells_ne hi m2 z; exact cells_ne hi m3 z)
  have la := off h.last
  have co := off h.come
  have bo := off h.box
  have up := h.put s v kv i1 k1 i2 k2 i3 k3
  exact ⟨up, cell_blk co s (comeA_at M n s hs), cell_blk la s (lastA_at M n s hs), soft_blk co s, soft_blk la s, cell_blk bo 0 rfl, up.cells.1, type_ne co la (by decide), type_ne bo co (by decide), type_ne bo la (by decide)⟩
end Go.Proofs.YteokeifkkhchmaaDoor
