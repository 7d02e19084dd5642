import Derived.Test.YtginpoofeliimaaEPre
namespace Go.Proofs.Ytginpoofeliimaa
open Go.RowKit 

/-- An operation that took effect. -/
structure Tn where
  put : Bool
  val : Int
  early : Int
  late : Int
  never : Bool
  absent : Bool
def Tn.cs (t : Tn) : Array Value := #[.bool t.put, .int .i64 t.val, .int .i64 t.early, .int .i64 t.late, .bool t.never, .bool t.absent]
def tat (i : Nat) : Int := 100 * (i : Int) + 1000
def Tn.frm (t : Tn) (i : Nat) : Int := tat i - t.early % 500
def Tn.to (t : Tn) (i : Nat) : Int := if 0 < t.late % 4 then tat i + 1 + t.late % 500 else -1
def val3 (d : Int) : ByteArray := if d % 3 = 0 then ⟨#[97]⟩ else if d % 3 = 1 then ⟨#[98]⟩ else ⟨#[99]⟩
def neverS : ByteArray := ⟨#[110, 101, 118, 101, 114]⟩
def Tn.call (t : Tn) (i : Nat) (v : ByteArray) : Cl :=
  if t.put = true then (if t.never = true then ⟨true, true, t.frm i, -1, 0, sb neverS⟩ else ⟨true, decide (t.to i < 0), t.frm i, t.to i, 0, sb (val3 t.val)⟩)
  else ⟨false, false, t.frm i, t.to i, if v.toList.isEmpty = true then 76 else 0, sb v⟩
def Tn.next (t : Tn) (v : ByteArray) : ByteArray := if t.put = true then (if t.never = true then v else val3 t.val) else v
def Tn.eff (t : Tn) : Bool := if t.put = true then !t.never else decide (0 < t.late % 4)
def valAt (ts : List Tn) : Nat → ByteArray
  | 0 => ⟨#[]⟩
  | m + 1 => match ts[m]? with
    | some t => t.next (valAt ts m)
    | none => valAt ts m
def livedC (ts : List Tn) : Nat → List Cl
  | 0 => []
  | m + 1 => match ts[m]? with
    | some t => livedC ts m ++ [t.call m (valAt ts m)]
    | none => livedC ts m
def tookO (ts : List Tn) : Nat → List Nat
  | 0 => []
  | m + 1 => match ts[m]? with
    | some t => if t.eff = true then tookO ts m ++ [m] else tookO ts m
    | none => tookO ts m
theorem lived_len {ts : List Tn} : ∀ m, m ≤ ts.length → (livedC ts m).length = m
  | 0, _ => rfl
  | m + 1, h => by
    unfold livedC
    rw [List.getElem?_eq_getElem (show m < ts.length by omega)]
    show (livedC ts m ++ _).length = _
    rw [List.length_append, lived_len m (by omega)]
    rfl
theorem lived_get {ts : List Tn} {t : Tn} {i : Nat} (ht : ts[i]? = some t) : ∀ m, m ≤ ts.length → i < m → (livedC ts m)[i]? = some (t.call i (valAt ts i))
  | 0, _, h => by omega
  | m + 1, h, hi => by
    unfold livedC
    rw [List.getElem?_eq_getElem (show m < ts.length by omega)]
    show (livedC ts m ++ _)[i]? = _
    by_cases e : i < m
    · rw [List.getElem?_append_left (by rw [lived_len m (by omega)]; exact e)]
      exact lived_get ht m (by omega) e
    · have e : i = m := by omega
      subst e
      rw [List.getElem?_append_right (by rw [lived_len i (by omega)]; omega), lived_len i (by omega), Nat.sub_self]
      have := ht
      rw [List.getElem?_eq_getElem (show i < ts.length by omega)] at this
      rw [Option.some.inj this]
      rfl
theorem took_lt {ts : List Tn} : ∀ m, ∀ i ∈ tookO ts m, i < m
  | 0, i, h => by simp [tookO] at h
  | m + 1, i, h => by
    unfold tookO at h
    split at h
    · split at h
      · rcases List.mem_append.1 h with z | z
        · have := took_lt m i z; omega
        · have := List.mem_singleton.1 z; omega
      · have := took_lt m i h; omega
    · have := took_lt m i h; omega
theorem took_mem {ts : List Tn} {t : Tn} {i : Nat} (ht : ts[i]? = some t) (he : t.eff = true) : ∀ m, i < m → i ∈ tookO ts m
  | 0, h => by omega
  | m + 1, h => by
    unfold tookO
    by_cases e : i = m
    · subst e
      rw [ht]
      show i ∈ (if t.eff = true then tookO ts i ++ [i] else tookO ts i)
      rw [if_pos he]
      simp
    · have ih := took_mem ht he m (by omega)
      split
      · split
        · exact List.mem_append_left _ ih
        · exact ih
      · exact ih
theorem val_size {ts : List Tn} : ∀ m, (valAt ts m).size ≤ 64
  | 0 => show (ByteArray.mk #[]).size ≤ 64 by decide
  | m + 1 => by
    unfold valAt
    split
    · rename_i t _
      unfold Tn.next val3
      split
      · split
        · exact val_size m
        · split
          · decide
          · split <;> decide
      · exact val_size m
    · exact val_size m
def optV (v : ByteArray) : Option (List Nat) := if v.toList.isEmpty = true then none else some (sb v)
structure Pre (cs : List Cl) (p : List Nat) (V : Option (List Nat)) : Prop where
  may : ∀ n i, p[n]? = some i → ∃ c, XMay cs (p.take n) (valV cs (p.take n) none) i c
  val : valV cs p none = V
theorem valV_add {cs : List Cl} {i : Nat} {c : Cl} (hc : cs[i]? = some c) : ∀ (o : List Nat) (V : Option (List Nat)), valV cs (o ++ [i]) V = c.next (valV cs o V)
  | [], V => by
    show valV cs [] (match cs[i]? with | some c => c.next V | none => V) = c.next V
    rw [hc]
    rfl
  | j :: o, V => by
    rw [List.cons_append]
    unfold valV
    exact valV_add hc o _
theorem Pre.add {cs : List Cl} {p : List Nat} {V : Option (List Nat)} (h : Pre cs p V) {i : Nat} {c : Cl} (m : XMay cs p V i c) : Pre cs (p ++ [i]) (c.next V) := by
  refine ⟨fun n j hj => ?_, by rw [valV_add m.1, h.val]⟩
  by_cases hn : n < p.length
  · rw [List.getElem?_append_left hn] at hj
    rw [List.take_append_of_le_length (by omega)]
    exact h.may n j hj
  · have hl := (List.getElem?_eq_some_iff.1 hj).1
    rw [List.length_append] at hl
    have hl : n < p.length + 1 := hl
    have e : n = p.length := by omega
    subst e
    rw [List.getElem?_append_right (Nat.le_refl _), Nat.sub_self] at hj
    have e2 : i = j := by simpa using hj
    subst e2
    refine ⟨c, ?_⟩
    rw [List.take_append_of_le_length (Nat.le_refl _), List.take_length, h.val]
    exact m
theorem call_put {t : Tn} {i : Nat} {v : ByteArray} : (t.call i v).put = t.put := by
  unfold Tn.call
  split
  · rename_i h
    rw [h]
    split <;> rfl
  · rename_i h
    have : t.put = false := by simpa using h
    rw [this]
theorem call_frm {t : Tn} {i : Nat} {v : ByteArray} : (t.call i v).frm = t.frm i := by
  unfold Tn.call
  split
  · split <;> rfl
  · rfl
theorem call_to {t : Tn} {i : Nat} {v : ByteArray} : (t.call i v).to = -1 ∨ (t.call i v).to = t.to i := by
  unfold Tn.call
  split
  · split
    · exact .inl rfl
    · exact .inr rfl
  · exact .inr rfl
theorem to_gt {t : Tn} {i : Nat} : t.to i = -1 ∨ tat i < t.to i := by
  unfold Tn.to
  split
  · right; omega
  · left; rfl
theorem frm_le {t : Tn} {i : Nat} : t.frm i ≤ tat i ∧ 500 < t.frm i := by
  unfold Tn.frm tat
  omega
theorem call_bad {t : Tn} {i : Nat} {v : ByteArray} : (t.call i v).bad = false := by
  have h1 := frm_le (t := t) (i := i)
  have h2 := to_gt (t := t) (i := i)
  have h3 := call_to (t := t) (i := i) (v := v)
  unfold Cl.bad
  rw [call_frm]
  have e1 : decide (t.frm i < 0) = false := decide_eq_false (by omega)
  rw [e1, Bool.false_or]
  by_cases e : (t.call i v).to = -1
  · simp [e]
  · have : decide ((t.call i v).to ≤ t.frm i) = false := decide_eq_false (by omega)
    rw [this, Bool.and_false]
theorem must_eff {t : Tn} {i : Nat} {v : ByteArray} (h : (t.call i v).must = true) : t.eff = true := by
  unfold Tn.call at h
  unfold Tn.eff
  by_cases hp : t.put = true
  · rw [if_pos hp] at h ⊢
    by_cases hn : t.never = true
    · rw [if_pos hn] at h
      simp [Cl.must, Cl.open_, Cl.part] at h
    · have : t.never = false := by simpa using hn
      rw [this]
      rfl
  · rw [if_neg hp] at h ⊢
    unfold Cl.must Cl.part Tn.to at h
    by_cases hl : 0 < t.late % 4
    · exact decide_eq_true hl
    · rw [if_neg hl] at h
      simp at h
theorem eff_part {t : Tn} {i : Nat} {v : ByteArray} (h : t.eff = true) : (t.call i v).part = true := by
  unfold Tn.eff at h
  unfold Tn.call
  by_cases hp : t.put = true
  · rw [if_pos hp]
    split <;> rfl
  · rw [if_neg hp] at h ⊢
    have hl : 0 < t.late % 4 := by simpa using h
    unfold Cl.part Tn.to
    rw [if_pos hl]
    have : (0 : Int) ≤ tat i + 1 + t.late % 500 := by unfold tat; omega
    show (false || (decide ((0 : Int) ≤ tat i + 1 + t.late % 500) && _)) = true
    rw [decide_eq_true this]
    by_cases e : v.toList.isEmpty = true
    · rw [if_pos e]; rfl
    · rw [if_neg e]; rfl
theorem call_told {t : Tn} {i : Nat} {v : ByteArray} (h : t.put = false) : (t.call i v).told = optV v := by
  have e : t.call i v = ⟨false, false, t.frm i, t.to i, if v.toList.isEmpty = true then 76 else 0, sb v⟩ := by
    unfold Tn.call
    rw [if_neg (show ¬ t.put = true by rw [h]; simp)]
  rw [e]
  show (if (if v.toList.isEmpty = true then (76 : Int) else 0) = 76 then none else some (sb v)) = optV v
  unfold optV
  by_cases e : v.toList.isEmpty = true
  · rw [if_pos e, if_pos e]; rfl
  · rw [if_neg e, if_neg e]; rfl
theorem val3_opt (d : Int) : optV (val3 d) = some (sb (val3 d)) := by
  unfold val3 optV
  split
  · rw [if_neg (by rw [show (ByteArray.mk #[97]).toList.isEmpty = false by kernel_rfl]; simp)]
  · split
    · rw [if_neg (by rw [show (ByteArray.mk #[98]).toList.isEmpty = false by kernel_rfl]; simp)]
    · rw [if_neg (by rw [show (ByteArray.mk #[99]).toList.isEmpty = false by kernel_rfl]; simp)]
theorem call_next {t : Tn} {i : Nat} {v : ByteArray} (he : t.eff = true) : (t.call i v).next (optV v) = optV (t.next v) := by
  unfold Cl.next
  rw [call_put]
  unfold Tn.eff at he
  unfold Tn.next Tn.call
  by_cases hp : t.put = true
  · rw [if_pos hp] at he
    have hn : t.never = false := by simpa using he
    rw [if_pos hp, if_pos hp, if_pos hp, if_neg (by rw [hn]; simp), if_neg (by rw [hn]; simp), val3_opt]
  · rw [if_neg hp, if_neg hp]
theorem not_eff_next {t : Tn} {v : ByteArray} (he : t.eff = false) : t.next v = v := by
  unfold Tn.eff at he
  unfold Tn.next
  by_cases hp : t.put = true
  · rw [if_pos hp] at he ⊢
    have hn : t.never = true := by simpa using he
    rw [if_pos hn]
  · rw [if_neg hp]
theorem right_pre {ts : List Tn} {M : Nat} (hM : M ≤ ts.length) : ∀ m, m ≤ M → Pre (livedC ts M) (tookO ts m) (optV (valAt ts m))
  | 0, _ => ⟨fun n i h => by simp [tookO] at h, by
    show (none : Option (List Nat)) = optV ⟨#[]⟩
    unfold optV
    rw [if_pos em0]⟩
  | m + 1, hm => by
    have ih := right_pre hM m (by omega)
    have ht : ts[m]? = some ts[m] := List.getElem?_eq_getElem (by omega)
    unfold tookO valAt
    rw [ht]
    show Pre _ (if ts[m].eff = true then tookO ts m ++ [m] else tookO ts m) (optV (ts[m].next (valAt ts m)))
    by_cases he : ts[m].eff = true
    · rw [if_pos he, ← call_next (i := m) he]
      refine ih.add ⟨lived_get ht M hM (by omega), eff_part he, fun z => absurd (took_lt m m z) (by omega), ?_, fun j a ha hap hah => ?_⟩
      · rw [call_put]
        cases q : ts[m].put
        · exact .inr (call_told q)
        · exact .inl rfl
      · have hjl := (List.getElem?_eq_some_iff.1 ha).1
        rw [lived_len M hM] at hjl
        have htj : ts[j]? = some ts[j] := List.getElem?_eq_getElem (by omega)
        have ea := lived_get htj M hM hjl
        rw [ha] at ea
        have ea := Option.some.inj ea
        subst ea
        unfold Cl.ahead at hah
        simp only [Bool.and_eq_true, decide_eq_true_eq] at hah
        obtain ⟨⟨h1, h2⟩, h3⟩ := hah
        rw [call_frm] at h3
        have g1 := frm_le (t := ts[m]) (i := m)
        have g2 := to_gt (t := ts[j]) (i := j)
        have g3 := call_to (t := ts[j]) (i := j) (v := valAt ts j)
        have jm : j < m := by
          have : tat j < tat m := by omega
          unfold tat at this
          omega
        exact took_mem htj (must_eff h1) m jm
    · have he : ts[m].eff = false := by simpa using he
      rw [if_neg (by rw [he]; simp), not_eff_next he]
      exact ih
theorem right_run {ts : List Tn} {M : Nat} (hM : M ≤ ts.length) : XRun (livedC ts M) (tookO ts M) [] none := by
  have p := right_pre hM M (Nat.le_refl _)
  refine xrun_iff.2 ⟨fun n i h => ?_, fun i c hc hm => ?_⟩
  · obtain ⟨c, m⟩ := p.may n i h
    exact ⟨c, by rw [List.nil_append]; exact m⟩
  · have hl := (List.getElem?_eq_some_iff.1 hc).1
    rw [lived_len M hM] at hl
    have ht : ts[i]? = some ts[i] := List.getElem?_eq_getElem (by omega)
    have e := lived_get ht M hM hl
    rw [hc] at e
    have e := Option.some.inj e
    subst e
    rw [List.nil_append]
    exact took_mem ht (must_eff hm) M hl
theorem right_bad {ts : List Tn} {M : Nat} (hM : M ≤ ts.length) : ∀ c ∈ livedC ts M, c.bad = false := by
  intro c hc
  obtain ⟨i, hi, e⟩ := List.getElem_of_mem hc
  have hi2 := hi
  rw [lived_len M hM] at hi2
  have ht : ts[i]? = some ts[i] := List.getElem?_eq_getElem (by omega)
  have := lived_get ht M hM hi2
  rw [List.getElem?_eq_getElem hi, e] at this
  rw [Option.some.inj this]
  exact call_bad
/-- What One answers of them. -/
theorem right_one {ts : List Tn} {M : Nat} (hM : M ≤ ts.length) (h24 : M ≤ 24) {o : List Nat} {ok : Bool} {e : Int} (h : OneS (livedC ts M) o ok e) : ok = true ∧ e = 0 ∧ EH (livedC ts M) o true := by
  have fl : ((livedC ts M).filter Cl.part).length ≤ 24 := by
    have := List.length_filter_le Cl.part (livedC ts M)
    rw [lived_len M hM] at this
    omega
  obtain ⟨h1, h2, h3⟩ := h.good (right_bad hM) fl
  cases ok
  · exact absurd (right_run hM) ((h3 rfl).2 _)
  · have r := (h2 rfl).1
    refine ⟨rfl, h1, ⟨fun _ => (explain_iff (right_bad hM)).1 r, fun _ => rfl⟩, fun i hi => ?_⟩
    obtain ⟨n, hn, en⟩ := List.getElem_of_mem hi
    obtain ⟨c, m⟩ := (xrun_iff.1 r).1 n i (by rw [List.getElem?_eq_getElem hn, en])
    exact (List.getElem?_eq_some_iff.1 m.1).1
end Go.Proofs.Ytginpoofeliimaa
