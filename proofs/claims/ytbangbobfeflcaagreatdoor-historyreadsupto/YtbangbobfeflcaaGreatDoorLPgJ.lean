import Derived.Test.YtbangbobfeflcaaGreatDoorLGaJ
import Derived.Test.YtbangbobfeflcaaGreatDoorLCtJ
import Derived.Test.YtbangbobfeflcaaGreatDoorLGz
import Derived.Test.YtbangbobfeflcaaGreatDoorHTkJ
namespace Go.Proofs.YtbangbobfeflcaaGreatDoor
open Go.RowKit 

/-- A byte that is told as itself. -/
def plU (c : UInt8) : Prop := 32 ≤ c.toNat ∧ c.toNat ≤ 126
theorem hxd_pl (n : Nat) (h : n < 16) : 32 ≤ hxd n ∧ hxd n ≤ 126 := by unfold hxd; split <;> omega
theorem escN_pl {c : Nat} (h : c < 256) : ∀ x ∈ escN c, 32 ≤ x ∧ x ≤ 126 := fun x hx => by
  unfold escN at hx
  split at hx
  · next hp =>
    have e : x = c := by simpa using hx
    unfold plainB at hp
    simp at hp
    omega
  · simp at hx
    rcases hx with rfl | rfl | rfl | rfl
    · decide
    · decide
    · exact hxd_pl _ (by omega)
    · exact hxd_pl _ (by omega)
theorem escL_pl : ∀ {l : List Nat}, (∀ c ∈ l, c < 256) → ∀ x ∈ escL l, 32 ≤ x ∧ x ≤ 126 := fun {l} h x hx => by
  unfold escL at hx
  obtain ⟨c, hc, hx⟩ := List.mem_flatMap.1 hx
  exact escN_pl (h c hc) x hx
theorem quo_pl (s : ByteArray) : ∀ c ∈ (quoB s).data.toList, plU c := fun c hc => by
  rw [quoB_list] at hc
  rcases List.mem_cons.1 hc with rfl | hc
  · exact ⟨by decide, by decide⟩
  · rcases List.mem_append.1 hc with hc | hc
    · unfold eU at hc
      obtain ⟨x, hx, rfl⟩ := List.mem_map.1 hc
      have q := escL_pl (bl_lt s) x hx
      unfold plU
      have e : (UInt8.ofNat x).toNat = x := by rw [UInt8.toNat_ofNat']; omega
      rw [e]
      exact q
    · have : c = 34 := by simpa using hc
      subst this
      exact ⟨by decide, by decide⟩
theorem it_pl (v : Int) : ∀ c ∈ (itB v).data.toList, plU c := fun c hc => by
  rw [itB_list] at hc
  refine Classical.byContradiction fun h => ?_
  refine itoa_no v c ?_ hc
  unfold plU at h
  omega
theorem tag_pl (a b : Int) : ∀ c ∈ (tagB a b).data.toList, plU c := fun c hc => by
  rw [tagB_list] at hc
  rcases List.mem_append.1 hc with hc | hc
  · exact it_pl a c (by rw [itB_list]; exact hc)
  · rcases List.mem_cons.1 hc with rfl | hc
    · exact ⟨by decide, by decide⟩
    · exact it_pl b c (by rw [itB_list]; exact hc)
theorem all_pl {l : List UInt8} (h : l.all (fun c => decide (32 ≤ c.toNat) && decide (c.toNat ≤ 126)) = true) : ∀ c ∈ l, plU c := fun c hc => by
  have q := List.all_eq_true.1 h c hc
  unfold plU
  simpa using q
theorem kw_pl (k : Nat) : ∀ c ∈ (kwB k).data.toList, plU c := by
  unfold kwB
  split
  · exact all_pl (by decide)
  · split
    · exact all_pl (by decide)
    · exact all_pl (by decide)
theorem end_pl (st : Int) : ∀ c ∈ (endB st).data.toList, plU c := by
  unfold endB
  split
  · exact all_pl (by decide)
  · split
    · exact all_pl (by decide)
    · split
      · exact all_pl (by decide)
      · exact all_pl (by decide)
theorem join_pl : ∀ (ws : List ByteArray), (∀ a ∈ ws, ∀ c ∈ a.data.toList, plU c) → ∀ c ∈ (joinB ws).data.toList, plU c
  | [], _, c, hc => by
    have e : (joinB []).data.toList = [] := rfl
    rw [e] at hc
    cases hc
  | [a], h, c, hc => by
    rw [joinB_one] at hc
    exact h a List.mem_cons_self c hc
  | a :: b :: r, h, c, hc => by
    rw [joinB_list] at hc
    rcases List.mem_append.1 hc with hc | hc
    · exact h a List.mem_cons_self c hc
    · rcases List.mem_cons.1 hc with rfl | hc
      · exact ⟨by decide, by decide⟩
      · exact join_pl (b :: r) (fun x hx => h x (List.mem_cons_of_mem _ hx)) c hc
theorem line_pl (e : Ev) : ∀ c ∈ (lineB e).data.toList, plU c := by
  unfold lineB
  refine join_pl _ fun a ha => ?_
  have Q : a = kwB e.kind.toNat ∨ a = itB e.client ∨ a = itB e.op ∨ a = ⟨#[112, 117, 116]⟩ ∨ a = ⟨#[103, 101, 116]⟩ ∨ a = quoB e.key ∨ a = endB e.st ∨ a = itB e.st ∨ a = tagB e.tx e.ty ∨ a = quoB (str e.val) := by
    unfold lineW at ha
    simp only [List.mem_append, List.mem_cons, List.not_mem_nil, or_false] at ha
    rcases ha with ((h | h | h | h | h) | h) | h
    · exact .inl h
    · exact .inr (.inl h)
    · exact .inr (.inr (.inl h))
    · split at h
      · exact .inr (.inr (.inr (.inl h)))
      · exact .inr (.inr (.inr (.inr (.inl h))))
    · exact .inr (.inr (.inr (.inr (.inr (.inl h)))))
    · split at h
      · exact .inr (.inr (.inr (.inr (.inr (.inr (.inl (by simpa using h)))))))
      · cases h
    · split at h
      · simp at h
        rcases h with h | h
        · exact .inr (.inr (.inr (.inr (.inr (.inr (.inr (.inl h)))))))
        · exact .inr (.inr (.inr (.inr (.inr (.inr (.inr (.inr (.inl h))))))))
      · split at h
        · simp at h
          exact .inr (.inr (.inr (.inr (.inr (.inr (.inr (.inr (.inl h))))))))
        · split at h
          · simp at h
            rcases h with h | h
            · exact .inr (.inr (.inr (.inr (.inr (.inr (.inr (.inr (.inl h))))))))
            · exact .inr (.inr (.inr (.inr (.inr (.inr (.inr (.inr (.inr h))))))))
          · split at h
            · simp at h
              exact .inr (.inr (.inr (.inr (.inr (.inr (.inr (.inr (.inr h))))))))
            · cases h
  rcases Q with rfl | rfl | rfl | rfl | rfl | rfl | rfl | rfl | rfl | rfl
  · exact kw_pl _
  · exact it_pl _
  · exact it_pl _
  · exact all_pl (by decide)
  · exact all_pl (by decide)
  · exact quo_pl _
  · exact end_pl _
  · exact it_pl _
  · exact tag_pl _ _
  · exact quo_pl _
theorem line_no (e : Ev) : (10 : UInt8) ∉ (lineB e).data.toList := fun h => by
  have q := (line_pl e 10 h).1
  exact absurd q (by decide)
/-- An event that may be. -/
def GoodE (e : Ev) : Prop := faultE e = 0 ∧ ∃ w0, Reads w0 e.va e.vn e.vc e.val
def LineOf (t : List UInt8) : Prop := ∃ e, GoodE e ∧ (lineB e).data.toList = t
/-- What no line stands ahead of. -/
def BadR (r : List UInt8) : Prop := (10 : UInt8) ∉ r ∨ ∃ t q, r = t ++ 10 :: q ∧ (10 : UInt8) ∉ t ∧ ¬ LineOf t
theorem txtF_cons (e : Ev) (es : List Ev) : txtF (e :: es) = (lineB e).data.toList ++ 10 :: txtF es := by
  unfold txtF
  rw [List.flatMap_cons, List.append_assoc]
  rfl
theorem txtF_append (a b : List Ev) : txtF (a ++ b) = txtF a ++ txtF b := by unfold txtF; rw [List.flatMap_append]
theorem decomp : ∀ (n : Nat) (s : List UInt8), s.length ≤ n → ∃ es r, (∀ e ∈ es, GoodE e) ∧ s = txtF es ++ r ∧ (r = [] ∨ (r ≠ [] ∧ BadR r))
  | 0, s, h => by
    have e : s = [] := List.length_eq_zero_iff.1 (by omega)
    subst e
    exact ⟨[], [], (fun e h => by cases h), rfl, .inl rfl⟩
  | n + 1, s, h => by
    by_cases h0 : s = []
    · subst h0
      exact ⟨[], [], (fun e h => by cases h), rfl, .inl rfl⟩
    · by_cases h1 : (10 : UInt8) ∈ s
      · obtain ⟨t, q, e, hn⟩ := List.eq_append_cons_of_mem h1
        by_cases h2 : LineOf t
        · obtain ⟨x, gx, ex⟩ := h2
          have hl : q.length ≤ n := by
            rw [e, List.length_append, List.length_cons] at h
            omega
          obtain ⟨es, r, he, hs, hr⟩ := decomp n q hl
          refine ⟨x :: es, r, fun y hy => ?_, ?_, hr⟩
          · rcases List.mem_cons.1 hy with rfl | hy
            · exact gx
            · exact he y hy
          · rw [txtF_cons, ex, e, hs, List.append_assoc]
            rfl
        · exact ⟨[], s, (fun e h => by cases h), rfl, .inr ⟨h0, .inr ⟨t, q, e, hn, h2⟩⟩⟩
      · exact ⟨[], s, (fun e h => by cases h), rfl, .inr ⟨h0, .inl h1⟩⟩
/-- An event but for where its value lies. -/
def Ev.core (e : Ev) : Ev := ⟨e.kind, e.client, e.op, e.put, e.key, none, e.vn, 0, e.st, e.tx, e.ty, e.val⟩
theorem core_at {L es : List Ev} (h : L.map Ev.core = es.map Ev.core) {i : Nat} {x e : Ev} (hx : L[i]? = some x) (he : es[i]? = some e) : x.core = e.core := by
  have q := congrArg (fun l => l[i]?) h
  simp only [List.getElem?_map, hx, he] at q
  exact Option.some.inj q
end Go.Proofs.YtbangbobfeflcaaGreatDoor

namespace Go.Proofs.YtbangbobfeflcaaGreatDoor
open Go.RowKit 

theorem cutT {a b : List UInt8} (h : (10 : UInt8) ∉ a) (hs : (a ++ 10 :: b).length < 4294967281) : CutAt ⟨(a ++ 10 :: b).toArray⟩ ⟨#[10]⟩ ⟨a.toArray⟩ ⟨b.toArray⟩ true := by
  refine ⟨by simpa [ByteArray.size] using hs, ?_⟩
  have q := cut_hit a b 10 h
  simpa using q
theorem empty_T {l : List UInt8} (h : l ≠ []) : (⟨l.toArray⟩ : ByteArray).toList.isEmpty = false := by
  rw [Go.ByteArray.toList_eq]
  cases l with
  | nil => exact absurd rfl h
  | cons a l => rfl
/-- How a bad rest is cut. -/
theorem bad_cut {r : List UInt8} (h : BadR r) (hs : r.length ≤ 1000000000) : ∃ (a b : ByteArray) (f : Bool), CutAt ⟨r.toArray⟩ ⟨#[10]⟩ a b f ∧ a.size ≤ 1000000000 ∧ (f = false ∨ (f = true ∧ ¬ LineOf a.data.toList)) := by
  rcases h with h | ⟨t, q, rfl, hn, hl⟩
  · refine ⟨_, _, _, cutAtG ⟨r.toArray⟩ 10 (by simp [ByteArray.size]; omega), Nat.le_trans (preB_size _ _) (by simp [ByteArray.size]; omega), .inl ?_⟩
    have q := cut_miss r 10 h
    have e : (⟨r.toArray⟩ : ByteArray).data.toList = r := by simp
    rw [e, q]
  · have e : (t ++ 10 :: q).length = t.length + (q.length + 1) := by rw [List.length_append, List.length_cons]
    exact ⟨_, _, _, cutT hn (by omega), by simp [ByteArray.size]; omega, .inr ⟨rfl, by simpa using hl⟩⟩
theorem str_T (s : ByteArray) : (⟨s.data.toList.toArray⟩ : ByteArray) = s := by simp
theorem own_len5 {w : World} {b n : Nat} {p : Option Addr} {c : Nat} {l : List Nat} (h : w.ownsRow b 5 1 (.slice p n c) n (cellsOf l)) : l.length = n := by
  have q := h.1
  rw [cellsOf_length] at q
  omega
/-- What Parse gives. -/
def PaQ (w : World) (es : List Ev) (r : List UInt8) (o : Ending) (w' : World) : Prop := (r = [] ∧ ∃ p c L, o = .returned (.tuple #[.slice p es.length c, .int .i64 0, .int .i64 0]) ∧ PS w w' p es.length c L ∧ L.map Ev.core = es.map Ev.core) ∨ (r ≠ [] ∧ o = .returned (.tuple #[.slice none 0 0, .int .i64 ((es.length + 1 : Nat) : Int), .int .i64 80]) ∧ Kept (fun _ => False) w w')
def tex (es : List Ev) (r : List UInt8) (j : Nat) : ByteArray := ⟨(txtF (es.drop j) ++ r).toArray⟩
/-- Where Parse is, behind j lines. -/
def PJ (w wr : World) (es : List Ev) (p : Option Addr) (j c : Nat) : Prop := ∃ L, PS w wr p j c L ∧ L.map Ev.core = (es.take j).map Ev.core
theorem core_snoc {es L : List Ev} {j : Nat} {x e : Ev} (h : L.map Ev.core = (es.take j).map Ev.core) (he : es[j]? = some e) (hx : x.core = e.core) : (L ++ [x]).map Ev.core = (es.take (j + 1)).map Ev.core := by
  have et : es.take (j + 1) = es.take j ++ [e] := by rw [List.take_add_one, he]; rfl
  rw [et, List.map_append, List.map_append, h]
  simp [hx]
theorem tex_at {es : List Ev} {r : List UInt8} {j : Nat} {e : Ev} (he : es[j]? = some e) : tex es r j = ⟨((lineB e).data.toList ++ 10 :: (txtF (es.drop (j + 1)) ++ r)).toArray⟩ := by
  have hl := (List.getElem?_eq_some_iff.1 he).1
  have e2 : es.drop j = e :: es.drop (j + 1) := by
    rw [List.drop_eq_getElem_cons hl]
    congr 1
    exact (List.getElem?_eq_some_iff.1 he).2
  unfold tex
  rw [e2, txtF_cons, List.append_assoc]
  rfl
theorem tex_len (es : List Ev) (r : List UInt8) (j : Nat) : (txtF (es.drop j) ++ r).length ≤ (txtF es ++ r).length := by
  conv => rhs; rw [← List.take_append_drop j es]
  rw [txtF_append, List.length_append, List.length_append, List.length_append]
  omega
theorem es_len : ∀ es : List Ev, es.length ≤ (txtF es).length
  | [] => Nat.le_refl _
  | e :: es => by
    have q := es_len es
    rw [txtF_cons, List.length_append, List.length_cons, List.length_cons]
    omega
end Go.Proofs.YtbangbobfeflcaaGreatDoor
