import Derived.Test.YtonfefhegghapaaDoorTLp
import Derived.Deep.Cut
namespace Go.Proofs.YtonfefhegghapaaDoor
open Go.RowKit 

/-- Texts that can be read. -/
structure TRs (w : World) (p : Option Addr) (k c : Nat) (ts : List ByteArray) : Prop where
  len : ts.length = k
  room : k ≤ c
  small : c ≤ maxLen
  cells : 0 < k → ∃ b off, p = some ⟨b, off, none⟩ ∧ ∀ (i : Nat) (t : ByteArray), ts[i]? = some t → w.cell? ⟨b, off + i, none⟩ = some (.string t)
theorem app_list (a b : ByteArray) : (a ++ b).data.toList = a.data.toList ++ b.data.toList := by simp
def bsL (ts : List ByteArray) : List (List UInt8) := ts.map (·.data.toList)
theorem bsL_get {ts : List ByteArray} {i : Nat} {t : ByteArray} (h : ts[i]? = some t) : (bsL ts)[i]? = some t.data.toList := by
  unfold bsL
  rw [List.getElem?_map, h]
  rfl
/-- What first and steps tell. -/
def FST (bs : List (List UInt8)) (i : Nat) (f : Int) (ss : List St) : Prop := (f = -1 ∧ (∀ (j : Nat) (u : List UInt8), j < i → bs[j]? = some u → okL u) ∧ ss = (bs.take i).map gs) ∨ (∃ (m : Nat) (t : List UInt8), f = (m : Int) ∧ m < i ∧ bs[m]? = some t ∧ ¬ okL t ∧ ∀ (j : Nat) (u : List UInt8), j < m → bs[j]? = some u → okL u)
/-- Where the law is. -/
structure LS5 (w wr : World) (bs : List (List UInt8)) (i : Nat) (T : ByteArray) (f : Int) (q : Option Addr) (n d : Nat) (L : List Sm) (ss : List St) : Prop where
  tx : T.data.toList = tex (bs.take i)
  no : ∀ t ∈ bs.take i, 10 ∉ t
  px : PX w wr q n d L ss
  gm : ∀ s ∈ ss, GSm 33554432 s
  ni : n ≤ i
  fs : FST bs i f ss
theorem LS5.k0 {w wr W : World} {bs : List (List UInt8)} {i : Nat} {T : ByteArray} {f : Int} {q : Option Addr} {n d : Nat} {L : List Sm} {ss : List St} (h : LS5 w wr bs i T f q n d L ss) (K : Kept (fun _ => False) wr W) : LS5 w W bs i T f q n d L ss := ⟨h.tx, h.no, h.px.k0 K, h.gm, h.ni, h.fs⟩
theorem take_one {bs : List (List UInt8)} {i : Nat} {t : List UInt8} (h : bs[i]? = some t) : bs.take (i + 1) = bs.take i ++ [t] := by
  rw [List.take_add_one, h]
  rfl
theorem LS5.text {w wr W : World} {bs : List (List UInt8)} {i : Nat} {T T' : ByteArray} {f f' : Int} {q q' : Option Addr} {n d n' d' : Nat} {L L' : List Sm} {ss ss' : List St} {t : List UInt8} (h : LS5 w wr bs i T f q n d L ss) (ht : bs[i]? = some t) (hn : 10 ∉ t) (hT : T'.data.toList = T.data.toList ++ t ++ [10]) (px : PX w W q' n' d' L' ss') (gm : ∀ s ∈ ss', GSm 33554432 s) (ni : n' ≤ i + 1) (fs : FST bs (i + 1) f' ss') : LS5 w W bs (i + 1) T' f' q' n' d' L' ss' :=
  ⟨by rw [take_one ht, tex_snoc, hT, h.tx], fun u hu => by
    rw [take_one ht] at hu
    rcases List.mem_append.1 hu with z | z
    · exact h.no u z
    · rw [List.mem_singleton] at z
      rw [z]
      exact hn, px, gm, ni, fs⟩
theorem FST.bad {bs : List (List UInt8)} {i : Nat} {f : Int} {ss : List St} {t : List UInt8} (h : FST bs i f ss) (ht : bs[i]? = some t) (no : ¬ okL t) (hf : f < 0) (ss' : List St) : FST bs (i + 1) (i : Int) ss' := by
  rcases h with ⟨_, ok, _⟩ | ⟨m, u, e, _⟩
  · exact .inr ⟨i, t, rfl, by omega, ht, no, ok⟩
  · omega
theorem FST.old {bs : List (List UInt8)} {i : Nat} {f : Int} {ss : List St} (h : FST bs i f ss) (hf : ¬ f < 0) (ss' : List St) : FST bs (i + 1) f ss' := by
  rcases h with ⟨e, _⟩ | ⟨m, u, e, lt, r⟩
  · omega
  · exact .inr ⟨m, u, e, by omega, r⟩
theorem FST.good {bs : List (List UInt8)} {i : Nat} {f : Int} {ss : List St} {t : List UInt8} (h : FST bs i f ss) (ht : bs[i]? = some t) (ok : okL t) : FST bs (i + 1) f (ss ++ [gs t]) := by
  rcases h with ⟨e, o, r⟩ | ⟨m, u, e, lt, r⟩
  · refine .inl ⟨e, fun j u hj hu => ?_, by rw [take_one ht, List.map_append, r]; rfl⟩
    by_cases z : j < i
    · exact o j u z hu
    · have : j = i := by omega
      subst this
      rw [ht] at hu
      have e2 : t = u := by simpa using hu
      rw [← e2]
      exact ok
  · exact .inr ⟨m, u, e, by omega, r⟩
theorem FST.fk {bs : List (List UInt8)} {i : Nat} {f : Int} {ss : List St} (h : FST bs i f ss) : -1 ≤ f ∧ f ≤ i := by
  rcases h with ⟨e, _⟩ | ⟨m, u, e, lt, _⟩ <;> omega
theorem one_len {bs : List (List UInt8)} {i : Nat} {t : List UInt8} (h : bs[i]? = some t) : (tex (bs.take i)).length + t.length + 1 ≤ (tex bs).length := by
  have e : bs = bs.take i ++ (t :: bs.drop (i + 1)) := by
    have hi := (List.getElem?_eq_some_iff.1 h).1
    have h2 := (List.getElem?_eq_some_iff.1 h).2
    conv => lhs; rw [← List.take_append_drop i bs, List.drop_eq_getElem_cons hi]
    rw [h2]
  conv => rhs; rw [e]
  unfold tex
  rw [List.flatMap_append, List.flatMap_cons]
  simp
  omega
end Go.Proofs.YtonfefhegghapaaDoor
