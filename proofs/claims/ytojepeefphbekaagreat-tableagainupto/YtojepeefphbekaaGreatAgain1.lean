import Derived.Test.YtojepeefphbekaaGreatAgain0
import Derived.Test.YtojepeefphbekaaGreatTCopy
import Derived.Test.YtojepeefphbekaaGreatSameU
import Derived.Test.YtojepeefphbekaaGreatTurnRJ
namespace Go.Proofs.YtojepeefphbekaaGreat
open Go.RowKit 

theorem told_at {w wr : World} {d : Int} {t : TK} {ms : List Mv} {vs : List Av} (h : Dst w wr d t ms) (a : AllOf t (datOf t) vs) {i : Nat} {k : ByteArray} {x y : Int} {f g : Bool} {l : List Nat} (hi : (flat vs)[i]? = some (k, entV x y f g l)) : Told t (k, entV x y f g l) := told_of h a (List.mem_of_getElem? hi)
theorem Reads.len {w : World} {a : Option Addr} {n c : Nat} {l : List Nat} (h : Reads w a n c l) : n = l.length := h.length.symm
/-- What is told, handed to the first of two tables. -/
theorem againA {w0 wt wb wr : World} {d : Int} {t ta tb : TK} {ms lb : List Mv} {vs : List Av} {i tbA : Nat} (h : Dst w0 wt d t ms) (al : AllOf t (datOf t) vs) (h0 : 0 ≤ d) (D : Duo wb wr d ta tb (((flat vs).take i).map mvOf) lb) (et : ta.tb = tbA) (few : (flat vs).length ≤ 180) {k : ByteArray} {x y : Int} {f g : Bool} {l : List Nat} {a : Option Addr} {m cc : Nat} (hi : (flat vs)[i]? = some (k, entV x y f g l)) (rd : Reads wr a m cc l) :
    Calls Tryz.prog 27 #[.pointer (some ⟨tbA, 0, none⟩), .agg #[.int .i64 3, .string k, .int .i64 x, .int .i64 y, .bool f, .bool g, .slice a m cc]] wr fun o w' => o = .returned (.tuple #[.bool true, .int .i64 0]) ∧ Hid (∃ ta', Duo wb w' d ta' tb (((flat vs).take (i + 1)).map mvOf) lb ∧ ta'.tb = tbA) := by
  obtain ⟨hi1, hi2⟩ := List.getElem?_eq_some_iff.1 hi
  have td := told_at h al hi
  have ok : UOk ⟨3, k, x, y, f, g, a, m, cc⟩ (mvOf (k, entV x y f g l)) l := td.ok rd.len
  have ln : (((flat vs).take i).map mvOf).length < 4398046511104 := by rw [List.length_map, List.length_take]; omega
  refine (dApplyK D.a et h0 ln ok rd).mono ?_
  rintro o w' ⟨rfl, Q⟩
  have wn := told_new h al D.a h0 hi1
  rw [hi2] at wn
  rw [wn]
  refine ⟨rfl, ?_⟩
  obtain ⟨ta', q1, q2, q3, q4⟩ := Q.out
  have e : ((flat vs).take i).map mvOf ++ [mvOf (k, entV x y f g l)] = ((flat vs).take (i + 1)).map mvOf := by
    rw [List.take_add_one, hi, List.map_append]
    rfl
  rw [e] at q1
  exact ⟨ta', D.step q1 (q2.trans et.symm) q3 q4, q2⟩
/-- What is told, handed to the second of two tables. -/
theorem againB {w0 wt wb wr : World} {d : Int} {t ta tb : TK} {ms la : List Mv} {vs : List Av} {L : List Uv} {i tbB : Nat} (h : Dst w0 wt d t ms) (al : AllOf t (datOf t) vs) (h0 : 0 ≤ d) (D : Duo wb wr d ta tb la (L.map mvOf)) (et : tb.tb = tbB) (few : L.length ≤ 1000) {k : ByteArray} {x y : Int} {f g : Bool} {l : List Nat} {a : Option Addr} {m cc : Nat} (hi : (flat vs)[i]? = some (k, entV x y f g l)) (rd : Reads wr a m cc l) :
    Calls Tryz.prog 27 #[.pointer (some ⟨tbB, 0, none⟩), .agg #[.int .i64 3, .string k, .int .i64 x, .int .i64 y, .bool f, .bool g, .slice a m cc]] wr fun o w' => ∃ b0, o = .returned (.tuple #[.bool b0, .int .i64 0]) ∧ Hid (∃ tb', Duo wb w' d ta tb' la ((L ++ [(k, entV x y f g l)]).map mvOf) ∧ tb'.tb = tbB) := by
  have td := told_at h al hi
  have ok : UOk ⟨3, k, x, y, f, g, a, m, cc⟩ (mvOf (k, entV x y f g l)) l := td.ok rd.len
  have ln : (L.map mvOf).length < 4398046511104 := by rw [List.length_map]; omega
  refine (dApplyK D.b et h0 ln ok rd).mono ?_
  rintro o w' ⟨rfl, Q⟩
  refine ⟨_, rfl, ?_⟩
  obtain ⟨tb', q1, q2, q3, q4⟩ := Q.out
  have e : L.map mvOf ++ [mvOf (k, entV x y f g l)] = (L ++ [(k, entV x y f g l)]).map mvOf := by
    rw [List.map_append]
    rfl
  rw [e] at q1
  exact ⟨tb', (D.turn.step q1 (q2.trans et.symm) q3 q4).turn, q2⟩
/-- Two new tables. -/
theorem duo_new {w w1 w2 : World} {d : Int} {ta ra tb rb : Nat} (h0 : 0 ≤ d) (i1 : IsT w1 0 ⟨ta, ra, d, fun _ => none⟩) (K1 : Kept (fun _ => False) w w1) (a1 : w.heap.size ≤ ta) (a2 : w.heap.size ≤ ra) (i2 : IsT w2 0 ⟨tb, rb, d, fun _ => none⟩) (K2 : Kept (fun _ => False) w1 w2) (b1 : w1.heap.size ≤ tb) (b2 : w1.heap.size ≤ rb) : Duo w w2 d ⟨ta, ra, d, fun _ => none⟩ ⟨tb, rb, d, fun _ => none⟩ [] [] := by
  have s := K1.size
  have l1 : ra < w1.heap.size := i1.rows.lt
  have l2 : ta < w1.heap.size := block_lt i1.blk
  have us : ∀ (x y k : Nat), TK.Uses ⟨x, y, d, fun _ => none⟩ k → k = y := by
    rintro x y k (z | ⟨_, _, z, _⟩)
    · exact z
    · cases z
  refine ⟨(Dst.new h0 i1 K1 a1 a2).k0 K2, Dst.new h0 i2 (K1.and0 K2) (by omega) (by omega), fun k h1 h2 => ?_, fun z => ?_, fun z => ?_⟩
  · have := us _ _ _ h1
    have := us _ _ _ h2
    omega
  · have z : tb = ra := us _ _ _ z
    omega
  · have z : ta = rb := us _ _ _ z
    omega
/-- Another table's telling is what is wanted. -/
theorem told_want {w0 wt wb wr : World} {d : Int} {t t' : TK} {ms : List Mv} {vs vs' : List Av} {L : List Uv} (h : Dst w0 wt d t ms) (al : AllOf t (datOf t) vs) (h' : Dst wb wr d t' (L.map mvOf)) (h0 : 0 ≤ d) (e : ∀ u, u ∈ L ↔ u ∈ flat vs) (al' : AllOf t' (datOf t') vs') : vs' = vs := by
  obtain ⟨q1, q2⟩ := same_made h al h' h0 e
  exact (all_one al al' q1 q2).symm
end Go.Proofs.YtojepeefphbekaaGreat
