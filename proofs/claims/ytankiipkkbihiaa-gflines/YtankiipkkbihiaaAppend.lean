import Derived.Test.YtankiipkkbihiaaRootsMath
import Derived.Deep.RegionHeld3
import Derived.Deep.AppendLies
import Derived.Deep.AppendSrc
import Derived.Deep.DrawnRows
namespace Go.Proofs.Ytankiipkkbihiaa
open Go.RowKit

theorem IsF.below {P B N : Nat} {w w' : World} (h : Below N w w') (hB : B < N) (f : IsF P B w) : IsF P B w' :=
  ⟨by rw [h.cell hB]; exact f.poly, fun i hi => by rw [h.cell hB]; exact f.exp i hi, fun i hi => by rw [h.cell hB]; exact f.log i hi⟩
theorem Reads.below {w w' : World} (h : Below w.heap.size w w') {a : Option Addr} {len cap : Nat} {l : List Nat} (r : Reads w a len cap l) : Reads w' a len cap l := by
  refine ⟨r.length, r.room, r.small, r.bytes, fun h0 => ?_⟩
  obtain ⟨b, off, e, hc⟩ := r.cells h0
  have hb : b < w.heap.size := World.block_lt_of_cell? w _ (hc 0 h0)
  exact ⟨b, off, e, fun i hi => by rw [h.cell hb]; exact hc i hi⟩
theorem Reads.take {w : World} {a : Option Addr} {len cap : Nat} {l : List Nat} (r : Reads w a len cap l) (m : Nat) (hm : m ≤ len) : Reads w a m cap (l.take m) := by
  refine ⟨by rw [List.length_take, r.length]; omega, Nat.le_trans hm r.room, r.small, fun c hc => r.bytes c (List.mem_of_mem_take hc), fun h0 => ?_⟩
  obtain ⟨b, off, e, hc⟩ := r.cells (by omega)
  refine ⟨b, off, e, fun i hi => ?_⟩
  rw [hc i (by omega), List.getD_eq_getElem?_getD, List.getD_eq_getElem?_getD, List.getElem?_take_of_lt hi]

theorem Try.info5 : (Try.prog.info? 5).map (fun i => (i.zero, i.size, i.bytes)) = some (some (.int .u8 0), 1, 1) := by kernel_rfl
/-- Bytes as cells. -/
def cellsOf (l : List Nat) : List Value := l.map (fun c : Nat => Value.int .u8 (c : Int))
theorem cellsOf_snoc (l : List Nat) (c : Nat) : cellsOf (l ++ [c]) = cellsOf l ++ [.int .u8 (c : Int)] := by simp [cellsOf]
theorem cellsOf_length (l : List Nat) : (cellsOf l).length = l.length := by simp [cellsOf]
theorem cellsOf_get (l : List Nat) (i : Nat) (h : i < l.length) : (cellsOf l)[i]? = some (.int .u8 ((l.getD i 0 : Nat) : Int)) := by
  unfold cellsOf
  rw [List.getElem?_map, List.getElem?_eq_getElem h, List.getD_eq_getElem?_getD, List.getElem?_eq_getElem h]; rfl
theorem cellsOf_one (l : List Nat) : ∀ u ∈ cellsOf l, u.oneCell' = true := fun u hu => by
  obtain ⟨_, _, rfl⟩ := List.mem_map.1 hu; rfl

/-- What is owned can be read. -/
theorem owns_reads {w : World} {base k : Nat} {v : Value} {l : List Nat} (h : w.ownsRow base 5 1 v k (cellsOf l)) (hb : ∀ c ∈ l, c < 256) :
    ∃ a cap, v = .slice a k cap ∧ Reads w a k cap l := by
  have hl : l.length = k := by have := h.1; rw [cellsOf_length] at this; omega
  rcases h.2 with ⟨rfl, rfl⟩ | ⟨g, cap, cur, rfl, _, hg, hk, hm, hs, ht⟩
  · exact ⟨none, 0, rfl, hl, Nat.le_refl _, by unfold maxLen; omega, hb, fun h0 => absurd h0 (by omega)⟩
  · refine ⟨_, cap, rfl, hl, hk, hm, hb, fun _ => ⟨g, 0, rfl, fun i hi => ?_⟩⟩
    rw [cell_of_row w g (0 + i) cur 5 (0, 0) hg]
    have e := cellsOf_get l i (by omega)
    rw [← ht, List.getElem?_take_of_lt (by omega)] at e
    rw [Nat.zero_add]
    simpa using e

theorem Addr.add_none (b off j : Nat) : (⟨b, off, none⟩ : Addr).add j = ⟨b, off + j, none⟩ := by unfold Addr.add; split <;> simp_all

/-- append(dst, src...): dst owned and not nil, src whatever slice of bytes that can be read. -/
theorem wpList_append_reads {ops : Array Oper} {rest : List Oper} {o : Oper} {a : Act} {Q : Exit → Act → World → Prop} (w : World) (hgd : o.guard = none) (s x : Operand)
    (ho : o.op = .call { callee := .builtin .append, args := #[s, x], argTypes := #[22, 22] })
    (base : Nat) (v : Value) (n : Nat) (xs : List Value) (hs : a.eval s = v) (hown : w.ownsRow base 5 1 v n xs) (hnn : v ≠ .slice none 0 0)
    (sa : Option Addr) (m c : Nat) (l : List Nat) (hx : a.eval x = .slice sa m c) (r : Reads w sa m c l)
    (hbytes : n + m ≤ 140737488355328) (hbase : base ≤ w.heap.size)
    (h : ∀ v' w', w'.ownsRow base 5 1 v' (n + m) (xs ++ cellsOf l) → w.grownBy w' v.ownBlock → v' ≠ .slice none 0 0 → wpList Try.prog ops Q rest (a.put o.dst v') w') : wpList Try.prog ops Q (o :: rest) a w := by
  obtain ⟨i, hi, hz, hsize, hby⟩ := info_parts Try.info5
  have some_case : ∀ ad : Addr, sa = some ad → (∀ j u, (cellsOf l)[j]? = some u → w.cell? (ad.add j) = some u) → wpList Try.prog ops Q (o :: rest) a w := fun ad e hn => by
    subst e
    refine wpList_append_own w hgd s x 22 ho base 5 i (.int .u8 0) 1 1 Try.underlying22 hi hz hsize hby rfl (by omega) v n xs hs hown ad m c (cellsOf l) hx (by rw [cellsOf_length, r.length]; omega) hn (cellsOf_one l) (by unfold maxLen; omega) (by omega) hbase ?_
    intro v' w' h1 h2 h3
    exact h v' w' h1 h2 (fun e => hnn (h3.1 e).1)
  by_cases hm : 0 < m
  · obtain ⟨b, off, e, hc⟩ := r.cells hm
    refine some_case _ e fun j u hj => ?_
    have hjl : j < l.length := by
      rcases Nat.lt_or_ge j l.length with q | q
      · exact q
      · rw [List.getElem?_eq_none (by rw [cellsOf_length]; exact q)] at hj; cases hj
    rw [cellsOf_get l j hjl] at hj
    rw [Addr.add_none, hc j (by rw [← r.length]; exact hjl)]
    exact hj
  · have h0 : m = 0 := by omega
    subst h0
    have hl : l = [] := List.eq_nil_of_length_eq_zero r.length
    subst hl
    cases sa with
    | some ad => exact some_case ad rfl (fun j u hj => by simp [cellsOf] at hj)
    | none =>
      rcases hown.2 with ⟨e, _⟩ | ⟨g, cap, cur, rfl, hb, hg, hk, hmx, hcs, ht⟩
      · exact absurd e hnn
      · refine wpList_plain hgd fun K hK => ?_
        have hr := run_append_room_src (P := Try.prog) w 22 22 o.type 5 i Try.underlying22 hi g 0 n cap (.slice none 0 c) 0 [] (Src.ofNil w Try.underlying22 c) (by omega) (fun j hj => absurd hj (by simp)) (fun j hj => absurd hj (by simp))
        have e0 : w.setCells g (0 + n * i.size) [] = w := rfl
        rw [e0] at hr
        unfold Oper.wp execOp
        simp only [ho, resolve, invoke, builtin, Sem.run_bind, Sem.run_pure, Result.andThen_ok, List.map_toArray, List.map_cons, List.map_nil, hs, hx, hr]
        refine hK _ _ (h _ w ?_ ⟨rfl, rfl, rfl, Nat.le_refl _, fun _ _ _ => rfl⟩ (by simp))
        simpa [cellsOf] using hown
end Go.Proofs.Ytankiipkkbihiaa
