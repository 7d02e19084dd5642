import Derived.Shelf.Sort.Plain
import Derived.Test.YtojepeefphbekaaGreatProg
import Derived.Test.YtojepeefphbekaaGreatEntsNJ
/-
  slices.Sort at lists of texts, laid at this dump.
-/
namespace Go.Proofs
open Go.Shelf
def Tryz.lays190_ren : Go.Shelf.Ren := ⟨fun | 190 => 35 | 125 => 62 | 258 => 61 | 128 => 99 | 129 => 100 | 302 => 90 | 303 => 91 | 304 => 92 | 305 => 93 | 306 => 94 | 307 => 95 | 308 => 96 | 309 => 97 | 310 => 98 | 333 => 115 | 329 => 116 | 330 => 117 | 334 => 118 | 335 => 119 | 336 => 120 | 344 => 141 | n => n, fun | 31 => 45 | 9 => 9 | 3 => 3 | 46 => 122 | 0 => 0 | 51 => 155 | 53 => 157 | 4 => 4 | 183 => 147 | 182 => 146 | 131 => 152 | 5 => 5 | 218 => 169 | 222 => 173 | 228 => 188 | 229 => 189 | n => n, fun | n => n⟩
set_option maxRecDepth 100000 in
theorem Tryz.lays190 : Go.Proofs.Lays.n190 Tryz.prog Tryz.lays190_ren := {
  mixed := by kernel_rfl
  f125 := Tryz.func62.trans (congrArg some (by kernel_rfl))
  f128 := Tryz.func99.trans (congrArg some (by kernel_rfl))
  f129 := Tryz.func100.trans (congrArg some (by kernel_rfl))
  f190 := Tryz.func35.trans (congrArg some (by kernel_rfl))
  f258 := Tryz.func61.trans (congrArg some (by kernel_rfl))
  f302 := Tryz.func90.trans (congrArg some (by kernel_rfl))
  f303 := Tryz.func91.trans (congrArg some (by kernel_rfl))
  f304 := Tryz.func92.trans (congrArg some (by kernel_rfl))
  f305 := Tryz.func93.trans (congrArg some (by kernel_rfl))
  f306 := Tryz.func94.trans (congrArg some (by kernel_rfl))
  f307 := Tryz.func95.trans (congrArg some (by kernel_rfl))
  f308 := Tryz.func96.trans (congrArg some (by kernel_rfl))
  f309 := Tryz.func97.trans (congrArg some (by kernel_rfl))
  f310 := Tryz.func98.trans (congrArg some (by kernel_rfl))
  f329 := Tryz.func116.trans (congrArg some (by kernel_rfl))
  f330 := Tryz.func117.trans (congrArg some (by kernel_rfl))
  f333 := Tryz.func115.trans (congrArg some (by kernel_rfl))
  f334 := Tryz.func118.trans (congrArg some (by kernel_rfl))
  f335 := Tryz.func119.trans (congrArg some (by kernel_rfl))
  f336 := Tryz.func120.trans (congrArg some (by kernel_rfl))
  f344 := Tryz.func141.trans (congrArg some (by kernel_rfl))
  t0 := Tryz.underlying0
  a0 := Tryz.isAgg0
  z0 := Tryz.sizeOf0
  v0 := Tryz.zeroValue0
  t3 := Tryz.underlying3
  a3 := Tryz.isAgg3
  z3 := Tryz.sizeOf3
  v3 := Tryz.zeroValue3
  t4 := Tryz.underlying4
  a4 := Tryz.isAgg4
  z4 := Tryz.sizeOf4
  v4 := Tryz.zeroValue4
  t5 := Tryz.underlying5
  a5 := Tryz.isAgg5
  z5 := Tryz.sizeOf5
  v5 := Tryz.zeroValue5
  t9 := Tryz.underlying9
  a9 := Tryz.isAgg9
  z9 := Tryz.sizeOf9
  v9 := Tryz.zeroValue9
  t31 := Tryz.underlying45
  a31 := Tryz.isAgg45
  z31 := Tryz.sizeOf45
  v31 := Tryz.zeroValue45
  t46 := Tryz.underlying122
  a46 := Tryz.isAgg122
  z46 := Tryz.sizeOf122
  v46 := Tryz.zeroValue122
  t51 := Tryz.underlying155
  a51 := Tryz.isAgg155
  z51 := Tryz.sizeOf155
  v51 := Tryz.zeroValue155
  t53 := Tryz.underlying157
  a53 := Tryz.isAgg157
  z53 := Tryz.sizeOf157
  v53 := Tryz.zeroValue157
  t131 := Tryz.underlying152
  a131 := Tryz.isAgg152
  z131 := Tryz.sizeOf152
  v131 := Tryz.zeroValue152
  t182 := Tryz.underlying146
  a182 := Tryz.isAgg146
  z182 := Tryz.sizeOf146
  v182 := Tryz.zeroValue146
  t183 := Tryz.underlying147
  a183 := Tryz.isAgg147
  z183 := Tryz.sizeOf147
  v183 := Tryz.zeroValue147
  t218 := Tryz.underlying169
  a218 := Tryz.isAgg169
  z218 := Tryz.sizeOf169
  v218 := Tryz.zeroValue169
  t222 := Tryz.underlying173
  a222 := Tryz.isAgg173
  z222 := Tryz.sizeOf173
  v222 := Tryz.zeroValue173
  t228 := Tryz.underlying188
  a228 := Tryz.isAgg188
  z228 := Tryz.sizeOf188
  v228 := Tryz.zeroValue188
  t229 := Tryz.underlying189
  a229 := Tryz.isAgg189
  z229 := Tryz.sizeOf189
  v229 := Tryz.zeroValue189 }
open Go.Sort Go.RowKit in
theorem Tryz.slices_Sort_string (blk off cap : Nat) (ss : List (List UInt8)) (w : World) (hH : Holds encStr w blk off ss.toArray) (hblk : blk < w.heap.size) (hsz : ss.length < 4611686018427387904) :
    Calls Tryz.prog 35 #[.slice (some ⟨blk, off, none⟩) ss.length cap] w fun e w' =>
      e = .returned (.tuple #[]) ∧ ∃ n os, w' = grow (putRow encStr (Sort.ahead w n) blk off (ss.mergeSort fun x y => decide (x ≤ y)).toArray) os := Any.slices_Sort_string Tryz.lays190 blk off cap ss w hH hblk hsz
end Go.Proofs

namespace Go.Proofs.YtojepeefphbekaaGreat
open Go.RowKit Go.Shelf Go.Lib Go.Sort

def strs (L : List ByteArray) : List Value := L.map Value.string
theorem strs_app (L M : List ByteArray) : strs (L ++ M) = strs L ++ strs M := by unfold strs; rw [List.map_append]
theorem strs_len (L : List ByteArray) : (strs L).length = L.length := by unfold strs; rw [List.length_map]
theorem bytes_eta (b : ByteArray) : (ByteArray.mk b.data.toList.toArray) = b := by simp
/-- Sorted texts. -/
def SortedS (L : List ByteArray) : Prop := L.Pairwise fun x y => x.data.toList ≤ y.data.toList
theorem put_str (F : List ByteArray) (cur : List Value) (h : F.length ≤ cur.length) : (putCells encStr 0 (F.map fun b => b.data.toList).toArray cur.toArray).toList.take F.length = strs F := by
  apply List.ext_getElem?
  intro j
  by_cases hj : j < F.length
  · rw [List.getElem?_take_of_lt hj]
    unfold putCells
    rw [Array.getElem?_toList, Array.getElem?_mapIdx]
    have hc : j < cur.length := by omega
    have e : (strs F)[j]? = some (.string F[j]) := by unfold strs; rw [List.getElem?_map, List.getElem?_eq_getElem hj]; rfl
    rw [e]
    simp [hc, hj, encStr]
  · rw [List.getElem?_eq_none (by rw [List.length_take]; omega), List.getElem?_eq_none (by rw [strs_len]; omega)]
theorem str_hold (L : List ByteArray) (j : Nat) (h : j < L.length) : encStr ((L.map fun b => b.data.toList).toArray[j]!) = .string L[j] := by
  rw [getElem!_pos _ j (by simpa using h)]
  simp [encStr]
/-- slices.Sort of texts. -/
theorem sortS (g len cap base : Nat) (L : List ByteArray) (w : World) (o : w.ownsRow base 9 1 (.slice (some ⟨g, 0, none⟩) len cap) len (strs L)) (hb : len < 4611686018427387904) :
    Calls Tryz.prog 35 #[.slice (some ⟨g, 0, none⟩) len cap] w fun o w' => o = .returned (.tuple #[]) ∧ ∃ L', L'.Perm L ∧ SortedS L' ∧ w'.ownsRow base 9 1 (.slice (some ⟨g, 0, none⟩) len cap) len (strs L') ∧ Kept (fun k => k = g) w w' := by
  have hl : L.length = len := by have := o.1; rw [strs_len] at this; omega
  rcases o.2 with ⟨e0, _⟩ | ⟨g', cap', cur, e0, hbase, hg, hn, hm, hs, ht⟩
  · cases e0
  · simp at e0
    obtain ⟨rfl, rfl⟩ := e0
    have hH : Holds encStr w g 0 (L.map fun b => b.data.toList).toArray := by
      intro j hj
      have hj' : j < L.length := by simpa using hj
      refine ⟨?_, by simp [World.frozen?, hg]⟩
      rw [cell_of_row w g _ cur 9 (0, 0) hg, Nat.zero_add, str_hold L j hj']
      have e : (strs L)[j]? = some (.string L[j]) := by unfold strs; rw [List.getElem?_map, List.getElem?_eq_getElem hj']; rfl
      rw [← ht, List.getElem?_take_of_lt (by omega)] at e
      simpa using e
    have hcon := Tryz.slices_Sort_string g 0 cap (L.map fun b => b.data.toList) w hH (block_lt hg) (by simpa [hl] using hb)
    rw [List.length_map, hl] at hcon
    refine hcon.mono ?_
    rintro e w' ⟨rfl, n, os, rfl⟩
    obtain ⟨ss, hss⟩ : ∃ ss, ss = ((L.map fun b => b.data.toList).mergeSort fun x y => decide (x ≤ y)) := ⟨_, rfl⟩
    obtain ⟨L', hL'⟩ : ∃ L' : List ByteArray, L' = ss.map fun l => ByteArray.mk l.toArray := ⟨_, rfl⟩
    have es : ss = L'.map fun b => b.data.toList := by rw [hL', List.map_map]; simp [Function.comp_def]
    have P : L'.Perm L := by
      have p1 : ss.Perm (L.map fun b => b.data.toList) := by rw [hss]; exact List.mergeSort_perm _ _
      have p2 := p1.map (fun l => ByteArray.mk l.toArray)
      rw [← hL', List.map_map] at p2
      have e : (L.map ((fun l : List UInt8 => ByteArray.mk l.toArray) ∘ fun b => b.data.toList)) = L := by
        conv => rhs; rw [← List.map_id L]
        apply List.map_congr_left
        intro b _
        simp
      rw [e] at p2
      exact p2
    have SS : SortedS L' := by
      unfold SortedS
      have := List.pairwise_mergeSort (le := fun x y : List UInt8 => decide (x ≤ y)) (fun a b c h1 h2 => decide_eq_true (List.le_trans (of_decide_eq_true h1) (of_decide_eq_true h2))) (fun a b => by rcases List.le_total a b with h | h <;> simp [h]) (L.map fun b => b.data.toList)
      rw [← hss, es, List.pairwise_map] at this
      exact this.imp (fun h => of_decide_eq_true h)
    have ll : L'.length = len := by rw [P.length_eq, hl]
    rw [← hss, es]
    refine ⟨rfl, L', P, SS, ⟨by rw [strs_len, ll, Nat.mul_one], .inr ⟨g, cap, putCells encStr 0 (L'.map fun b => b.data.toList).toArray cur, rfl, hbase, ?_, hn, hm, ?_, ?_⟩⟩, ?_⟩
    · unfold putRow mapBlock grow
      simp only [heap_ahead]
      rw [Array.getElem?_append_left (by rw [Array.size_modify]; exact block_lt hg), Array.getElem?_modify, if_pos rfl, hg]
      rfl
    · unfold putCells
      rw [Array.size_mapIdx]
      exact hs
    · have := put_str L' cur.toList (by rw [ll, Array.length_toList]; omega)
      rw [ll] at this
      simpa using this
    · refine ⟨rfl, rfl, rfl, ?_, fun k hk hne => ?_⟩
      · unfold putRow mapBlock grow
        simp
      · unfold putRow mapBlock grow
        simp only [heap_ahead]
        rw [Array.getElem?_append_left (by rw [Array.size_modify]; exact hk), Array.getElem?_modify, if_neg (fun e => hne e.symm)]
end Go.Proofs.YtojepeefphbekaaGreat
