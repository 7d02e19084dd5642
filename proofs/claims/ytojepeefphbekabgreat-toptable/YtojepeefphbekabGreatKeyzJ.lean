import Derived.Test.YtojepeefphbekabGreatFragJ
import Derived.Test.YtojepeefphbekabGreatAppl
import Derived.Shelf.Sort.Plain
import Derived.Test.YtojepeefphbekabGreatProg
namespace Go.Proofs.YtojepeefphbekabGreat
open Go.RowKit

/-- A number modulo k, as the statements reckon it. -/
theorem md (d k : Int) (h0 : 0 < k) (h1 : k < 1000) : (wrap64 (d.tmod k + k)).tmod k = d % k := by
  have t1 := Int.tmod_lt_of_pos d h0
  have t2 : -k < d.tmod k := by
    rcases Int.le_total 0 d with h | h
    · have := Int.tmod_nonneg k h; omega
    · have := Int.tmod_lt_of_pos (-d) h0
      rw [Int.neg_tmod] at this
      omega
  have e1 : wrap64 (d.tmod k + k) = d.tmod k + k := by unfold wrap64; omega
  rw [e1, Int.tmod_eq_emod_of_nonneg (by omega)]
  have e2 := Int.mul_tdiv_add_tmod d k
  have e3 : d.tmod k + k = d + (1 - d.tdiv k) * k := by
    rw [Int.sub_mul, Int.one_mul, Int.mul_comm (d.tdiv k) k]
    omega
  rw [e3, Int.add_mul_emod_self_right]
/-- One of three keys. -/
def key3 (d : Int) : ByteArray := if d % 3 = 0 then ⟨#[97]⟩ else if d % 3 = 1 then ⟨#[97, 98]⟩ else ⟨#[98]⟩
/-- A move's tag. -/
def tag60 (c k : Int) : Int × Int := (c % 12 + 1, k % 5 + 1)
end Go.Proofs.YtojepeefphbekabGreat

namespace Go.Proofs.YtojepeefphbekabGreat
open Go.RowKit

/-- Bytes as a text. -/
def str (l : List Nat) : ByteArray := ⟨(l.map UInt8.ofNat).toArray⟩
theorem Reads.string {w : World} {a : Option Addr} {len cap : Nat} {l : List Nat} (r : Reads w a len cap l) : (convert 32 9 (.slice a len cap)).run Tryz.prog w = .ok (.string (str l)) w := by
  have hlen := r.length
  subst hlen
  have hm : (l.map UInt8.ofNat).length = l.length := List.length_map ..
  have some_case : ∀ ad : Addr, a = some ad → (∀ j, j < l.length → w.cell? (ad.add j) = some (.int .u8 ((l.getD j 0 : Nat) : Int))) → (convert 32 9 (.slice a l.length cap)).run Tryz.prog w = .ok (.string (str l)) w := fun ad e hc => by
    subst e
    have := run_convert_bytes_back (P := Tryz.prog) w 32 9 5 ad cap (l.map UInt8.ofNat) Tryz.underlying32 Tryz.underlying5 Tryz.underlying9 (fun j hj => by
      have hj' : j < l.length := by rw [← hm]; exact hj
      rw [hc j hj']
      have hb := r.bytes l[j] (List.getElem_mem hj')
      have e1 : l.getD j 0 = l[j] := by rw [List.getD_eq_getElem?_getD, List.getElem?_eq_getElem hj']; rfl
      rw [e1, List.getElem_map, UInt8.toNat_ofNat']
      congr 3
      omega)
    rw [hm] at this
    exact this
  by_cases h0 : 0 < l.length
  · obtain ⟨b, off, e, hc⟩ := r.cells h0
    exact some_case _ e (fun j hj => by rw [Addr.add_none]; exact hc j hj)
  · have hl : l = [] := List.eq_nil_of_length_eq_zero (by omega)
    subst hl
    cases a with
    | some ad => exact some_case ad rfl (fun j hj => absurd hj (by simp))
    | none =>
      have e : (convert 32 9 (.slice none 0 cap)).run Tryz.prog w = .ok (.string (str [])) w := by kernel_rfl
      exact e
/-- A slice of bytes is this text. -/
def Txt (w : World) (a : Option Addr) (n c : Nat) (l : List Nat) : Prop := ∀ V, Kept (fun _ => False) w V → (convert 32 9 (.slice a n c)).run Tryz.prog V = .ok (.string (str l)) V
theorem Reads.txt {w : World} {a : Option Addr} {len cap : Nat} {l : List Nat} (r : Reads w a len cap l) : Txt w a len cap l := fun _ K => (r.kept K (fun _ _ z => z)).string
theorem txt_nil (w : World) (a : Option Addr) (c : Nat) : Txt w a 0 c [] := fun V _ => by
  cases a with
  | none =>
    have e : (convert 32 9 (.slice none 0 c)).run Tryz.prog V = .ok (.string (str [])) V := by kernel_rfl
    exact e
  | some ad => exact run_convert_bytes_back (P := Tryz.prog) V 32 9 5 ad c [] Tryz.underlying32 Tryz.underlying5 Tryz.underlying9 (fun j hj => absurd hj (by simp))
/-- A row of entries, as it lies. -/
structure ERd (w : World) (b off len : Nat) (T : Nat → (Int × Int) × Bool × Bool) (A : Nat → Option Addr × Nat × Nat) (D : Nat → List Nat) : Prop where
  cells : ∀ i, i < len → w.cell? ⟨b, off + i * 5, none⟩ = some (.int .i64 (T i).1.1) ∧ w.cell? ⟨b, off + i * 5 + 1, none⟩ = some (.int .i64 (T i).1.2) ∧ w.cell? ⟨b, off + i * 5 + 2, none⟩ = some (.bool (T i).2.1) ∧ w.cell? ⟨b, off + i * 5 + 3, none⟩ = some (.bool (T i).2.2) ∧ w.cell? ⟨b, off + i * 5 + 4, none⟩ = some (.slice (A i).1 (A i).2.1 (A i).2.2)
  dat : ∀ i, i < len → Txt w (A i).1 (A i).2.1 (A i).2.2 (D i)
theorem ERd.k0 {w w' : World} {b off len : Nat} {T : Nat → (Int × Int) × Bool × Bool} {A : Nat → Option Addr × Nat × Nat} {D : Nat → List Nat} (h : ERd w b off len T A D) (K : Kept (fun _ => False) w w') : ERd w' b off len T A D :=
  ⟨fun i hi => by
    obtain ⟨h0, h1, h2, h3, h4⟩ := h.cells i hi
    exact ⟨K.cell h0 (fun z => z), K.cell h1 (fun z => z), K.cell h2 (fun z => z), K.cell h3 (fun z => z), K.cell h4 (fun z => z)⟩, fun i hi V KV => h.dat i hi V (K.and0 KV)⟩
end Go.Proofs.YtojepeefphbekabGreat

/-
  slices.Sort at lists of texts, laid at this dump.
-/
namespace Go.Proofs
open Go.Shelf
def Tryz.lays190_ren : Go.Shelf.Ren := ⟨fun | 190 => 47 | 125 => 64 | 258 => 63 | 128 => 83 | 129 => 84 | 302 => 74 | 303 => 75 | 304 => 76 | 305 => 77 | 306 => 78 | 307 => 79 | 308 => 80 | 309 => 81 | 310 => 82 | 333 => 102 | 329 => 103 | 330 => 104 | 334 => 105 | 335 => 106 | 336 => 107 | 344 => 115 | n => n, fun | 31 => 76 | 9 => 9 | 3 => 3 | 46 => 111 | 0 => 0 | 51 => 130 | 53 => 132 | 4 => 4 | 183 => 122 | 182 => 121 | 131 => 127 | 5 => 5 | 218 => 143 | 222 => 147 | 228 => 154 | 229 => 155 | n => n, fun | n => n⟩
set_option maxRecDepth 100000 in
theorem Tryz.lays190 : Go.Proofs.Lays.n190 Tryz.prog Tryz.lays190_ren := {
  mixed := by kernel_rfl
  f125 := Tryz.func64.trans (congrArg some (by kernel_rfl))
  f128 := Tryz.func83.trans (congrArg some (by kernel_rfl))
  f129 := Tryz.func84.trans (congrArg some (by kernel_rfl))
  f190 := Tryz.func47.trans (congrArg some (by kernel_rfl))
  f258 := Tryz.func63.trans (congrArg some (by kernel_rfl))
  f302 := Tryz.func74.trans (congrArg some (by kernel_rfl))
  f303 := Tryz.func75.trans (congrArg some (by kernel_rfl))
  f304 := Tryz.func76.trans (congrArg some (by kernel_rfl))
  f305 := Tryz.func77.trans (congrArg some (by kernel_rfl))
  f306 := Tryz.func78.trans (congrArg some (by kernel_rfl))
  f307 := Tryz.func79.trans (congrArg some (by kernel_rfl))
  f308 := Tryz.func80.trans (congrArg some (by kernel_rfl))
  f309 := Tryz.func81.trans (congrArg some (by kernel_rfl))
  f310 := Tryz.func82.trans (congrArg some (by kernel_rfl))
  f329 := Tryz.func103.trans (congrArg some (by kernel_rfl))
  f330 := Tryz.func104.trans (congrArg some (by kernel_rfl))
  f333 := Tryz.func102.trans (congrArg some (by kernel_rfl))
  f334 := Tryz.func105.trans (congrArg some (by kernel_rfl))
  f335 := Tryz.func106.trans (congrArg some (by kernel_rfl))
  f336 := Tryz.func107.trans (congrArg some (by kernel_rfl))
  f344 := Tryz.func115.trans (congrArg some (by kernel_rfl))
  t0 := Tryz.underlying0
  a0 := Tryz.isAgg0
  z0 := Tryz.sizeOf0
  v0 := Tryz.zeroValue0
  t3 := Tryz.underlying3
  a3 := Tryz.isAgg3
  z3 := Tryz.sizeOf3
  v3 := Tryz.zeroValue3
  t4 := Tryz.underlying4
  a4 := Tryz.isAgg4
  z4 := Tryz.sizeOf4
  v4 := Tryz.zeroValue4
  t5 := Tryz.underlying5
  a5 := Tryz.isAgg5
  z5 := Tryz.sizeOf5
  v5 := Tryz.zeroValue5
  t9 := Tryz.underlying9
  a9 := Tryz.isAgg9
  z9 := Tryz.sizeOf9
  v9 := Tryz.zeroValue9
  t31 := Tryz.underlying76
  a31 := Tryz.isAgg76
  z31 := Tryz.sizeOf76
  v31 := Tryz.zeroValue76
  t46 := Tryz.underlying111
  a46 := Tryz.isAgg111
  z46 := Tryz.sizeOf111
  v46 := Tryz.zeroValue111
  t51 := Tryz.underlying130
  a51 := Tryz.isAgg130
  z51 := Tryz.sizeOf130
  v51 := Tryz.zeroValue130
  t53 := Tryz.underlying132
  a53 := Tryz.isAgg132
  z53 := Tryz.sizeOf132
  v53 := Tryz.zeroValue132
  t131 := Tryz.underlying127
  a131 := Tryz.isAgg127
  z131 := Tryz.sizeOf127
  v131 := Tryz.zeroValue127
  t182 := Tryz.underlying121
  a182 := Tryz.isAgg121
  z182 := Tryz.sizeOf121
  v182 := Tryz.zeroValue121
  t183 := Tryz.underlying122
  a183 := Tryz.isAgg122
  z183 := Tryz.sizeOf122
  v183 := Tryz.zeroValue122
  t218 := Tryz.underlying143
  a218 := Tryz.isAgg143
  z218 := Tryz.sizeOf143
  v218 := Tryz.zeroValue143
  t222 := Tryz.underlying147
  a222 := Tryz.isAgg147
  z222 := Tryz.sizeOf147
  v222 := Tryz.zeroValue147
  t228 := Tryz.underlying154
  a228 := Tryz.isAgg154
  z228 := Tryz.sizeOf154
  v228 := Tryz.zeroValue154
  t229 := Tryz.underlying155
  a229 := Tryz.isAgg155
  z229 := Tryz.sizeOf155
  v229 := Tryz.zeroValue155 }
open Go.Sort Go.RowKit in
theorem Tryz.slices_Sort_string (blk off cap : Nat) (ss : List (List UInt8)) (w : World) (hH : Holds encStr w blk off ss.toArray) (hblk : blk < w.heap.size) (hsz : ss.length < 4611686018427387904) :
    Calls Tryz.prog 47 #[.slice (some ⟨blk, off, none⟩) ss.length cap] w fun e w' =>
      e = .returned (.tuple #[]) ∧ ∃ n os, w' = grow (putRow encStr (Sort.ahead w n) blk off (ss.mergeSort fun x y => decide (x ≤ y)).toArray) os := Any.slices_Sort_string Tryz.lays190 blk off cap ss w hH hblk hsz
end Go.Proofs

namespace Go.Proofs.YtojepeefphbekabGreat
open Go.RowKit Go.Shelf Go.Lib Go.Sort

def strs (L : List ByteArray) : List Value := L.map Value.string
theorem strs_app (L M : List ByteArray) : strs (L ++ M) = strs L ++ strs M := by unfold strs; rw [List.map_append]
theorem strs_len (L : List ByteArray) : (strs L).length = L.length := by unfold strs; rw [List.length_map]
theorem bytes_eta (b : ByteArray) : (ByteArray.mk b.data.toList.toArray) = b := by simp
/-- Sorted texts. -/
def SortedS (L : List ByteArray) : Prop := L.Pairwise fun x y => x.data.toList ≤ y.data.toList
theorem put_str (F : List ByteArray) (cur : List Value) (h : F.length ≤ cur.length) : (putCells encStr 0 (F.map fun b => b.data.toList).toArray cur.toArray).toList.take F.length = strs F := by
  apply List.ext_getElem?
  intro j
  by_cases hj : j < F.length
  · rw [List.getElem?_take_of_lt hj]
    unfold putCells
    rw [Array.getElem?_toList, Array.getElem?_mapIdx]
    have hc : j < cur.length := by omega
    have e : (strs F)[j]? = some (.string F[j]) := by unfold strs; rw [List.getElem?_map, List.getElem?_eq_getElem hj]; rfl
    rw [e]
    simp [hc, hj, encStr]
  · rw [List.getElem?_eq_none (by rw [List.length_take]; omega), List.getElem?_eq_none (by rw [strs_len]; omega)]
theorem str_hold (L : List ByteArray) (j : Nat) (h : j < L.length) : encStr ((L.map fun b => b.data.toList).toArray[j]!) = .string L[j] := by
  rw [getElem!_pos _ j (by simpa using h)]
  simp [encStr]
/-- slices.Sort of texts. -/
theorem sortS (g len cap base : Nat) (L : List ByteArray) (w : World) (o : w.ownsRow base 9 1 (.slice (some ⟨g, 0, none⟩) len cap) len (strs L)) (hb : len < 4611686018427387904) :
    Calls Tryz.prog 47 #[.slice (some ⟨g, 0, none⟩) len cap] w fun o w' => o = .returned (.tuple #[]) ∧ ∃ L', L'.Perm L ∧ SortedS L' ∧ w'.ownsRow base 9 1 (.slice (some ⟨g, 0, none⟩) len cap) len (strs L') ∧ Kept (fun k => k = g) w w' := by
  have hl : L.length = len := by have := o.1; rw [strs_len] at this; omega
  rcases o.2 with ⟨e0, _⟩ | ⟨g', cap', cur, e0, hbase, hg, hn, hm, hs, ht⟩
  · cases e0
  · simp at e0
    obtain ⟨rfl, rfl⟩ := e0
    have hH : Holds encStr w g 0 (L.map fun b => b.data.toList).toArray := by
      intro j hj
      have hj' : j < L.length := by simpa using hj
      refine ⟨?_, by simp [World.frozen?, hg]⟩
      rw [cell_of_row w g _ cur 9 (0, 0) hg, Nat.zero_add, str_hold L j hj']
      have e : (strs L)[j]? = some (.string L[j]) := by unfold strs; rw [List.getElem?_map, List.getElem?_eq_getElem hj']; rfl
      rw [← ht, List.getElem?_take_of_lt (by omega)] at e
      simpa using e
    have hcon := Tryz.slices_Sort_string g 0 cap (L.map fun b => b.data.toList) w hH (block_lt hg) (by simpa [hl] using hb)
    rw [List.length_map, hl] at hcon
    refine hcon.mono ?_
    rintro e w' ⟨rfl, n, os, rfl⟩
    obtain ⟨ss, hss⟩ : ∃ ss, ss = ((L.map fun b => b.data.toList).mergeSort fun x y => decide (x ≤ y)) := ⟨_, rfl⟩
    obtain ⟨L', hL'⟩ : ∃ L' : List ByteArray, L' = ss.map fun l => ByteArray.mk l.toArray := ⟨_, rfl⟩
    have es : ss = L'.map fun b => b.data.toList := by rw [hL', List.map_map]; simp [Function.comp_def]
    have P : L'.Perm L := by
      have p1 : ss.Perm (L.map fun b => b.data.toList) := by rw [hss]; exact List.mergeSort_perm _ _
      have p2 := p1.map (fun l => ByteArray.mk l.toArray)
      rw [← hL', List.map_map] at p2
      have e : (L.map ((fun l : List UInt8 => ByteArray.mk l.toArray) ∘ fun b => b.data.toList)) = L := by
        conv => rhs; rw [← List.map_id L]
        apply List.map_congr_left
        intro b _
        simp
      rw [e] at p2
      exact p2
    have SS : SortedS L' := by
      unfold SortedS
      have := List.pairwise_mergeSort (le := fun x y : List UInt8 => decide (x ≤ y)) (fun a b c h1 h2 => decide_eq_true (List.le_trans (of_decide_eq_true h1) (of_decide_eq_true h2))) (fun a b => by rcases List.le_total a b with h | h <;> simp [h]) (L.map fun b => b.data.toList)
      rw [← hss, es, List.pairwise_map] at this
      exact this.imp (fun h => of_decide_eq_true h)
    have ll : L'.length = len := by rw [P.length_eq, hl]
    rw [← hss, es]
    refine ⟨rfl, L', P, SS, ⟨by rw [strs_len, ll, Nat.mul_one], .inr ⟨g, cap, putCells encStr 0 (L'.map fun b => b.data.toList).toArray cur, rfl, hbase, ?_, hn, hm, ?_, ?_⟩⟩, ?_⟩
    · unfold putRow mapBlock grow
      simp only [heap_ahead]
      rw [Array.getElem?_append_left (by rw [Array.size_modify]; exact block_lt hg), Array.getElem?_modify, if_pos rfl, hg]
      rfl
    · unfold putCells
      rw [Array.size_mapIdx]
      exact hs
    · have := put_str L' cur.toList (by rw [ll, Array.length_toList]; omega)
      rw [ll] at this
      simpa using this
    · refine ⟨rfl, rfl, rfl, ?_, fun k hk hne => ?_⟩
      · unfold putRow mapBlock grow
        simp
      · unfold putRow mapBlock grow
        simp only [heap_ahead]
        rw [Array.getElem?_append_left (by rw [Array.size_modify]; exact hk), Array.getElem?_modify, if_neg (fun e => hne e.symm)]
end Go.Proofs.YtojepeefphbekabGreat
