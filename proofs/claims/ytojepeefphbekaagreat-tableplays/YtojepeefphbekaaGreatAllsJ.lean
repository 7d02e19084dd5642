import Derived.Shelf.Sort.Plain
import Derived.Test.YtojepeefphbekaaGreatProg
import Derived.Test.YtojepeefphbekaaGreatFragJ
import Derived.Test.YtojepeefphbekaaGreatInv
/-
  slices.Sort at lists of texts, laid at this dump.
-/
namespace Go.Proofs
open Go.Shelf
def Tryz.lays190_ren : Go.Shelf.Ren := ⟨fun | 190 => 35 | 125 => 62 | 258 => 61 | 128 => 99 | 129 => 100 | 302 => 90 | 303 => 91 | 304 => 92 | 305 => 93 | 306 => 94 | 307 => 95 | 308 => 96 | 309 => 97 | 310 => 98 | 333 => 115 | 329 => 116 | 330 => 117 | 334 => 118 | 335 => 119 | 336 => 120 | 344 => 141 | n => n, fun | 31 => 45 | 9 => 9 | 3 => 3 | 46 => 122 | 0 => 0 | 51 => 155 | 53 => 157 | 4 => 4 | 183 => 147 | 182 => 146 | 131 => 152 | 5 => 5 | 218 => 169 | 222 => 173 | 228 => 188 | 229 => 189 | n => n, fun | n => n⟩
set_option maxRecDepth 100000 in
theorem Tryz.lays190 : Go.Proofs.Lays.n190 Tryz.prog Tryz.lays190_ren := {
  mixed := by kernel_rfl
  f125 := Tryz.func62.trans (congrArg some (by kernel_rfl))
  f128 := Tryz.func99.trans (congrArg some (by kernel_rfl))
  f129 := Tryz.func100.trans (congrArg some (by kernel_rfl))
  f190 := Tryz.func35.trans (congrArg some (by kernel_rfl))
  f258 := Tryz.func61.trans (congrArg some (by kernel_rfl))
  f302 := Tryz.func90.trans (congrArg some (by kernel_rfl))
  f303 := Tryz.func91.trans (congrArg some (by kernel_rfl))
  f304 := Tryz.func92.trans (congrArg some (by kernel_rfl))
  f305 := Tryz.func93.trans (congrArg some (by kernel_rfl))
  f306 := Tryz.func94.trans (congrArg some (by kernel_rfl))
  f307 := Tryz.func95.trans (congrArg some (by kernel_rfl))
  f308 := Tryz.func96.trans (congrArg some (by kernel_rfl))
  f309 := Tryz.func97.trans (congrArg some (by kernel_rfl))
  f310 := Tryz.func98.trans (congrArg some (by kernel_rfl))
  f329 := Tryz.func116.trans (congrArg some (by kernel_rfl))
  f330 := Tryz.func117.trans (congrArg some (by kernel_rfl))
  f333 := Tryz.func115.trans (congrArg some (by kernel_rfl))
  f334 := Tryz.func118.trans (congrArg some (by kernel_rfl))
  f335 := Tryz.func119.trans (congrArg some (by kernel_rfl))
  f336 := Tryz.func120.trans (congrArg some (by kernel_rfl))
  f344 := Tryz.func141.trans (congrArg some (by kernel_rfl))
  t0 := Tryz.underlying0
  a0 := Tryz.isAgg0
  z0 := Tryz.sizeOf0
  v0 := Tryz.zeroValue0
  t3 := Tryz.underlying3
  a3 := Tryz.isAgg3
  z3 := Tryz.sizeOf3
  v3 := Tryz.zeroValue3
  t4 := Tryz.underlying4
  a4 := Tryz.isAgg4
  z4 := Tryz.sizeOf4
  v4 := Tryz.zeroValue4
  t5 := Tryz.underlying5
  a5 := Tryz.isAgg5
  z5 := Tryz.sizeOf5
  v5 := Tryz.zeroValue5
  t9 := Tryz.underlying9
  a9 := Tryz.isAgg9
  z9 := Tryz.sizeOf9
  v9 := Tryz.zeroValue9
  t31 := Tryz.underlying45
  a31 := Tryz.isAgg45
  z31 := Tryz.sizeOf45
  v31 := Tryz.zeroValue45
  t46 := Tryz.underlying122
  a46 := Tryz.isAgg122
  z46 := Tryz.sizeOf122
  v46 := Tryz.zeroValue122
  t51 := Tryz.underlying155
  a51 := Tryz.isAgg155
  z51 := Tryz.sizeOf155
  v51 := Tryz.zeroValue155
  t53 := Tryz.underlying157
  a53 := Tryz.isAgg157
  z53 := Tryz.sizeOf157
  v53 := Tryz.zeroValue157
  t131 := Tryz.underlying152
  a131 := Tryz.isAgg152
  z131 := Tryz.sizeOf152
  v131 := Tryz.zeroValue152
  t182 := Tryz.underlying146
  a182 := Tryz.isAgg146
  z182 := Tryz.sizeOf146
  v182 := Tryz.zeroValue146
  t183 := Tryz.underlying147
  a183 := Tryz.isAgg147
  z183 := Tryz.sizeOf147
  v183 := Tryz.zeroValue147
  t218 := Tryz.underlying169
  a218 := Tryz.isAgg169
  z218 := Tryz.sizeOf169
  v218 := Tryz.zeroValue169
  t222 := Tryz.underlying173
  a222 := Tryz.isAgg173
  z222 := Tryz.sizeOf173
  v222 := Tryz.zeroValue173
  t228 := Tryz.underlying188
  a228 := Tryz.isAgg188
  z228 := Tryz.sizeOf188
  v228 := Tryz.zeroValue188
  t229 := Tryz.underlying189
  a229 := Tryz.isAgg189
  z229 := Tryz.sizeOf189
  v229 := Tryz.zeroValue189 }
open Go.Sort Go.RowKit in
theorem Tryz.slices_Sort_string (blk off cap : Nat) (ss : List (List UInt8)) (w : World) (hH : Holds encStr w blk off ss.toArray) (hblk : blk < w.heap.size) (hsz : ss.length < 4611686018427387904) :
    Calls Tryz.prog 35 #[.slice (some ⟨blk, off, none⟩) ss.length cap] w fun e w' =>
      e = .returned (.tuple #[]) ∧ ∃ n os, w' = grow (putRow encStr (Sort.ahead w n) blk off (ss.mergeSort fun x y => decide (x ≤ y)).toArray) os := Any.slices_Sort_string Tryz.lays190 blk off cap ss w hH hblk hsz
end Go.Proofs

namespace Go.Proofs.YtojepeefphbekaaGreat
open Go.RowKit Go.Shelf Go.Lib Go.Sort

def strs (L : List ByteArray) : List Value := L.map Value.string
theorem strs_app (L M : List ByteArray) : strs (L ++ M) = strs L ++ strs M := by unfold strs; rw [List.map_append]
theorem strs_len (L : List ByteArray) : (strs L).length = L.length := by unfold strs; rw [List.length_map]
theorem bytes_eta (b : ByteArray) : (ByteArray.mk b.data.toList.toArray) = b := by simp
/-- Sorted texts. -/
def SortedS (L : List ByteArray) : Prop := L.Pairwise fun x y => x.data.toList ≤ y.data.toList
theorem put_str (F : List ByteArray) (cur : List Value) (h : F.length ≤ cur.length) : (putCells encStr 0 (F.map fun b => b.data.toList).toArray cur.toArray).toList.take F.length = strs F := by
  apply List.ext_getElem?
  intro j
  by_cases hj : j < F.length
  · rw [List.getElem?_take_of_lt hj]
    unfold putCells
    rw [Array.getElem?_toList, Array.getElem?_mapIdx]
    have hc : j < cur.length := by omega
    have e : (strs F)[j]? = some (.string F[j]) := by unfold strs; rw [List.getElem?_map, List.getElem?_eq_getElem hj]; rfl
    rw [e]
    simp [hc, hj, encStr]
  · rw [List.getElem?_eq_none (by rw [List.length_take]; omega), List.getElem?_eq_none (by rw [strs_len]; omega)]
theorem str_hold (L : List ByteArray) (j : Nat) (h : j < L.length) : encStr ((L.map fun b => b.data.toList).toArray[j]!) = .string L[j] := by
  rw [getElem!_pos _ j (by simpa using h)]
  simp [encStr]
/-- slices.Sort of texts. -/
theorem sortS (g len cap base : Nat) (L : List ByteArray) (w : World) (o : w.ownsRow base 9 1 (.slice (some ⟨g, 0, none⟩) len cap) len (strs L)) (hb : len < 4611686018427387904) :
    Calls Tryz.prog 35 #[.slice (some ⟨g, 0, none⟩) len cap] w fun o w' => o = .returned (.tuple #[]) ∧ ∃ L', L'.Perm L ∧ SortedS L' ∧ w'.ownsRow base 9 1 (.slice (some ⟨g, 0, none⟩) len cap) len (strs L') ∧ Kept (fun k => k = g) w w' := by
  have hl : L.length = len := by have := o.1; rw [strs_len] at this; omega
  rcases o.2 with ⟨e0, _⟩ | ⟨g', cap', cur, e0, hbase, hg, hn, hm, hs, ht⟩
  · cases e0
  · simp at e0
    obtain ⟨rfl, rfl⟩ := e0
    have hH : Holds encStr w g 0 (L.map fun b => b.data.toList).toArray := by
      intro j hj
      have hj' : j < L.length := by simpa using hj
      refine ⟨?_, by simp [World.frozen?, hg]⟩
      rw [cell_of_row w g _ cur 9 (0, 0) hg, Nat.zero_add, str_hold L j hj']
      have e : (strs L)[j]? = some (.string L[j]) := by unfold strs; rw [List.getElem?_map, List.getElem?_eq_getElem hj']; rfl
      rw [← ht, List.getElem?_take_of_lt (by omega)] at e
      simpa using e
    have hcon := Tryz.slices_Sort_string g 0 cap (L.map fun b => b.data.toList) w hH (block_lt hg) (by simpa [hl] using hb)
    rw [List.length_map, hl] at hcon
    refine hcon.mono ?_
    rintro e w' ⟨rfl, n, os, rfl⟩
    obtain ⟨ss, hss⟩ : ∃ ss, ss = ((L.map fun b => b.data.toList).mergeSort fun x y => decide (x ≤ y)) := ⟨_, rfl⟩
    obtain ⟨L', hL'⟩ : ∃ L' : List ByteArray, L' = ss.map fun l => ByteArray.mk l.toArray := ⟨_, rfl⟩
    have es : ss = L'.map fun b => b.data.toList := by rw [hL', List.map_map]; simp [Function.comp_def]
    have P : L'.Perm L := by
      have p1 : ss.Perm (L.map fun b => b.data.toList) := by rw [hss]; exact List.mergeSort_perm _ _
      have p2 := p1.map (fun l => ByteArray.mk l.toArray)
      rw [← hL', List.map_map] at p2
      have e : (L.map ((fun l : List UInt8 => ByteArray.mk l.toArray) ∘ fun b => b.data.toList)) = L := by
        conv => rhs; rw [← List.map_id L]
        apply List.map_congr_left
        intro b _
        simp
      rw [e] at p2
      exact p2
    have SS : SortedS L' := by
      unfold SortedS
      have := List.pairwise_mergeSort (le := fun x y : List UInt8 => decide (x ≤ y)) (fun a b c h1 h2 => decide_eq_true (List.le_trans (of_decide_eq_true h1) (of_decide_eq_true h2))) (fun a b => by rcases List.le_total a b with h | h <;> simp [h]) (L.map fun b => b.data.toList)
      rw [← hss, es, List.pairwise_map] at this
      exact this.imp (fun h => of_decide_eq_true h)
    have ll : L'.length = len := by rw [P.length_eq, hl]
    rw [← hss, es]
    refine ⟨rfl, L', P, SS, ⟨by rw [strs_len, ll, Nat.mul_one], .inr ⟨g, cap, putCells encStr 0 (L'.map fun b => b.data.toList).toArray cur, rfl, hbase, ?_, hn, hm, ?_, ?_⟩⟩, ?_⟩
    · unfold putRow mapBlock grow
      simp only [heap_ahead]
      rw [Array.getElem?_append_left (by rw [Array.size_modify]; exact block_lt hg), Array.getElem?_modify, if_pos rfl, hg]
      rfl
    · unfold putCells
      rw [Array.size_mapIdx]
      exact hs
    · have := put_str L' cur.toList (by rw [ll, Array.length_toList]; omega)
      rw [ll] at this
      simpa using this
    · refine ⟨rfl, rfl, rfl, ?_, fun k hk hne => ?_⟩
      · unfold putRow mapBlock grow
        simp
      · unfold putRow mapBlock grow
        simp only [heap_ahead]
        rw [Array.getElem?_append_left (by rw [Array.size_modify]; exact hk), Array.getElem?_modify, if_neg (fun e => hne e.symm)]
end Go.Proofs.YtojepeefphbekaaGreat

namespace Go.Proofs.YtojepeefphbekaaGreat
open Go.RowKit 

theorem Tryz.info9c : (Tryz.prog.info? 9).map (fun i => (i.zero, i.size, i.bytes)) = some (some (.string (ByteArray.mk #[])), 1, 16) := by kernel_rfl
/-- The keys that have been gathered. -/
structure KE (V : ByteArray → Option RV) (Lf : ByteArray → Prop) (L : List ByteArray) : Prop where
  all : ∀ k, V k ≠ none → Lf k ∨ k ∈ L
  each : ∀ k ∈ L, ¬ Lf k ∧ V k ≠ none
  one : L.Nodup
theorem KE.more {V : ByteArray → Option RV} {Lf : ByteArray → Prop} {L : List ByteArray} (g : KE V Lf L) {k : ByteArray} (hl : Lf k) (hm : V k ≠ none) : KE V (fun j => Lf j ∧ j ≠ k) (L ++ [k]) := by
  refine ⟨fun s hs => ?_, fun e he => ?_, ?_⟩
  · by_cases e : s = k
    · exact .inr (List.mem_append.2 (.inr (List.mem_singleton.2 e)))
    · rcases g.all s hs with z | z
      · exact .inl ⟨z, e⟩
      · exact .inr (List.mem_append.2 (.inl z))
  · rcases List.mem_append.1 he with z | z
    · exact ⟨fun q => (g.each e z).1 q.1, (g.each e z).2⟩
    · rw [List.mem_singleton.1 z]
      exact ⟨fun q => q.2 rfl, hm⟩
  · refine List.nodup_append.2 ⟨g.one, by simp, fun a ha b hb => ?_⟩
    rw [List.mem_singleton] at hb
    subst hb
    intro e
    subst e
    exact (g.each a ha).1 hl
theorem KE.done {V : ByteArray → Option RV} {Lf : ByteArray → Prop} {L L' : List ByteArray} (g : KE V Lf L) (P : L'.Perm L) (no : ∀ k, V k ≠ none → ¬ Lf k) : KE V (fun _ => False) L' := by
  refine ⟨fun k hk => ?_, fun k hk => ⟨fun z => z, (g.each k (P.mem_iff.1 hk)).2⟩, P.nodup_iff.2 g.one⟩
  rcases g.all k hk with z | z
  · exact absurd z (no k hk)
  · exact .inr (P.mem_iff.2 z)
theorem src_str {w : World} {b : Nat} {k : ByteArray} (h : w.heap[b]? = some (.cells #[.string k] 9 (0, 0))) : Src Tryz.prog 1 45 (.slice (some ⟨b, 0, none⟩) 1 1) 1 (strs [k]) w :=
  Src.ofSlice w Tryz.underlying45 ⟨b, 0, none⟩ 1 1 (strs [k]) rfl (fun j u hj => by
    rw [Addr.add_none, Nat.zero_add, cell_of_row w b j _ 9 (0, 0) h]
    simpa [strs] using hj) (fun v hv => by simp [strs] at hv; rw [hv]; rfl)
/-- The round's state. -/
def KI (w : World) (rb rr n cnt0 : Nat) (V : ByteArray → Option RV) (v : Value) (wr : World) (cnt : Nat) : Prop :=
  ∃ (p : Option Addr) (cp : Nat) (L : List ByteArray) (Lf : ByteArray → Prop), v = .slice p L.length cp ∧ RG 9 (fun s : ByteArray => Lit.string s.data.toList) (fun s : ByteArray => s.size ≤ maxLen) RV.val RR wr rb rr n V Lf cnt ∧ KE V Lf L ∧ wr.ownsRow w.heap.size 9 1 (.slice p L.length cp) L.length (strs L) ∧ Kept (fun _ => False) w wr ∧ L.length + cnt ≤ cnt0 ∧ blockOf p ≠ some rr ∧ p ≠ none
set_option maxRecDepth 100000 in
set_option maxHeartbeats 2000000 in
/-- Keys. -/
theorem tKeys (nn : Nat) (t : TK) (w : World) (h : IsT w nn t) (hn : nn ≤ 4398046511104) : Calls Tryz.prog 13 #[.pointer (some ⟨t.tb, 0, none⟩)] w fun o w' => ∃ (g cp : Nat) (L : List ByteArray), o = .returned (.slice (some ⟨g, 0, none⟩) L.length cp) ∧ KE t.rv (fun _ => False) L ∧ SortedS L ∧ w'.ownsRow w.heap.size 9 1 (.slice (some ⟨g, 0, none⟩) L.length cp) L.length (strs L) ∧ L.length ≤ nn ∧ Kept (fun _ => False) w w' := by
  obtain ⟨tb, rb, delta, R⟩ := t
  obtain ⟨n, hnn⟩ : ∃ n, n = nn := ⟨_, rfl⟩
  rw [← hnn] at h hn ⊢
  clear hnn
  obtain ⟨V, hV⟩ : ∃ V, V = TK.rv ⟨tb, rb, delta, R⟩ := ⟨_, rfl⟩
  rw [← hV]
  have rows : TM 9 (fun s : ByteArray => Lit.string s.data.toList) (fun s : ByteArray => s.size ≤ maxLen) RV.val RR w rb n V := by rw [hV]; exact h.rows
  have rows0 := rows
  obtain ⟨D, hM, sM⟩ := rows0
  have hM : w.ownsMap Tryz.prog 9 RR rb n D := hM
  have hz : Maps.size D ≤ n := by
    obtain ⟨es, clock, _, _, h3, e⟩ := hM
    rw [e, Maps.size_eq, length_sorted]
    simpa using h3
  have ln : ∀ ty, (Builtin.len_ #[83] ty #[.map (some rb)]).run Tryz.prog w = .ok (.int .i64 (Maps.size D : Int)) w := fun ty => hM.len Tryz.underlying83 ty
  obtain ⟨i0, hi, hz0, hz1, hz2⟩ := info_parts Tryz.info9c
  obtain ⟨w3, mk, ow, gr⟩ := run_make_own (P := Tryz.prog) w w.heap.size 45 9 i0 _ 1 Tryz.underlying45 hi hz0 hz1 .i64 .i64 (Maps.size D) (by rw [hz2]; omega) (by unfold maxLen; omega) (Nat.le_refl _)
  have K3 : Kept (fun _ => False) w w3 := (Kept.refl _ w).grown gr (fun k _ z => by cases z)
  obtain ⟨cp, hcp⟩ : ∃ cp, cp = Maps.size D := ⟨_, rfl⟩
  obtain ⟨g0, hg0⟩ : ∃ g0, g0 = w.heap.size := ⟨_, rfl⟩
  rw [← hcp, ← hg0] at mk ow
  have ln2 : ∀ ty, (Builtin.len_ #[83] ty #[.map (some rb)]).run Tryz.prog w = .ok (.int .i64 (cp : Int)) w := fun ty => by rw [hcp]; exact ln ty
  have c1 := cell_blk h.blk 1 (v := .map (some rb)) rfl
  have d1 := cell_blk (K3.get h.blk (fun z => z)) 1 (v := .map (some rb)) rfl
  have H : Hid (TM 9 (fun s : ByteArray => Lit.string s.data.toList) (fun s : ByteArray => s.size ≤ maxLen) RV.val RR w3 rb n V ∧ w3.ownsRow w.heap.size 9 1 (.slice (some ⟨g0, 0, none⟩) 0 cp) 0 [] ∧ Kept (fun _ => False) w w3 ∧ g0 < w3.heap.size ∧ rb < w.heap.size ∧ n ≤ 4398046511104) := by
    refine ⟨rows.kept K3 (fun z => z), by rw [← hg0]; exact ow, K3, (own_lt ow g0 rfl).2, rows.lt, hn⟩
  clear h hn rows hM sM hz ln hi hz0 hz1 hz2 ow gr K3 hcp hg0 hV
  go_enter Tryz.func13, Tryz.ntmps13
  go_wp2_with
    (first
      | (at_range; refine wpList_rng rowsK _ rfl _ rfl rb n V rfl H.out.1 ?_; intro w4 hrg0 hk0 hs0)
      | fail)
  obtain ⟨rr, hrr⟩ : ∃ rr, rr = w3.heap.size := ⟨_, rfl⟩
  rw [← hrr]
  have I0 : Hid (∃ cnt0, cnt0 ≤ n ∧ KI w rb rr n cnt0 V (.slice (some ⟨g0, 0, none⟩) 0 cp) w4 cnt0 ∧ w.heap.size ≤ rr) := by
    obtain ⟨cnt, g⟩ := hrg0.out
    rw [← hrr] at g
    have hl := H.out.2.2.2.1
    refine ⟨cnt, g.cnt_le, ⟨some ⟨g0, 0, none⟩, cp, [], _, rfl, g, ⟨fun k hm => .inl hm, fun e he => (by cases he), by simp⟩, hk0.out.owns H.out.2.1 (fun _ _ z => z), H.out.2.2.1.and0 hk0.out, by simp, fun z => ?_, by simp⟩, ?_⟩
    · have z : g0 = rr := Option.some.inj z
      omega
    · have := H.out.2.2.1.size
      omega
  obtain ⟨cnt0, hc0, hI0, hrl⟩ := I0.out
  have C0 : Hid (cnt0 ≤ n ∧ KI w rb rr n cnt0 V (.slice (some ⟨g0, 0, none⟩) 0 cp) w4 cnt0 ∧ w.heap.size ≤ rr) := ⟨hc0, hI0, hrl⟩
  clear hrg0 hk0 hs0 hrr I0 hc0 hI0 hrl c1 d1 mk ln2
  (try go_frame)
  go_loopw [3] (fun v wr => ∃ cnt, Hid (KI w rb rr n cnt0 V v wr cnt)) (fun _ wr => wr.rangeLeft rb rr)
  case atStart => exact ⟨cnt0, C0.out.2.1⟩
  case round =>
    obtain ⟨cnt, I⟩ := hrel
    obtain ⟨wq, rfl⟩ : ∃ wq : World, wq = wr := ⟨_, rfl⟩
    obtain ⟨p, c1, L, Lf, ev, rg, ge, ow, Kq, hb, nb, np⟩ := I.out
    subst ev
    obtain ⟨g, rfl⟩ : ∃ g, p = some ⟨g, 0, none⟩ := by
      rcases ow.2 with ⟨e0, _⟩ | ⟨g, _, _, e0, _⟩
      · simp at e0; exact absurd e0.1 np
      · simp at e0; exact ⟨g, e0.1⟩
    obtain ⟨kk, hkk⟩ : ∃ kk, kk = L.length := ⟨_, rfl⟩
    have HK : Hid (kk = L.length) := hkk
    rw [← hkk] at ow hb
    rw [← hkk]
    have J : Hid (RG 9 (fun s : ByteArray => Lit.string s.data.toList) (fun s : ByteArray => s.size ≤ maxLen) RV.val RR wq rb rr n V Lf cnt ∧ KE V Lf L ∧ wq.ownsRow w.heap.size 9 1 (.slice (some ⟨g, 0, none⟩) kk c1) kk (strs L) ∧ Kept (fun _ => False) w wq ∧ kk + cnt ≤ cnt0 ∧ g ≠ rr) := ⟨rg, ge, ow, Kq, hb, fun z => nb (by rw [z]; rfl)⟩
    clear rg ge ow Kq hb nb np hkk
    go_wp2_with
      (first
        | (at_next; refine wpList_nxt rowsK _ rfl _ rfl rb rr n V Lf cnt rfl J.out.1 ?_ ?_)
        | fail)
    · intro hdn
      go_wp2_with fail
      have BL : kk < 4611686018427387904 := by
        have h1 := J.out.2.2.2.2.1
        have h2 := C0.out.1
        have h3 := H.out.2.2.2.2.2
        omega
      refine (sortS g kk c1 w.heap.size L wq J.out.2.2.1 BL).mono ?_
      rintro o w8 ⟨rfl, L', P, srt, ow', K8⟩
      have F8 : Hid (KE V (fun _ => False) L' ∧ SortedS L' ∧ w8.ownsRow w.heap.size 9 1 (.slice (some ⟨g, 0, none⟩) kk c1) kk (strs L') ∧ Kept (fun _ => False) w w8 ∧ L'.length = kk ∧ kk ≤ n) := by
        obtain ⟨D', _, sD⟩ := J.out.1.tm
        refine ⟨J.out.2.1.done P (fun k hk => ?_), srt, ow', J.out.2.2.2.1.trans K8 (fun j hj z => ?_), P.length_eq.trans HK.out.symm, ?_⟩
        · cases hv : V k with
          | none => exact absurd hv hk
          | some e => exact hdn.out k (sD.2 k e hv)
        · have z : j = g := z
          have := (own_lt J.out.2.2.1 g rfl).1
          omega
        · have h1 := J.out.2.2.2.2.1
          have h2 := C0.out.1
          omega
      clear P srt ow' K8 BL
      go_wp2_with fail
      go_ret
      exact ⟨g, c1, L', by rw [F8.out.2.2.2.2.1]; rfl, F8.out.1, F8.out.2.1, by rw [F8.out.2.2.2.2.1]; exact F8.out.2.2.1, by rw [F8.out.2.2.2.2.1]; exact F8.out.2.2.2.2.2, F8.out.2.2.2.1⟩
    · intro ta hd w5 cnt5 hk hrg hlt hK hen
      obtain ⟨x1, x2⟩ := hd
      obtain ⟨rvv, hrv⟩ : ∃ rvv, rvv = RV.val ⟨x1, x2⟩ := ⟨_, rfl⟩
      rw [← hrv] at hen ⊢
      clear hrv
      have GR : Hid (w.heap.size ≤ g ∧ g ≠ rr ∧ rr < wq.heap.size ∧ g < wq.heap.size) := ⟨(own_lt J.out.2.2.1 g rfl).1, J.out.2.2.2.2.2, J.out.1.lt.1, (own_lt J.out.2.2.1 g rfl).2⟩
      have J7 : Hid (RG 9 (fun s : ByteArray => Lit.string s.data.toList) (fun s : ByteArray => s.size ≤ maxLen) RV.val RR w5 rb rr n V (fun j => Lf j ∧ j ≠ ta) cnt5 ∧ w5.ownsRow w.heap.size 9 1 (.slice (some ⟨g, 0, none⟩) kk c1) kk (strs L) ∧ Kept (fun _ => False) w w5 ∧ rr < w5.heap.size) := by
        refine ⟨hrg.out, hK.out.owns J.out.2.2.1 (fun k hk z => ?_), J.out.2.2.2.1.trans hK.out (fun j hj z => by have z : j = rr := z; have := C0.out.2.2; omega), hrg.out.lt.1⟩
        have z : k = rr := z
        have hk : some g = some k := hk
        exact GR.out.2.1 ((Option.some.inj hk).trans z)
      have BL : Hid (kk + 1 ≤ maxLen ∧ ((kk + 1) + (kk + 1) / 4 + 192) * 16 ≤ 281474976710656 ∧ kk + 1 + cnt5 ≤ cnt0) := by
        have h1 := J.out.2.2.2.2.1
        have h2 := C0.out.1
        have h3 := H.out.2.2.2.2.2
        have h4 := hlt.out
        unfold maxLen
        exact ⟨by omega, by omega, by omega⟩
      go_wp2_with
        (first
          | (at_builtin; refine wpList_append_all _ rfl (.tmp 22) (.tmp 24) 45 9 45 _ 1 16 rfl Tryz.underlying45 Tryz.info9c rfl w.heap.size (.slice (some ⟨g, 0, none⟩) kk c1) kk (strs L) rfl ((k0_alloc w5 _).owns J7.out.2.1 (fun _ _ z => z)) _ 1 (strs [ta]) rfl (src_str (heap_alloc_new w5 _)) BL.out.1 BL.out.2.1 (Nat.le_trans J7.out.2.2.1.size (k0_alloc w5 _).size) ?_; intro p9 c9 w9 ho hg hn)
          | fail)
      have O9 : w9.ownsRow w.heap.size 9 1 (.slice p9 (kk + 1) c9) (kk + 1) (strs (L ++ [ta])) := by
        rw [strs_app]
        exact ho.out
      have KG : Kept (fun k => k = g) w5 w9 := ((Kept.refl (fun k => k = g) w5).alloc _).grown hg.out (fun k _ z => by simp [Value.ownBlock] at z; exact z.symm)
      have eL : (L ++ [ta]).length = kk + 1 := by rw [List.length_append, HK.out]; rfl
      have R9 : RG 9 (fun s : ByteArray => Lit.string s.data.toList) (fun s : ByteArray => s.size ≤ maxLen) RV.val RR w9 rb rr n V (fun j => Lf j ∧ j ≠ ta) cnt5 := J7.out.1.kept KG (fun z => by have z : rb = g := z; have := H.out.2.2.2.2.1; have := GR.out.1; omega) (fun z => GR.out.2.1 z.symm)
      go_roundw
      case rel =>
        refine ⟨cnt5, p9, c9, L ++ [ta], _, by rw [eL], R9, J.out.2.1.more hk.out.2.1 (by rw [hk.out.2.2]; simp), by rw [eL]; exact O9, J7.out.2.2.1.trans KG (fun j hj z => ?_), by rw [eL]; exact BL.out.2.2, fun z => ?_, fun z => ?_⟩
        · have z : j = g := z
          have := GR.out.1
          omega
        · rcases hn.out with e | ⟨e, _⟩
          · rw [blockOf_own, blockOf_own, z] at e
            exact GR.out.2.1 (Option.some.inj e).symm
          · rw [blockOf_own, z] at e
            have e := Option.some.inj e
            have h1 := J7.out.2.2.2
            simp at e
            omega
        · rw [z] at O9
          rcases O9.2 with ⟨e0, _⟩ | ⟨_, _, _, e0, _⟩
          · simp at e0
          · simp at e0
      case measure =>
        rw [R9.left_eq, J.out.1.left_eq]
        exact hlt.out
end Go.Proofs.YtojepeefphbekaaGreat

namespace Go.Proofs.YtojepeefphbekaaGreat
open Go.RowKit 

/-- An entry as it is told: tag, finalized, has a fragment, the fragment. -/
abbrev Ev : Type := (Int × Int) × Bool × Bool × List Nat
abbrev Et : Type := (Int × Int) × Bool × Bool × Option Addr × Nat × Nat
/-- A told entry reads so. -/
structure EvRd (w : World) (e : Et) (v : Ev) : Prop where
  tag : e.1 = v.1
  fin : e.2.1 = v.2.1
  has : e.2.2.1 = v.2.2.1
  data : Reads w e.2.2.2.1 e.2.2.2.2.1 e.2.2.2.2.2 v.2.2.2
  blk : ∀ k, blockOf e.2.2.2.1 = some k → ∃ cs fr, w.heap[k]? = some (.cells cs 5 fr)
theorem EvRd.off {S : Nat → Prop} {w w' : World} {e : Et} {v : Ev} (h : EvRd w e v) (K : Kept S w w') (hn : ∀ k cs fr, w.heap[k]? = some (.cells cs 5 fr) → ¬ S k) : EvRd w' e v := by
  refine ⟨h.tag, h.fin, h.has, h.data.kept K (fun p hp => ?_), fun k hk => ?_⟩
  · obtain ⟨cs, fr, hc⟩ := h.blk p.block (by rw [hp]; rfl)
    exact hn _ _ _ hc
  · obtain ⟨cs, fr, hc⟩ := h.blk k hk
    exact ⟨cs, fr, K.get hc (hn _ _ _ hc)⟩
/-- Two lists go along. -/
def Along {α β : Type} (P : α → β → Prop) (A : List α) (B : List β) : Prop := A.length = B.length ∧ ∀ i (h1 : i < A.length) (h2 : i < B.length), P A[i] B[i]
theorem Along.nil {α β : Type} (P : α → β → Prop) : Along P [] [] := ⟨rfl, fun i h => by simp at h⟩
theorem Along.snoc {α β : Type} {P : α → β → Prop} {A : List α} {B : List β} (h : Along P A B) {a : α} {b : β} (hp : P a b) : Along P (A ++ [a]) (B ++ [b]) := by
  refine ⟨by rw [List.length_append, List.length_append, h.1]; rfl, fun i h1 h2 => ?_⟩
  by_cases hi : i < A.length
  · rw [List.getElem_append_left hi, List.getElem_append_left (by rw [← h.1]; exact hi)]
    exact h.2 i hi _
  · have e : i = A.length := by rw [List.length_append] at h1; simp at h1; omega
    subst e
    have e2 : B.length = A.length := h.1.symm
    rw [List.getElem_append_right (Nat.le_refl _)]
    rw [List.getElem_append_right (by omega)]
    simp only [e2, Nat.sub_self]
    exact hp
theorem Along.imp {α β : Type} {P Q : α → β → Prop} {A : List α} {B : List β} (h : Along P A B) (f : ∀ a b, P a b → Q a b) : Along Q A B := ⟨h.1, fun i h1 h2 => f _ _ (h.2 i h1 h2)⟩
/-- A list of entries reads so. -/
structure EntRd (w : World) (p : Option Addr) (n c : Nat) (es : List Ev) : Prop where
  len : es.length = n
  row : ∃ L : List Et, w.ownsRow 0 40 5 (.slice p n c) n (ecells L) ∧ Along (EvRd w) L es
theorem EntRd.off {S : Nat → Prop} {w w' : World} {p : Option Addr} {n c : Nat} {es : List Ev} (h : EntRd w p n c es) (K : Kept S w w') (hn : ∀ k cs t fr, (t = 5 ∨ t = 40) → w.heap[k]? = some (.cells cs t fr) → ¬ S k) : EntRd w' p n c es := by
  obtain ⟨L, ow, al⟩ := h.row
  refine ⟨h.len, L, K.owns ow (fun k hk => ?_), al.imp (fun a b q => q.off K (fun k cs fr hc => hn k cs 5 fr (.inl rfl) hc))⟩
  obtain ⟨cs, hc⟩ := own_type ow k (by rw [← blockOf_own p n c]; exact hk)
  exact hn k cs 40 _ (.inr rfl) hc
theorem EntRd.k0 {w w' : World} {p : Option Addr} {n c : Nat} {es : List Ev} (h : EntRd w p n c es) (K : Kept (fun _ => False) w w') : EntRd w' p n c es := h.off K (fun _ _ _ _ _ _ z => z)
/-- Just these entries, by rising tags. -/
structure EntsOf (M : Int × Int → Option Hd) (dat : Int × Int → List Nat) (es : List Ev) : Prop where
  up : es.Pairwise fun x y => tc x.1 y.1 < 0
  mem : ∀ v : Ev, v ∈ es ↔ ∃ hd, M v.1 = some hd ∧ v.2.1 = hd.fin ∧ v.2.2.1 = hd.has ∧ v.2.2.2 = dat v.1
def evOf (dat : Int × Int → List Nat) (e : Et) : Ev := (e.1, e.2.1, e.2.2.1, dat e.1)
theorem entsOf {M : Int × Int → Option Hd} {dat : Int × Int → List Nat} {L : List Et} (g : GE M (fun _ => False) L) (srt : L.Pairwise fun x y => ¬ tc y.1 x.1 < 0) : EntsOf M dat (L.map (evOf dat)) := by
  refine ⟨?_, fun v => ⟨fun h => ?_, fun ⟨hd, h1, h2, h3, h4⟩ => ?_⟩⟩
  · rw [List.pairwise_map]
    have n2 := List.pairwise_map.1 g.one
    refine (srt.and n2).imp (fun {x y} h => ?_)
    exact tc_total y.1 x.1 h.1 (fun e => h.2 e.symm)
  · obtain ⟨e, he, rfl⟩ := List.mem_map.1 h
    obtain ⟨_, hd, h1, h2, h3, _⟩ := g.each e he
    exact ⟨hd, h1, h2, h3, rfl⟩
  · rcases g.all v.1 hd h1 with z | ⟨e, he, h5⟩
    · exact z.elim
    · refine List.mem_map.2 ⟨e, he, ?_⟩
      obtain ⟨_, hd2, k1, k2, k3, _⟩ := g.each e he
      rw [h5, h1] at k1
      have := Option.some.inj k1
      subst this
      unfold evOf
      rw [h5, k2, k3]
      refine Prod.ext rfl (Prod.ext h2.symm (Prod.ext h3.symm h4.symm))
theorem entRd_of {w : World} {b0 : Nat} {p : Option Addr} {cp : Nat} {L : List Et} {dat : Int × Int → List Nat} (ow : w.ownsRow b0 40 5 (.slice p L.length cp) L.length (ecells L)) (eo : EOK w L dat) : EntRd w p L.length cp (L.map (evOf dat)) := by
  refine ⟨by rw [List.length_map], L, owns_mono ow (Nat.zero_le _), by rw [List.length_map], fun i h1 h2 => ?_⟩
  rw [List.getElem_map]
  obtain ⟨r, b⟩ := eo L[i] (List.getElem_mem _)
  exact ⟨rfl, rfl, rfl, r, fun k hk => by obtain ⟨cs, hc⟩ := b k hk; exact ⟨cs, _, hc⟩⟩
/-- A key with its entries. -/
abbrev Hl : Type := ByteArray × Option Addr × Nat × Nat
def encH (x : Hl) : List Value := [.string x.1, .slice x.2.1 x.2.2.1 x.2.2.2]
def hcells (l : List Hl) : List Value := l.flatMap encH
theorem hcells_cons (e : Hl) (l : List Hl) : hcells (e :: l) = encH e ++ hcells l := by simp [hcells]
theorem hcells_append (l m : List Hl) : hcells (l ++ m) = hcells l ++ hcells m := by simp [hcells]
theorem hcells_length (l : List Hl) : (hcells l).length = l.length * 2 := by
  induction l with
  | nil => rfl
  | cons t r ih => rw [hcells_cons, List.length_append, ih, List.length_cons]; show 2 + _ = _; omega
theorem hcells_get (l : List Hl) : ∀ i (h : i < l.length) j, j < 2 → (hcells l)[i * 2 + j]? = (encH l[i])[j]? := by
  induction l with
  | nil => intro i h; simp at h
  | cons t r ih =>
    intro i h j hj
    rw [hcells_cons]
    have e2 : (encH t).length = 2 := rfl
    cases i with
    | zero => rw [List.getElem?_append_left (by rw [e2]; omega)]; simp
    | succ i =>
      rw [List.getElem?_append_right (by rw [e2]; omega), e2, show (i + 1) * 2 + j - 2 = i * 2 + j by omega, ih i (by simpa using h) j hj]
      rfl
abbrev Av : Type := ByteArray × List Ev
structure HRd (w : World) (x : Hl) (v : Av) : Prop where
  key : x.1 = v.1
  ents : EntRd w x.2.1 x.2.2.1 x.2.2.2 v.2
theorem HRd.off {S : Nat → Prop} {w w' : World} {x : Hl} {v : Av} (h : HRd w x v) (K : Kept S w w') (hn : ∀ k cs t fr, (t = 5 ∨ t = 40) → w.heap[k]? = some (.cells cs t fr) → ¬ S k) : HRd w' x v := ⟨h.key, h.ents.off K hn⟩
/-- All entries of all keys read so. -/
structure AllRd (w : World) (p : Option Addr) (n c : Nat) (vs : List Av) : Prop where
  len : vs.length = n
  row : ∃ L : List Hl, w.ownsRow 0 35 2 (.slice p n c) n (hcells L) ∧ Along (HRd w) L vs
theorem AllRd.k0 {w w' : World} {p : Option Addr} {n c : Nat} {vs : List Av} (h : AllRd w p n c vs) (K : Kept (fun _ => False) w w') : AllRd w' p n c vs := by
  obtain ⟨L, ow, al⟩ := h.row
  exact ⟨h.len, L, K.owns ow (fun _ _ z => z), al.imp (fun a b q => q.off K (fun _ _ _ _ _ _ z => z))⟩
theorem Tryz.info35c : (Tryz.prog.info? 35).map (fun i => (i.zero, i.size, i.bytes)) = some (some (.agg #[.string (ByteArray.mk #[]), .slice none 0 0]), 2, 40) := by kernel_rfl
theorem src_held {w : World} {b : Nat} {e : Hl} (h : w.heap[b]? = some (.cells (encH e).toArray 35 (0, 0))) : Src Tryz.prog 2 31 (.slice (some ⟨b, 0, none⟩) 1 1) 1 (encH e) w :=
  Src.ofSlice w Tryz.underlying31 ⟨b, 0, none⟩ 1 1 (encH e) rfl (fun j u hj => by
    rw [Addr.add_none, Nat.zero_add, cell_of_row w b j _ 35 (0, 0) h]
    simpa using hj) (fun v hv => by simp [encH] at hv; rcases hv with rfl | rfl <;> rfl)
/-- What All tells of a table. -/
structure AllOf (t : TK) (dat : ByteArray → Int × Int → List Nat) (vs : List Av) : Prop where
  keys : KE t.rv (fun _ => False) (vs.map fun v => v.1)
  srt : SortedS (vs.map fun v => v.1)
  ents : ∀ v ∈ vs, EntsOf (TMp t v.1) (dat v.1) v.2
/-- All fragments, by key and tag. -/
def DatAll (w : World) (t : TK) (dat : ByteArray → Int × Int → List Nat) : Prop := ∀ k r, t.R k = some r → DataAt w r.M (dat k)
theorem DataAt.k0 {w w' : World} {M : Int × Int → Option Hd} {dat : Int × Int → List Nat} (h : DataAt w M dat) (K : Kept (fun _ => False) w w') : DataAt w' M dat := fun t hd hm => ⟨(h t hd hm).1.kept K (fun _ _ z => z), (h t hd hm).2⟩
theorem DatAll.k0 {w w' : World} {t : TK} {dat : ByteArray → Int × Int → List Nat} (h : DatAll w t dat) (K : Kept (fun _ => False) w w') : DatAll w' t dat := fun k r hr => (h k r hr).k0 K
/-- The round's state of All. -/
structure AS (w wr : World) (p : Option Addr) (i c : Nat) (t : TK) (dat : ByteArray → Int × Int → List Nat) (ks : List ByteArray) (vs : List Av) : Prop where
  row : ∃ L : List Hl, L.length = i ∧ wr.ownsRow w.heap.size 35 2 (.slice p i c) i (hcells L) ∧ Along (HRd wr) L vs
  keys : vs.map (fun v => v.1) = ks.take i
  ents : ∀ v ∈ vs, EntsOf (TMp t v.1) (dat v.1) v.2
  kept : Kept (fun _ => False) w wr
set_option maxRecDepth 100000 in
set_option maxHeartbeats 2000000 in
/-- All. -/
theorem tAll (nn : Nat) (t : TK) (dat : ByteArray → Int × Int → List Nat) (w : World) (h : IsT w nn t) (hd : DatAll w t dat) (hn : nn ≤ 4398046511104) : Calls Tryz.prog 11 #[.pointer (some ⟨t.tb, 0, none⟩)] w fun o w' => ∃ p n c vs, o = .returned (.slice p n c) ∧ Hid (AllRd w' p n c vs ∧ AllOf t dat vs ∧ Kept (fun _ => False) w w') := by
  have H : Hid (IsT w nn t ∧ DatAll w t dat ∧ nn ≤ 4398046511104) := ⟨h, hd, hn⟩
  obtain ⟨tb, htb⟩ : ∃ tb, tb = t.tb := ⟨_, rfl⟩
  have HT : Hid (tb = t.tb) := htb
  rw [← htb]
  clear h hd hn htb
  go_enter Tryz.func11, Tryz.ntmps11
  go_wp2_with fail
  rw [HT.out]
  refine (tKeys nn t w H.out.1 (by have := H.out.2.2; omega)).mono ?_
  rintro o w1 ⟨g, cp, ks, rfl, ke, srt, ow, ln, k1⟩
  have R : Hid (KE t.rv (fun _ => False) ks ∧ SortedS ks ∧ w1.ownsRow w.heap.size 9 1 (.slice (some ⟨g, 0, none⟩) ks.length cp) ks.length (strs ks) ∧ Kept (fun _ => False) w w1 ∧ ks.length ≤ nn) := ⟨ke, srt, ow, k1, ln⟩
  obtain ⟨m, hm⟩ : ∃ m, m = ks.length := ⟨_, rfl⟩
  have HM : Hid (m = ks.length ∧ m ≤ 4398046511104) := ⟨hm, by have := H.out.2.2; omega⟩
  have mb : m ≤ 4398046511104 := HM.out.2
  rw [← hm]
  have A0 : Hid (AS w1 w1 none 0 0 t dat ks []) := ⟨⟨[], rfl, ⟨rfl, .inl ⟨rfl, rfl⟩⟩, Along.nil _⟩, rfl, (fun _ h => by cases h), Kept.refl _ _⟩
  have cr : m ≤ cp := by rw [hm]; exact (own_room ow).1
  clear ke srt ow ln k1 hm
  rw [← HT.out]
  go_wp2_with fail
  (try go_frame)
  go_loopw [3, 9] (fun y z wr => ∃ (i c : Nat) (p : Option Addr) (vs : List Av), z = .int .i64 (i : Int) ∧ y = .slice p i c ∧ i ≤ m ∧ Hid (AS w1 wr p i c t dat ks vs)) (fun _ z _ => m - (intOf z).toNat)
  case atStart => exact ⟨0, 0, none, [], rfl, rfl, Nat.zero_le _, A0⟩
  case round =>
    obtain ⟨i, c, p, vs, rfl, rfl, hi, A⟩ := hrel
    clear A0
    by_cases hlt : i < m
    · obtain ⟨key, hk⟩ : ∃ key, ks[i]? = some key := ⟨ks[i]'(by rw [← HM.out.1]; exact hlt), List.getElem?_eq_getElem _⟩
      have d0 : wr.cell? ⟨g, i, none⟩ = some (.string key) := by
        have := R.out.2.2.1.cells (g := g) rfl i (.string key) (by unfold strs; rw [List.getElem?_map, hk]; rfl)
        rw [Addr.add_none, Nat.zero_add] at this
        exact A.out.kept.cell this (fun z => z)
      have hlt' : (i : Int) < (m : Int) := by omega
      have KM : Hid (ks[i]? = some key ∧ key.size ≤ maxLen) := by
        refine ⟨hk, ?_⟩
        obtain ⟨D, _, sD⟩ := H.out.1.rows
        have := (R.out.1.each key (List.mem_of_getElem? hk)).2
        cases hv : t.rv key with
        | none => exact absurd hv this
        | some e => exact sD.2 key e hv
      clear hk
      go_wp2_with fail
      rw [HT.out]
      have kw : Kept (fun _ => False) w wr := R.out.2.2.2.1.and0 A.out.kept
      refine (tEntries nn t key (dat key) wr (H.out.1.k0 kw) KM.out.2 (fun r hr => (H.out.2.1.k0 kw) key r hr) (by have := H.out.2.2; omega)).mono ?_
      rintro o w2 ⟨pe, ce, L, rfl, ge, srt, ow, k2, eo⟩
      have E2 : Hid (EntRd w2 pe L.length ce (L.map (evOf (dat key))) ∧ EntsOf (TMp t key) (dat key) (L.map (evOf (dat key))) ∧ Kept (fun _ => False) wr w2) := ⟨entRd_of ow eo, entsOf ge srt, k2⟩
      obtain ⟨nL, hnL⟩ : ∃ nL, nL = L.length := ⟨_, rfl⟩
      rw [← hnL] at E2 ⊢
      clear ge srt ow k2 eo kw hnL
      rw [← HT.out]
      obtain ⟨Lh, hl0, ow0, al0⟩ := A.out.row
      have AR : Hid (Lh.length = i ∧ w2.ownsRow w1.heap.size 35 2 (.slice p i c) i (hcells Lh) ∧ Along (HRd w2) Lh vs) := ⟨hl0, E2.out.2.2.owns ow0 (fun _ _ z => z), al0.imp (fun a b q => q.off E2.out.2.2 (fun _ _ _ _ _ _ z => z))⟩
      have BL : Hid (i + 1 ≤ maxLen ∧ ((i + 1) + (i + 1) / 4 + 192) * 40 ≤ 281474976710656) := by
        unfold maxLen
        exact ⟨by omega, by omega⟩
      have K12 : Hid (Kept (fun _ => False) w1 w2) := A.out.kept.and0 E2.out.2.2
      clear hl0 ow0 al0 d0
      go_wp2_with
        (first
          | (at_builtin; refine wpList_append_all _ rfl (.tmp 13) (.tmp 19) 31 35 31 _ 2 40 rfl Tryz.underlying31 Tryz.info35c rfl w1.heap.size (.slice p i c) i (hcells Lh) rfl ((k0_alloc w2 _).owns AR.out.2.1 (fun _ _ z => z)) _ 1 (encH (key, pe, nL, ce)) rfl (src_held (heap_alloc_new w2 _)) BL.out.1 BL.out.2 (Nat.le_trans K12.out.size (k0_alloc w2 _).size) ?_; intro p9 c9 w9 ho hg hn)
          | fail)
      have A9 : Hid (AS w1 w9 p9 (i + 1) c9 t dat ks (vs ++ [(key, L.map (evOf (dat key)))])) := by
        have KG : Kept (fun k => blockOf p = some k) w2 w9 := ((Kept.refl (fun k => blockOf p = some k) w2).alloc _).grown hg.out (fun k _ z => by rw [blockOf_own] at z; exact z)
        have ng : ∀ k cs t fr, (t = 5 ∨ t = 40) → w2.heap[k]? = some (.cells cs t fr) → ¬ blockOf p = some k := fun k cs t fr ht hc z => by
          obtain ⟨c2, h2⟩ := own_type AR.out.2.1 k z
          rcases ht with rfl | rfl <;> (rw [h2] at hc; simp at hc)
        refine ⟨⟨Lh ++ [(key, pe, nL, ce)], by rw [List.length_append, AR.out.1]; rfl, ?_, (AR.out.2.2.imp (fun a b q => q.off KG ng)).snoc ⟨rfl, E2.out.1.off KG ng⟩⟩, ?_, fun v hv => ?_, K12.out.trans KG (fun j hj z => ?_)⟩
        · rw [hcells_append]
          have e : hcells [(key, pe, nL, ce)] = encH (key, pe, nL, ce) := by simp [hcells]
          rw [e]
          exact ho.out
        · rw [List.map_append, A.out.keys, List.take_add_one, KM.out.1]
          rfl
        · rcases List.mem_append.1 hv with z | z
          · exact A.out.ents v z
          · rw [List.mem_singleton] at z
            subst z
            exact E2.out.2.1
        · have := (own_lt AR.out.2.1 j z).1
          omega
      clear ho hg hn A AR
      go_roundw
      case rel => exact ⟨i + 1, c9, p9, _, by go_num, rfl, by omega, A9⟩
      case measure => simp [intOf]; omega
    · have G : Hid (AllRd wr p i c vs ∧ AllOf t dat vs ∧ Kept (fun _ => False) w wr) := by
        obtain ⟨Lh, hl0, ow0, al0⟩ := A.out.row
        have ek : vs.map (fun v => v.1) = ks := by
          rw [A.out.keys]
          exact List.take_of_length_le (by rw [← HM.out.1]; omega)
        refine ⟨⟨by rw [← al0.1, hl0], Lh, owns_mono ow0 (Nat.zero_le _), al0⟩, ⟨by rw [ek]; exact R.out.1, by rw [ek]; exact R.out.2.1, A.out.ents⟩, R.out.2.2.2.1.and0 A.out.kept⟩
      clear A
      go_wp2_with fail
      go_ret
      exact ⟨p, i, c, vs, rfl, G⟩
end Go.Proofs.YtojepeefphbekaaGreat
