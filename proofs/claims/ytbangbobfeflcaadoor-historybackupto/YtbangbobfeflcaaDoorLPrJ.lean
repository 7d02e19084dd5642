import Derived.Test.YtbangbobfeflcaaDoorLTpJ
import Derived.Test.YtbangbobfeflcaaDoorLCtJ
namespace Go.Proofs.YtbangbobfeflcaaDoor
open Go.RowKit 

set_option maxRecDepth 100000 in
theorem hTagTextN (a b : Int) (hv : (kIsZero a b || kIsProper a b) = false) (w : World) : Calls Tryd.prog 35 #[.agg #[.int .i64 a, .int .i64 b]] w fun x w' => x = .returned (.string ⟨#[]⟩) ∧ Kept (fun _ => False) w w' := by
  have K0 : Hid (Kept (fun _ => False) w (w.alloc (Obj.cells #[.int .i64 a, .int .i64 b] 43))) := (Kept.refl _ _).alloc _
  have CV : Hid (∀ U, Calls Tryd.prog 46 #[.agg #[.int .i64 a, .int .i64 b]] U fun x w' => x = .returned (.bool false) ∧ Kept (fun _ => False) U w') := fun U => by
    have q := hValid a b U
    rw [hv] at q
    exact q
  clear hv
  go_enter Tryd.func35, Tryd.ntmps35
  go_wp2_with fail
  refine (CV.out _).mono ?_
  rintro x w1 ⟨rfl, K1⟩
  have K : Hid (Kept (fun _ => False) w w1) := K0.out.trans K1 (fun _ _ z => z)
  clear K1 CV K0
  go_wp2_with fail
  go_ret
  exact ⟨by first | rfl | simp, K.out⟩
/-- The text of any tag. -/
def tagA (a b : Int) : ByteArray := if (kIsZero a b || kIsProper a b) = true then tagB a b else ⟨#[]⟩
theorem hTagTextA (a b : Int) (w : World) (V : Tab w) : Calls Tryd.prog 35 #[.agg #[.int .i64 a, .int .i64 b]] w fun x w' => x = .returned (.string (tagA a b)) ∧ Kept (fun _ => False) w w' := by
  unfold tagA
  cases h : (kIsZero a b || kIsProper a b) with
  | true =>
    refine (hTagTextG a b h w V).mono ?_
    rintro o w1 ⟨rfl, B⟩
    exact ⟨rfl, kept_below B⟩
  | false =>
    refine (hTagTextN a b h w).mono ?_
    rintro o w1 ⟨rfl, K⟩
    exact ⟨rfl, K⟩
/-- What tag.Parse gives of any text: a tag. -/
def TagP (w : World) (o : Ending) (w' : World) : Prop := ∃ x y e : Int, o = .returned (.tuple #[.agg #[.int .i64 x, .int .i64 y], .int .i64 e]) ∧ Kept (fun _ => False) w w'
set_option maxRecDepth 100000 in
set_option maxHeartbeats 2000000 in
theorem hTagParseA (s : ByteArray) (hs : s.size ≤ 1000000000) (w : World) (V : Tab w) (E : EVs w) (gm : ∃ x, w.cell? ⟨1, 0, none⟩ = some (.int .i64 x)) : Calls Tryd.prog 43 #[.string s] w (TagP w) := by
  obtain ⟨a, hA⟩ : ∃ t, preB s 46 = t := ⟨_, rfl⟩
  obtain ⟨b, hB⟩ : ∃ t, sufB s 46 = t := ⟨_, rfl⟩
  have az : a.size ≤ 281474976710656 := by rw [← hA]; have := preB_size s 46; omega
  have bz : b.size ≤ 281474976710656 := by rw [← hB]; have := sufB_size s 46; omega
  obtain ⟨f, hf⟩ : ∃ f, (Lib.cut s.data.toList [46]).2.2 = f := ⟨_, rfl⟩
  have hcut := cutAtG s 46 (by omega)
  rw [hA, hB, hf] at hcut
  have CI : Hid (∀ U, EVs U → Calls Tryd.prog 54 #[.string a, .int .i64 10, .int .i64 64] U fun x w' => ∃ v i, x = .returned (.tuple #[.int .i64 v, i]) ∧ (i = .nilIface ∨ ∃ t q, i = .iface t (.pointer (some q))) ∧ Kept (fun _ => False) U w') := fun U h => by
    refine (parseAny a U az h).mono ?_
    rintro o w1 ⟨v, i, rfl, N, B⟩
    refine ⟨v, i, rfl, ?_, kept_below B⟩
    rcases N with ⟨_, _, _, q⟩ | ⟨_, q⟩
    · exact .inl q
    · exact .inr q
  have CA : Hid (∀ U, EVs U → Calls Tryd.prog 56 #[.string b] U fun x w' => ∃ v i, x = .returned (.tuple #[.int .i64 v, i]) ∧ (i = .nilIface ∨ ∃ t q, i = .iface t (.pointer (some q))) ∧ Kept (fun _ => False) U w') := fun U h => by
    refine (atoiAny b U bz h).mono ?_
    rintro o w1 ⟨v, i, rfl, N, B⟩
    refine ⟨v, i, rfl, ?_, kept_below B⟩
    rcases N with ⟨_, _, _, q⟩ | ⟨_, q⟩
    · exact .inl q
    · exact .inr q
  clear hA hB hf az bz hs
  have K0 : Hid (Kept (fun _ => False) w (w.alloc (Obj.cells #[.int .i64 0, .int .i64 0] 43))) := (Kept.refl _ _).alloc _
  have T0 : Hid ((w.alloc (Obj.cells #[.int .i64 0, .int .i64 0] 43)).heap[w.heap.size]? = some (.cells #[.int .i64 0, .int .i64 0] 43 (0, 0))) := alloc_new _ _
  obtain ⟨x, hx⟩ := gm
  have C1 : Hid (Calls Tryd.prog 18 #[.string s, .string ⟨#[46]⟩] (w.alloc (Obj.cells #[.int .i64 0, .int .i64 0] 43)) fun o w' => o = .returned (.tuple #[.string a, .string b, .bool f]) ∧ ∃ n, w' = (w.alloc (Obj.cells #[.int .i64 0, .int .i64 0] 43)).drewN n) := hCut hcut (K0.out.cell hx (fun z => z))
  have HV : Hid (Tab w ∧ EVs w) := ⟨V, E⟩
  clear hx V E hcut
  go_enter Tryd.func43, Tryd.ntmps43
  go_wp2_with fail
  refine C1.out.mono ?_
  rintro o w1 ⟨rfl, n, hw1⟩
  have K1 : Hid (Kept (fun _ => False) w w1) := by rw [hw1]; exact K0.out.drewN n
  have T1 : Hid (w1.heap[w.heap.size]? = some (.cells #[.int .i64 0, .int .i64 0] 43 (0, 0))) := by rw [hw1]; exact T0.out
  clear hw1 C1 K0 T0
  go_wp2_with fail
  refine (CI.out w1 (HV.out.2.by (below_of K1.out))).mono ?_
  rintro o w2 ⟨X, i1, rfl, hi1, J2⟩
  have K2 : Hid (Kept (fun _ => False) w w2) := K1.out.trans J2 (fun _ _ z => z)
  have T2 : Hid (w2.heap[w.heap.size]? = some (.cells #[.int .i64 0, .int .i64 0] 43 (0, 0))) := J2.get T1.out (fun z => z)
  clear CI J2 K1 T1
  rcases hi1 with rfl | ⟨t1, q1, rfl⟩
  · go_wp2_with fail
    refine (CA.out w2 (HV.out.2.by (below_of K2.out))).mono ?_
    rintro o w3 ⟨Y, i2, rfl, hi2, J3⟩
    have K3 : Hid (Kept (fun _ => False) w w3) := K2.out.trans J3 (fun _ _ z => z)
    have T3 : Hid (w3.heap[w.heap.size]? = some (.cells #[.int .i64 0, .int .i64 0] 43 (0, 0))) := J3.get T2.out (fun z => z)
    clear J3 K2 T2 CA
    rcases hi2 with rfl | ⟨t2, q2, rfl⟩
    · go_wp2_with fail
      have KA : Hid (Kept (fun _ => False) w3 (w3.alloc (Obj.cells #[.int .i64 X, .int .i64 Y] 43))) := (Kept.refl _ _).alloc _
      refine (hTagTextA X Y _ (HV.out.1.kept (K3.out.trans KA.out (fun _ _ z => z)))).mono ?_
      obtain ⟨tt, htt⟩ : ∃ tt, tagA X Y = tt := ⟨_, rfl⟩
      rw [htt]
      clear htt
      rintro o w4 ⟨rfl, J4⟩
      have K4 : Hid (Kept (fun _ => False) w w4) := (K3.out.trans KA.out (fun _ _ z => z)).trans J4 (fun _ _ z => z)
      have T4 : Hid (w4.heap[w.heap.size]? = some (.cells #[.int .i64 0, .int .i64 0] 43 (0, 0))) := J4.get (KA.out.get T3.out (fun z => z)) (fun z => z)
      have U4 : Hid (w4.heap[w3.heap.size]? = some (.cells #[.int .i64 X, .int .i64 Y] 43 (0, 0))) := J4.get (alloc_new _ _) (fun z => z)
      clear J4 KA K3 T3
      by_cases hts : tt = s
      · subst hts
        have c0 := cell_blk U4.out 0 (v := .int .i64 X) rfl
        have c1 := cell_blk U4.out 1 (v := .int .i64 Y) rfl
        have d0 := cell_blk T4.out 0 (v := .int .i64 0) rfl
        have d1 := cell_blk T4.out 1 (v := .int .i64 0) rfl
        have s0 := soft_blk T4.out 0
        have s1 := soft_blk T4.out 1
        go_wp2_with fail
        have G : ((w4.setCell ⟨w.heap.size, 0, none⟩ (.int .i64 X)).setCell ⟨w.heap.size, 1, none⟩ (.int .i64 Y)).heap[w.heap.size]? = some (.cells #[.int .i64 X, .int .i64 Y] 43 (0, 0)) := by
          have a := set_heap T4.out 0 (.int .i64 X)
          have b := set_heap a 1 (.int .i64 Y)
          exact b
        refine bodyPost_ret (results_tag_tmp rfl _ _ w.heap.size X Y rfl G) rfl ⟨X, Y, 0, rfl, ?_⟩
        exact (K4.out.setCell (p := ⟨w.heap.size, 0, none⟩) (fun z => absurd z (Nat.lt_irrefl _)) _).setCell (p := ⟨w.heap.size, 1, none⟩) (fun z => absurd z (Nat.lt_irrefl _)) _
      · have nt := tl_ne hts
        rw [← Go.ByteArray.toList_eq] at nt
        have nt2 : ¬ tt.toList = s.toList := beq_eq_false_iff_ne.1 nt
        clear hts
        have d0 := cell_blk T4.out 0 (v := .int .i64 0) rfl
        have d1 := cell_blk T4.out 1 (v := .int .i64 0) rfl
        have s0 := soft_blk T4.out 0
        have s1 := soft_blk T4.out 1
        go_wp2_with fail
        have G : ((w4.setCell ⟨w.heap.size, 0, none⟩ (.int .i64 0)).setCell ⟨w.heap.size, 1, none⟩ (.int .i64 0)).heap[w.heap.size]? = some (.cells #[.int .i64 0, .int .i64 0] 43 (0, 0)) := by
          have a := set_heap T4.out 0 (.int .i64 0)
          have b := set_heap a 1 (.int .i64 0)
          exact b
        refine bodyPost_ret (results_tag_tmp rfl _ _ w.heap.size 0 0 rfl G) rfl ⟨0, 0, 31, rfl, ?_⟩
        exact (K4.out.setCell (p := ⟨w.heap.size, 0, none⟩) (fun z => absurd z (Nat.lt_irrefl _)) _).setCell (p := ⟨w.heap.size, 1, none⟩) (fun z => absurd z (Nat.lt_irrefl _)) _
    · have d0 := cell_blk T3.out 0 (v := .int .i64 0) rfl
      have d1 := cell_blk T3.out 1 (v := .int .i64 0) rfl
      have s0 := soft_blk T3.out 0
      have s1 := soft_blk T3.out 1
      go_wp2_with fail
      have G : ((w3.setCell ⟨w.heap.size, 0, none⟩ (.int .i64 0)).setCell ⟨w.heap.size, 1, none⟩ (.int .i64 0)).heap[w.heap.size]? = some (.cells #[.int .i64 0, .int .i64 0] 43 (0, 0)) := by
        have a := set_heap T3.out 0 (.int .i64 0)
        have b := set_heap a 1 (.int .i64 0)
        exact b
      refine bodyPost_ret (results_tag_tmp rfl _ _ w.heap.size 0 0 rfl G) rfl ⟨0, 0, 31, rfl, ?_⟩
      exact (K3.out.setCell (p := ⟨w.heap.size, 0, none⟩) (fun z => absurd z (Nat.lt_irrefl _)) _).setCell (p := ⟨w.heap.size, 1, none⟩) (fun z => absurd z (Nat.lt_irrefl _)) _
  · have d0 := cell_blk T2.out 0 (v := .int .i64 0) rfl
    have d1 := cell_blk T2.out 1 (v := .int .i64 0) rfl
    have s0 := soft_blk T2.out 0
    have s1 := soft_blk T2.out 1
    go_wp2_with fail
    have G : ((w2.setCell ⟨w.heap.size, 0, none⟩ (.int .i64 0)).setCell ⟨w.heap.size, 1, none⟩ (.int .i64 0)).heap[w.heap.size]? = some (.cells #[.int .i64 0, .int .i64 0] 43 (0, 0)) := by
      have a := set_heap T2.out 0 (.int .i64 0)
      have b := set_heap a 1 (.int .i64 0)
      exact b
    refine bodyPost_ret (results_tag_tmp rfl _ _ w.heap.size 0 0 rfl G) rfl ⟨0, 0, 31, rfl, ?_⟩
    exact (K2.out.setCell (p := ⟨w.heap.size, 0, none⟩) (fun z => absurd z (Nat.lt_irrefl _)) _).setCell (p := ⟨w.heap.size, 1, none⟩) (fun z => absurd z (Nat.lt_irrefl _)) _
end Go.Proofs.YtbangbobfeflcaaDoor

namespace Go.Proofs.YtbangbobfeflcaaDoor
open Go.RowKit 

theorem hxd_ne (n : Nat) (h : n < 16) : hxd n ≠ 34 := by
  obtain rfl | rfl | rfl | rfl | rfl | rfl | rfl | rfl | rfl | rfl | rfl | rfl | rfl | rfl | rfl | rfl : n = 0 ∨ n = 1 ∨ n = 2 ∨ n = 3 ∨ n = 4 ∨ n = 5 ∨ n = 6 ∨ n = 7 ∨ n = 8 ∨ n = 9 ∨ n = 10 ∨ n = 11 ∨ n = 12 ∨ n = 13 ∨ n = 14 ∨ n = 15 := by omega
  all_goals decide
theorem escN_ne {c : Nat} (h : c < 256) : ∀ x ∈ escN c, x ≠ 34 := fun x hx => by
  unfold escN at hx
  split at hx
  · next hp =>
    rw [List.mem_singleton.1 hx]
    rintro rfl
    exact absurd hp (by decide)
  · have h1 := hxd_ne (c / 16) (by omega)
    have h2 := hxd_ne (c % 16) (by omega)
    simp at hx
    rcases hx with rfl | rfl | rfl | rfl
    · decide
    · decide
    · exact h1
    · exact h2
theorem escL_ne : ∀ {l : List Nat}, (∀ c ∈ l, c < 256) → ∀ x ∈ escL l, x ≠ 34
  | [], _, x, hx => by cases hx
  | c :: r, h, x, hx => by
    have hx : x ∈ escN c ++ escL r := hx
    rcases List.mem_append.1 hx with z | z
    · exact escN_ne (h c List.mem_cons_self) x z
    · exact escL_ne (fun y hy => h y (List.mem_cons_of_mem _ hy)) x z
/-- The written bytes, between the marks. -/
def eU (l : List Nat) : List UInt8 := (escL l).map UInt8.ofNat
theorem eU_no {l : List Nat} (h : ∀ c ∈ l, c < 256) : (34 : UInt8) ∉ eU l := fun z => by
  obtain ⟨x, hx, e⟩ := List.mem_map.1 z
  have x1 := escL_lt h x hx
  have x2 := escL_ne h x hx
  have q : (UInt8.ofNat x).toNat = 34 := by rw [e]; rfl
  rw [UInt8.toNat_ofNat'] at q
  omega
theorem quoB_list (s : ByteArray) : (quoB s).data.toList = 34 :: (eU (bl s) ++ [34]) := by
  show ((quoN (bl s)).map UInt8.ofNat).toArray.toList = _
  unfold quoN eU
  simp
theorem pre_of {s : ByteArray} {m : UInt8} {x y : List UInt8} (e : s.data.toList = x ++ m :: y) (h : m ∉ x) : preB s m = ⟨x.toArray⟩ ∧ sufB s m = ⟨y.toArray⟩ := by
  unfold preB sufB
  rw [e, cut_hit x y m h]
  exact ⟨rfl, rfl⟩
theorem pre_all {s : ByteArray} {m : UInt8} (h : m ∉ s.data.toList) : preB s m = s ∧ sufB s m = ⟨#[]⟩ := by
  unfold preB sufB
  rw [cut_miss _ m h]
  exact ⟨by simp, rfl⟩
theorem ba_back (s : ByteArray) : (⟨s.data.toList.toArray⟩ : ByteArray) = s := by simp
theorem joinB_one (a : ByteArray) : joinB [a] = a := by
  unfold joinB
  show (⟨(Lib.join [a.data.toList] [32]).toArray⟩ : ByteArray) = a
  rw [show Lib.join [a.data.toList] [32] = a.data.toList by simp [Lib.join]]
theorem joinB_list (a b : ByteArray) (r : List ByteArray) : (joinB (a :: b :: r)).data.toList = a.data.toList ++ 32 :: (joinB (b :: r)).data.toList := by
  unfold joinB
  simp [Lib.join]
/-- A word, and what is left behind it. -/
theorem word_join {a : ByteArray} (b : ByteArray) (r : List ByteArray) (h : (32 : UInt8) ∉ a.data.toList) : preB (joinB (a :: b :: r)) 32 = a ∧ sufB (joinB (a :: b :: r)) 32 = joinB (b :: r) := by
  have q := pre_of (joinB_list a b r) h
  rw [ba_back, ba_back] at q
  exact q
theorem word_one {a : ByteArray} (h : (32 : UInt8) ∉ a.data.toList) : preB (joinB [a]) 32 = a ∧ sufB (joinB [a]) 32 = ⟨#[]⟩ := by
  rw [joinB_one]
  exact pre_all h
theorem bl_of (x : List Nat) (h : ∀ c ∈ x, c < 256) : bl ⟨(x.map UInt8.ofNat).toArray⟩ = x := bl_str h
theorem unq_eU {l : List Nat} (h : ∀ c ∈ l, c < 256) : unqF (⟨(eU l).toArray⟩ : ByteArray).size (bl ⟨(eU l).toArray⟩) = l := by
  have e : bl ⟨(eU l).toArray⟩ = escL l := bl_of (escL l) (escL_lt h)
  rw [← bl_len, e]
  exact unqF_esc l h _ (Nat.le_refl _)
theorem bytes_at {s u : ByteArray} {y : List UInt8} (e : u.data.toList = (quoB s).data.toList ++ y) : bytB u = bl s ∧ byrB u = sufB ⟨y.toArray⟩ 32 := by
  have hl := bl_lt s
  rw [quoB_list] at e
  have q1 := pre_of (s := u) (m := 34) (x := []) (y := eU (bl s) ++ 34 :: y) (by rw [e]; simp) (by simp)
  have q2 := pre_of (s := ⟨(eU (bl s) ++ 34 :: y).toArray⟩) (m := 34) (x := eU (bl s)) (y := y) rfl (eU_no hl)
  unfold bytB byrB txtB
  rw [q1.2, q2.1, q2.2]
  exact ⟨unq_eU hl, rfl⟩
theorem bytes_join (s b : ByteArray) (r : List ByteArray) : bytB (joinB (quoB s :: b :: r)) = bl s ∧ byrB (joinB (quoB s :: b :: r)) = joinB (b :: r) := by
  have q := bytes_at (joinB_list (quoB s) b r)
  refine ⟨q.1, q.2.trans ?_⟩
  have p := pre_of (s := ⟨(32 :: (joinB (b :: r)).data.toList).toArray⟩) (m := 32) (x := []) (y := (joinB (b :: r)).data.toList) rfl (by simp)
  rw [p.2, ba_back]
theorem bytes_one (s : ByteArray) : bytB (joinB [quoB s]) = bl s ∧ byrB (joinB [quoB s]) = ⟨#[]⟩ := by
  rw [joinB_one]
  have q := bytes_at (s := s) (u := quoB s) (y := []) (by simp)
  exact ⟨q.1, q.2.trans (pre_all (by simp)).2⟩
theorem kw_no (k : Nat) : (32 : UInt8) ∉ (kwB k).data.toList := by
  unfold kwB
  split
  · decide
  · split <;> decide
theorem it_no (v : Int) : (32 : UInt8) ∉ (itB v).data.toList := by rw [itB_list]; exact itoa_no v 32 (by decide)
theorem end_no (st : Int) : (32 : UInt8) ∉ (endB st).data.toList := by
  unfold endB
  split
  · decide
  · split
    · decide
    · split <;> decide
theorem tag_no (a b : Int) : (32 : UInt8) ∉ (tagB a b).data.toList := by
  rw [tagB_list]
  intro z
  rcases List.mem_append.1 z with z | z
  · exact itoa_no a 32 (by decide) z
  · rcases List.mem_cons.1 z with z | z
    · exact absurd z (by decide)
    · exact itoa_no b 32 (by decide) z
end Go.Proofs.YtbangbobfeflcaaDoor
