import Derived.Test.YtbangbobfeflcaaGreatDoorLTpJ
import Derived.Test.YtbangbobfeflcaaGreatDoorLCtJ
import Derived.Test.YtbangbobfeflcaaGreatDoorHTkJ
namespace Go.Proofs.YtbangbobfeflcaaGreatDoor
open Go.RowKit 

set_option maxRecDepth 100000 in
theorem hTagTextN (a b : Int) (hv : (kIsZero a b || kIsProper a b) = false) (w : World) : Calls Tryz.prog 64 #[.agg #[.int .i64 a, .int .i64 b]] w fun x w' => x = .returned (.string ⟨#[]⟩) ∧ Kept (fun _ => False) w w' := by
  have K0 : Hid (Kept (fun _ => False) w (w.alloc (Obj.cells #[.int .i64 a, .int .i64 b] 37))) := (Kept.refl _ _).alloc _
  have CV : Hid (∀ U, Calls Tryz.prog 88 #[.agg #[.int .i64 a, .int .i64 b]] U fun x w' => x = .returned (.bool false) ∧ Kept (fun _ => False) U w') := fun U => by
    have q := hValid a b U
    rw [hv] at q
    exact q
  clear hv
  go_enter Tryz.func64, Tryz.ntmps64
  go_wp2_with fail
  refine (CV.out _).mono ?_
  rintro x w1 ⟨rfl, K1⟩
  have K : Hid (Kept (fun _ => False) w w1) := K0.out.trans K1 (fun _ _ z => z)
  clear K1 CV K0
  go_wp2_with fail
  go_ret
  exact ⟨by first | rfl | simp, K.out⟩
/-- The text of any tag. -/
def tagA (a b : Int) : ByteArray := if (kIsZero a b || kIsProper a b) = true then tagB a b else ⟨#[]⟩
theorem hTagTextA (a b : Int) (w : World) (V : Tab w) : Calls Tryz.prog 64 #[.agg #[.int .i64 a, .int .i64 b]] w fun x w' => x = .returned (.string (tagA a b)) ∧ Kept (fun _ => False) w w' := by
  unfold tagA
  cases h : (kIsZero a b || kIsProper a b) with
  | true =>
    refine (hTagTextG a b h w V).mono ?_
    rintro o w1 ⟨rfl, B⟩
    exact ⟨rfl, kept_below B⟩
  | false =>
    refine (hTagTextN a b h w).mono ?_
    rintro o w1 ⟨rfl, K⟩
    exact ⟨rfl, K⟩
/-- What tag.Parse gives of any text: a tag. -/
def TagP (w : World) (o : Ending) (w' : World) : Prop := ∃ x y e : Int, o = .returned (.tuple #[.agg #[.int .i64 x, .int .i64 y], .int .i64 e]) ∧ Kept (fun _ => False) w w'
set_option maxRecDepth 100000 in
set_option maxHeartbeats 2000000 in
theorem hTagParseA (s : ByteArray) (hs : s.size ≤ 1000000000) (w : World) (V : Tab w) (E : EVs w) (gm : ∃ x, w.cell? ⟨1, 0, none⟩ = some (.int .i64 x)) : Calls Tryz.prog 56 #[.string s] w (TagP w) := by
  obtain ⟨a, hA⟩ : ∃ t, preB s 46 = t := ⟨_, rfl⟩
  obtain ⟨b, hB⟩ : ∃ t, sufB s 46 = t := ⟨_, rfl⟩
  have az : a.size ≤ 281474976710656 := by rw [← hA]; have := preB_size s 46; omega
  have bz : b.size ≤ 281474976710656 := by rw [← hB]; have := sufB_size s 46; omega
  obtain ⟨f, hf⟩ : ∃ f, (Lib.cut s.data.toList [46]).2.2 = f := ⟨_, rfl⟩
  have hcut := cutAtG s 46 (by omega)
  rw [hA, hB, hf] at hcut
  have CI : Hid (∀ U, EVs U → Calls Tryz.prog 83 #[.string a, .int .i64 10, .int .i64 64] U fun x w' => ∃ v i, x = .returned (.tuple #[.int .i64 v, i]) ∧ (i = .nilIface ∨ ∃ t q, i = .iface t (.pointer (some q))) ∧ Kept (fun _ => False) U w') := fun U h => by
    refine (parseAny a U az h).mono ?_
    rintro o w1 ⟨v, i, rfl, N, B⟩
    refine ⟨v, i, rfl, ?_, kept_below B⟩
    rcases N with ⟨_, _, _, q⟩ | ⟨_, q⟩
    · exact .inl q
    · exact .inr q
  have CA : Hid (∀ U, EVs U → Calls Tryz.prog 86 #[.string b] U fun x w' => ∃ v i, x = .returned (.tuple #[.int .i64 v, i]) ∧ (i = .nilIface ∨ ∃ t q, i = .iface t (.pointer (some q))) ∧ Kept (fun _ => False) U w') := fun U h => by
    refine (atoiAny b U bz h).mono ?_
    rintro o w1 ⟨v, i, rfl, N, B⟩
    refine ⟨v, i, rfl, ?_, kept_below B⟩
    rcases N with ⟨_, _, _, q⟩ | ⟨_, q⟩
    · exact .inl q
    · exact .inr q
  clear hA hB hf az bz hs
  have K0 : Hid (Kept (fun _ => False) w (w.alloc (Obj.cells #[.int .i64 0, .int .i64 0] 37))) := (Kept.refl _ _).alloc _
  have T0 : Hid ((w.alloc (Obj.cells #[.int .i64 0, .int .i64 0] 37)).heap[w.heap.size]? = some (.cells #[.int .i64 0, .int .i64 0] 37 (0, 0))) := alloc_new _ _
  obtain ⟨x, hx⟩ := gm
  have C1 : Hid (Calls Tryz.prog 29 #[.string s, .string ⟨#[46]⟩] (w.alloc (Obj.cells #[.int .i64 0, .int .i64 0] 37)) fun o w' => o = .returned (.tuple #[.string a, .string b, .bool f]) ∧ ∃ n, w' = (w.alloc (Obj.cells #[.int .i64 0, .int .i64 0] 37)).drewN n) := hCut hcut (K0.out.cell hx (fun z => z))
  have HV : Hid (Tab w ∧ EVs w) := ⟨V, E⟩
  clear hx V E hcut
  go_enter Tryz.func56, Tryz.ntmps56
  go_wp2_with fail
  refine C1.out.mono ?_
  rintro o w1 ⟨rfl, n, hw1⟩
  have K1 : Hid (Kept (fun _ => False) w w1) := by rw [hw1]; exact K0.out.drewN n
  have T1 : Hid (w1.heap[w.heap.size]? = some (.cells #[.int .i64 0, .int .i64 0] 37 (0, 0))) := by rw [hw1]; exact T0.out
  clear hw1 C1 K0 T0
  go_wp2_with fail
  refine (CI.out w1 (HV.out.2.by (below_of K1.out))).mono ?_
  rintro o w2 ⟨X, i1, rfl, hi1, J2⟩
  have K2 : Hid (Kept (fun _ => False) w w2) := K1.out.trans J2 (fun _ _ z => z)
  have T2 : Hid (w2.heap[w.heap.size]? = some (.cells #[.int .i64 0, .int .i64 0] 37 (0, 0))) := J2.get T1.out (fun z => z)
  clear CI J2 K1 T1
  rcases hi1 with rfl | ⟨t1, q1, rfl⟩
  · go_wp2_with fail
    refine (CA.out w2 (HV.out.2.by (below_of K2.out))).mono ?_
    rintro o w3 ⟨Y, i2, rfl, hi2, J3⟩
    have K3 : Hid (Kept (fun _ => False) w w3) := K2.out.trans J3 (fun _ _ z => z)
    have T3 : Hid (w3.heap[w.heap.size]? = some (.cells #[.int .i64 0, .int .i64 0] 37 (0, 0))) := J3.get T2.out (fun z => z)
    clear J3 K2 T2 CA
    rcases hi2 with rfl | ⟨t2, q2, rfl⟩
    · go_wp2_with fail
      have KA : Hid (Kept (fun _ => False) w3 (w3.alloc (Obj.cells #[.int .i64 X, .int .i64 Y] 37))) := (Kept.refl _ _).alloc _
      refine (hTagTextA X Y _ (HV.out.1.kept (K3.out.trans KA.out (fun _ _ z => z)))).mono ?_
      obtain ⟨tt, htt⟩ : ∃ tt, tagA X Y = tt := ⟨_, rfl⟩
      rw [htt]
      clear htt
      rintro o w4 ⟨rfl, J4⟩
      have K4 : Hid (Kept (fun _ => False) w w4) := (K3.out.trans KA.out (fun _ _ z => z)).trans J4 (fun _ _ z => z)
      have T4 : Hid (w4.heap[w.heap.size]? = some (.cells #[.int .i64 0, .int .i64 0] 37 (0, 0))) := J4.get (KA.out.get T3.out (fun z => z)) (fun z => z)
      have U4 : Hid (w4.heap[w3.heap.size]? = some (.cells #[.int .i64 X, .int .i64 Y] 37 (0, 0))) := J4.get (alloc_new _ _) (fun z => z)
      clear J4 KA K3 T3
      by_cases hts : tt = s
      · subst hts
        have c0 := cell_blk U4.out 0 (v := .int .i64 X) rfl
        have c1 := cell_blk U4.out 1 (v := .int .i64 Y) rfl
        have d0 := cell_blk T4.out 0 (v := .int .i64 0) rfl
        have d1 := cell_blk T4.out 1 (v := .int .i64 0) rfl
        have s0 := soft_blk T4.out 0
        have s1 := soft_blk T4.out 1
        go_wp2_with fail
        have G : ((w4.setCell ⟨w.heap.size, 0, none⟩ (.int .i64 X)).setCell ⟨w.heap.size, 1, none⟩ (.int .i64 Y)).heap[w.heap.size]? = some (.cells #[.int .i64 X, .int .i64 Y] 37 (0, 0)) := by
          have a := set_heap T4.out 0 (.int .i64 X)
          have b := set_heap a 1 (.int .i64 Y)
          exact b
        refine bodyPost_ret (results_tag_tmp rfl _ _ w.heap.size X Y rfl G) rfl ⟨X, Y, 0, rfl, ?_⟩
        exact (K4.out.setCell (p := ⟨w.heap.size, 0, none⟩) (fun z => absurd z (Nat.lt_irrefl _)) _).setCell (p := ⟨w.heap.size, 1, none⟩) (fun z => absurd z (Nat.lt_irrefl _)) _
      · have nt := tl_ne hts
        rw [← Go.ByteArray.toList_eq] at nt
        have nt2 : ¬ tt.toList = s.toList := beq_eq_false_iff_ne.1 nt
        clear hts
        have d0 := cell_blk T4.out 0 (v := .int .i64 0) rfl
        have d1 := cell_blk T4.out 1 (v := .int .i64 0) rfl
        have s0 := soft_blk T4.out 0
        have s1 := soft_blk T4.out 1
        go_wp2_with fail
        have G : ((w4.setCell ⟨w.heap.size, 0, none⟩ (.int .i64 0)).setCell ⟨w.heap.size, 1, none⟩ (.int .i64 0)).heap[w.heap.size]? = some (.cells #[.int .i64 0, .int .i64 0] 37 (0, 0)) := by
          have a := set_heap T4.out 0 (.int .i64 0)
          have b := set_heap a 1 (.int .i64 0)
          exact b
        refine bodyPost_ret (results_tag_tmp rfl _ _ w.heap.size 0 0 rfl G) rfl ⟨0, 0, 31, rfl, ?_⟩
        exact (K4.out.setCell (p := ⟨w.heap.size, 0, none⟩) (fun z => absurd z (Nat.lt_irrefl _)) _).setCell (p := ⟨w.heap.size, 1, none⟩) (fun z => absurd z (Nat.lt_irrefl _)) _
    · have d0 := cell_blk T3.out 0 (v := .int .i64 0) rfl
      have d1 := cell_blk T3.out 1 (v := .int .i64 0) rfl
      have s0 := soft_blk T3.out 0
      have s1 := soft_blk T3.out 1
      go_wp2_with fail
      have G : ((w3.setCell ⟨w.heap.size, 0, none⟩ (.int .i64 0)).setCell ⟨w.heap.size, 1, none⟩ (.int .i64 0)).heap[w.heap.size]? = some (.cells #[.int .i64 0, .int .i64 0] 37 (0, 0)) := by
        have a := set_heap T3.out 0 (.int .i64 0)
        have b := set_heap a 1 (.int .i64 0)
        exact b
      refine bodyPost_ret (results_tag_tmp rfl _ _ w.heap.size 0 0 rfl G) rfl ⟨0, 0, 31, rfl, ?_⟩
      exact (K3.out.setCell (p := ⟨w.heap.size, 0, none⟩) (fun z => absurd z (Nat.lt_irrefl _)) _).setCell (p := ⟨w.heap.size, 1, none⟩) (fun z => absurd z (Nat.lt_irrefl _)) _
  · have d0 := cell_blk T2.out 0 (v := .int .i64 0) rfl
    have d1 := cell_blk T2.out 1 (v := .int .i64 0) rfl
    have s0 := soft_blk T2.out 0
    have s1 := soft_blk T2.out 1
    go_wp2_with fail
    have G : ((w2.setCell ⟨w.heap.size, 0, none⟩ (.int .i64 0)).setCell ⟨w.heap.size, 1, none⟩ (.int .i64 0)).heap[w.heap.size]? = some (.cells #[.int .i64 0, .int .i64 0] 37 (0, 0)) := by
      have a := set_heap T2.out 0 (.int .i64 0)
      have b := set_heap a 1 (.int .i64 0)
      exact b
    refine bodyPost_ret (results_tag_tmp rfl _ _ w.heap.size 0 0 rfl G) rfl ⟨0, 0, 31, rfl, ?_⟩
    exact (K2.out.setCell (p := ⟨w.heap.size, 0, none⟩) (fun z => absurd z (Nat.lt_irrefl _)) _).setCell (p := ⟨w.heap.size, 1, none⟩) (fun z => absurd z (Nat.lt_irrefl _)) _
end Go.Proofs.YtbangbobfeflcaaGreatDoor

namespace Go.Proofs.YtbangbobfeflcaaGreatDoor
open Go.RowKit 

theorem hxd_ne (n : Nat) (h : n < 16) : hxd n ≠ 34 := by
  obtain rfl | rfl | rfl | rfl | rfl | rfl | rfl | rfl | rfl | rfl | rfl | rfl | rfl | rfl | rfl | rfl : n = 0 ∨ n = 1 ∨ n = 2 ∨ n = 3 ∨ n = 4 ∨ n = 5 ∨ n = 6 ∨ n = 7 ∨ n = 8 ∨ n = 9 ∨ n = 10 ∨ n = 11 ∨ n = 12 ∨ n = 13 ∨ n = 14 ∨ n = 15 := by omega
  all_goals decide
theorem escN_ne {c : Nat} (h : c < 256) : ∀ x ∈ escN c, x ≠ 34 := fun x hx => by
  unfold escN at hx
  split at hx
  · next hp =>
    rw [List.mem_singleton.1 hx]
    rintro rfl
    exact absurd hp (by decide)
  · have h1 := hxd_ne (c / 16) (by omega)
    have h2 := hxd_ne (c % 16) (by omega)
    simp at hx
    rcases hx with rfl | rfl | rfl | rfl
    · decide
    · decide
    · exact h1
    · exact h2
theorem escL_ne : ∀ {l : List Nat}, (∀ c ∈ l, c < 256) → ∀ x ∈ escL l, x ≠ 34
  | [], _, x, hx => by cases hx
  | c :: r, h, x, hx => by
    have hx : x ∈ escN c ++ escL r := hx
    rcases List.mem_append.1 hx with z | z
    · exact escN_ne (h c List.mem_cons_self) x z
    · exact escL_ne (fun y hy => h y (List.mem_cons_of_mem _ hy)) x z
/-- The written bytes, between the marks. -/
def eU (l : List Nat) : List UInt8 := (escL l).map UInt8.ofNat
theorem eU_no {l : List Nat} (h : ∀ c ∈ l, c < 256) : (34 : UInt8) ∉ eU l := fun z => by
  obtain ⟨x, hx, e⟩ := List.mem_map.1 z
  have x1 := escL_lt h x hx
  have x2 := escL_ne h x hx
  have q : (UInt8.ofNat x).toNat = 34 := by rw [e]; rfl
  rw [UInt8.toNat_ofNat'] at q
  omega
theorem quoB_list (s : ByteArray) : (quoB s).data.toList = 34 :: (eU (bl s) ++ [34]) := by
  show ((quoN (bl s)).map UInt8.ofNat).toArray.toList = _
  unfold quoN eU
  simp
theorem pre_of {s : ByteArray} {m : UInt8} {x y : List UInt8} (e : s.data.toList = x ++ m :: y) (h : m ∉ x) : preB s m = ⟨x.toArray⟩ ∧ sufB s m = ⟨y.toArray⟩ := by
  unfold preB sufB
  rw [e, cut_hit x y m h]
  exact ⟨rfl, rfl⟩
theorem pre_all {s : ByteArray} {m : UInt8} (h : m ∉ s.data.toList) : preB s m = s ∧ sufB s m = ⟨#[]⟩ := by
  unfold preB sufB
  rw [cut_miss _ m h]
  exact ⟨by simp, rfl⟩
theorem ba_back (s : ByteArray) : (⟨s.data.toList.toArray⟩ : ByteArray) = s := by simp
theorem joinB_one (a : ByteArray) : joinB [a] = a := by
  unfold joinB
  show (⟨(Lib.join [a.data.toList] [32]).toArray⟩ : ByteArray) = a
  rw [show Lib.join [a.data.toList] [32] = a.data.toList by simp [Lib.join]]
theorem joinB_list (a b : ByteArray) (r : List ByteArray) : (joinB (a :: b :: r)).data.toList = a.data.toList ++ 32 :: (joinB (b :: r)).data.toList := by
  unfold joinB
  simp [Lib.join]
/-- A word, and what is left behind it. -/
theorem word_join {a : ByteArray} (b : ByteArray) (r : List ByteArray) (h : (32 : UInt8) ∉ a.data.toList) : preB (joinB (a :: b :: r)) 32 = a ∧ sufB (joinB (a :: b :: r)) 32 = joinB (b :: r) := by
  have q := pre_of (joinB_list a b r) h
  rw [ba_back, ba_back] at q
  exact q
theorem bl_of (x : List Nat) (h : ∀ c ∈ x, c < 256) : bl ⟨(x.map UInt8.ofNat).toArray⟩ = x := bl_str h
theorem unq_eU {l : List Nat} (h : ∀ c ∈ l, c < 256) : unqF (⟨(eU l).toArray⟩ : ByteArray).size (bl ⟨(eU l).toArray⟩) = l := by
  have e : bl ⟨(eU l).toArray⟩ = escL l := bl_of (escL l) (escL_lt h)
  rw [← bl_len, e]
  exact unqF_esc l h _ (Nat.le_refl _)
theorem bytes_at {s u : ByteArray} {y : List UInt8} (e : u.data.toList = (quoB s).data.toList ++ y) : bytB u = bl s ∧ byrB u = sufB ⟨y.toArray⟩ 32 := by
  have hl := bl_lt s
  rw [quoB_list] at e
  have q1 := pre_of (s := u) (m := 34) (x := []) (y := eU (bl s) ++ 34 :: y) (by rw [e]; simp) (by simp)
  have q2 := pre_of (s := ⟨(eU (bl s) ++ 34 :: y).toArray⟩) (m := 34) (x := eU (bl s)) (y := y) rfl (eU_no hl)
  unfold bytB byrB txtB
  rw [q1.2, q2.1, q2.2]
  exact ⟨unq_eU hl, rfl⟩
theorem bytes_join (s b : ByteArray) (r : List ByteArray) : bytB (joinB (quoB s :: b :: r)) = bl s ∧ byrB (joinB (quoB s :: b :: r)) = joinB (b :: r) := by
  have q := bytes_at (joinB_list (quoB s) b r)
  refine ⟨q.1, q.2.trans ?_⟩
  have p := pre_of (s := ⟨(32 :: (joinB (b :: r)).data.toList).toArray⟩) (m := 32) (x := []) (y := (joinB (b :: r)).data.toList) rfl (by simp)
  rw [p.2, ba_back]
theorem bytes_one (s : ByteArray) : bytB (joinB [quoB s]) = bl s ∧ byrB (joinB [quoB s]) = ⟨#[]⟩ := by
  rw [joinB_one]
  have q := bytes_at (s := s) (u := quoB s) (y := []) (by simp)
  exact ⟨q.1, q.2.trans (pre_all (by simp)).2⟩
theorem kw_no (k : Nat) : (32 : UInt8) ∉ (kwB k).data.toList := by
  unfold kwB
  split
  · decide
  · split <;> decide
theorem it_no (v : Int) : (32 : UInt8) ∉ (itB v).data.toList := by rw [itB_list]; exact itoa_no v 32 (by decide)
theorem end_no (st : Int) : (32 : UInt8) ∉ (endB st).data.toList := by
  unfold endB
  split
  · decide
  · split
    · decide
    · split <;> decide
theorem tag_no (a b : Int) : (32 : UInt8) ∉ (tagB a b).data.toList := by
  rw [tagB_list]
  intro z
  rcases List.mem_append.1 z with z | z
  · exact itoa_no a 32 (by decide) z
  · rcases List.mem_cons.1 z with z | z
    · exact absurd z (by decide)
    · exact itoa_no b 32 (by decide) z
end Go.Proofs.YtbangbobfeflcaaGreatDoor

namespace Go.Proofs.YtbangbobfeflcaaGreatDoor
open Go.RowKit 

theorem Gu.evs {w W : World} {s : ByteArray} {cs : Array Value} (h : Gu w W s cs) (E : EVs w) : ∀ V, Kept (fun j => j = w.heap.size + 1) W V → EVs V := fun V K => E.by (below_of (h.kept.trans K (fun j hj z => by have z : j = w.heap.size + 1 := z; omega)))
theorem joinB_size (a b : ByteArray) (r : List ByteArray) : (joinB (a :: b :: r)).size = a.size + 1 + (joinB (b :: r)).size := by
  have q := congrArg List.length (joinB_list a b r)
  have e : ∀ s : ByteArray, s.data.toList.length = s.size := fun s => Array.length_toList
  rw [List.length_append, List.length_cons, e, e, e] at q
  omega
theorem cut_join {a : ByteArray} (b : ByteArray) (r : List ByteArray) (h : (32 : UInt8) ∉ a.data.toList) (hs : (joinB (a :: b :: r)).size < 4294967281) : CutAt (joinB (a :: b :: r)) ⟨#[32]⟩ a (joinB (b :: r)) (Lib.cut (joinB (a :: b :: r)).data.toList [32]).2.2 := by
  have q := cutAtG (joinB (a :: b :: r)) 32 hs
  rw [(word_join b r h).1, (word_join b r h).2] at q
  exact q
set_option maxRecDepth 100000 in
theorem hGuessE1 (a b : Int) (ha : KI a) (hb : KI b) (ky : ByteArray) (vl : List Nat) (hk : ky.size ≤ 65536) (hn : vl.length ≤ 65536) (hl : ∀ c ∈ vl, c < 256) (w : World) (E : EVs w) (V : Tab w) (kw : KWs w) (h0 : w.heap.size ≠ 0) (gm : ∃ x, w.cell? ⟨1, 0, none⟩ = some (.int .i64 x)) : Calls Tryz.prog 30 #[.string (joinB [⟨#[105, 110, 118, 111, 107, 101]⟩, itB a, itB b, ⟨#[112, 117, 116]⟩, quoB ky, quoB (str vl)])] w fun o w' => ∃ p k c, o = .returned (.agg #[.int .i64 1, .int .i64 a, .int .i64 b, .bool true, .string ky, .slice p k c, .int .i64 0, .int .i64 0, .int .i64 0]) ∧ w'.ownsRow w.heap.size 5 1 (.slice p k c) k (cellsOf vl) ∧ Kept (fun _ => False) w w' := by
  have z1 := itB_size a ha
  have z2 := itB_size b hb
  have z3 := quoB_size ky
  have z4 := quoB_size (str vl)
  rw [str_size] at z4
  have y5 : (joinB [quoB (str vl)]).size ≤ 262146 := by rw [joinB_one]; omega
  have y4 := joinB_size (quoB ky) (quoB (str vl)) []
  have y3 := joinB_size ⟨#[112, 117, 116]⟩ (quoB ky) [quoB (str vl)]
  have y2 := joinB_size (itB b) ⟨#[112, 117, 116]⟩ [quoB ky, quoB (str vl)]
  have y1 := joinB_size (itB a) (itB b) [⟨#[112, 117, 116]⟩, quoB ky, quoB (str vl)]
  have y0 := joinB_size ⟨#[105, 110, 118, 111, 107, 101]⟩ (itB a) [itB b, ⟨#[112, 117, 116]⟩, quoB ky, quoB (str vl)]
  have p3 : (⟨#[112, 117, 116]⟩ : ByteArray).size = 3 := rfl
  have p6 : (⟨#[105, 110, 118, 111, 107, 101]⟩ : ByteArray).size = 6 := rfl
  have c0 := cut_join (a := ⟨#[105, 110, 118, 111, 107, 101]⟩) (itB a) [itB b, ⟨#[112, 117, 116]⟩, quoB ky, quoB (str vl)] (by decide) (by omega)
  have c1 := cut_join (a := itB a) (itB b) [⟨#[112, 117, 116]⟩, quoB ky, quoB (str vl)] (it_no a) (by omega)
  have c2 := cut_join (a := itB b) ⟨#[112, 117, 116]⟩ [quoB ky, quoB (str vl)] (it_no b) (by omega)
  have c3 := cut_join (a := ⟨#[112, 117, 116]⟩) (quoB ky) [quoB (str vl)] (by decide) (by omega)
  have b4 := bytes_join ky (quoB (str vl)) []
  have b5 := bytes_one (str vl)
  rw [bl_str hl] at b5
  have z5 : (joinB [quoB ky, quoB (str vl)]).size ≤ 1000000000 := by omega
  have z6 : (joinB [quoB (str vl)]).size ≤ 1000000000 := by omega
  obtain ⟨s0, e0⟩ : ∃ s, joinB [⟨#[105, 110, 118, 111, 107, 101]⟩, itB a, itB b, ⟨#[112, 117, 116]⟩, quoB ky, quoB (str vl)] = s := ⟨_, rfl⟩
  obtain ⟨s1, e1⟩ : ∃ s, joinB [itB a, itB b, ⟨#[112, 117, 116]⟩, quoB ky, quoB (str vl)] = s := ⟨_, rfl⟩
  obtain ⟨s2, e2⟩ : ∃ s, joinB [itB b, ⟨#[112, 117, 116]⟩, quoB ky, quoB (str vl)] = s := ⟨_, rfl⟩
  obtain ⟨s3, e3⟩ : ∃ s, joinB [⟨#[112, 117, 116]⟩, quoB ky, quoB (str vl)] = s := ⟨_, rfl⟩
  obtain ⟨s4, e4⟩ : ∃ s, joinB [quoB ky, quoB (str vl)] = s := ⟨_, rfl⟩
  obtain ⟨s5, e5⟩ : ∃ s, joinB [quoB (str vl)] = s := ⟨_, rfl⟩
  rw [e0, e1] at c0
  rw [e1, e2] at c1
  rw [e2, e3] at c2
  rw [e3, e4] at c3
  rw [e4, e5] at b4
  rw [e5] at b5 z6
  rw [e4] at z5
  rw [e0]
  have CC := (show Hid (CutAt s0 ⟨#[32]⟩ ⟨#[105, 110, 118, 111, 107, 101]⟩ s1 _ ∧ CutAt s1 ⟨#[32]⟩ (itB a) s2 _ ∧ CutAt s2 ⟨#[32]⟩ (itB b) s3 _ ∧ CutAt s3 ⟨#[32]⟩ ⟨#[112, 117, 116]⟩ s4 _) from ⟨c0, c1, c2, c3⟩)
  have NN : Hid (IntAt (itB a) a ∧ IntAt (itB b) b) := ⟨intB ha, intB hb⟩
  have BB : Hid (bytB s4 = bl ky ∧ byrB s4 = s5 ∧ bytB s5 = vl ∧ byrB s5 = ⟨#[]⟩) := ⟨b4.1, b4.2, b5.1, b5.2⟩
  have ZZ : Hid (s4.size ≤ 1000000000 ∧ s5.size ≤ 1000000000) := ⟨z5, z6⟩
  have EE : Hid (EVs w) := E
  clear z1 z2 z3 z4 z5 z6 y0 y1 y2 y3 y4 y5 p3 p6 c0 c1 c2 c3 b4 b5 e0 e1 e2 e3 e4 e5 E ha hb hk hn hl
  have G0 : Hid (Gu w _ s0 #[.int .i64 0, .int .i64 0, .int .i64 0, .bool false, .string ⟨#[]⟩, .slice none 0 0, .int .i64 0, .int .i64 0, .int .i64 0]) := Gu.start w s0 gm h0
  have HV : Hid (Tab w ∧ KWs w) := ⟨V, kw⟩
  clear V kw h0 gm
  go_enter Tryz.func30, Tryz.ntmps30
  go_wp2_with fail
  refine (hWordR G0.out.rd CC.out.1).mono ?_
  rintro o w1 ⟨rfl, R, K⟩
  have G1 : Hid (Gu w w1 s1 #[.int .i64 0, .int .i64 0, .int .i64 0, .bool false, .string ⟨#[]⟩, .slice none 0 0, .int .i64 0, .int .i64 0, .int .i64 0]) := G0.out.call K R
  clear G0
  clear R K
  go_wp2_with fail
  refine (hKind1 w1 (HV.out.2.kept G1.out.kept (fun z => z))).mono ?_
  rintro o w2 ⟨rfl, hw⟩
  subst hw
  have d0 := cell_blk G1.out.ev 0 (v := .int .i64 0) rfl
  have t0 := soft_blk G1.out.ev 0
  go_wp2_with fail
  clear d0 t0
  have G2 : Hid (Gu w (w2.setCell ⟨w.heap.size + 2, 0, none⟩ (.int .i64 1)) s1 #[.int .i64 1, .int .i64 0, .int .i64 0, .bool false, .string ⟨#[]⟩, .slice none 0 0, .int .i64 0, .int .i64 0, .int .i64 0]) := G1.out.set 0 (.int .i64 1)
  clear G1
  refine (hNumber G2.out.rd CC.out.2.1 NN.out.1).mono ?_
  rintro o w3 ⟨rfl, R, K⟩
  have G3 : Hid (Gu w w3 s2 #[.int .i64 1, .int .i64 0, .int .i64 0, .bool false, .string ⟨#[]⟩, .slice none 0 0, .int .i64 0, .int .i64 0, .int .i64 0]) := G2.out.call K R
  clear G2
  clear R K
  have d1 := cell_blk G3.out.ev 1 (v := .int .i64 0) rfl
  have t1 := soft_blk G3.out.ev 1
  go_wp2_with fail
  clear d1 t1
  have G4 : Hid (Gu w (w3.setCell ⟨w.heap.size + 2, 1, none⟩ (.int .i64 a)) s2 #[.int .i64 1, .int .i64 a, .int .i64 0, .bool false, .string ⟨#[]⟩, .slice none 0 0, .int .i64 0, .int .i64 0, .int .i64 0]) := G3.out.set 1 (.int .i64 a)
  clear G3
  refine (hNumber G4.out.rd CC.out.2.2.1 NN.out.2).mono ?_
  rintro o w4 ⟨rfl, R, K⟩
  have G5 : Hid (Gu w w4 s3 #[.int .i64 1, .int .i64 a, .int .i64 0, .bool false, .string ⟨#[]⟩, .slice none 0 0, .int .i64 0, .int .i64 0, .int .i64 0]) := G4.out.call K R
  clear G4
  clear R K
  have d2 := cell_blk G5.out.ev 2 (v := .int .i64 0) rfl
  have t2 := soft_blk G5.out.ev 2
  go_wp2_with fail
  clear d2 t2
  have G6 : Hid (Gu w (w4.setCell ⟨w.heap.size + 2, 2, none⟩ (.int .i64 b)) s3 #[.int .i64 1, .int .i64 a, .int .i64 b, .bool false, .string ⟨#[]⟩, .slice none 0 0, .int .i64 0, .int .i64 0, .int .i64 0]) := G5.out.set 2 (.int .i64 b)
  clear G5
  refine (hWordR G6.out.rd CC.out.2.2.2).mono ?_
  rintro o w5 ⟨rfl, R, K⟩
  have G7 : Hid (Gu w w5 s4 #[.int .i64 1, .int .i64 a, .int .i64 b, .bool false, .string ⟨#[]⟩, .slice none 0 0, .int .i64 0, .int .i64 0, .int .i64 0]) := G6.out.call K R
  clear G6
  clear R K
  have d3 := cell_blk G7.out.ev 3 (v := .bool false) rfl
  have t3 := soft_blk G7.out.ev 3
  go_wp2_with fail
  clear d3 t3
  have G8 : Hid (Gu w (w5.setCell ⟨w.heap.size + 2, 3, none⟩ (.bool true)) s4 #[.int .i64 1, .int .i64 a, .int .i64 b, .bool true, .string ⟨#[]⟩, .slice none 0 0, .int .i64 0, .int .i64 0, .int .i64 0]) := G7.out.set 3 (.bool true)
  clear G7
  refine (hBytesG G8.out.rd ZZ.out.1 (G8.out.evs EE.out)).mono ?_
  rintro o w6 ⟨p6, k6, c6, rfl, O, R, K⟩
  rw [BB.out.1] at O
  rw [BB.out.2.1] at R
  have G9 : Hid (Gu w w6 s5 #[.int .i64 1, .int .i64 a, .int .i64 b, .bool true, .string ⟨#[]⟩, .slice none 0 0, .int .i64 0, .int .i64 0, .int .i64 0]) := G8.out.call K R
  clear G8
  have cv : (convert 34 9 (.slice p6 k6 c6)).run Tryz.prog w6 = .ok (.string ky) w6 := by
    have q := (reads_own (l := bl ky) O (bl_lt ky)).string
    rw [str_bl] at q
    exact q
  clear O R K
  have d4 := cell_blk G9.out.ev 4 (v := .string ⟨#[]⟩) rfl
  have t4 := soft_blk G9.out.ev 4
  have GN : Hid (Gu w (w6.setCell ⟨w.heap.size + 2, 4, none⟩ (.string ky)) s5 #[.int .i64 1, .int .i64 a, .int .i64 b, .bool true, .string ky, .slice none 0 0, .int .i64 0, .int .i64 0, .int .i64 0]) := G9.out.set 4 (.string ky)
  have e0 := cell_blk GN.out.ev 0 (v := .int .i64 1) rfl
  have e1 := cell_blk GN.out.ev 1 (v := .int .i64 a) rfl
  have e2 := cell_blk GN.out.ev 2 (v := .int .i64 b) rfl
  have e3 := cell_blk GN.out.ev 3 (v := .bool true) rfl
  have e4 := cell_blk GN.out.ev 4 (v := .string ky) rfl
  have e5 := cell_blk GN.out.ev 5 (v := .slice none 0 0) rfl
  have e6 := cell_blk GN.out.ev 6 (v := .int .i64 0) rfl
  have e7 := cell_blk GN.out.ev 7 (v := .int .i64 0) rfl
  have e8 := cell_blk GN.out.ev 8 (v := .int .i64 0) rfl
  go_wp2_with fail
  clear d4 t4
  clear G9 e0 e1 e2 e3 e4 e5 e6 e7 e8
  have G10 : Hid (Gu w (w6.setCell ⟨w.heap.size + 2, 4, none⟩ (.string ky)) s5 #[.int .i64 1, .int .i64 a, .int .i64 b, .bool true, .string ky, .slice none 0 0, .int .i64 0, .int .i64 0, .int .i64 0]) := GN.out
  clear GN
  clear cv
  have CF : Hid (∀ V, Calls Tryz.prog 55 #[.agg #[.int .i64 1, .int .i64 a, .int .i64 b, .bool true, .string ky, .slice none 0 0, .int .i64 0, .int .i64 0, .int .i64 0]] V fun o w' => o = .returned (.int .i64 1) ∧ Kept (fun _ => False) V w') := fun V => hForm ⟨1, a, b, true, ky, none, 0, 0, 0, 0, 0, []⟩ V
  refine (CF.out _).mono ?_
  rintro o w7 ⟨rfl, K⟩
  have G11 : Hid (Gu w w7 s5 #[.int .i64 1, .int .i64 a, .int .i64 b, .bool true, .string ky, .slice none 0 0, .int .i64 0, .int .i64 0, .int .i64 0]) := G10.out.keep K
  clear G10
  clear K CF
  go_wp2_with fail
  have BL := block_lt G11.out.ev
  refine (hBytesG G11.out.rd ZZ.out.2 (G11.out.evs EE.out)).mono ?_
  rintro o w8 ⟨p8, k8, c8, rfl, O, R, K⟩
  rw [BB.out.2.2.1] at O
  rw [BB.out.2.2.2] at R
  have G12 : Hid (Gu w w8 ⟨#[]⟩ #[.int .i64 1, .int .i64 a, .int .i64 b, .bool true, .string ky, .slice none 0 0, .int .i64 0, .int .i64 0, .int .i64 0]) := G11.out.call K R
  clear G11
  have OW : Hid (w8.ownsRow (w.heap.size + 3) 5 1 (.slice p8 k8 c8) k8 (cellsOf vl)) := owns_mono O (by first | omega | (simp only [alloc_size] at BL ⊢; omega) | (simp at BL ⊢; omega))
  clear O R K BL
  have d5 := cell_blk G12.out.ev 5 (v := .slice none 0 0) rfl
  have t5 := soft_blk G12.out.ev 5
  have GN : Hid (Gu w (w8.setCell ⟨w.heap.size + 2, 5, none⟩ (.slice p8 k8 c8)) ⟨#[]⟩ #[.int .i64 1, .int .i64 a, .int .i64 b, .bool true, .string ky, .slice p8 k8 c8, .int .i64 0, .int .i64 0, .int .i64 0]) := (G12.out.set 5 (.slice p8 k8 c8))
  have e0 := cell_blk GN.out.ev 0 (v := .int .i64 1) rfl
  have e1 := cell_blk GN.out.ev 1 (v := .int .i64 a) rfl
  have e2 := cell_blk GN.out.ev 2 (v := .int .i64 b) rfl
  have e3 := cell_blk GN.out.ev 3 (v := .bool true) rfl
  have e4 := cell_blk GN.out.ev 4 (v := .string ky) rfl
  have e5 := cell_blk GN.out.ev 5 (v := .slice p8 k8 c8) rfl
  have e6 := cell_blk GN.out.ev 6 (v := .int .i64 0) rfl
  have e7 := cell_blk GN.out.ev 7 (v := .int .i64 0) rfl
  have e8 := cell_blk GN.out.ev 8 (v := .int .i64 0) rfl
  have r0 := cell_blk GN.out.rs 0 (v := .int .i64 0) rfl
  have q0 := soft_blk GN.out.rs 0
  have r1 := cell_blk GN.out.rs 1 (v := .int .i64 0) rfl
  have q1 := soft_blk GN.out.rs 1
  have r2 := cell_blk GN.out.rs 2 (v := .int .i64 0) rfl
  have q2 := soft_blk GN.out.rs 2
  have r3 := cell_blk GN.out.rs 3 (v := .bool false) rfl
  have q3 := soft_blk GN.out.rs 3
  have r4 := cell_blk GN.out.rs 4 (v := .string ⟨#[]⟩) rfl
  have q4 := soft_blk GN.out.rs 4
  have r5 := cell_blk GN.out.rs 5 (v := .slice none 0 0) rfl
  have q5 := soft_blk GN.out.rs 5
  have r6 := cell_blk GN.out.rs 6 (v := .int .i64 0) rfl
  have q6 := soft_blk GN.out.rs 6
  have r7 := cell_blk GN.out.rs 7 (v := .int .i64 0) rfl
  have q7 := soft_blk GN.out.rs 7
  have r8 := cell_blk GN.out.rs 8 (v := .int .i64 0) rfl
  have q8 := soft_blk GN.out.rs 8
  go_wp2_with fail
  have SA := set_all GN.out.rs (.int .i64 1) (.int .i64 a) (.int .i64 b) (.bool true) (.string ky) (.slice p8 k8 c8) (.int .i64 0) (.int .i64 0) (.int .i64 0)
  have KF := GN.out.kept.trans SA.2 (fun j hj z => by have z : j = w.heap.size := z; omega)
  have OA := ((Kept.refl (fun j => j = w.heap.size + 2) w8).setCell (p := ⟨w.heap.size + 2, 5, none⟩) (fun _ => rfl) (.slice p8 k8 c8)).owns OW.out (fun k hk z => by have q := OW.out.lt k hk; have z : k = w.heap.size + 2 := z; omega)
  have OB := SA.2.owns OA (fun k hk z => by have q := OA.lt k hk; have z : k = w.heap.size := z; omega)
  have OC := owns_mono OB (show w.heap.size ≤ w.heap.size + 3 by omega)
  refine bodyPost_ret (results_cell_row rfl _ _ w.heap.size 39 #[.int .i64 1, .int .i64 a, .int .i64 b, .bool true, .string ky, .slice p8 k8 c8, .int .i64 0, .int .i64 0, .int .i64 0] (0, 0) _ rfl SA.1 Tryz.underlying39 rfl (by kernel_rfl)) rfl ?_
  exact ⟨p8, k8, c8, rfl, OC, KF⟩
end Go.Proofs.YtbangbobfeflcaaGreatDoor
