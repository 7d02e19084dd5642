import Derived.Test.YtonfefhegghapaaDoorTCutJ
namespace Go.Proofs.YtonfefhegghapaaDoor
open Go.RowKit 

/-- How many lines. -/
def linesN (l : List UInt8) : Nat := l.count 10 + (if l.getLast? = none ∨ l.getLast? = some 10 then 0 else 1)
theorem count_add (l : List UInt8) (e : UInt8) : ∀ (wi pos : Nat), (∀ j, pos ≤ j → j < pos + wi → l[j]? ≠ some e) → (l.take (pos + wi)).count e = (l.take pos).count e
  | 0, _, _ => rfl
  | wi + 1, pos, h => by
    have h1 := count_add l e wi pos (fun j a b => h j a (by omega))
    have h2 := h (pos + wi) (by omega) (by omega)
    rw [show pos + (wi + 1) = pos + wi + 1 by omega, List.take_add_one, List.count_append, h1]
    cases q : l[pos + wi]? with
    | none => rfl
    | some c =>
      have : ¬ c = e := fun z => h2 (by rw [q, z])
      show _ + List.count e [c] = _
      rw [List.count_cons_of_ne this]
      rfl
theorem count_hit (l : List UInt8) (e : UInt8) (pos : Nat) (h : l[pos]? = some e) : (l.take (pos + 1)).count e = (l.take pos).count e + 1 := by
  rw [List.take_add_one, List.count_append, h]
  simp
theorem decode_one_of (s : ByteArray) (pos : Nat) (h : pos < s.size) (e : UInt8) (he : e.toNat < 128) (hd : (Utf8.decode s pos).1 = e.toNat) : (Utf8.decode s pos).2 = 1 := by
  have q := (decode_is s pos h e he).1 hd
  rw [get_list s pos h] at q
  have q := Option.some.inj q
  rw [decode_ascii s pos h (by rw [q]; exact he)]
/-- How lines stands: where it is, how many ended, whether the last one did. -/
structure LQ (s : ByteArray) (pos n : Nat) (en : Bool) : Prop where
  le : pos ≤ s.size
  cnt : n = (s.data.toList.take pos).count 10
  end_ : en = true ↔ (pos = 0 ∨ s.data.toList[pos - 1]? = some 10)
theorem LQ.fin {s : ByteArray} {pos n : Nat} {en : Bool} (h : LQ s pos n en) (hp : ¬ pos < s.size) : linesN s.data.toList = if en = true then n else n + 1 := by
  have e : pos = s.size := by have := h.le; omega
  have hl : s.data.toList.length = s.size := by rw [Array.length_toList]; rfl
  have hc := h.cnt
  rw [e, List.take_of_length_le (by omega)] at hc
  unfold linesN
  rw [← hc]
  have hlast : (s.data.toList.getLast? = none ∨ s.data.toList.getLast? = some 10) ↔ en = true := by
    rw [h.end_, List.getLast?_eq_getElem?, hl, e]
    constructor
    · rintro (z | z)
      · left
        have := List.getElem?_eq_none_iff.1 z
        omega
      · exact .inr z
    · rintro (z | z)
      · left
        exact List.getElem?_eq_none_iff.2 (by omega)
      · exact .inr z
  by_cases q : en = true
  · rw [if_pos (hlast.2 q), if_pos q]
    rfl
  · rw [if_neg (fun z => q (hlast.1 z)), if_neg q]
theorem LQ.next {s : ByteArray} {pos n : Nat} {en : Bool} (h : LQ s pos n en) (hp : pos < s.size) : LQ s (pos + (Utf8.decode s pos).2) (if (Utf8.decode s pos).1 = 10 then n + 1 else n) (decide ((Utf8.decode s pos).1 = 10)) := by
  have ht := decode_tail s pos hp
  have hw := width_pos s pos hp
  by_cases q : (Utf8.decode s pos).1 = 10
  · have q1 := decode_one_of s pos hp 10 (by decide) q
    have q2 := (decode_is s pos hp 10 (by decide)).1 q
    rw [if_pos q, q1, decide_eq_true q]
    refine ⟨by omega, ?_, ?_⟩
    · rw [count_hit _ _ _ q2, h.cnt]
    · constructor
      · intro _
        right
        rw [Nat.add_sub_cancel]
        exact q2
      · intro _
        rfl
  · have q2 := decode_not s pos hp 10 (by decide) q
    rw [if_neg q, decide_eq_false q]
    refine ⟨ht.1, ?_, ?_⟩
    · rw [count_add _ _ _ _ q2, h.cnt]
    · constructor
      · intro z
        cases z
      · rintro (z | z)
        · omega
        · exact absurd z (q2 _ (by omega) (by omega))
set_option maxRecDepth 100000 in
set_option maxHeartbeats 1000000 in
theorem hLines (s : ByteArray) (w : World) (hs : s.size ≤ 281474976710656) : Calls Tryd.prog 34 #[.string s] w fun o w' => o = .returned (.int .i64 (linesN s.data.toList : Int)) ∧ Kept (fun _ => False) w w' := by
  have S0 : Hid ((w.iter s 0).heap[w.heap.size]? = some (.stringIter s 0) ∧ Kept (fun _ => False) w (w.iter s 0) ∧ LQ s 0 0 true) := ⟨World.iter_heap w s 0, (Kept.refl _ w).alloc _, Nat.zero_le _, rfl, by simp⟩
  obtain ⟨R, hR⟩ : ∃ R, linesN s.data.toList = R := ⟨_, rfl⟩
  rw [hR]
  have HR : Hid (linesN s.data.toList = R) := hR
  clear hR
  go_enter Tryd.func34, Tryd.ntmps34
  go_wp2_with fail
  go_loopw [3, 4, 6] (fun u3 u4 _ wr => ∃ (pos n : Nat) (en : Bool), u3 = .int .i64 (n : Int) ∧ u4 = .bool en ∧ n ≤ pos ∧ Hid (wr.heap[w.heap.size]? = some (.stringIter s pos) ∧ Kept (fun _ => False) w wr ∧ LQ s pos n en)) (fun _ _ _ wr => s.size - wr.iterPos w.heap.size)
  case atStart => exact ⟨0, 0, true, rfl, rfl, Nat.le_refl _, S0⟩
  case round =>
    obtain ⟨pos, n, en, rfl, rfl, hn, S⟩ := hrel
    clear S0
    by_cases hp : pos < s.size
    · have hnx : ∀ ty, (Instr.next (.pointer (some ⟨w.heap.size, 0, none⟩)) true ty).run Tryd.prog wr = _ := fun ty => Lib.run_next_any_at wr w.heap.size s pos ty S.out.1 hp
      have hwd : Hid (1 ≤ (Utf8.decode s pos).2 ∧ LQ s (pos + (Utf8.decode s pos).2) (if (Utf8.decode s pos).1 = 10 then n + 1 else n) (decide ((Utf8.decode s pos).1 = 10))) := ⟨width_pos s pos hp, S.out.2.2.next hp⟩
      obtain ⟨ru, hru⟩ : ∃ ru, (Utf8.decode s pos).1 = ru := ⟨_, rfl⟩
      obtain ⟨wi, hwi⟩ : ∃ wi, (Utf8.decode s pos).2 = wi := ⟨_, rfl⟩
      rw [hru, hwi] at hnx hwd
      obtain ⟨W, hW⟩ : ∃ W, wr.iterAt w.heap.size s (pos + wi) = W := ⟨_, rfl⟩
      rw [hW] at hnx
      have NX : Hid (W.heap[w.heap.size]? = some (.stringIter s (pos + wi)) ∧ Kept (fun _ => False) w W ∧ wr.iterPos w.heap.size = pos) := by
        rw [← hW]
        exact ⟨Lib.iterAt_heap wr w.heap.size s pos (pos + wi) S.out.1, iter_kept S.out.2.1 (Nat.le_refl _) s _, by simp [World.iterPos, S.out.1]⟩
      clear hru hwi hW S
      by_cases h10 : ru = 10
      · subst h10
        have NS : Hid (LQ s (pos + wi) (n + 1) true) := by
          have := hwd.out.2
          rw [if_pos rfl] at this
          exact this
        have hw1 : Hid (1 ≤ wi) := hwd.out.1
        clear hwd
        go_wp2_with fail
        go_roundw
        case rel => exact ⟨pos + wi, n + 1, true, by go_num, rfl, by have := hw1.out; omega, NX.out.1, NX.out.2.1, NS.out⟩
        case measure =>
          have e1 : W.iterPos w.heap.size = pos + wi := by simp [World.iterPos, NX.out.1]
          have := hw1.out
          rw [e1, NX.out.2.2]
          omega
      · have q10 : ((ru : Int) == 10) = false := by
          simp
          omega
        have NS : Hid (LQ s (pos + wi) n false) := by
          have := hwd.out.2
          rw [if_neg h10, decide_eq_false h10] at this
          exact this
        have hw1 : Hid (1 ≤ wi) := hwd.out.1
        clear hwd
        go_wp2_with fail
        go_roundw
        case rel => exact ⟨pos + wi, n, false, rfl, rfl, by have := hw1.out; omega, NX.out.1, NX.out.2.1, NS.out⟩
        case measure =>
          have e1 : W.iterPos w.heap.size = pos + wi := by simp [World.iterPos, NX.out.1]
          have := hw1.out
          rw [e1, NX.out.2.2]
          omega
    · have hnx : ∀ ty, (Instr.next (.pointer (some ⟨w.heap.size, 0, none⟩)) true ty).run Tryd.prog wr = _ := fun ty => Lib.run_next_end_at wr w.heap.size s pos ty S.out.1 hp
      have FN : Hid (linesN s.data.toList = if en = true then n else n + 1) := S.out.2.2.fin hp
      have KK : Hid (Kept (fun _ => False) w wr) := S.out.2.1
      have le := S.out.2.2.le
      clear S
      cases en
      · have e : R = n + 1 := by rw [← HR.out, FN.out]; rfl
        subst e
        clear FN HR
        go_wp2_with fail
        go_ret
        exact ⟨by first | rfl | simp, KK.out⟩
      · have e : R = n := by rw [← HR.out, FN.out]; rfl
        subst e
        clear FN HR
        go_wp2_with fail
        go_ret
        exact ⟨by first | rfl | simp, KK.out⟩
theorem hWordE {w : World} {g : Nat} {s : ByteArray} (hs : s.size ≤ 281474976710656) (hg : w.heap[g]? = some (.cells #[.string s] 75 (0, 0))) : Calls Tryd.prog 52 #[.pointer (some ⟨g, 0, none⟩)] w fun o w' => o = .returned (.string (ofL (cutE 32 s.data.toList).1)) ∧ w'.heap[g]? = some (.cells #[.string (ofL (cutE 32 s.data.toList).2)] 75 (0, 0)) ∧ Kept (fun j => j = g) w w' := by
  have C : Hid (Calls Tryd.prog 35 #[.string s, .int .i32 32] w fun o w' => o = .returned (.tuple #[.string (ofL (cutE 32 s.data.toList).1), .string (ofL (cutE 32 s.data.toList).2)]) ∧ Kept (fun _ => False) w w') := hCutE s 32 (by decide) w hs
  obtain ⟨a, ha⟩ : ∃ a, ofL (cutE 32 s.data.toList).1 = a := ⟨_, rfl⟩
  obtain ⟨b, hb⟩ : ∃ b, ofL (cutE 32 s.data.toList).2 = b := ⟨_, rfl⟩
  rw [ha, hb] at C ⊢
  have c0 := cell_blk hg 0 (v := .string s) rfl
  have HG : Hid (w.heap[g]? = some (.cells #[.string s] 75 (0, 0))) := hg
  clear hg ha hb
  go_enter Tryd.func52, Tryd.ntmps52
  go_wp2_with fail
  refine C.out.mono ?_
  rintro o w2 ⟨rfl, K'⟩
  have G2 : Hid (w2.heap[g]? = some (.cells #[.string s] 75 (0, 0))) := K'.get HG.out (fun z => z)
  have F : Hid ((w2.setCell ⟨g, 0, none⟩ (.string b)).heap[g]? = some (.cells #[.string b] 75 (0, 0)) ∧ Kept (fun j => j = g) w (w2.setCell ⟨g, 0, none⟩ (.string b))) := ⟨by rw [set_heap G2.out 0]; rfl, (K'.mono (S' := fun j => j = g) (fun _ _ z => z.elim)).setCell (p := ⟨g, 0, none⟩) (fun _ => rfl) (.string b)⟩
  have d0 := cell_blk G2.out 0 (v := .string s) rfl
  have t0 := soft_blk G2.out 0
  clear C c0 HG K' G2
  go_wp2_with fail
  go_ret
  exact ⟨by first | rfl | simp, F.out.1, F.out.2⟩
/-- What Atoi gives, whatever the text. -/
def atoiV (l : List UInt8) : Int := match Lib.atoiAll l with | .ok u => u | .syntax => 0 | .range => Lib.atoiSat l
theorem atoiV_ki (l : List UInt8) : KI (atoiV l) := by
  unfold atoiV
  split
  · exact Lib.atoiAll_bounds (by assumption)
  · exact ⟨by omega, by omega⟩
  · exact Lib.atoiSat_bounds l
theorem atoiX (s : ByteArray) (w : World) (hs : s.size ≤ 281474976710656) (V : Vars w) :
    Calls Tryd.prog 61 #[.string s] w fun x w' => ∃ i, x = .returned (.tuple #[.int .i64 (atoiV s.data.toList), i]) ∧ Kept (fun _ => False) w w' := by
  unfold atoiV
  cases h : Lib.atoiAll s.data.toList with
  | ok u =>
    refine (Tryd.strconv_Atoi_ok s (by omega) u h w).mono ?_
    rintro x w1 ⟨rfl, hw⟩
    refine ⟨.nilIface, rfl, ?_⟩
    rcases hw with rfl | ⟨t, rfl⟩
    · exact Kept.refl _ _
    · exact kept_below (Lib.bytesWorld_below _ _ _)
  | «syntax» =>
    obtain ⟨tp, p, hv⟩ := V.syn
    refine (Tryd.strconv_Atoi_syntax_var s hs h tp p w hv).mono ?_
    rintro x w1 ⟨N, rfl, -, -, hb⟩
    exact ⟨_, rfl, kept_below hb⟩
  | range =>
    obtain ⟨tp, p, hv⟩ := V.rng
    refine (Tryd.strconv_Atoi_range_var s hs h tp p w hv).mono ?_
    rintro x w1 ⟨N, rfl, -, -, hb⟩
    exact ⟨_, rfl, kept_below hb⟩
theorem ofL_listE (l : List UInt8) : (ofL l).data.toList = l := rfl
theorem ofL_sizeE (l : List UInt8) : (ofL l).size = l.length := by simp [ofL, ByteArray.size]
theorem hNumE {w0 w : World} {g : Nat} {s : ByteArray} (hs : s.size ≤ 281474976710656) (hg : w.heap[g]? = some (.cells #[.string s] 75 (0, 0))) (V : Vars w0) (K0 : Kept (fun _ => False) w0 w) (hlow : w0.heap.size ≤ g) : Calls Tryd.prog 53 #[.pointer (some ⟨g, 0, none⟩)] w fun o w' => o = .returned (.int .i64 (atoiV (cutE 32 s.data.toList).1)) ∧ w'.heap[g]? = some (.cells #[.string (ofL (cutE 32 s.data.toList).2)] 75 (0, 0)) ∧ Kept (fun j => j = g) w w' := by
  have C : Hid (Calls Tryd.prog 52 #[.pointer (some ⟨g, 0, none⟩)] w fun o w' => o = .returned (.string (ofL (cutE 32 s.data.toList).1)) ∧ w'.heap[g]? = some (.cells #[.string (ofL (cutE 32 s.data.toList).2)] 75 (0, 0)) ∧ Kept (fun j => j = g) w w') := hWordE hs hg
  have VV : Hid (Vars w0 ∧ Kept (fun _ => False) w0 w ∧ w0.heap.size ≤ g) := ⟨V, K0, hlow⟩
  obtain ⟨a, ha⟩ : ∃ a, ofL (cutE 32 s.data.toList).1 = a := ⟨_, rfl⟩
  obtain ⟨b, hb⟩ : ∃ b, ofL (cutE 32 s.data.toList).2 = b := ⟨_, rfl⟩
  obtain ⟨v, hv⟩ : ∃ v, atoiV (cutE 32 s.data.toList).1 = v := ⟨_, rfl⟩
  have HA : Hid (atoiV a.data.toList = v ∧ a.size ≤ s.size) := by
    rw [← ha, ← hv, ofL_listE, ofL_sizeE]
    refine ⟨rfl, ?_⟩
    have := (cutE_len 32 s.data.toList).1
    rw [Array.length_toList] at this
    exact this
  rw [ha, hb] at C
  rw [hb, hv]
  clear hg V K0 ha hb hv
  go_enter Tryd.func53, Tryd.ntmps53
  go_wp2_with fail
  refine C.out.mono ?_
  rintro o w2 ⟨rfl, g2, K'⟩
  have V2 : Vars w2 := VV.out.1.kept (VV.out.2.1.trans K' (fun j hj z => by subst z; have := VV.out.2.2; omega))
  have CA : Hid (Calls Tryd.prog 61 #[.string a] w2 fun x w' => ∃ i, x = .returned (.tuple #[.int .i64 v, i]) ∧ Kept (fun _ => False) w2 w') := by
    have q := atoiX a w2 (by have := HA.out.2; omega) V2
    rw [HA.out.1] at q
    exact q
  have X : Hid (w2.heap[g]? = some (.cells #[.string b] 75 (0, 0)) ∧ Kept (fun j => j = g) w w2) := ⟨g2, K'⟩
  clear g2 K' V2 C VV HA
  go_wp2_with fail
  refine CA.out.mono ?_
  rintro o w3 ⟨i, rfl, K3⟩
  have F : Hid (w3.heap[g]? = some (.cells #[.string b] 75 (0, 0)) ∧ Kept (fun j => j = g) w w3) := ⟨K3.get X.out.1 (fun z => z), X.out.2.trans K3 (fun _ _ z => z.elim)⟩
  clear X CA K3
  go_wp2_with fail
  go_ret
  exact ⟨by first | rfl | simp, F.out⟩
end Go.Proofs.YtonfefhegghapaaDoor
