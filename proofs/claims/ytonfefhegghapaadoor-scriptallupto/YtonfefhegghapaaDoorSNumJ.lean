import Derived.Test.YtonfefhegghapaaDoorGen
import Derived.Test.YtonfefhegghapaaDoorMathJ
import Derived.Laws.RangeAny
import Derived.Lib.OthersKept
import Derived.Deep.Cut
import Derived.Deep.DeepCutAuto
import Derived.Laws.Concat
import Derived.Lib.ItoaLen
import Derived.Lib.AtoiErrMem
import Derived.BigQuiet
namespace Go.Proofs.YtonfefhegghapaaDoor
open Go.RowKit 

/-- What the library's variables hold. -/
structure Vars (w : World) : Prop where
  tab : Lib.TabIs Tryd.prog w "internal/strconv.uint64pow10" .u64 Lib.pow10Tab
  syn : ∃ tp p, w.var? Tryd.prog "strconv.ErrSyntax" = some #[.iface tp p]
  rng : ∃ tp p, w.var? Tryd.prog "strconv.ErrRange" = some #[.iface tp p]
theorem var_by {P : Program} {w w' : World} (B : Below w.heap.size w w') {n : String} {cs : Array Value} (h : w.var? P n = some cs) : w'.var? P n = some cs := by
  unfold World.var? at h ⊢
  cases e : P.globalNamed n with
  | none => rw [e] at h; cases h
  | some g =>
    rw [e] at h
    simp only [Option.bind_some] at h ⊢
    cases q : w.heap[g]? with
    | none => rw [q] at h; cases h
    | some o =>
      have lt : g < w.heap.size := (Array.getElem?_eq_some_iff.1 q).1
      rw [B.block g lt]
      exact h
theorem Vars.kept {w w' : World} (h : Vars w) (K : Kept (fun _ => False) w w') : Vars w' := by
  have B := below_kept K
  refine ⟨var_by B h.tab, ?_, ?_⟩
  · obtain ⟨tp, p, e⟩ := h.syn
    exact ⟨tp, p, var_by B e⟩
  · obtain ⟨tp, p, e⟩ := h.rng
    exact ⟨tp, p, var_by B e⟩
def KI (k : Int) : Prop := -9223372036854775808 ≤ k ∧ k ≤ 9223372036854775807
/-- strconv.Atoi of any text. -/
theorem atoiAny (s : ByteArray) (w : World) (hs : s.size ≤ 281474976710656) (V : Vars w) :
    Calls Tryd.prog 61 #[.string s] w fun x w' => ∃ v i, x = .returned (.tuple #[.int .i64 v, i]) ∧ (KI v ∧ ∀ u, Lib.atoiAll s.data.toList = .ok u → v = u) ∧ Kept (fun _ => False) w w' := by
  cases h : Lib.atoiAll s.data.toList with
  | ok u =>
    refine (Tryd.strconv_Atoi_ok s (by omega) u h w).mono ?_
    rintro x w1 ⟨rfl, hw⟩
    refine ⟨u, .nilIface, rfl, ⟨Lib.atoiAll_bounds h, fun u' q => by injection q⟩, ?_⟩
    rcases hw with rfl | ⟨t, rfl⟩
    · exact Kept.refl _ _
    · exact kept_below (Lib.bytesWorld_below _ _ _)
  | «syntax» =>
    obtain ⟨tp, p, hv⟩ := V.syn
    refine (Tryd.strconv_Atoi_syntax_var s hs h tp p w hv).mono ?_
    rintro x w1 ⟨N, rfl, -, -, hb⟩
    exact ⟨0, _, rfl, ⟨⟨by omega, by omega⟩, fun u' q => by cases q⟩, kept_below hb⟩
  | range =>
    obtain ⟨tp, p, hv⟩ := V.rng
    refine (Tryd.strconv_Atoi_range_var s hs h tp p w hv).mono ?_
    rintro x w1 ⟨N, rfl, -, -, hb⟩
    exact ⟨_, _, rfl, ⟨Lib.atoiSat_bounds _, fun u' q => by cases q⟩, kept_below hb⟩
/-- What stands ahead of the first blank, and what stands behind. -/
def cutL : List UInt8 → List UInt8 × List UInt8
  | [] => ([], [])
  | c :: r => if c = 32 then ([], r) else (c :: (cutL r).1, (cutL r).2)
theorem cutL_at : ∀ (l : List UInt8) (i : Nat), l[i]? = some 32 → (∀ j, j < i → l[j]? ≠ some 32) → cutL l = (l.take i, l.drop (i + 1))
  | [], i, h, _ => by simp at h
  | c :: r, 0, h, _ => by
    have : c = 32 := by simpa using h
    unfold cutL
    rw [if_pos this]
    rfl
  | c :: r, i + 1, h, hj => by
    have hc : ¬ c = 32 := fun z => hj 0 (by omega) (by rw [z]; rfl)
    unfold cutL
    rw [if_neg hc, cutL_at r i (by simpa using h) (fun j hl => by have := hj (j + 1) (by omega); simpa using this)]
    rfl
theorem cutL_none : ∀ (l : List UInt8), (∀ j, j < l.length → l[j]? ≠ some 32) → cutL l = (l, [])
  | [], _ => rfl
  | c :: r, hj => by
    have hc : ¬ c = 32 := fun z => hj 0 (by simp) (by rw [z]; rfl)
    unfold cutL
    rw [if_neg hc, cutL_none r (fun j hl => by have := hj (j + 1) (by simpa using hl); simpa using this)]
theorem cutL_word (x y : List UInt8) (h : ∀ c ∈ x, c ≠ 32) : cutL (x ++ 32 :: y) = (x, y) := by
  induction x with
  | nil => rfl
  | cons c r ih =>
    show (if c = 32 then _ else _) = _
    rw [if_neg (h c (by simp))]
    show (c :: (cutL (r ++ 32 :: y)).1, (cutL (r ++ 32 :: y)).2) = _
    rw [ih (fun d hd => h d (by simp [hd]))]
theorem cutL_last (x : List UInt8) (h : ∀ c ∈ x, c ≠ 32) : cutL x = (x, []) := cutL_none x (fun j hj z => by
  exact h 32 (List.mem_of_getElem? z) rfl)
def Asc (s : ByteArray) : Prop := ∀ c ∈ s.data.toList, c.toNat < 128
theorem width_pos (s : ByteArray) (pos : Nat) (h : pos < s.size) : 1 ≤ (Utf8.decode s pos).2 := by
  by_cases ha : (s[pos]'h).toNat < 128
  · rw [decode_ascii s pos h ha]
    exact Nat.le_refl _
  · exact (decode_high s pos h (by omega)).2
theorem get_list (s : ByteArray) (pos : Nat) (h : pos < s.size) : s.data.toList[pos]? = some (s[pos]'h) := by
  have h2 : pos < s.data.toList.length := by rw [Array.length_toList]; exact h
  rw [List.getElem?_eq_getElem h2]
  rfl
theorem decode_blank (s : ByteArray) (pos : Nat) (h : pos < s.size) (hd : (Utf8.decode s pos).1 = 32) : s.data.toList[pos]? = some 32 := by
  by_cases ha : (s[pos]'h).toNat < 128
  · rw [decode_ascii s pos h ha] at hd
    rw [get_list s pos h]
    congr 1
    apply UInt8.toNat_inj.1
    exact hd
  · have := (decode_high s pos h (by omega)).1
    omega
theorem decode_other (s : ByteArray) (pos : Nat) (h : pos < s.size) (a : Asc s) (hd : ¬ (Utf8.decode s pos).1 = 32) : s.data.toList[pos]? ≠ some 32 ∧ (Utf8.decode s pos).2 = 1 := by
  have ha : (s[pos]'h).toNat < 128 := a _ (List.mem_of_getElem? (get_list s pos h))
  rw [decode_ascii s pos h ha] at hd ⊢
  refine ⟨fun z => hd ?_, rfl⟩
  rw [get_list s pos h] at z
  rw [Option.some.inj z]
  rfl
theorem iter_kept {a w : World} {k : Nat} (K : Kept (fun _ => False) a w) (hk : a.heap.size ≤ k) (s : ByteArray) (p : Nat) : Kept (fun _ => False) a (w.iterAt k s p) := kept_below (Lib.below_iterAt (below_kept K) hk s p)
theorem extract_take (s : ByteArray) (k : Nat) : (s.extract 0 k).data.toList = s.data.toList.take k := by simp
theorem extract_drop (s : ByteArray) (k : Nat) : (s.extract k s.size).data.toList = s.data.toList.drop k := by
  rw [ByteArray.data_extract, Array.toList_extract]
  show (List.drop k s.data.toList).take (s.size - k) = _
  have hl : s.data.toList.length = s.size := by rw [Array.length_toList]; rfl
  rw [List.take_of_length_le (by rw [List.length_drop]; omega)]
def RetS (Q : ByteArray → ByteArray → World → Prop) (o : Ending) (w : World) : Prop := ∃ a b, o = .returned (.tuple #[.string a, .string b]) ∧ Q a b w
/-- What cut tells. -/
structure CutQ (s a b : ByteArray) : Prop where
  le : a.size ≤ s.size ∧ b.size ≤ s.size
  asc : Asc s → (a.data.toList, b.data.toList) = cutL s.data.toList
theorem CutQ.hit {s : ByteArray} {i : Nat} (hi : i < s.size) (h : s.data.toList[i]? = some 32) (hj : Asc s → ∀ j, j < i → s.data.toList[j]? ≠ some 32) : CutQ s (s.extract 0 i) (s.extract (i + 1) s.size) := by
  refine ⟨⟨?_, ?_⟩, fun ha => ?_⟩
  · rw [ByteArray.size_extract]; omega
  · rw [ByteArray.size_extract]; omega
  · rw [extract_take, extract_drop, cutL_at _ i h (hj ha)]
theorem CutQ.none {s : ByteArray} (hj : Asc s → ∀ j, j < s.size → s.data.toList[j]? ≠ some 32) : CutQ s s ⟨#[]⟩ :=
  ⟨⟨Nat.le_refl _, Nat.zero_le _⟩, fun ha => (cutL_none _ (fun j hl => hj ha j (by rw [Array.length_toList] at hl; exact hl))).symm⟩
set_option maxRecDepth 100000 in
set_option maxHeartbeats 1000000 in
theorem hCut (s : ByteArray) (w : World) (hs : s.size ≤ 281474976710656) : Calls Tryd.prog 35 #[.string s, .int .i32 32] w (RetS fun a b w' => CutQ s a b ∧ Kept (fun _ => False) w w') := by
  have S0 : Hid ((w.iter s 0).heap[w.heap.size]? = some (.stringIter s 0) ∧ Kept (fun _ => False) w (w.iter s 0)) := ⟨World.iter_heap w s 0, (Kept.refl _ w).alloc _⟩
  go_enter Tryd.func35, Tryd.ntmps35
  go_wp2_with fail
  go_loopw [6, 7] (fun _ _ wr => ∃ pos : Nat, Hid (wr.heap[w.heap.size]? = some (.stringIter s pos) ∧ Kept (fun _ => False) w wr ∧ (Asc s → ∀ j, j < pos → s.data.toList[j]? ≠ some 32))) (fun _ _ wr => s.size - wr.iterPos w.heap.size)
  case atStart => exact ⟨0, S0.out.1, S0.out.2, fun _ j hj => absurd hj (by omega)⟩
  case round =>
    obtain ⟨pos, S⟩ := hrel
    clear S0
    by_cases hp : pos < s.size
    · have hnx : ∀ ty, (Instr.next (.pointer (some ⟨w.heap.size, 0, none⟩)) true ty).run Tryd.prog wr = _ := fun ty => Lib.run_next_any_at wr w.heap.size s pos ty S.out.1 hp
      have hwd : Hid (1 ≤ (Utf8.decode s pos).2) := width_pos s pos hp
      obtain ⟨ru, hru⟩ : ∃ ru, (Utf8.decode s pos).1 = ru := ⟨_, rfl⟩
      obtain ⟨wi, hwi⟩ : ∃ wi, (Utf8.decode s pos).2 = wi := ⟨_, rfl⟩
      rw [hru, hwi] at hnx
      obtain ⟨W, hW⟩ : ∃ W, wr.iterAt w.heap.size s (pos + wi) = W := ⟨_, rfl⟩
      rw [hW] at hnx
      have NX : Hid (W.heap[w.heap.size]? = some (.stringIter s (pos + wi)) ∧ Kept (fun _ => False) w W) := by
        rw [← hW]
        exact ⟨Lib.iterAt_heap wr w.heap.size s pos (pos + wi) S.out.1, iter_kept S.out.2.1 (Nat.le_refl _) s _⟩
      have RU : Hid ((Utf8.decode s pos).1 = ru ∧ (Utf8.decode s pos).2 = wi ∧ wr.iterPos w.heap.size = pos) := ⟨hru, hwi, by simp [World.iterPos, S.out.1]⟩
      clear hru hwi hW
      by_cases h32 : ru = 32
      · subst h32
        have Q : Hid (CutQ s (s.extract 0 pos) (s.extract (pos + 1) s.size)) := CutQ.hit hp (decode_blank s pos hp RU.out.1) S.out.2.2
        have p1 : (pos : Int) < (s.size : Int) := by omega
        clear S RU hwd
        go_wp2_with fail
        go_quiet (fail)
        go_wp2_with fail
        go_ret2
        exact ⟨_, _, rfl, Q.out, NX.out.2.drewN _⟩
      · have q32 : ((ru : Int) == 32) = false := by
          simp
          omega
        have NS : Hid (Asc s → ∀ j, j < pos + wi → s.data.toList[j]? ≠ some 32) := fun ha j hj => by
          have := decode_other s pos hp ha (by rw [RU.out.1]; exact h32)
          rw [RU.out.2.1] at this
          by_cases e : j < pos
          · exact S.out.2.2 ha j e
          · have : j = pos := by omega
            subst this
            exact (decode_other s j hp ha (by rw [RU.out.1]; exact h32)).1
        clear S
        go_wp2_with fail
        go_roundw
        case rel => exact ⟨pos + wi, NX.out.1, NX.out.2, NS.out⟩
        case measure =>
          have e1 : W.iterPos w.heap.size = pos + wi := by simp [World.iterPos, NX.out.1]
          have := hwd.out
          rw [RU.out.2.1] at this
          rw [e1, RU.out.2.2]
          omega
    · have hnx : ∀ ty, (Instr.next (.pointer (some ⟨w.heap.size, 0, none⟩)) true ty).run Tryd.prog wr = _ := fun ty => Lib.run_next_end_at wr w.heap.size s pos ty S.out.1 hp
      have Q : Hid (CutQ s s ⟨#[]⟩ ∧ Kept (fun _ => False) w wr) := ⟨CutQ.none (fun ha j hj => S.out.2.2 ha j (by omega)), S.out.2.1⟩
      clear S
      go_wp2_with fail
      go_ret2
      exact ⟨_, _, rfl, Q.out.1, Q.out.2⟩
end Go.Proofs.YtonfefhegghapaaDoor

namespace Go.Proofs.YtonfefhegghapaaDoor
open Go.RowKit 

/-- The reader: what is left of a line. -/
theorem hWord {w : World} {g : Nat} {s : ByteArray} (hs : s.size ≤ 281474976710656) (hg : w.heap[g]? = some (.cells #[.string s] 75 (0, 0))) : Calls Tryd.prog 52 #[.pointer (some ⟨g, 0, none⟩)] w fun o w' => ∃ a b, o = .returned (.string a) ∧ CutQ s a b ∧ w'.heap[g]? = some (.cells #[.string b] 75 (0, 0)) ∧ Kept (fun j => j = g) w w' := by
  have C : Hid (Calls Tryd.prog 35 #[.string s, .int .i32 32] w (RetS fun a b w' => CutQ s a b ∧ Kept (fun _ => False) w w')) := hCut s w hs
  have c0 := cell_blk hg 0 (v := .string s) rfl
  have HG : Hid (w.heap[g]? = some (.cells #[.string s] 75 (0, 0))) := hg
  clear hg
  go_enter Tryd.func52, Tryd.ntmps52
  go_wp2_with fail
  refine C.out.mono ?_
  rintro o w2 ⟨a, b, rfl, Q', K'⟩
  have Q : Hid (CutQ s a b) := Q'
  have G2 : Hid (w2.heap[g]? = some (.cells #[.string s] 75 (0, 0))) := K'.get HG.out (fun z => z)
  have F : Hid ((w2.setCell ⟨g, 0, none⟩ (.string b)).heap[g]? = some (.cells #[.string b] 75 (0, 0)) ∧ Kept (fun j => j = g) w (w2.setCell ⟨g, 0, none⟩ (.string b))) := ⟨by rw [set_heap G2.out 0]; rfl, (K'.mono (S' := fun j => j = g) (fun _ _ z => z.elim)).setCell (p := ⟨g, 0, none⟩) (fun _ => rfl) (.string b)⟩
  have d0 := cell_blk G2.out 0 (v := .string s) rfl
  have t0 := soft_blk G2.out 0
  clear C c0 HG Q' K' G2
  go_wp2_with fail
  go_ret
  exact ⟨a, b, by first | rfl | simp, Q.out, F.out.1, F.out.2⟩
/-- A number of a line, and what is left. -/
structure NumQ (s b : ByteArray) (v : Int) : Prop where
  ki : KI v
  le : b.size ≤ s.size
  asc : Asc s → b.data.toList = (cutL s.data.toList).2 ∧ ∀ u, Lib.atoiAll (cutL s.data.toList).1 = .ok u → v = u
theorem hNum {w0 w : World} {g : Nat} {s : ByteArray} (hs : s.size ≤ 281474976710656) (hg : w.heap[g]? = some (.cells #[.string s] 75 (0, 0))) (V : Vars w0) (K0 : Kept (fun _ => False) w0 w) (hlow : w0.heap.size ≤ g) : Calls Tryd.prog 53 #[.pointer (some ⟨g, 0, none⟩)] w fun o w' => ∃ b v, o = .returned (.int .i64 v) ∧ NumQ s b v ∧ w'.heap[g]? = some (.cells #[.string b] 75 (0, 0)) ∧ Kept (fun j => j = g) w w' := by
  have C : Hid (Calls Tryd.prog 52 #[.pointer (some ⟨g, 0, none⟩)] w fun o w' => ∃ a b, o = .returned (.string a) ∧ CutQ s a b ∧ w'.heap[g]? = some (.cells #[.string b] 75 (0, 0)) ∧ Kept (fun j => j = g) w w') := hWord hs hg
  have VV : Hid (Vars w0 ∧ Kept (fun _ => False) w0 w ∧ w0.heap.size ≤ g) := ⟨V, K0, hlow⟩
  clear hg V K0
  go_enter Tryd.func53, Tryd.ntmps53
  go_wp2_with fail
  refine C.out.mono ?_
  rintro o w2 ⟨a, b, rfl, Q', g2, K'⟩
  have V2 : Vars w2 := VV.out.1.kept (VV.out.2.1.trans K' (fun j hj z => by subst z; have := VV.out.2.2; omega))
  have CA : Hid (Calls Tryd.prog 61 #[.string a] w2 fun x w' => ∃ v i, x = .returned (.tuple #[.int .i64 v, i]) ∧ (KI v ∧ ∀ u, Lib.atoiAll a.data.toList = .ok u → v = u) ∧ Kept (fun _ => False) w2 w') := atoiAny a w2 (by have := Q'.le; omega) V2
  have X : Hid (CutQ s a b ∧ w2.heap[g]? = some (.cells #[.string b] 75 (0, 0)) ∧ Kept (fun j => j = g) w w2) := ⟨Q', g2, K'⟩
  clear Q' g2 K' V2 C VV
  go_wp2_with fail
  refine CA.out.mono ?_
  rintro o w3 ⟨v, i, rfl, hv, K3⟩
  have F : Hid (NumQ s b v ∧ w3.heap[g]? = some (.cells #[.string b] 75 (0, 0)) ∧ Kept (fun j => j = g) w w3) := by
    refine ⟨⟨hv.1, X.out.1.le.2, fun ha => ?_⟩, K3.get X.out.2.1 (fun z => z), X.out.2.2.trans K3 (fun _ _ z => z.elim)⟩
    have q := X.out.1.asc ha
    have q1 := congrArg Prod.fst q
    have q2 := congrArg Prod.snd q
    refine ⟨q2, fun u hu => hv.2 u ?_⟩
    rw [← hu, ← q1]
  clear X CA hv K3
  go_wp2_with fail
  go_ret
  exact ⟨b, v, by first | rfl | simp, F.out⟩
end Go.Proofs.YtonfefhegghapaaDoor
