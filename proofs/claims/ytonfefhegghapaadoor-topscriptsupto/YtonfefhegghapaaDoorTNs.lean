import Derived.Test.YtonfefhegghapaaDoorTBzJ
namespace Go.Proofs.YtonfefhegghapaaDoor
open Go.RowKit 

/-- All numbers that are left. -/
def numsF : Nat → List UInt8 → List Int
  | 0, _ => []
  | f + 1, l => if l = [] then [] else atoiV (cutE 32 l).1 :: numsF f (cutE 32 l).2
def numsL (l : List UInt8) : List Int := numsF l.length l
theorem numsF_more : ∀ (f g : Nat) (l : List UInt8), l.length ≤ f → l.length ≤ g → numsF f l = numsF g l
  | 0, g, l, h, _ => by
    have : l = [] := List.eq_nil_of_length_eq_zero (by omega)
    subst this
    cases g with
    | zero => rfl
    | succ g => unfold numsF; rw [if_pos rfl]
  | f + 1, 0, l, _, h => by
    have : l = [] := List.eq_nil_of_length_eq_zero (by omega)
    subst this
    unfold numsF
    rw [if_pos rfl]
  | f + 1, g + 1, l, h1, h2 => by
    unfold numsF
    by_cases h : l = []
    · rw [if_pos h, if_pos h]
    · have := (cutE_len 32 l).2.2 h
      rw [if_neg h, if_neg h, numsF_more f g (cutE 32 l).2 (by omega) (by omega)]
theorem Tryd.info3 : (Tryd.prog.info? 3).map (fun i => (i.zero, i.size, i.bytes)) = some (some (.int .i64 0), 1, 8) := by kernel_rfl
def intC (zs : List Int) : List Value := zs.map fun z => Value.int .i64 z
/-- Numbers in a row of one's own. -/
structure NX (w0 wr : World) (p : Option Addr) (k c : Nat) (zs : List Int) : Prop where
  len : k = zs.length
  row : wr.ownsRow w0.heap.size 3 1 (.slice p k c) k (intC zs)
theorem src_int (w : World) (z : Int) : Src Tryd.prog 1 36 (.slice (some ⟨w.heap.size, 0, none⟩) 1 1) 1 (intC [z]) (w.alloc (.cells #[.int .i64 z] 3)) :=
  Src.ofSlice _ Tryd.underlying36 ⟨w.heap.size, 0, none⟩ 1 1 (intC [z]) rfl (fun j u hj => by
    have : j = 0 := by
      have := (List.getElem?_eq_some_iff.1 hj).1
      simp [intC] at this
      exact this
    subst this
    have e : u = .int .i64 z := by simpa [intC] using hj.symm
    rw [e, Addr.add_none]
    exact cell_blk (alloc_new w _) 0 rfl) (fun v hv => by
    have e : v = .int .i64 z := by simpa [intC] using hv
    rw [e]
    rfl)
/-- How much is left of the line. -/
def leftN (g : Nat) (w : World) : Nat := match w.cell? ⟨g, 0, none⟩ with | some (.string t) => t.data.toList.length | _ => 0
theorem leftN_of {g : Nat} {w : World} {t : ByteArray} (h : w.heap[g]? = some (.cells #[.string t] 75 (0, 0))) : leftN g w = t.data.toList.length := by
  unfold leftN
  rw [cell_blk h 0 (v := .string t) rfl]
set_option maxRecDepth 100000 in
set_option maxHeartbeats 2000000 in
theorem hNumbers {w0 w : World} {g : Nat} {s : ByteArray} (hs : s.size ≤ 33554432) (hg : w.heap[g]? = some (.cells #[.string s] 75 (0, 0))) (V : Vars w0) (K0 : Kept (fun _ => False) w0 w) (hlow : w0.heap.size ≤ g) : Calls Tryd.prog 58 #[.pointer (some ⟨g, 0, none⟩)] w fun o w' => ∃ p k c, o = .returned (.slice p k c) ∧ NX w w' p k c (numsL s.data.toList) ∧ Kept (fun j => j = g) w w' := by
  have HH : Hid (Vars w0 ∧ Kept (fun _ => False) w0 w ∧ w0.heap.size ≤ g ∧ g < w.heap.size) := ⟨V, K0, hlow, block_lt hg⟩
  obtain ⟨R, hR⟩ : ∃ R, numsL s.data.toList = R := ⟨_, rfl⟩
  rw [hR]
  have S0 : Hid (w.heap[g]? = some (.cells #[.string s] 75 (0, 0)) ∧ NX w w none 0 0 [] ∧ Kept (fun j => j = g) w w ∧ [] ++ numsF s.data.toList.length s.data.toList = R ∧ 0 + s.data.toList.length ≤ 33554432) := ⟨hg, ⟨rfl, rfl, .inl ⟨rfl, rfl⟩⟩, Kept.refl _ _, hR, by rw [Array.length_toList]; have : s.data.size ≤ 33554432 := hs; omega⟩
  clear hR hg V K0 hs
  go_enter Tryd.func58, Tryd.ntmps58
  go_wp2_with fail
  go_loopw [3] (fun u3 wr => ∃ (t : ByteArray) (p : Option Addr) (k c : Nat) (zs : List Int), u3 = .slice p k c ∧ Hid (wr.heap[g]? = some (.cells #[.string t] 75 (0, 0)) ∧ NX w wr p k c zs ∧ Kept (fun j => j = g) w wr ∧ zs ++ numsF t.data.toList.length t.data.toList = R ∧ k + t.data.toList.length ≤ 33554432)) (fun _ wr => leftN g wr)
  case atStart => exact ⟨s, none, 0, 0, [], rfl, S0⟩
  case round =>
    obtain ⟨t, p, k, c, zs, rfl, S⟩ := hrel
    clear S0
    obtain ⟨wo, hwo⟩ : ∃ wo, wo = wr := ⟨_, rfl⟩
    rw [← hwo] at S ⊢
    clear hwo
    have c0 := cell_blk S.out.1 0 (v := .string t) rfl
    by_cases he : t.data.toList = []
    · have be : t.toList.isEmpty = true := by rw [Go.ByteArray.toList_eq, he]; rfl
      have F : Hid (NX w wo p k c R ∧ Kept (fun j => j = g) w wo) := by
        have q := S.out.2.2.2.1
        rw [he] at q
        have q : zs ++ [] = R := q
        rw [List.append_nil] at q
        rw [← q]
        exact ⟨S.out.2.1, S.out.2.2.1⟩
      clear S he
      go_wp2_with fail
      go_ret
      exact ⟨p, k, c, by first | rfl | simp, F.out⟩
    · have be : t.toList.isEmpty = false := by
        rw [Go.ByteArray.toList_eq]
        cases hz : t.data.toList with
        | nil => exact absurd hz he
        | cons x r => rfl
      have hl := (cutE_len 32 t.data.toList)
      have HL : Hid ((cutE 32 t.data.toList).2.length < t.data.toList.length) := hl.2.2 he
      obtain ⟨v, hv⟩ : ∃ v, atoiV (cutE 32 t.data.toList).1 = v := ⟨_, rfl⟩
      obtain ⟨b, hb⟩ : ∃ b, ofL (cutE 32 t.data.toList).2 = b := ⟨_, rfl⟩
      have CN : Hid (Calls Tryd.prog 53 #[.pointer (some ⟨g, 0, none⟩)] wo fun o w' => o = .returned (.int .i64 v) ∧ w'.heap[g]? = some (.cells #[.string b] 75 (0, 0)) ∧ Kept (fun j => j = g) wo w') := by
        rw [← hv, ← hb]
        exact hNumE (by have := S.out.2.2.2.2; rw [Array.length_toList] at this; have : t.size ≤ 33554432 := by show t.data.size ≤ _; omega
                        omega) S.out.1 HH.out.1 (HH.out.2.1.trans S.out.2.2.1 (fun j hj z => by subst z; have := HH.out.2.2.1; omega)) HH.out.2.2.1
      have NR : Hid (zs ++ [v] ++ numsF b.data.toList.length b.data.toList = R ∧ k + 1 + b.data.toList.length ≤ 33554432 ∧ b.data.toList.length < t.data.toList.length) := by
        rw [← hb, ofL_listE]
        refine ⟨?_, by have := S.out.2.2.2.2; have := HL.out; omega, HL.out⟩
        have q := S.out.2.2.2.1
        cases hn : t.data.toList.length with
        | zero => exact absurd (List.eq_nil_of_length_eq_zero hn) he
        | succ f =>
          rw [hn] at q
          unfold numsF at q
          rw [if_neg he, hv, numsF_more f (cutE 32 t.data.toList).2.length _ (by have := HL.out; omega) (Nat.le_refl _)] at q
          rw [← q, List.append_assoc]
          rfl
      clear hv hb hl he
      go_wp2_with fail
      refine CN.out.mono ?_
      rintro o w2 ⟨rfl, g2, K2⟩
      have A1 : Hid ((w2.alloc (.cells #[.int .i64 v] 3)).heap[g]? = some (.cells #[.string b] 75 (0, 0)) ∧ NX w (w2.alloc (.cells #[.int .i64 v] 3)) p k c zs ∧ Kept (fun j => j = g) w (w2.alloc (.cells #[.int .i64 v] 3))) := by
        have kk : Kept (fun j => j = g) wo (w2.alloc (.cells #[.int .i64 v] 3)) := K2.alloc _
        refine ⟨alloc_old _ g2, ⟨S.out.2.1.len, kk.owns S.out.2.1.row (fun j z q => ?_)⟩, S.out.2.2.1.trans kk (fun _ _ z => z)⟩
        rw [blockOf_own] at z
        have := (own_lt S.out.2.1.row j z).1
        have h2 := HH.out.2.2.2
        omega
      have SR : Hid (Src Tryd.prog 1 36 (.slice (some ⟨w2.heap.size, 0, none⟩) 1 1) 1 (intC [v]) (w2.alloc (.cells #[.int .i64 v] 3))) := src_int w2 v
      have LN : Hid (k + 1 ≤ maxLen ∧ ((k + 1) + (k + 1) / 4 + 192) * 8 ≤ 281474976710656) := by have := NR.out.2.1; unfold maxLen; exact ⟨by omega, by omega⟩
      clear g2 K2 CN c0
      go_wp2_with
        (first
          | (at_builtin; refine wpList_append_all _ rfl (.tmp 9) (.tmp 12) 36 3 36 _ 1 8 rfl Tryd.underlying36 Tryd.info3 rfl w.heap.size (.slice p k c) k (intC zs) rfl A1.out.2.1.row _ 1 (intC [v]) rfl SR.out LN.out.1 LN.out.2 A1.out.2.2.size ?_; intro p9 c9 w9 ho hg hn9)
          | fail)
      have N9 : Hid (w9.heap[g]? = some (.cells #[.string b] 75 (0, 0)) ∧ NX w w9 p9 (k + 1) c9 (zs ++ [v]) ∧ Kept (fun j => j = g) w w9) := by
        have KG : Kept (fun j => blockOf p = some j) (w2.alloc (.cells #[.int .i64 v] 3)) w9 := (Kept.refl (fun j => blockOf p = some j) _).grown hg.out (fun j _ z => by rw [blockOf_own] at z; exact z)
        refine ⟨grown_keep A1.out.2.1.row hg.out (by decide) A1.out.1, ⟨by rw [List.length_append, ← A1.out.2.1.len]; rfl, ?_⟩, A1.out.2.2.trans KG (fun j hj z => ?_)⟩
        · have e : intC (zs ++ [v]) = intC zs ++ intC [v] := by unfold intC; rw [List.map_append]
          rw [e]
          exact ho.out
        · have := (own_lt A1.out.2.1.row j z).1
          omega
      clear ho hg hn9 A1 SR LN
      go_roundw
      case rel => exact ⟨b, p9, k + 1, c9, zs ++ [v], rfl, N9.out.1, N9.out.2.1, N9.out.2.2, NR.out.1, NR.out.2.1⟩
      case measure =>
        have e1 := leftN_of N9.out.1
        have e2 := leftN_of S.out.1
        have := NR.out.2.2
        omega
end Go.Proofs.YtonfefhegghapaaDoor
