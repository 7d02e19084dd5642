import Derived.Test.YtonfefhegghapaaDoorTS1J
import Derived.Test.YtonfefhegghapaaDoorTS5J
import Derived.Test.YtonfefhegghapaaDoorTS18J
import Derived.Test.YtonfefhegghapaaDoorTGu
import Derived.Test.YtonfefhegghapaaDoorTAb
namespace Go.Proofs.YtonfefhegghapaaDoor
open Go.RowKit 

set_option maxRecDepth 100000 in
set_option maxHeartbeats 8000000 in
theorem hStep19 {w0 w : World} {p : Option Addr} {k c : Nat} {l : List UInt8} (T : TX w0 w p k c l) (tab : Lib.TabIs Tryd.prog w0 "internal/strconv.uint64pow10" .u64 Lib.pow10Tab) (F : FM w0) {x : Sm} {s : St} (r : SRd w0 x s) (hk : 0 ≤ s.kind ∧ s.kind < 17) (hus : useN s.kind.toNat = 19) (hl : l.length ≤ 100000000) : Calls Tryd.prog 31 #[.slice p k c, .agg x.cs] w (RetT fun p' k' c' w' => TX w0 w' p' k' c' (l ++ lineL s)) := by
  obtain ⟨G, hG⟩ : ∃ G, lineL s = G := ⟨_, rfl⟩
  rw [hG]
  have H : Hid (Lib.TabIs Tryd.prog w0 "internal/strconv.uint64pow10" .u64 Lib.pow10Tab ∧ SRd w0 x s ∧ l.length ≤ 100000000) := ⟨tab, r, hl⟩
  have Fw : FM w := F.kept T.kept
  unfold lineL at hG
  have ek := r.kind
  rw [← ek] at hus
  have ea := r.a
  have eb := r.b
  have ey := r.key
  obtain ⟨kind, a, b, key, va, vn, vc, la, ln, lc⟩ := x
  dsimp only at ek ea eb ey hus
  obtain ⟨kd, rfl⟩ : ∃ kd : Nat, kind = (kd : Int) := ⟨kind.toNat, by omega⟩
  have k17 : kd < 17 := by omega
  have k17i : (kd : Int) < 17 := by omega
  rw [← ek, show (kd : Int).toNat = kd from rfl] at hG
  rw [show (kd : Int).toNat = kd from rfl] at hus
  have KY : Hid (key.data.toList = s.key ∧ key.size ≤ 134217728 ∧ KI a ∧ KI b) := by
    refine ⟨by rw [ey]; rfl, ?_, by rw [ea]; exact r.ka, by rw [eb]; exact r.kb⟩
    rw [ey, ofL_sizeE]
    have := r.sm
    omega
  have EA : Hid (a = s.a ∧ b = s.b) := ⟨ea, eb⟩
  clear ek ea eb ey r tab hl hk
  show Calls Tryd.prog 31 #[.slice p k c, .agg #[.int .i64 (kd : Int), .int .i64 a, .int .i64 b, .string key, .slice va vn vc, .slice la ln lc]] w _
  obtain ⟨wd, hwd⟩ : ∃ wd, ofL (kw kd) = wd := ⟨_, rfl⟩
  have hu : useN kd = 19 := hus
  clear hus
  obtain ⟨W1, hW1⟩ : ∃ W1, w.alloc (.cells #[.int .i64 (kd : Int), .int .i64 a, .int .i64 b, .string key, .slice va vn vc, .slice la ln lc] 38) = W1 := ⟨_, rfl⟩
  have K1 : Kept (fun _ => False) w W1 := by rw [← hW1]; exact (Kept.refl _ _).alloc _
  have bx1 : W1.heap[w.heap.size]? = some (.cells #[.int .i64 (kd : Int), .int .i64 a, .int .i64 b, .string key, .slice va vn vc, .slice la ln lc] 38 (0, 0)) := by rw [← hW1]; exact alloc_new _ _
  have f0 : W1.cell? ⟨0, kd * 2, none⟩ = some (.string wd) := by rw [← hwd]; exact (Fw.kept K1).word k17
  have f1 : W1.cell? ⟨0, kd * 2 + 1, none⟩ = some (.int .u8 19) := by have q := (Fw.kept K1).use k17; rw [hu] at q; exact q
  have b0 := cell_blk bx1 0 (v := .int .i64 (kd : Int)) rfl
  have HW1 : Hid (w.alloc (.cells #[.int .i64 (kd : Int), .int .i64 a, .int .i64 b, .string key, .slice va vn vc, .slice la ln lc] 38) = W1) := hW1
  obtain ⟨W2, hW2⟩ : ∃ W2, W1.alloc (.cells #[.string wd, .int .u8 19] 58) = W2 := ⟨_, rfl⟩
  have K2 : Kept (fun _ => False) W1 W2 := by rw [← hW2]; exact (Kept.refl _ _).alloc _
  have A2 : Hid (AS w0 W2 w.heap.size W1.heap.size #[.int .i64 (kd : Int), .int .i64 a, .int .i64 b, .string key, .slice va vn vc, .slice la ln lc] wd 19 p k c l) := ⟨(T.k0 K1).k0 K2, K2.get bx1 (fun z => z), by rw [← hW2]; exact alloc_new _ _⟩
  have HW2 : Hid (W1.alloc (.cells #[.string wd, .int .u8 19] 58) = W2) := hW2
  have HWD : Hid (ofL (kw kd) = wd ∧ wd.size ≤ 10) := ⟨hwd, by rw [← hwd, ofL_sizeE]; exact kw_len k17⟩
  have ws : wd.size ≤ 10 := HWD.out.2
  rw [hu] at hG
  have HG : Hid (kw kd ++ tailU 19 s = G) := hG
  clear K1 K2 bx1 hW2 T F Fw hwd hu hG
  clear hW1
  go_enter Tryd.func31, Tryd.ntmps31
  go_upto_region 1 with fail
  rw [HW1.out]
  clear HW1
  go_upto_region 2 with fail
  rw [HW2.out]
  clear HW2 f0 f1 b0
  obtain ⟨B1, hB1⟩ : ∃ B1, w.heap.size = B1 := ⟨_, rfl⟩
  obtain ⟨B2, hB2⟩ : ∃ B2, W1.heap.size = B2 := ⟨_, rfl⟩
  rw [hB1, hB2] at A2 ⊢
  clear hB1 hB2
  have c0 := cell_blk A2.out.fm 0 (v := .string wd) rfl
  have kl : Hid (k ≤ 100000000) := by have h1 := A2.out.tx.len; have h2 := H.out.2.2; show k ≤ 100000000; omega
  have SR : Hid (Src Tryd.prog 1 9 (.string wd) wd.size (Lib.byteCells (kw kd)) W2) := by
    have q := Src.ofString (P := Tryd.prog) W2 Tryd.underlying9 wd
    have e : kw kd = wd.data.toList := by rw [← HWD.out.1]; rfl
    rw [e]
    exact q
  have LN : Hid (k + wd.size ≤ maxLen ∧ ((k + wd.size) + (k + wd.size) / 4 + 192) * 1 ≤ 281474976710656) := by have := kl.out; unfold maxLen; exact ⟨by omega, by omega⟩
  go_upto_region 3 with
    (first
      | (at_builtin; refine wpList_append_all _ rfl (.tmp 10) (.tmp 12) 35 5 9 _ 1 1 rfl Tryd.underlying35 Tryd.info5 rfl w0.heap.size (.slice p k c) k (Lib.byteCells l) rfl A2.out.tx.row _ wd.size (Lib.byteCells (kw kd)) rfl SR.out LN.out.1 LN.out.2 A2.out.tx.kept.size ?_; intro p3 c3 W3 ho hg hn9)
      | fail)
  obtain ⟨k3, hk3⟩ : ∃ k3, k + wd.size = k3 := ⟨_, rfl⟩
  have A3 : Hid (AS w0 W3 B1 B2 #[.int .i64 (kd : Int), .int .i64 a, .int .i64 b, .string key, .slice va vn vc, .slice la ln lc] wd 19 p3 k3 c3 (l ++ kw kd) ∧ (l ++ kw kd).length ≤ 100000010) := by
    rw [← hk3]
    have e : wd.size = (kw kd).length := by rw [← HWD.out.1, ofL_sizeE]
    refine ⟨A2.out.more (A2.out.tx.more (x := kw kd) e ho.out hg.out) ((Oth.refl _).grown A2.out.tx.row hg.out), ?_⟩
    have h2 := H.out.2.2
    have h3 := HWD.out.2
    rw [List.length_append]
    omega
  rw [hk3]
  clear hk3 ho hg hn9 A2 SR LN c0 kl ws HWD
  obtain ⟨l3, hl3⟩ : ∃ l3, l ++ kw kd = l3 := ⟨_, rfl⟩
  have HG3 : Hid (l3 ++ tailU 19 s = l ++ G) := by rw [← hl3, ← HG.out]; show (l ++ kw kd) ++ tailU 19 s = l ++ (kw kd ++ tailU 19 s); rw [List.append_assoc]
  rw [hl3] at A3
  clear hl3 HG
  have BK : Hid (∀ z : Int, KI z → (numL [z]).length ≤ 22) := numL_one
  have f1 := cell_blk A3.out.1.fm 1 (v := .int .u8 19) rfl
  have v4 := cell_blk A3.out.1.bx 1 (v := .int .i64 a) rfl
  go_upto_region 4 with fail
  have C4 : Hid (Calls Tryd.prog 54 #[.slice p3 k3 c3, .slice (some ⟨W3.heap.size, 0, none⟩) 1 1] (W3.alloc (.cells #[.int .i64 a] 3)) (RetT fun p' k' c' w' => AS w0 w' B1 B2 #[.int .i64 (kd : Int), .int .i64 a, .int .i64 b, .string key, .slice va vn vc, .slice la ln lc] wd 19 p' k' c' (l3 ++ numL [a]))) := (as_num A3.out.1 H.out.1 KY.out.2.2.1 (by have := A3.out.2; omega))
  go_wp2_with fail
  refine C4.out.mono ?_
  rintro o W4 ⟨p4, k4, c4, rfl, t⟩
  obtain ⟨l4, hl4⟩ : ∃ x, l3 ++ numL [a] = x := ⟨_, rfl⟩
  have A4 : Hid (AS w0 W4 B1 B2 #[.int .i64 (kd : Int), .int .i64 a, .int .i64 b, .string key, .slice va vn vc, .slice la ln lc] wd 19 p4 k4 c4 (l4) ∧ l4.length ≤ 100000032) := by
    rw [← hl4]
    refine ⟨t, ?_⟩
    rw [List.length_append]
    have h1 := A3.out.2
    have h2 := (BK.out a KY.out.2.2.1)
    omega
  have E4 : Hid (l3 ++ numL [a] = l4) := hl4
  clear hl4
  have g4 := cell_blk A4.out.1.fm 1 (v := .int .u8 19) rfl
  clear t C4 v4 f1
  have v5 := cell_blk A4.out.1.bx 2 (v := .int .i64 b) rfl
  go_upto_region 6 with fail
  have C5 : Hid (Calls Tryd.prog 54 #[.slice p4 k4 c4, .slice (some ⟨W4.heap.size, 0, none⟩) 1 1] (W4.alloc (.cells #[.int .i64 b] 3)) (RetT fun p' k' c' w' => AS w0 w' B1 B2 #[.int .i64 (kd : Int), .int .i64 a, .int .i64 b, .string key, .slice va vn vc, .slice la ln lc] wd 19 p' k' c' (l4 ++ numL [b]))) := (as_num A4.out.1 H.out.1 KY.out.2.2.2 (by have := A4.out.2; omega))
  go_wp2_with fail
  refine C5.out.mono ?_
  rintro o W5 ⟨p5, k5, c5, rfl, t⟩
  obtain ⟨l5, hl5⟩ : ∃ x, l4 ++ numL [b] = x := ⟨_, rfl⟩
  have A5 : Hid (AS w0 W5 B1 B2 #[.int .i64 (kd : Int), .int .i64 a, .int .i64 b, .string key, .slice va vn vc, .slice la ln lc] wd 19 p5 k5 c5 (l5) ∧ l5.length ≤ 100000054) := by
    rw [← hl5]
    refine ⟨t, ?_⟩
    rw [List.length_append]
    have h1 := A4.out.2
    have h2 := (BK.out b KY.out.2.2.2)
    omega
  have E5 : Hid (l4 ++ numL [b] = l5) := hl5
  clear hl5
  have g5 := cell_blk A5.out.1.fm 1 (v := .int .u8 19) rfl
  clear t C5 v5 g4
  have v6 := cell_blk A5.out.1.bx 5 (v := .slice la ln lc) rfl
  go_upto_region 12 with fail
  have C6 : Hid (Calls Tryd.prog 54 #[.slice p5 k5 c5, .slice la ln lc] W5 (RetT fun p' k' c' w' => AS w0 w' B1 B2 #[.int .i64 (kd : Int), .int .i64 a, .int .i64 b, .string key, .slice va vn vc, .slice la ln lc] wd 19 p' k' c' (l5 ++ numL s.l))) := as_nums (x := ⟨(kd : Int), a, b, key, va, vn, vc, la, ln, lc⟩) (s := s) A5.out.1 H.out.1 H.out.2.1 (by have := A5.out.2; omega)
  go_wp2_with fail
  refine C6.out.mono ?_
  rintro o W6 ⟨p6, k6, c6, rfl, t⟩
  have A6 : Hid (AS w0 W6 B1 B2 #[.int .i64 (kd : Int), .int .i64 a, .int .i64 b, .string key, .slice va vn vc, .slice la ln lc] wd 19 p6 k6 c6 (l5 ++ numL s.l)) := t
  clear t C6 v6 g5
  have FN : Hid (TX w0 W6 p6 k6 c6 (l ++ G)) := by
    have q := A6.out.tx
    have g := HG3.out
    have e : tailU 19 s = numL [s.a] ++ numL [s.b] ++ numL s.l := by
      unfold tailU
      simp
    rw [e] at g
    rw [← E5.out, ← E4.out] at q
    rw [EA.out.1, EA.out.2] at q
    rw [← g]
    simp only [← List.append_assoc] at q ⊢
    exact q
  clear A6
  clear HG3
  go_wp2_with fail
  go_ret
  exact ⟨p6, k6, c6, by first | rfl | simp, FN.out⟩
end Go.Proofs.YtonfefhegghapaaDoor

namespace Go.Proofs.YtonfefhegghapaaDoor
open Go.RowKit 

/-- appendStep. -/
theorem hStep {w0 w : World} {p : Option Addr} {k c : Nat} {l : List UInt8} (T : TX w0 w p k c l) (tab : Lib.TabIs Tryd.prog w0 "internal/strconv.uint64pow10" .u64 Lib.pow10Tab) (F : FM w0) {x : Sm} {s : St} (r : SRd w0 x s) (hk : 0 ≤ s.kind ∧ s.kind < 17) (hl : l.length ≤ 100000000) : Calls Tryd.prog 31 #[.slice p k c, .agg x.cs] w (RetT fun p' k' c' w' => TX w0 w' p' k' c' (l ++ lineL s)) := by
  have k17 : s.kind.toNat < 17 := by omega
  rcases use_cases k17 with h | h | h | h | h | h | h | h
  · exact hStep0 T tab F r hk h hl
  · exact hStep1 T tab F r hk h hl
  · exact hStep3 T tab F r hk h hl
  · exact hStep5 T tab F r hk h hl
  · exact hStep13 T tab F r hk h hl
  · exact hStep17 T tab F r hk h hl
  · exact hStep18 T tab F r hk h hl
  · exact hStep19 T tab F r hk h hl
end Go.Proofs.YtonfefhegghapaaDoor

namespace Go.Proofs.YtonfefhegghapaaDoor
open Go.RowKit 

def b2 (p : Prop) [Decidable p] (n : Nat) : Nat := if p then n else 0
/-- What of a step is not zero. -/
def filN (x : Sm) : Nat := b2 (x.a ≠ 0) 1 + b2 (x.b ≠ 0) 2 + b2 (0 < x.key.size) 4 + b2 (0 < x.vn) 8 + b2 (0 < x.ln) 16
theorem b2_yes {p : Prop} [Decidable p] (h : p) (n : Nat) : b2 p n = n := if_pos h
theorem b2_no {p : Prop} [Decidable p] (h : ¬ p) (n : Nat) : b2 p n = 0 := if_neg h
/-- The lengths are ones that lists have. -/
structure SmL (x : Sm) : Prop where
  a : KI x.a
  b : KI x.b
  kind : KI x.kind
  key : x.key.size ≤ 9223372036854775807
  v : x.vn ≤ 9223372036854775807
  l : x.ln ≤ 9223372036854775807
set_option maxRecDepth 100000 in
set_option maxHeartbeats 4000000 in
theorem hFilled (x : Sm) (w : World) (L : SmL x) : Calls Tryd.prog 32 #[.agg x.cs] w fun o w' => o = .returned (.int .u8 (filN x : Int)) ∧ Kept (fun _ => False) w w' := by
  obtain ⟨R, hR⟩ : ∃ R, filN x = R := ⟨_, rfl⟩
  rw [hR]
  unfold filN at hR
  obtain ⟨kind, a, b, key, va, vn, vc, la, ln, lc⟩ := x
  have l1 := L.key
  have l2 := L.v
  have l3 := L.l
  have l4 := L.a.1
  have l5 := L.a.2
  have l6 := L.b.1
  have l7 := L.b.2
  clear L
  dsimp only at hR l1 l2 l3 l4 l5 l6 l7
  show Calls Tryd.prog 32 #[.agg #[.int .i64 kind, .int .i64 a, .int .i64 b, .string key, .slice va vn vc, .slice la ln lc]] w _
  have HR : Hid (b2 (a ≠ 0) 1 + b2 (b ≠ 0) 2 + b2 (0 < key.size) 4 + b2 (0 < vn) 8 + b2 (0 < ln) 16 = R) := hR
  clear hR
  by_cases h1 : a ≠ 0
  · have g1 : ¬ a = 0 := h1
    by_cases h2 : b ≠ 0
    · have g2 : ¬ b = 0 := h2
      by_cases h3 : 0 < key.size
      · have g3 : (0 : Int) < (key.size : Int) := by omega
        have g3n : ¬ key.size = 0 := by omega
        by_cases h4 : 0 < vn
        · have g4 : (0 : Int) < (vn : Int) := by omega
          by_cases h5 : 0 < ln
          · have g5 : (0 : Int) < (ln : Int) := by omega
            have e : R = 31 := by rw [← HR.out, b2_yes h1, b2_yes h2, b2_yes h3, b2_yes h4, b2_yes h5]
            subst e
            go_enter Tryd.func32, Tryd.ntmps32
            go_wp2_with fail
            go_ret
            exact ⟨by first | rfl | decide | (congr 2), (Kept.refl _ _).alloc _⟩
          · have g5 : ¬ (0 : Int) < (ln : Int) := by omega
            have e : R = 15 := by rw [← HR.out, b2_yes h1, b2_yes h2, b2_yes h3, b2_yes h4, b2_no h5]
            subst e
            go_enter Tryd.func32, Tryd.ntmps32
            go_wp2_with fail
            go_ret
            exact ⟨by first | rfl | decide | (congr 2), (Kept.refl _ _).alloc _⟩
        · have g4 : ¬ (0 : Int) < (vn : Int) := by omega
          by_cases h5 : 0 < ln
          · have g5 : (0 : Int) < (ln : Int) := by omega
            have e : R = 23 := by rw [← HR.out, b2_yes h1, b2_yes h2, b2_yes h3, b2_no h4, b2_yes h5]
            subst e
            go_enter Tryd.func32, Tryd.ntmps32
            go_wp2_with fail
            go_ret
            exact ⟨by first | rfl | decide | (congr 2), (Kept.refl _ _).alloc _⟩
          · have g5 : ¬ (0 : Int) < (ln : Int) := by omega
            have e : R = 7 := by rw [← HR.out, b2_yes h1, b2_yes h2, b2_yes h3, b2_no h4, b2_no h5]
            subst e
            go_enter Tryd.func32, Tryd.ntmps32
            go_wp2_with fail
            go_ret
            exact ⟨by first | rfl | decide | (congr 2), (Kept.refl _ _).alloc _⟩
      · have g3 : ¬ (0 : Int) < (key.size : Int) := by omega
        have g3n : key.size = 0 := by omega
        by_cases h4 : 0 < vn
        · have g4 : (0 : Int) < (vn : Int) := by omega
          by_cases h5 : 0 < ln
          · have g5 : (0 : Int) < (ln : Int) := by omega
            have e : R = 27 := by rw [← HR.out, b2_yes h1, b2_yes h2, b2_no h3, b2_yes h4, b2_yes h5]
            subst e
            go_enter Tryd.func32, Tryd.ntmps32
            go_wp2_with fail
            go_ret
            exact ⟨by first | rfl | decide | (congr 2), (Kept.refl _ _).alloc _⟩
          · have g5 : ¬ (0 : Int) < (ln : Int) := by omega
            have e : R = 11 := by rw [← HR.out, b2_yes h1, b2_yes h2, b2_no h3, b2_yes h4, b2_no h5]
            subst e
            go_enter Tryd.func32, Tryd.ntmps32
            go_wp2_with fail
            go_ret
            exact ⟨by first | rfl | decide | (congr 2), (Kept.refl _ _).alloc _⟩
        · have g4 : ¬ (0 : Int) < (vn : Int) := by omega
          by_cases h5 : 0 < ln
          · have g5 : (0 : Int) < (ln : Int) := by omega
            have e : R = 19 := by rw [← HR.out, b2_yes h1, b2_yes h2, b2_no h3, b2_no h4, b2_yes h5]
            subst e
            go_enter Tryd.func32, Tryd.ntmps32
            go_wp2_with fail
            go_ret
            exact ⟨by first | rfl | decide | (congr 2), (Kept.refl _ _).alloc _⟩
          · have g5 : ¬ (0 : Int) < (ln : Int) := by omega
            have e : R = 3 := by rw [← HR.out, b2_yes h1, b2_yes h2, b2_no h3, b2_no h4, b2_no h5]
            subst e
            go_enter Tryd.func32, Tryd.ntmps32
            go_wp2_with fail
            go_ret
            exact ⟨by first | rfl | decide | (congr 2), (Kept.refl _ _).alloc _⟩
    · have g2 : b = 0 := Decidable.of_not_not h2
      have g2b : (b != 0) = false := by rw [g2]; rfl
      by_cases h3 : 0 < key.size
      · have g3 : (0 : Int) < (key.size : Int) := by omega
        have g3n : ¬ key.size = 0 := by omega
        by_cases h4 : 0 < vn
        · have g4 : (0 : Int) < (vn : Int) := by omega
          by_cases h5 : 0 < ln
          · have g5 : (0 : Int) < (ln : Int) := by omega
            have e : R = 29 := by rw [← HR.out, b2_yes h1, b2_no h2, b2_yes h3, b2_yes h4, b2_yes h5]
            subst e
            go_enter Tryd.func32, Tryd.ntmps32
            go_wp2_with fail
            go_ret
            exact ⟨by first | rfl | decide | (congr 2), (Kept.refl _ _).alloc _⟩
          · have g5 : ¬ (0 : Int) < (ln : Int) := by omega
            have e : R = 13 := by rw [← HR.out, b2_yes h1, b2_no h2, b2_yes h3, b2_yes h4, b2_no h5]
            subst e
            go_enter Tryd.func32, Tryd.ntmps32
            go_wp2_with fail
            go_ret
            exact ⟨by first | rfl | decide | (congr 2), (Kept.refl _ _).alloc _⟩
        · have g4 : ¬ (0 : Int) < (vn : Int) := by omega
          by_cases h5 : 0 < ln
          · have g5 : (0 : Int) < (ln : Int) := by omega
            have e : R = 21 := by rw [← HR.out, b2_yes h1, b2_no h2, b2_yes h3, b2_no h4, b2_yes h5]
            subst e
            go_enter Tryd.func32, Tryd.ntmps32
            go_wp2_with fail
            go_ret
            exact ⟨by first | rfl | decide | (congr 2), (Kept.refl _ _).alloc _⟩
          · have g5 : ¬ (0 : Int) < (ln : Int) := by omega
            have e : R = 5 := by rw [← HR.out, b2_yes h1, b2_no h2, b2_yes h3, b2_no h4, b2_no h5]
            subst e
            go_enter Tryd.func32, Tryd.ntmps32
            go_wp2_with fail
            go_ret
            exact ⟨by first | rfl | decide | (congr 2), (Kept.refl _ _).alloc _⟩
      · have g3 : ¬ (0 : Int) < (key.size : Int) := by omega
        have g3n : key.size = 0 := by omega
        by_cases h4 : 0 < vn
        · have g4 : (0 : Int) < (vn : Int) := by omega
          by_cases h5 : 0 < ln
          · have g5 : (0 : Int) < (ln : Int) := by omega
            have e : R = 25 := by rw [← HR.out, b2_yes h1, b2_no h2, b2_no h3, b2_yes h4, b2_yes h5]
            subst e
            go_enter Tryd.func32, Tryd.ntmps32
            go_wp2_with fail
            go_ret
            exact ⟨by first | rfl | decide | (congr 2), (Kept.refl _ _).alloc _⟩
          · have g5 : ¬ (0 : Int) < (ln : Int) := by omega
            have e : R = 9 := by rw [← HR.out, b2_yes h1, b2_no h2, b2_no h3, b2_yes h4, b2_no h5]
            subst e
            go_enter Tryd.func32, Tryd.ntmps32
            go_wp2_with fail
            go_ret
            exact ⟨by first | rfl | decide | (congr 2), (Kept.refl _ _).alloc _⟩
        · have g4 : ¬ (0 : Int) < (vn : Int) := by omega
          by_cases h5 : 0 < ln
          · have g5 : (0 : Int) < (ln : Int) := by omega
            have e : R = 17 := by rw [← HR.out, b2_yes h1, b2_no h2, b2_no h3, b2_no h4, b2_yes h5]
            subst e
            go_enter Tryd.func32, Tryd.ntmps32
            go_wp2_with fail
            go_ret
            exact ⟨by first | rfl | decide | (congr 2), (Kept.refl _ _).alloc _⟩
          · have g5 : ¬ (0 : Int) < (ln : Int) := by omega
            have e : R = 1 := by rw [← HR.out, b2_yes h1, b2_no h2, b2_no h3, b2_no h4, b2_no h5]
            subst e
            go_enter Tryd.func32, Tryd.ntmps32
            go_wp2_with fail
            go_ret
            exact ⟨by first | rfl | decide | (congr 2), (Kept.refl _ _).alloc _⟩
  · have g1 : a = 0 := Decidable.of_not_not h1
    have g1b : (a != 0) = false := by rw [g1]; rfl
    by_cases h2 : b ≠ 0
    · have g2 : ¬ b = 0 := h2
      by_cases h3 : 0 < key.size
      · have g3 : (0 : Int) < (key.size : Int) := by omega
        have g3n : ¬ key.size = 0 := by omega
        by_cases h4 : 0 < vn
        · have g4 : (0 : Int) < (vn : Int) := by omega
          by_cases h5 : 0 < ln
          · have g5 : (0 : Int) < (ln : Int) := by omega
            have e : R = 30 := by rw [← HR.out, b2_no h1, b2_yes h2, b2_yes h3, b2_yes h4, b2_yes h5]
            subst e
            go_enter Tryd.func32, Tryd.ntmps32
            go_wp2_with fail
            go_ret
            exact ⟨by first | rfl | decide | (congr 2), (Kept.refl _ _).alloc _⟩
          · have g5 : ¬ (0 : Int) < (ln : Int) := by omega
            have e : R = 14 := by rw [← HR.out, b2_no h1, b2_yes h2, b2_yes h3, b2_yes h4, b2_no h5]
            subst e
            go_enter Tryd.func32, Tryd.ntmps32
            go_wp2_with fail
            go_ret
            exact ⟨by first | rfl | decide | (congr 2), (Kept.refl _ _).alloc _⟩
        · have g4 : ¬ (0 : Int) < (vn : Int) := by omega
          by_cases h5 : 0 < ln
          · have g5 : (0 : Int) < (ln : Int) := by omega
            have e : R = 22 := by rw [← HR.out, b2_no h1, b2_yes h2, b2_yes h3, b2_no h4, b2_yes h5]
            subst e
            go_enter Tryd.func32, Tryd.ntmps32
            go_wp2_with fail
            go_ret
            exact ⟨by first | rfl | decide | (congr 2), (Kept.refl _ _).alloc _⟩
          · have g5 : ¬ (0 : Int) < (ln : Int) := by omega
            have e : R = 6 := by rw [← HR.out, b2_no h1, b2_yes h2, b2_yes h3, b2_no h4, b2_no h5]
            subst e
            go_enter Tryd.func32, Tryd.ntmps32
            go_wp2_with fail
            go_ret
            exact ⟨by first | rfl | decide | (congr 2), (Kept.refl _ _).alloc _⟩
      · have g3 : ¬ (0 : Int) < (key.size : Int) := by omega
        have g3n : key.size = 0 := by omega
        by_cases h4 : 0 < vn
        · have g4 : (0 : Int) < (vn : Int) := by omega
          by_cases h5 : 0 < ln
          · have g5 : (0 : Int) < (ln : Int) := by omega
            have e : R = 26 := by rw [← HR.out, b2_no h1, b2_yes h2, b2_no h3, b2_yes h4, b2_yes h5]
            subst e
            go_enter Tryd.func32, Tryd.ntmps32
            go_wp2_with fail
            go_ret
            exact ⟨by first | rfl | decide | (congr 2), (Kept.refl _ _).alloc _⟩
          · have g5 : ¬ (0 : Int) < (ln : Int) := by omega
            have e : R = 10 := by rw [← HR.out, b2_no h1, b2_yes h2, b2_no h3, b2_yes h4, b2_no h5]
            subst e
            go_enter Tryd.func32, Tryd.ntmps32
            go_wp2_with fail
            go_ret
            exact ⟨by first | rfl | decide | (congr 2), (Kept.refl _ _).alloc _⟩
        · have g4 : ¬ (0 : Int) < (vn : Int) := by omega
          by_cases h5 : 0 < ln
          · have g5 : (0 : Int) < (ln : Int) := by omega
            have e : R = 18 := by rw [← HR.out, b2_no h1, b2_yes h2, b2_no h3, b2_no h4, b2_yes h5]
            subst e
            go_enter Tryd.func32, Tryd.ntmps32
            go_wp2_with fail
            go_ret
            exact ⟨by first | rfl | decide | (congr 2), (Kept.refl _ _).alloc _⟩
          · have g5 : ¬ (0 : Int) < (ln : Int) := by omega
            have e : R = 2 := by rw [← HR.out, b2_no h1, b2_yes h2, b2_no h3, b2_no h4, b2_no h5]
            subst e
            go_enter Tryd.func32, Tryd.ntmps32
            go_wp2_with fail
            go_ret
            exact ⟨by first | rfl | decide | (congr 2), (Kept.refl _ _).alloc _⟩
    · have g2 : b = 0 := Decidable.of_not_not h2
      have g2b : (b != 0) = false := by rw [g2]; rfl
      by_cases h3 : 0 < key.size
      · have g3 : (0 : Int) < (key.size : Int) := by omega
        have g3n : ¬ key.size = 0 := by omega
        by_cases h4 : 0 < vn
        · have g4 : (0 : Int) < (vn : Int) := by omega
          by_cases h5 : 0 < ln
          · have g5 : (0 : Int) < (ln : Int) := by omega
            have e : R = 28 := by rw [← HR.out, b2_no h1, b2_no h2, b2_yes h3, b2_yes h4, b2_yes h5]
            subst e
            go_enter Tryd.func32, Tryd.ntmps32
            go_wp2_with fail
            go_ret
            exact ⟨by first | rfl | decide | (congr 2), (Kept.refl _ _).alloc _⟩
          · have g5 : ¬ (0 : Int) < (ln : Int) := by omega
            have e : R = 12 := by rw [← HR.out, b2_no h1, b2_no h2, b2_yes h3, b2_yes h4, b2_no h5]
            subst e
            go_enter Tryd.func32, Tryd.ntmps32
            go_wp2_with fail
            go_ret
            exact ⟨by first | rfl | decide | (congr 2), (Kept.refl _ _).alloc _⟩
        · have g4 : ¬ (0 : Int) < (vn : Int) := by omega
          by_cases h5 : 0 < ln
          · have g5 : (0 : Int) < (ln : Int) := by omega
            have e : R = 20 := by rw [← HR.out, b2_no h1, b2_no h2, b2_yes h3, b2_no h4, b2_yes h5]
            subst e
            go_enter Tryd.func32, Tryd.ntmps32
            go_wp2_with fail
            go_ret
            exact ⟨by first | rfl | decide | (congr 2), (Kept.refl _ _).alloc _⟩
          · have g5 : ¬ (0 : Int) < (ln : Int) := by omega
            have e : R = 4 := by rw [← HR.out, b2_no h1, b2_no h2, b2_yes h3, b2_no h4, b2_no h5]
            subst e
            go_enter Tryd.func32, Tryd.ntmps32
            go_wp2_with fail
            go_ret
            exact ⟨by first | rfl | decide | (congr 2), (Kept.refl _ _).alloc _⟩
      · have g3 : ¬ (0 : Int) < (key.size : Int) := by omega
        have g3n : key.size = 0 := by omega
        by_cases h4 : 0 < vn
        · have g4 : (0 : Int) < (vn : Int) := by omega
          by_cases h5 : 0 < ln
          · have g5 : (0 : Int) < (ln : Int) := by omega
            have e : R = 24 := by rw [← HR.out, b2_no h1, b2_no h2, b2_no h3, b2_yes h4, b2_yes h5]
            subst e
            go_enter Tryd.func32, Tryd.ntmps32
            go_wp2_with fail
            go_ret
            exact ⟨by first | rfl | decide | (congr 2), (Kept.refl _ _).alloc _⟩
          · have g5 : ¬ (0 : Int) < (ln : Int) := by omega
            have e : R = 8 := by rw [← HR.out, b2_no h1, b2_no h2, b2_no h3, b2_yes h4, b2_no h5]
            subst e
            go_enter Tryd.func32, Tryd.ntmps32
            go_wp2_with fail
            go_ret
            exact ⟨by first | rfl | decide | (congr 2), (Kept.refl _ _).alloc _⟩
        · have g4 : ¬ (0 : Int) < (vn : Int) := by omega
          by_cases h5 : 0 < ln
          · have g5 : (0 : Int) < (ln : Int) := by omega
            have e : R = 16 := by rw [← HR.out, b2_no h1, b2_no h2, b2_no h3, b2_no h4, b2_yes h5]
            subst e
            go_enter Tryd.func32, Tryd.ntmps32
            go_wp2_with fail
            go_ret
            exact ⟨by first | rfl | decide | (congr 2), (Kept.refl _ _).alloc _⟩
          · have g5 : ¬ (0 : Int) < (ln : Int) := by omega
            have e : R = 0 := by rw [← HR.out, b2_no h1, b2_no h2, b2_no h3, b2_no h4, b2_no h5]
            subst e
            go_enter Tryd.func32, Tryd.ntmps32
            go_wp2_with fail
            go_ret
            exact ⟨by first | rfl | decide | (congr 2), (Kept.refl _ _).alloc _⟩
end Go.Proofs.YtonfefhegghapaaDoor
