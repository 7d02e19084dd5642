import Derived.Test.YtonfefhegghapaaDoorTS1J
namespace Go.Proofs.YtonfefhegghapaaDoor
open Go.RowKit 

set_option maxRecDepth 100000 in
set_option maxHeartbeats 8000000 in
theorem hStep13 {w0 w : World} {p : Option Addr} {k c : Nat} {l : List UInt8} (T : TX w0 w p k c l) (tab : Lib.TabIs Tryd.prog w0 "internal/strconv.uint64pow10" .u64 Lib.pow10Tab) (F : FM w0) {x : Sm} {s : St} (r : SRd w0 x s) (hk : 0 ≤ s.kind ∧ s.kind < 17) (hus : useN s.kind.toNat = 13) (hl : l.length ≤ 100000000) : Calls Tryd.prog 31 #[.slice p k c, .agg x.cs] w (RetT fun p' k' c' w' => TX w0 w' p' k' c' (l ++ lineL s)) := by
  obtain ⟨G, hG⟩ : ∃ G, lineL s = G := ⟨_, rfl⟩
  rw [hG]
  have H : Hid (Lib.TabIs Tryd.prog w0 "internal/strconv.uint64pow10" .u64 Lib.pow10Tab ∧ SRd w0 x s ∧ l.length ≤ 100000000) := ⟨tab, r, hl⟩
  have Fw : FM w := F.kept T.kept
  unfold lineL at hG
  have ek := r.kind
  rw [← ek] at hus
  have ea := r.a
  have eb := r.b
  have ey := r.key
  obtain ⟨kind, a, b, key, va, vn, vc, la, ln, lc⟩ := x
  dsimp only at ek ea eb ey hus
  obtain ⟨kd, rfl⟩ : ∃ kd : Nat, kind = (kd : Int) := ⟨kind.toNat, by omega⟩
  have k17 : kd < 17 := by omega
  have k17i : (kd : Int) < 17 := by omega
  rw [← ek, show (kd : Int).toNat = kd from rfl] at hG
  rw [show (kd : Int).toNat = kd from rfl] at hus
  have KY : Hid (key.data.toList = s.key ∧ key.size ≤ 134217728 ∧ KI a ∧ KI b) := by
    refine ⟨by rw [ey]; rfl, ?_, by rw [ea]; exact r.ka, by rw [eb]; exact r.kb⟩
    rw [ey, ofL_sizeE]
    have := r.sm
    omega
  have EA : Hid (a = s.a ∧ b = s.b) := ⟨ea, eb⟩
  clear ek ea eb ey r tab hl hk
  show Calls Tryd.prog 31 #[.slice p k c, .agg #[.int .i64 (kd : Int), .int .i64 a, .int .i64 b, .string key, .slice va vn vc, .slice la ln lc]] w _
  obtain ⟨wd, hwd⟩ : ∃ wd, ofL (kw kd) = wd := ⟨_, rfl⟩
  have hu : useN kd = 13 := hus
  clear hus
  obtain ⟨W1, hW1⟩ : ∃ W1, w.alloc (.cells #[.int .i64 (kd : Int), .int .i64 a, .int .i64 b, .string key, .slice va vn vc, .slice la ln lc] 38) = W1 := ⟨_, rfl⟩
  have K1 : Kept (fun _ => False) w W1 := by rw [← hW1]; exact (Kept.refl _ _).alloc _
  have bx1 : W1.heap[w.heap.size]? = some (.cells #[.int .i64 (kd : Int), .int .i64 a, .int .i64 b, .string key, .slice va vn vc, .slice la ln lc] 38 (0, 0)) := by rw [← hW1]; exact alloc_new _ _
  have f0 : W1.cell? ⟨0, kd * 2, none⟩ = some (.string wd) := by rw [← hwd]; exact (Fw.kept K1).word k17
  have f1 : W1.cell? ⟨0, kd * 2 + 1, none⟩ = some (.int .u8 13) := by have q := (Fw.kept K1).use k17; rw [hu] at q; exact q
  have b0 := cell_blk bx1 0 (v := .int .i64 (kd : Int)) rfl
  have HW1 : Hid (w.alloc (.cells #[.int .i64 (kd : Int), .int .i64 a, .int .i64 b, .string key, .slice va vn vc, .slice la ln lc] 38) = W1) := hW1
  obtain ⟨W2, hW2⟩ : ∃ W2, W1.alloc (.cells #[.string wd, .int .u8 13] 58) = W2 := ⟨_, rfl⟩
  have K2 : Kept (fun _ => False) W1 W2 := by rw [← hW2]; exact (Kept.refl _ _).alloc _
  have A2 : Hid (AS w0 W2 w.heap.size W1.heap.size #[.int .i64 (kd : Int), .int .i64 a, .int .i64 b, .string key, .slice va vn vc, .slice la ln lc] wd 13 p k c l) := ⟨(T.k0 K1).k0 K2, K2.get bx1 (fun z => z), by rw [← hW2]; exact alloc_new _ _⟩
  have HW2 : Hid (W1.alloc (.cells #[.string wd, .int .u8 13] 58) = W2) := hW2
  have HWD : Hid (ofL (kw kd) = wd ∧ wd.size ≤ 10) := ⟨hwd, by rw [← hwd, ofL_sizeE]; exact kw_len k17⟩
  have ws : wd.size ≤ 10 := HWD.out.2
  rw [hu] at hG
  have HG : Hid (kw kd ++ tailU 13 s = G) := hG
  clear K1 K2 bx1 hW2 T F Fw hwd hu hG
  clear hW1
  go_enter Tryd.func31, Tryd.ntmps31
  go_upto_region 1 with fail
  rw [HW1.out]
  clear HW1
  go_upto_region 2 with fail
  rw [HW2.out]
  clear HW2 f0 f1 b0
  obtain ⟨B1, hB1⟩ : ∃ B1, w.heap.size = B1 := ⟨_, rfl⟩
  obtain ⟨B2, hB2⟩ : ∃ B2, W1.heap.size = B2 := ⟨_, rfl⟩
  rw [hB1, hB2] at A2 ⊢
  clear hB1 hB2
  have c0 := cell_blk A2.out.fm 0 (v := .string wd) rfl
  have kl : Hid (k ≤ 100000000) := by have h1 := A2.out.tx.len; have h2 := H.out.2.2; show k ≤ 100000000; omega
  have SR : Hid (Src Tryd.prog 1 9 (.string wd) wd.size (Lib.byteCells (kw kd)) W2) := by
    have q := Src.ofString (P := Tryd.prog) W2 Tryd.underlying9 wd
    have e : kw kd = wd.data.toList := by rw [← HWD.out.1]; rfl
    rw [e]
    exact q
  have LN : Hid (k + wd.size ≤ maxLen ∧ ((k + wd.size) + (k + wd.size) / 4 + 192) * 1 ≤ 281474976710656) := by have := kl.out; unfold maxLen; exact ⟨by omega, by omega⟩
  go_upto_region 3 with
    (first
      | (at_builtin; refine wpList_append_all _ rfl (.tmp 10) (.tmp 12) 35 5 9 _ 1 1 rfl Tryd.underlying35 Tryd.info5 rfl w0.heap.size (.slice p k c) k (Lib.byteCells l) rfl A2.out.tx.row _ wd.size (Lib.byteCells (kw kd)) rfl SR.out LN.out.1 LN.out.2 A2.out.tx.kept.size ?_; intro p3 c3 W3 ho hg hn9)
      | fail)
  obtain ⟨k3, hk3⟩ : ∃ k3, k + wd.size = k3 := ⟨_, rfl⟩
  have A3 : Hid (AS w0 W3 B1 B2 #[.int .i64 (kd : Int), .int .i64 a, .int .i64 b, .string key, .slice va vn vc, .slice la ln lc] wd 13 p3 k3 c3 (l ++ kw kd) ∧ (l ++ kw kd).length ≤ 100000010) := by
    rw [← hk3]
    have e : wd.size = (kw kd).length := by rw [← HWD.out.1, ofL_sizeE]
    refine ⟨A2.out.more (A2.out.tx.more (x := kw kd) e ho.out hg.out) ((Oth.refl _).grown A2.out.tx.row hg.out), ?_⟩
    have h2 := H.out.2.2
    have h3 := HWD.out.2
    rw [List.length_append]
    omega
  rw [hk3]
  clear hk3 ho hg hn9 A2 SR LN c0 kl ws HWD
  obtain ⟨l3, hl3⟩ : ∃ l3, l ++ kw kd = l3 := ⟨_, rfl⟩
  have HG3 : Hid (l3 ++ tailU 13 s = l ++ G) := by rw [← hl3, ← HG.out]; show (l ++ kw kd) ++ tailU 13 s = l ++ (kw kd ++ tailU 13 s); rw [List.append_assoc]
  rw [hl3] at A3
  clear hl3 HG
  have BK : Hid (∀ z : Int, KI z → (numL [z]).length ≤ 22) := numL_one
  have f1 := cell_blk A3.out.1.fm 1 (v := .int .u8 13) rfl
  have v4 := cell_blk A3.out.1.bx 1 (v := .int .i64 a) rfl
  go_upto_region 4 with fail
  have C4 : Hid (Calls Tryd.prog 54 #[.slice p3 k3 c3, .slice (some ⟨W3.heap.size, 0, none⟩) 1 1] (W3.alloc (.cells #[.int .i64 a] 3)) (RetT fun p' k' c' w' => AS w0 w' B1 B2 #[.int .i64 (kd : Int), .int .i64 a, .int .i64 b, .string key, .slice va vn vc, .slice la ln lc] wd 13 p' k' c' (l3 ++ numL [a]))) := (as_num A3.out.1 H.out.1 KY.out.2.2.1 (by have := A3.out.2; omega))
  go_wp2_with fail
  refine C4.out.mono ?_
  rintro o W4 ⟨p4, k4, c4, rfl, t⟩
  obtain ⟨l4, hl4⟩ : ∃ x, l3 ++ numL [a] = x := ⟨_, rfl⟩
  have A4 : Hid (AS w0 W4 B1 B2 #[.int .i64 (kd : Int), .int .i64 a, .int .i64 b, .string key, .slice va vn vc, .slice la ln lc] wd 13 p4 k4 c4 (l4) ∧ l4.length ≤ 100000032) := by
    rw [← hl4]
    refine ⟨t, ?_⟩
    rw [List.length_append]
    have h1 := A3.out.2
    have h2 := (BK.out a KY.out.2.2.1)
    omega
  have E4 : Hid (l3 ++ numL [a] = l4) := hl4
  clear hl4
  have g4 := cell_blk A4.out.1.fm 1 (v := .int .u8 13) rfl
  clear t C4 v4 f1
  have v5 := cell_blk A4.out.1.bx 3 (v := .string key) rfl
  go_upto_region 8 with fail
  obtain ⟨cq, WQ, hcv, rq, KQ, lt⟩ := convert_bytes key W4 (by have := KY.out.2.1; omega)
  have C5 : Hid (Calls Tryd.prog 55 #[.slice p4 k4 c4, .slice (some ⟨W4.heap.size, 0, none⟩) key.size cq] WQ (RetT fun p' k' c' w' => AS w0 w' B1 B2 #[.int .i64 (kd : Int), .int .i64 a, .int .i64 b, .string key, .slice va vn vc, .slice la ln lc] wd 13 p' k' c' (l4 ++ bytL key.data.toList))) := as_key A4.out.1 rq KQ lt KY.out.2.1 (by have := A4.out.2; omega)
  clear rq KQ lt
  go_wp2_with fail
  refine C5.out.mono ?_
  rintro o W5 ⟨p5, k5, c5, rfl, t⟩
  obtain ⟨l5, hl5⟩ : ∃ x, l4 ++ bytL key.data.toList = x := ⟨_, rfl⟩
  have A5 : Hid (AS w0 W5 B1 B2 #[.int .i64 (kd : Int), .int .i64 a, .int .i64 b, .string key, .slice va vn vc, .slice la ln lc] wd 13 p5 k5 c5 (l5) ∧ l5.length ≤ 368435490) := by
    rw [← hl5]
    refine ⟨t, ?_⟩
    rw [List.length_append]
    have h1 := A4.out.2
    have h2 := bytL_len key.data.toList
    have h4 : key.data.toList.length = key.size := Array.length_toList
    have h3 := KY.out.2.1
    omega
  have E5 : Hid (l4 ++ bytL key.data.toList = l5) := hl5
  clear hl5
  have g5 := cell_blk A5.out.1.fm 1 (v := .int .u8 13) rfl
  clear t C5 v5 hcv g4
  have v6 := cell_blk A5.out.1.bx 4 (v := .slice va vn vc) rfl
  go_upto_region 10 with fail
  have C6 : Hid (Calls Tryd.prog 55 #[.slice p5 k5 c5, .slice va vn vc] W5 (RetT fun p' k' c' w' => AS w0 w' B1 B2 #[.int .i64 (kd : Int), .int .i64 a, .int .i64 b, .string key, .slice va vn vc, .slice la ln lc] wd 13 p' k' c' (l5 ++ bytL s.val))) := as_val (x := ⟨(kd : Int), a, b, key, va, vn, vc, la, ln, lc⟩) (s := s) A5.out.1 H.out.2.1 (by have := A5.out.2; omega)
  go_wp2_with fail
  refine C6.out.mono ?_
  rintro o W6 ⟨p6, k6, c6, rfl, t⟩
  obtain ⟨l6, hl6⟩ : ∃ x, l5 ++ bytL s.val = x := ⟨_, rfl⟩
  have A6 : Hid (AS w0 W6 B1 B2 #[.int .i64 (kd : Int), .int .i64 a, .int .i64 b, .string key, .slice va vn vc, .slice la ln lc] wd 13 p6 k6 c6 (l6) ∧ l6.length ≤ 636870948) := by
    rw [← hl6]
    refine ⟨t, ?_⟩
    rw [List.length_append]
    have h1 := A5.out.2
    have h2 := bytL_len s.val
    have h3 := H.out.2.1.sm
    omega
  have E6 : Hid (l5 ++ bytL s.val = l6) := hl6
  clear hl6
  have g6 := cell_blk A6.out.1.fm 1 (v := .int .u8 13) rfl
  clear t C6 v6 g5
  have FN : Hid (TX w0 W6 p6 k6 c6 (l ++ G)) := by
    have q := A6.out.1.tx
    have g := HG3.out
    have e : tailU 13 s = numL [s.a] ++ bytL s.key ++ bytL s.val := by
      unfold tailU
      simp
    rw [e] at g
    rw [← E6.out, ← E5.out, ← E4.out] at q
    rw [EA.out.1, KY.out.1] at q
    rw [← g]
    simp only [← List.append_assoc] at q ⊢
    exact q
  clear HG3
  go_wp2_with fail
  go_ret
  exact ⟨p6, k6, c6, by first | rfl | simp, FN.out⟩
end Go.Proofs.YtonfefhegghapaaDoor

namespace Go.Proofs.YtonfefhegghapaaDoor
open Go.RowKit 

set_option maxRecDepth 100000 in
set_option maxHeartbeats 8000000 in
theorem hStep17 {w0 w : World} {p : Option Addr} {k c : Nat} {l : List UInt8} (T : TX w0 w p k c l) (tab : Lib.TabIs Tryd.prog w0 "internal/strconv.uint64pow10" .u64 Lib.pow10Tab) (F : FM w0) {x : Sm} {s : St} (r : SRd w0 x s) (hk : 0 ≤ s.kind ∧ s.kind < 17) (hus : useN s.kind.toNat = 17) (hl : l.length ≤ 100000000) : Calls Tryd.prog 31 #[.slice p k c, .agg x.cs] w (RetT fun p' k' c' w' => TX w0 w' p' k' c' (l ++ lineL s)) := by
  obtain ⟨G, hG⟩ : ∃ G, lineL s = G := ⟨_, rfl⟩
  rw [hG]
  have H : Hid (Lib.TabIs Tryd.prog w0 "internal/strconv.uint64pow10" .u64 Lib.pow10Tab ∧ SRd w0 x s ∧ l.length ≤ 100000000) := ⟨tab, r, hl⟩
  have Fw : FM w := F.kept T.kept
  unfold lineL at hG
  have ek := r.kind
  rw [← ek] at hus
  have ea := r.a
  have eb := r.b
  have ey := r.key
  obtain ⟨kind, a, b, key, va, vn, vc, la, ln, lc⟩ := x
  dsimp only at ek ea eb ey hus
  obtain ⟨kd, rfl⟩ : ∃ kd : Nat, kind = (kd : Int) := ⟨kind.toNat, by omega⟩
  have k17 : kd < 17 := by omega
  have k17i : (kd : Int) < 17 := by omega
  rw [← ek, show (kd : Int).toNat = kd from rfl] at hG
  rw [show (kd : Int).toNat = kd from rfl] at hus
  have KY : Hid (key.data.toList = s.key ∧ key.size ≤ 134217728 ∧ KI a ∧ KI b) := by
    refine ⟨by rw [ey]; rfl, ?_, by rw [ea]; exact r.ka, by rw [eb]; exact r.kb⟩
    rw [ey, ofL_sizeE]
    have := r.sm
    omega
  have EA : Hid (a = s.a ∧ b = s.b) := ⟨ea, eb⟩
  clear ek ea eb ey r tab hl hk
  show Calls Tryd.prog 31 #[.slice p k c, .agg #[.int .i64 (kd : Int), .int .i64 a, .int .i64 b, .string key, .slice va vn vc, .slice la ln lc]] w _
  obtain ⟨wd, hwd⟩ : ∃ wd, ofL (kw kd) = wd := ⟨_, rfl⟩
  have hu : useN kd = 17 := hus
  clear hus
  obtain ⟨W1, hW1⟩ : ∃ W1, w.alloc (.cells #[.int .i64 (kd : Int), .int .i64 a, .int .i64 b, .string key, .slice va vn vc, .slice la ln lc] 38) = W1 := ⟨_, rfl⟩
  have K1 : Kept (fun _ => False) w W1 := by rw [← hW1]; exact (Kept.refl _ _).alloc _
  have bx1 : W1.heap[w.heap.size]? = some (.cells #[.int .i64 (kd : Int), .int .i64 a, .int .i64 b, .string key, .slice va vn vc, .slice la ln lc] 38 (0, 0)) := by rw [← hW1]; exact alloc_new _ _
  have f0 : W1.cell? ⟨0, kd * 2, none⟩ = some (.string wd) := by rw [← hwd]; exact (Fw.kept K1).word k17
  have f1 : W1.cell? ⟨0, kd * 2 + 1, none⟩ = some (.int .u8 17) := by have q := (Fw.kept K1).use k17; rw [hu] at q; exact q
  have b0 := cell_blk bx1 0 (v := .int .i64 (kd : Int)) rfl
  have HW1 : Hid (w.alloc (.cells #[.int .i64 (kd : Int), .int .i64 a, .int .i64 b, .string key, .slice va vn vc, .slice la ln lc] 38) = W1) := hW1
  obtain ⟨W2, hW2⟩ : ∃ W2, W1.alloc (.cells #[.string wd, .int .u8 17] 58) = W2 := ⟨_, rfl⟩
  have K2 : Kept (fun _ => False) W1 W2 := by rw [← hW2]; exact (Kept.refl _ _).alloc _
  have A2 : Hid (AS w0 W2 w.heap.size W1.heap.size #[.int .i64 (kd : Int), .int .i64 a, .int .i64 b, .string key, .slice va vn vc, .slice la ln lc] wd 17 p k c l) := ⟨(T.k0 K1).k0 K2, K2.get bx1 (fun z => z), by rw [← hW2]; exact alloc_new _ _⟩
  have HW2 : Hid (W1.alloc (.cells #[.string wd, .int .u8 17] 58) = W2) := hW2
  have HWD : Hid (ofL (kw kd) = wd ∧ wd.size ≤ 10) := ⟨hwd, by rw [← hwd, ofL_sizeE]; exact kw_len k17⟩
  have ws : wd.size ≤ 10 := HWD.out.2
  rw [hu] at hG
  have HG : Hid (kw kd ++ tailU 17 s = G) := hG
  clear K1 K2 bx1 hW2 T F Fw hwd hu hG
  clear hW1
  go_enter Tryd.func31, Tryd.ntmps31
  go_upto_region 1 with fail
  rw [HW1.out]
  clear HW1
  go_upto_region 2 with fail
  rw [HW2.out]
  clear HW2 f0 f1 b0
  obtain ⟨B1, hB1⟩ : ∃ B1, w.heap.size = B1 := ⟨_, rfl⟩
  obtain ⟨B2, hB2⟩ : ∃ B2, W1.heap.size = B2 := ⟨_, rfl⟩
  rw [hB1, hB2] at A2 ⊢
  clear hB1 hB2
  have c0 := cell_blk A2.out.fm 0 (v := .string wd) rfl
  have kl : Hid (k ≤ 100000000) := by have h1 := A2.out.tx.len; have h2 := H.out.2.2; show k ≤ 100000000; omega
  have SR : Hid (Src Tryd.prog 1 9 (.string wd) wd.size (Lib.byteCells (kw kd)) W2) := by
    have q := Src.ofString (P := Tryd.prog) W2 Tryd.underlying9 wd
    have e : kw kd = wd.data.toList := by rw [← HWD.out.1]; rfl
    rw [e]
    exact q
  have LN : Hid (k + wd.size ≤ maxLen ∧ ((k + wd.size) + (k + wd.size) / 4 + 192) * 1 ≤ 281474976710656) := by have := kl.out; unfold maxLen; exact ⟨by omega, by omega⟩
  go_upto_region 3 with
    (first
      | (at_builtin; refine wpList_append_all _ rfl (.tmp 10) (.tmp 12) 35 5 9 _ 1 1 rfl Tryd.underlying35 Tryd.info5 rfl w0.heap.size (.slice p k c) k (Lib.byteCells l) rfl A2.out.tx.row _ wd.size (Lib.byteCells (kw kd)) rfl SR.out LN.out.1 LN.out.2 A2.out.tx.kept.size ?_; intro p3 c3 W3 ho hg hn9)
      | fail)
  obtain ⟨k3, hk3⟩ : ∃ k3, k + wd.size = k3 := ⟨_, rfl⟩
  have A3 : Hid (AS w0 W3 B1 B2 #[.int .i64 (kd : Int), .int .i64 a, .int .i64 b, .string key, .slice va vn vc, .slice la ln lc] wd 17 p3 k3 c3 (l ++ kw kd) ∧ (l ++ kw kd).length ≤ 100000010) := by
    rw [← hk3]
    have e : wd.size = (kw kd).length := by rw [← HWD.out.1, ofL_sizeE]
    refine ⟨A2.out.more (A2.out.tx.more (x := kw kd) e ho.out hg.out) ((Oth.refl _).grown A2.out.tx.row hg.out), ?_⟩
    have h2 := H.out.2.2
    have h3 := HWD.out.2
    rw [List.length_append]
    omega
  rw [hk3]
  clear hk3 ho hg hn9 A2 SR LN c0 kl ws HWD
  obtain ⟨l3, hl3⟩ : ∃ l3, l ++ kw kd = l3 := ⟨_, rfl⟩
  have HG3 : Hid (l3 ++ tailU 17 s = l ++ G) := by rw [← hl3, ← HG.out]; show (l ++ kw kd) ++ tailU 17 s = l ++ (kw kd ++ tailU 17 s); rw [List.append_assoc]
  rw [hl3] at A3
  clear hl3 HG
  have BK : Hid (∀ z : Int, KI z → (numL [z]).length ≤ 22) := numL_one
  have f1 := cell_blk A3.out.1.fm 1 (v := .int .u8 17) rfl
  have v4 := cell_blk A3.out.1.bx 1 (v := .int .i64 a) rfl
  go_upto_region 4 with fail
  have C4 : Hid (Calls Tryd.prog 54 #[.slice p3 k3 c3, .slice (some ⟨W3.heap.size, 0, none⟩) 1 1] (W3.alloc (.cells #[.int .i64 a] 3)) (RetT fun p' k' c' w' => AS w0 w' B1 B2 #[.int .i64 (kd : Int), .int .i64 a, .int .i64 b, .string key, .slice va vn vc, .slice la ln lc] wd 17 p' k' c' (l3 ++ numL [a]))) := (as_num A3.out.1 H.out.1 KY.out.2.2.1 (by have := A3.out.2; omega))
  go_wp2_with fail
  refine C4.out.mono ?_
  rintro o W4 ⟨p4, k4, c4, rfl, t⟩
  obtain ⟨l4, hl4⟩ : ∃ x, l3 ++ numL [a] = x := ⟨_, rfl⟩
  have A4 : Hid (AS w0 W4 B1 B2 #[.int .i64 (kd : Int), .int .i64 a, .int .i64 b, .string key, .slice va vn vc, .slice la ln lc] wd 17 p4 k4 c4 (l4) ∧ l4.length ≤ 100000032) := by
    rw [← hl4]
    refine ⟨t, ?_⟩
    rw [List.length_append]
    have h1 := A3.out.2
    have h2 := (BK.out a KY.out.2.2.1)
    omega
  have E4 : Hid (l3 ++ numL [a] = l4) := hl4
  clear hl4
  have g4 := cell_blk A4.out.1.fm 1 (v := .int .u8 17) rfl
  clear t C4 v4 f1
  have v5 := cell_blk A4.out.1.bx 5 (v := .slice la ln lc) rfl
  go_upto_region 12 with fail
  have C5 : Hid (Calls Tryd.prog 54 #[.slice p4 k4 c4, .slice la ln lc] W4 (RetT fun p' k' c' w' => AS w0 w' B1 B2 #[.int .i64 (kd : Int), .int .i64 a, .int .i64 b, .string key, .slice va vn vc, .slice la ln lc] wd 17 p' k' c' (l4 ++ numL s.l))) := as_nums (x := ⟨(kd : Int), a, b, key, va, vn, vc, la, ln, lc⟩) (s := s) A4.out.1 H.out.1 H.out.2.1 (by have := A4.out.2; omega)
  go_wp2_with fail
  refine C5.out.mono ?_
  rintro o W5 ⟨p5, k5, c5, rfl, t⟩
  have A5 : Hid (AS w0 W5 B1 B2 #[.int .i64 (kd : Int), .int .i64 a, .int .i64 b, .string key, .slice va vn vc, .slice la ln lc] wd 17 p5 k5 c5 (l4 ++ numL s.l)) := t
  clear t C5 v5 g4
  have FN : Hid (TX w0 W5 p5 k5 c5 (l ++ G)) := by
    have q := A5.out.tx
    have g := HG3.out
    have e : tailU 17 s = numL [s.a] ++ numL s.l := by
      unfold tailU
      simp
    rw [e] at g
    rw [← E4.out] at q
    rw [EA.out.1] at q
    rw [← g]
    simp only [← List.append_assoc] at q ⊢
    exact q
  clear A5
  clear HG3
  go_wp2_with fail
  go_ret
  exact ⟨p5, k5, c5, by first | rfl | simp, FN.out⟩
end Go.Proofs.YtonfefhegghapaaDoor

namespace Go.Proofs.YtonfefhegghapaaDoor
open Go.RowKit 

set_option maxRecDepth 100000 in
set_option maxHeartbeats 8000000 in
theorem hStep18 {w0 w : World} {p : Option Addr} {k c : Nat} {l : List UInt8} (T : TX w0 w p k c l) (tab : Lib.TabIs Tryd.prog w0 "internal/strconv.uint64pow10" .u64 Lib.pow10Tab) (F : FM w0) {x : Sm} {s : St} (r : SRd w0 x s) (hk : 0 ≤ s.kind ∧ s.kind < 17) (hus : useN s.kind.toNat = 18) (hl : l.length ≤ 100000000) : Calls Tryd.prog 31 #[.slice p k c, .agg x.cs] w (RetT fun p' k' c' w' => TX w0 w' p' k' c' (l ++ lineL s)) := by
  obtain ⟨G, hG⟩ : ∃ G, lineL s = G := ⟨_, rfl⟩
  rw [hG]
  have H : Hid (Lib.TabIs Tryd.prog w0 "internal/strconv.uint64pow10" .u64 Lib.pow10Tab ∧ SRd w0 x s ∧ l.length ≤ 100000000) := ⟨tab, r, hl⟩
  have Fw : FM w := F.kept T.kept
  unfold lineL at hG
  have ek := r.kind
  rw [← ek] at hus
  have ea := r.a
  have eb := r.b
  have ey := r.key
  obtain ⟨kind, a, b, key, va, vn, vc, la, ln, lc⟩ := x
  dsimp only at ek ea eb ey hus
  obtain ⟨kd, rfl⟩ : ∃ kd : Nat, kind = (kd : Int) := ⟨kind.toNat, by omega⟩
  have k17 : kd < 17 := by omega
  have k17i : (kd : Int) < 17 := by omega
  rw [← ek, show (kd : Int).toNat = kd from rfl] at hG
  rw [show (kd : Int).toNat = kd from rfl] at hus
  have KY : Hid (key.data.toList = s.key ∧ key.size ≤ 134217728 ∧ KI a ∧ KI b) := by
    refine ⟨by rw [ey]; rfl, ?_, by rw [ea]; exact r.ka, by rw [eb]; exact r.kb⟩
    rw [ey, ofL_sizeE]
    have := r.sm
    omega
  have EA : Hid (a = s.a ∧ b = s.b) := ⟨ea, eb⟩
  clear ek ea eb ey r tab hl hk
  show Calls Tryd.prog 31 #[.slice p k c, .agg #[.int .i64 (kd : Int), .int .i64 a, .int .i64 b, .string key, .slice va vn vc, .slice la ln lc]] w _
  obtain ⟨wd, hwd⟩ : ∃ wd, ofL (kw kd) = wd := ⟨_, rfl⟩
  have hu : useN kd = 18 := hus
  clear hus
  obtain ⟨W1, hW1⟩ : ∃ W1, w.alloc (.cells #[.int .i64 (kd : Int), .int .i64 a, .int .i64 b, .string key, .slice va vn vc, .slice la ln lc] 38) = W1 := ⟨_, rfl⟩
  have K1 : Kept (fun _ => False) w W1 := by rw [← hW1]; exact (Kept.refl _ _).alloc _
  have bx1 : W1.heap[w.heap.size]? = some (.cells #[.int .i64 (kd : Int), .int .i64 a, .int .i64 b, .string key, .slice va vn vc, .slice la ln lc] 38 (0, 0)) := by rw [← hW1]; exact alloc_new _ _
  have f0 : W1.cell? ⟨0, kd * 2, none⟩ = some (.string wd) := by rw [← hwd]; exact (Fw.kept K1).word k17
  have f1 : W1.cell? ⟨0, kd * 2 + 1, none⟩ = some (.int .u8 18) := by have q := (Fw.kept K1).use k17; rw [hu] at q; exact q
  have b0 := cell_blk bx1 0 (v := .int .i64 (kd : Int)) rfl
  have HW1 : Hid (w.alloc (.cells #[.int .i64 (kd : Int), .int .i64 a, .int .i64 b, .string key, .slice va vn vc, .slice la ln lc] 38) = W1) := hW1
  obtain ⟨W2, hW2⟩ : ∃ W2, W1.alloc (.cells #[.string wd, .int .u8 18] 58) = W2 := ⟨_, rfl⟩
  have K2 : Kept (fun _ => False) W1 W2 := by rw [← hW2]; exact (Kept.refl _ _).alloc _
  have A2 : Hid (AS w0 W2 w.heap.size W1.heap.size #[.int .i64 (kd : Int), .int .i64 a, .int .i64 b, .string key, .slice va vn vc, .slice la ln lc] wd 18 p k c l) := ⟨(T.k0 K1).k0 K2, K2.get bx1 (fun z => z), by rw [← hW2]; exact alloc_new _ _⟩
  have HW2 : Hid (W1.alloc (.cells #[.string wd, .int .u8 18] 58) = W2) := hW2
  have HWD : Hid (ofL (kw kd) = wd ∧ wd.size ≤ 10) := ⟨hwd, by rw [← hwd, ofL_sizeE]; exact kw_len k17⟩
  have ws : wd.size ≤ 10 := HWD.out.2
  rw [hu] at hG
  have HG : Hid (kw kd ++ tailU 18 s = G) := hG
  clear K1 K2 bx1 hW2 T F Fw hwd hu hG
  clear hW1
  go_enter Tryd.func31, Tryd.ntmps31
  go_upto_region 1 with fail
  rw [HW1.out]
  clear HW1
  go_upto_region 2 with fail
  rw [HW2.out]
  clear HW2 f0 f1 b0
  obtain ⟨B1, hB1⟩ : ∃ B1, w.heap.size = B1 := ⟨_, rfl⟩
  obtain ⟨B2, hB2⟩ : ∃ B2, W1.heap.size = B2 := ⟨_, rfl⟩
  rw [hB1, hB2] at A2 ⊢
  clear hB1 hB2
  have c0 := cell_blk A2.out.fm 0 (v := .string wd) rfl
  have kl : Hid (k ≤ 100000000) := by have h1 := A2.out.tx.len; have h2 := H.out.2.2; show k ≤ 100000000; omega
  have SR : Hid (Src Tryd.prog 1 9 (.string wd) wd.size (Lib.byteCells (kw kd)) W2) := by
    have q := Src.ofString (P := Tryd.prog) W2 Tryd.underlying9 wd
    have e : kw kd = wd.data.toList := by rw [← HWD.out.1]; rfl
    rw [e]
    exact q
  have LN : Hid (k + wd.size ≤ maxLen ∧ ((k + wd.size) + (k + wd.size) / 4 + 192) * 1 ≤ 281474976710656) := by have := kl.out; unfold maxLen; exact ⟨by omega, by omega⟩
  go_upto_region 3 with
    (first
      | (at_builtin; refine wpList_append_all _ rfl (.tmp 10) (.tmp 12) 35 5 9 _ 1 1 rfl Tryd.underlying35 Tryd.info5 rfl w0.heap.size (.slice p k c) k (Lib.byteCells l) rfl A2.out.tx.row _ wd.size (Lib.byteCells (kw kd)) rfl SR.out LN.out.1 LN.out.2 A2.out.tx.kept.size ?_; intro p3 c3 W3 ho hg hn9)
      | fail)
  obtain ⟨k3, hk3⟩ : ∃ k3, k + wd.size = k3 := ⟨_, rfl⟩
  have A3 : Hid (AS w0 W3 B1 B2 #[.int .i64 (kd : Int), .int .i64 a, .int .i64 b, .string key, .slice va vn vc, .slice la ln lc] wd 18 p3 k3 c3 (l ++ kw kd) ∧ (l ++ kw kd).length ≤ 100000010) := by
    rw [← hk3]
    have e : wd.size = (kw kd).length := by rw [← HWD.out.1, ofL_sizeE]
    refine ⟨A2.out.more (A2.out.tx.more (x := kw kd) e ho.out hg.out) ((Oth.refl _).grown A2.out.tx.row hg.out), ?_⟩
    have h2 := H.out.2.2
    have h3 := HWD.out.2
    rw [List.length_append]
    omega
  rw [hk3]
  clear hk3 ho hg hn9 A2 SR LN c0 kl ws HWD
  obtain ⟨l3, hl3⟩ : ∃ l3, l ++ kw kd = l3 := ⟨_, rfl⟩
  have HG3 : Hid (l3 ++ tailU 18 s = l ++ G) := by rw [← hl3, ← HG.out]; show (l ++ kw kd) ++ tailU 18 s = l ++ (kw kd ++ tailU 18 s); rw [List.append_assoc]
  rw [hl3] at A3
  clear hl3 HG
  have BK : Hid (∀ z : Int, KI z → (numL [z]).length ≤ 22) := numL_one
  have f1 := cell_blk A3.out.1.fm 1 (v := .int .u8 18) rfl
  have v4 := cell_blk A3.out.1.bx 2 (v := .int .i64 b) rfl
  go_upto_region 6 with fail
  have C4 : Hid (Calls Tryd.prog 54 #[.slice p3 k3 c3, .slice (some ⟨W3.heap.size, 0, none⟩) 1 1] (W3.alloc (.cells #[.int .i64 b] 3)) (RetT fun p' k' c' w' => AS w0 w' B1 B2 #[.int .i64 (kd : Int), .int .i64 a, .int .i64 b, .string key, .slice va vn vc, .slice la ln lc] wd 18 p' k' c' (l3 ++ numL [b]))) := (as_num A3.out.1 H.out.1 KY.out.2.2.2 (by have := A3.out.2; omega))
  go_wp2_with fail
  refine C4.out.mono ?_
  rintro o W4 ⟨p4, k4, c4, rfl, t⟩
  obtain ⟨l4, hl4⟩ : ∃ x, l3 ++ numL [b] = x := ⟨_, rfl⟩
  have A4 : Hid (AS w0 W4 B1 B2 #[.int .i64 (kd : Int), .int .i64 a, .int .i64 b, .string key, .slice va vn vc, .slice la ln lc] wd 18 p4 k4 c4 (l4) ∧ l4.length ≤ 100000032) := by
    rw [← hl4]
    refine ⟨t, ?_⟩
    rw [List.length_append]
    have h1 := A3.out.2
    have h2 := (BK.out b KY.out.2.2.2)
    omega
  have E4 : Hid (l3 ++ numL [b] = l4) := hl4
  clear hl4
  have g4 := cell_blk A4.out.1.fm 1 (v := .int .u8 18) rfl
  clear t C4 v4 f1
  have v5 := cell_blk A4.out.1.bx 5 (v := .slice la ln lc) rfl
  go_upto_region 12 with fail
  have C5 : Hid (Calls Tryd.prog 54 #[.slice p4 k4 c4, .slice la ln lc] W4 (RetT fun p' k' c' w' => AS w0 w' B1 B2 #[.int .i64 (kd : Int), .int .i64 a, .int .i64 b, .string key, .slice va vn vc, .slice la ln lc] wd 18 p' k' c' (l4 ++ numL s.l))) := as_nums (x := ⟨(kd : Int), a, b, key, va, vn, vc, la, ln, lc⟩) (s := s) A4.out.1 H.out.1 H.out.2.1 (by have := A4.out.2; omega)
  go_wp2_with fail
  refine C5.out.mono ?_
  rintro o W5 ⟨p5, k5, c5, rfl, t⟩
  have A5 : Hid (AS w0 W5 B1 B2 #[.int .i64 (kd : Int), .int .i64 a, .int .i64 b, .string key, .slice va vn vc, .slice la ln lc] wd 18 p5 k5 c5 (l4 ++ numL s.l)) := t
  clear t C5 v5 g4
  have FN : Hid (TX w0 W5 p5 k5 c5 (l ++ G)) := by
    have q := A5.out.tx
    have g := HG3.out
    have e : tailU 18 s = numL [s.b] ++ numL s.l := by
      unfold tailU
      simp
    rw [e] at g
    rw [← E4.out] at q
    rw [EA.out.2] at q
    rw [← g]
    simp only [← List.append_assoc] at q ⊢
    exact q
  clear A5
  clear HG3
  go_wp2_with fail
  go_ret
  exact ⟨p5, k5, c5, by first | rfl | simp, FN.out⟩
end Go.Proofs.YtonfefhegghapaaDoor
