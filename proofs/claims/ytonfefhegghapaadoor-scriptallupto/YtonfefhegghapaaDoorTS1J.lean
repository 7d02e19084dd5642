import Derived.Test.YtonfefhegghapaaDoorTAb
import Derived.Test.YtonfefhegghapaaDoorTGu
import Derived.Deep.Upon
namespace Go.Proofs.YtonfefhegghapaaDoor
open Go.RowKit 

def sb (s : ByteArray) : List Nat := s.data.toList.map (fun b => b.toNat)
theorem bytesRow_size (s : ByteArray) (cap : Nat) (h : s.size ≤ cap) : (bytesRow s cap).size = cap := by
  unfold bytesRow
  rw [Array.size_append, Array.size_map, Array.size_replicate]
  show s.size + _ = _
  omega
/-- '[]byte(s)'. -/
theorem convert_bytes (s : ByteArray) (w : World) (hs : s.size ≤ 140737488355328) : ∃ c w', (convert 9 35 (.string s)).run Tryd.prog w = .ok (.slice (some ⟨w.heap.size, 0, none⟩) s.size c) w' ∧ BRd w' (some ⟨w.heap.size, 0, none⟩) s.size c s.data.toList ∧ Kept (fun _ => False) w w' ∧ w.heap.size < w'.heap.size := by
  have hge := grownCap_ge w s.size 0 5
  have hz := heap_alloc_new w.drew (.cells (bytesRow s (grownCap w s.size 0 5)) 5 ((bytesRow s (grownCap w s.size 0 5)).size, (bytesRow s (grownCap w s.size 0 5)).size + 1))
  refine ⟨_, _, run_bytes_of_string (P := Tryd.prog) w 9 35 5 s Tryd.underlying9 Tryd.underlying35 Tryd.underlying5, ⟨Array.length_toList, hge, grownCap_le_maxLen w _ _ _ (by unfold maxLen; omega), fun _ => ⟨w.heap.size, 0, rfl, fun i x hx => ?_⟩⟩, ((Kept.refl _ w).drew).alloc _, ?_⟩
  · rw [cell_of_row _ w.heap.size (0 + i) _ 5 _ (heap_alloc_new w.drew _), Nat.zero_add]
    have hi : i < s.data.size := by
      have := (List.getElem?_eq_some_iff.1 hx).1
      rw [Array.length_toList] at this
      exact this
    have hi3 : i < (s.data.map (fun b => Value.int .u8 b.toNat)).size := by simpa using hi
    unfold bytesRow
    rw [Array.getElem?_append_left hi3, Array.getElem?_map]
    rw [Array.getElem?_toList] at hx
    rw [hx]
    rfl
  · exact block_lt (heap_alloc_new w.drew _)
/-- What a step's line has behind its word. -/
def tailU (u : Nat) (s : St) : List UInt8 := (if u % 2 = 1 then numL [s.a] else []) ++ ((if u / 2 % 2 = 1 then numL [s.b] else []) ++ ((if u / 4 % 2 = 1 then bytL s.key else []) ++ ((if u / 8 % 2 = 1 then bytL s.val else []) ++ (if u / 16 % 2 = 1 then numL s.l else []))))
/-- A step's line. -/
def lineL (s : St) : List UInt8 := kw s.kind.toNat ++ tailU (useN s.kind.toNat) s
/-- A step that can be read, below. -/
structure SRd (w : World) (x : Sm) (s : St) : Prop where
  kind : x.kind = s.kind
  a : x.a = s.a
  b : x.b = s.b
  key : x.key = ofL s.key
  ka : KI s.a
  kb : KI s.b
  v : BRd w x.va x.vn x.vc s.val
  l : IRd w x.la x.ln x.lc s.l
  sm : s.key.length + s.val.length + s.l.length ≤ 134217728
theorem SRd.kept {w w' : World} {x : Sm} {s : St} (h : SRd w x s) (K : Kept (fun _ => False) w w') : SRd w' x s := ⟨h.kind, h.a, h.b, h.key, h.ka, h.kb, h.v.keep K (fun _ _ z => z), h.l.kept K, h.sm⟩
theorem numL_one (z : Int) (h : KI z) : (numL [z]).length ≤ 22 := numL_len [z] (fun y hy => by simp at hy; rw [hy]; exact h)
theorem bytL_len (l : List UInt8) : (bytL l).length ≤ 2 + 2 * l.length := by
  unfold bytL
  split
  · simp
  · rw [List.length_cons, hexs_len]
    omega
theorem kw_len {k : Nat} (h : k < 17) : (kw k).length ≤ 10 := by
  obtain rfl | rfl | rfl | rfl | rfl | rfl | rfl | rfl | rfl | rfl | rfl | rfl | rfl | rfl | rfl | rfl | rfl : k = 0 ∨ k = 1 ∨ k = 2 ∨ k = 3 ∨ k = 4 ∨ k = 5 ∨ k = 6 ∨ k = 7 ∨ k = 8 ∨ k = 9 ∨ k = 10 ∨ k = 11 ∨ k = 12 ∨ k = 13 ∨ k = 14 ∨ k = 15 ∨ k = 16 := by omega
  all_goals decide
/-- Where appendStep is. -/
structure AS (w0 W : World) (B1 B2 : Nat) (cs : Array Value) (wd : ByteArray) (u : Nat) (p : Option Addr) (k c : Nat) (l : List UInt8) : Prop where
  tx : TX w0 W p k c l
  bx : W.heap[B1]? = some (.cells cs 38 (0, 0))
  fm : W.heap[B2]? = some (.cells #[.string wd, .int .u8 (u : Int)] 58 (0, 0))
theorem AS.keep {w0 W W' : World} {B1 B2 : Nat} {cs : Array Value} {wd : ByteArray} {u : Nat} {p : Option Addr} {k c : Nat} {l : List UInt8} (h : AS w0 W B1 B2 cs wd u p k c l) (K : Kept (fun _ => False) W W') : AS w0 W' B1 B2 cs wd u p k c l := ⟨h.tx.k0 K, K.get h.bx (fun z => z), K.get h.fm (fun z => z)⟩
theorem AS.more {w0 W W' : World} {B1 B2 : Nat} {cs : Array Value} {wd : ByteArray} {u : Nat} {p p' : Option Addr} {k c k' c' : Nat} {l l' : List UInt8} (h : AS w0 W B1 B2 cs wd u p k c l) (t : TX w0 W' p' k' c' l') (O : Oth W W') : AS w0 W' B1 B2 cs wd u p' k' c' l' := ⟨t, O.get h.bx (by decide), O.get h.fm (by decide)⟩
/-- The cells of appendStep's own, and the bytes behind them, one by one. -/
theorem as_num {w0 W : World} {B1 B2 : Nat} {cs : Array Value} {wd : ByteArray} {u : Nat} {p : Option Addr} {k c : Nat} {l : List UInt8} {z : Int} (h : AS w0 W B1 B2 cs wd u p k c l) (tab : Lib.TabIs Tryd.prog w0 "internal/strconv.uint64pow10" .u64 Lib.pow10Tab) (kz : KI z) (hl : l.length ≤ 4000000000) : Calls Tryd.prog 54 #[.slice p k c, .slice (some ⟨W.heap.size, 0, none⟩) 1 1] (W.alloc (.cells #[.int .i64 z] 3)) (RetT fun p' k' c' w' => AS w0 w' B1 B2 cs wd u p' k' c' (l ++ numL [z])) := by
  have K := (Kept.refl (fun _ => False) W).alloc (.cells #[.int .i64 z] 3)
  refine (hNumsG (h.keep K).tx tab (IRd.one (alloc_new W _) kz) (fun _ b hb => ?_) (by simp; omega)).mono ?_
  · have e : b = W.heap.size := by simpa [blockOf] using hb.symm
    rw [e]
    exact ⟨_, alloc_new W _⟩
  · rintro o w' ⟨p', k', c', rfl, t, O⟩
    exact ⟨p', k', c', rfl, (h.keep K).more t O⟩
theorem as_nums {w0 W : World} {B1 B2 : Nat} {cs : Array Value} {wd : ByteArray} {u : Nat} {p : Option Addr} {k c : Nat} {l : List UInt8} {x : Sm} {s : St} (h : AS w0 W B1 B2 cs wd u p k c l) (tab : Lib.TabIs Tryd.prog w0 "internal/strconv.uint64pow10" .u64 Lib.pow10Tab) (r : SRd w0 x s) (hl : l.length ≤ 1000000000) : Calls Tryd.prog 54 #[.slice p k c, .slice x.la x.ln x.lc] W (RetT fun p' k' c' w' => AS w0 w' B1 B2 cs wd u p' k' c' (l ++ numL s.l)) := by
  refine (hNumsB h.tx tab r.l (by have := r.sm; omega)).mono ?_
  rintro o w' ⟨p', k', c', rfl, t, O⟩
  exact ⟨p', k', c', rfl, h.more t O⟩
theorem as_val {w0 W : World} {B1 B2 : Nat} {cs : Array Value} {wd : ByteArray} {u : Nat} {p : Option Addr} {k c : Nat} {l : List UInt8} {x : Sm} {s : St} (h : AS w0 W B1 B2 cs wd u p k c l) (r : SRd w0 x s) (hl : l.length ≤ 1000000000) : Calls Tryd.prog 55 #[.slice p k c, .slice x.va x.vn x.vc] W (RetT fun p' k' c' w' => AS w0 w' B1 B2 cs wd u p' k' c' (l ++ bytL s.val)) := by
  have r2 := r.kept h.tx.kept
  refine (hAppB ⟨h.tx, r2.v, fun h0 b hb => ⟨r2.v.lt h0 b hb, fun z => ?_⟩⟩ (by have := r.sm; omega)).mono ?_
  · have h1 := (own_lt h.tx.row b z).1
    have h2 := r.v.lt h0 b hb
    omega
  · rintro o w' ⟨p', k', c', rfl, t, O⟩
    exact ⟨p', k', c', rfl, h.more t O⟩
theorem as_key {w0 W W' : World} {B1 B2 : Nat} {cs : Array Value} {wd : ByteArray} {u : Nat} {p : Option Addr} {k c n : Nat} {l : List UInt8} {key : ByteArray} (h : AS w0 W B1 B2 cs wd u p k c l) (r : BRd W' (some ⟨W.heap.size, 0, none⟩) key.size n key.data.toList) (K : Kept (fun _ => False) W W') (lt : W.heap.size < W'.heap.size) (hs : key.size ≤ 134217728) (hl : l.length ≤ 1000000000) : Calls Tryd.prog 55 #[.slice p k c, .slice (some ⟨W.heap.size, 0, none⟩) key.size n] W' (RetT fun p' k' c' w' => AS w0 w' B1 B2 cs wd u p' k' c' (l ++ bytL key.data.toList)) := by
  have h2 := h.keep K
  have hh : l.length + 2 * key.data.toList.length ≤ 4294967296 := by
    have e : key.data.toList.length = key.size := Array.length_toList
    omega
  refine (hAppB ⟨h2.tx, r, fun _ b hb => ?_⟩ hh).mono ?_
  · have e : b = W.heap.size := by simpa [blockOf] using hb.symm
    subst e
    refine ⟨lt, fun z => ?_⟩
    have := (own_lt h.tx.row _ z).2
    omega
  · rintro o w' ⟨p', k', c', rfl, t, O⟩
    exact ⟨p', k', c', rfl, h2.more t O⟩
end Go.Proofs.YtonfefhegghapaaDoor

namespace Go.Proofs.YtonfefhegghapaaDoor
open Go.RowKit 

set_option maxRecDepth 100000 in
set_option maxHeartbeats 8000000 in
theorem hStep0 {w0 w : World} {p : Option Addr} {k c : Nat} {l : List UInt8} (T : TX w0 w p k c l) (tab : Lib.TabIs Tryd.prog w0 "internal/strconv.uint64pow10" .u64 Lib.pow10Tab) (F : FM w0) {x : Sm} {s : St} (r : SRd w0 x s) (hk : 0 ≤ s.kind ∧ s.kind < 17) (hus : useN s.kind.toNat = 0) (hl : l.length ≤ 100000000) : Calls Tryd.prog 31 #[.slice p k c, .agg x.cs] w (RetT fun p' k' c' w' => TX w0 w' p' k' c' (l ++ lineL s)) := by
  obtain ⟨G, hG⟩ : ∃ G, lineL s = G := ⟨_, rfl⟩
  rw [hG]
  have H : Hid (Lib.TabIs Tryd.prog w0 "internal/strconv.uint64pow10" .u64 Lib.pow10Tab ∧ SRd w0 x s ∧ l.length ≤ 100000000) := ⟨tab, r, hl⟩
  have Fw : FM w := F.kept T.kept
  unfold lineL at hG
  have ek := r.kind
  rw [← ek] at hus
  have ea := r.a
  have eb := r.b
  have ey := r.key
  obtain ⟨kind, a, b, key, va, vn, vc, la, ln, lc⟩ := x
  dsimp only at ek ea eb ey hus
  obtain ⟨kd, rfl⟩ : ∃ kd : Nat, kind = (kd : Int) := ⟨kind.toNat, by omega⟩
  have k17 : kd < 17 := by omega
  have k17i : (kd : Int) < 17 := by omega
  rw [← ek, show (kd : Int).toNat = kd from rfl] at hG
  rw [show (kd : Int).toNat = kd from rfl] at hus
  have KY : Hid (key.data.toList = s.key ∧ key.size ≤ 134217728 ∧ KI a ∧ KI b) := by
    refine ⟨by rw [ey]; rfl, ?_, by rw [ea]; exact r.ka, by rw [eb]; exact r.kb⟩
    rw [ey, ofL_sizeE]
    have := r.sm
    omega
  have EA : Hid (a = s.a ∧ b = s.b) := ⟨ea, eb⟩
  clear ek ea eb ey r tab hl hk
  show Calls Tryd.prog 31 #[.slice p k c, .agg #[.int .i64 (kd : Int), .int .i64 a, .int .i64 b, .string key, .slice va vn vc, .slice la ln lc]] w _
  obtain ⟨wd, hwd⟩ : ∃ wd, ofL (kw kd) = wd := ⟨_, rfl⟩
  have hu : useN kd = 0 := hus
  clear hus
  obtain ⟨W1, hW1⟩ : ∃ W1, w.alloc (.cells #[.int .i64 (kd : Int), .int .i64 a, .int .i64 b, .string key, .slice va vn vc, .slice la ln lc] 38) = W1 := ⟨_, rfl⟩
  have K1 : Kept (fun _ => False) w W1 := by rw [← hW1]; exact (Kept.refl _ _).alloc _
  have bx1 : W1.heap[w.heap.size]? = some (.cells #[.int .i64 (kd : Int), .int .i64 a, .int .i64 b, .string key, .slice va vn vc, .slice la ln lc] 38 (0, 0)) := by rw [← hW1]; exact alloc_new _ _
  have f0 : W1.cell? ⟨0, kd * 2, none⟩ = some (.string wd) := by rw [← hwd]; exact (Fw.kept K1).word k17
  have f1 : W1.cell? ⟨0, kd * 2 + 1, none⟩ = some (.int .u8 0) := by have q := (Fw.kept K1).use k17; rw [hu] at q; exact q
  have b0 := cell_blk bx1 0 (v := .int .i64 (kd : Int)) rfl
  have HW1 : Hid (w.alloc (.cells #[.int .i64 (kd : Int), .int .i64 a, .int .i64 b, .string key, .slice va vn vc, .slice la ln lc] 38) = W1) := hW1
  obtain ⟨W2, hW2⟩ : ∃ W2, W1.alloc (.cells #[.string wd, .int .u8 0] 58) = W2 := ⟨_, rfl⟩
  have K2 : Kept (fun _ => False) W1 W2 := by rw [← hW2]; exact (Kept.refl _ _).alloc _
  have A2 : Hid (AS w0 W2 w.heap.size W1.heap.size #[.int .i64 (kd : Int), .int .i64 a, .int .i64 b, .string key, .slice va vn vc, .slice la ln lc] wd 0 p k c l) := ⟨(T.k0 K1).k0 K2, K2.get bx1 (fun z => z), by rw [← hW2]; exact alloc_new _ _⟩
  have HW2 : Hid (W1.alloc (.cells #[.string wd, .int .u8 0] 58) = W2) := hW2
  have HWD : Hid (ofL (kw kd) = wd ∧ wd.size ≤ 10) := ⟨hwd, by rw [← hwd, ofL_sizeE]; exact kw_len k17⟩
  have ws : wd.size ≤ 10 := HWD.out.2
  rw [hu] at hG
  have HG : Hid (kw kd ++ tailU 0 s = G) := hG
  clear K1 K2 bx1 hW2 T F Fw hwd hu hG
  clear hW1
  go_enter Tryd.func31, Tryd.ntmps31
  go_upto_region 1 with fail
  rw [HW1.out]
  clear HW1
  go_upto_region 2 with fail
  rw [HW2.out]
  clear HW2 f0 f1 b0
  obtain ⟨B1, hB1⟩ : ∃ B1, w.heap.size = B1 := ⟨_, rfl⟩
  obtain ⟨B2, hB2⟩ : ∃ B2, W1.heap.size = B2 := ⟨_, rfl⟩
  rw [hB1, hB2] at A2 ⊢
  clear hB1 hB2
  have c0 := cell_blk A2.out.fm 0 (v := .string wd) rfl
  have kl : Hid (k ≤ 100000000) := by have h1 := A2.out.tx.len; have h2 := H.out.2.2; show k ≤ 100000000; omega
  have SR : Hid (Src Tryd.prog 1 9 (.string wd) wd.size (Lib.byteCells (kw kd)) W2) := by
    have q := Src.ofString (P := Tryd.prog) W2 Tryd.underlying9 wd
    have e : kw kd = wd.data.toList := by rw [← HWD.out.1]; rfl
    rw [e]
    exact q
  have LN : Hid (k + wd.size ≤ maxLen ∧ ((k + wd.size) + (k + wd.size) / 4 + 192) * 1 ≤ 281474976710656) := by have := kl.out; unfold maxLen; exact ⟨by omega, by omega⟩
  go_upto_region 3 with
    (first
      | (at_builtin; refine wpList_append_all _ rfl (.tmp 10) (.tmp 12) 35 5 9 _ 1 1 rfl Tryd.underlying35 Tryd.info5 rfl w0.heap.size (.slice p k c) k (Lib.byteCells l) rfl A2.out.tx.row _ wd.size (Lib.byteCells (kw kd)) rfl SR.out LN.out.1 LN.out.2 A2.out.tx.kept.size ?_; intro p3 c3 W3 ho hg hn9)
      | fail)
  obtain ⟨k3, hk3⟩ : ∃ k3, k + wd.size = k3 := ⟨_, rfl⟩
  have A3 : Hid (AS w0 W3 B1 B2 #[.int .i64 (kd : Int), .int .i64 a, .int .i64 b, .string key, .slice va vn vc, .slice la ln lc] wd 0 p3 k3 c3 (l ++ kw kd) ∧ (l ++ kw kd).length ≤ 100000010) := by
    rw [← hk3]
    have e : wd.size = (kw kd).length := by rw [← HWD.out.1, ofL_sizeE]
    refine ⟨A2.out.more (A2.out.tx.more (x := kw kd) e ho.out hg.out) ((Oth.refl _).grown A2.out.tx.row hg.out), ?_⟩
    have h2 := H.out.2.2
    have h3 := HWD.out.2
    rw [List.length_append]
    omega
  rw [hk3]
  clear hk3 ho hg hn9 A2 SR LN c0 kl ws HWD
  obtain ⟨l3, hl3⟩ : ∃ l3, l ++ kw kd = l3 := ⟨_, rfl⟩
  have HG3 : Hid (l3 ++ tailU 0 s = l ++ G) := by rw [← hl3, ← HG.out]; show (l ++ kw kd) ++ tailU 0 s = l ++ (kw kd ++ tailU 0 s); rw [List.append_assoc]
  rw [hl3] at A3
  clear hl3 HG
  have BK : Hid (∀ z : Int, KI z → (numL [z]).length ≤ 22) := numL_one
  have f1 := cell_blk A3.out.1.fm 1 (v := .int .u8 0) rfl
  have FN : Hid (TX w0 W3 p3 k3 c3 (l ++ G)) := by
    have q := A3.out.1.tx
    have g := HG3.out
    have e : tailU 0 s = [] := by
      unfold tailU
      simp
    rw [e] at g
    rw [← g]
    rw [List.append_nil]
    exact q
  clear HG3
  go_wp2_with fail
  go_ret
  exact ⟨p3, k3, c3, by first | rfl | simp, FN.out⟩
end Go.Proofs.YtonfefhegghapaaDoor

namespace Go.Proofs.YtonfefhegghapaaDoor
open Go.RowKit 

set_option maxRecDepth 100000 in
set_option maxHeartbeats 8000000 in
theorem hStep1 {w0 w : World} {p : Option Addr} {k c : Nat} {l : List UInt8} (T : TX w0 w p k c l) (tab : Lib.TabIs Tryd.prog w0 "internal/strconv.uint64pow10" .u64 Lib.pow10Tab) (F : FM w0) {x : Sm} {s : St} (r : SRd w0 x s) (hk : 0 ≤ s.kind ∧ s.kind < 17) (hus : useN s.kind.toNat = 1) (hl : l.length ≤ 100000000) : Calls Tryd.prog 31 #[.slice p k c, .agg x.cs] w (RetT fun p' k' c' w' => TX w0 w' p' k' c' (l ++ lineL s)) := by
  obtain ⟨G, hG⟩ : ∃ G, lineL s = G := ⟨_, rfl⟩
  rw [hG]
  have H : Hid (Lib.TabIs Tryd.prog w0 "internal/strconv.uint64pow10" .u64 Lib.pow10Tab ∧ SRd w0 x s ∧ l.length ≤ 100000000) := ⟨tab, r, hl⟩
  have Fw : FM w := F.kept T.kept
  unfold lineL at hG
  have ek := r.kind
  rw [← ek] at hus
  have ea := r.a
  have eb := r.b
  have ey := r.key
  obtain ⟨kind, a, b, key, va, vn, vc, la, ln, lc⟩ := x
  dsimp only at ek ea eb ey hus
  obtain ⟨kd, rfl⟩ : ∃ kd : Nat, kind = (kd : Int) := ⟨kind.toNat, by omega⟩
  have k17 : kd < 17 := by omega
  have k17i : (kd : Int) < 17 := by omega
  rw [← ek, show (kd : Int).toNat = kd from rfl] at hG
  rw [show (kd : Int).toNat = kd from rfl] at hus
  have KY : Hid (key.data.toList = s.key ∧ key.size ≤ 134217728 ∧ KI a ∧ KI b) := by
    refine ⟨by rw [ey]; rfl, ?_, by rw [ea]; exact r.ka, by rw [eb]; exact r.kb⟩
    rw [ey, ofL_sizeE]
    have := r.sm
    omega
  have EA : Hid (a = s.a ∧ b = s.b) := ⟨ea, eb⟩
  clear ek ea eb ey r tab hl hk
  show Calls Tryd.prog 31 #[.slice p k c, .agg #[.int .i64 (kd : Int), .int .i64 a, .int .i64 b, .string key, .slice va vn vc, .slice la ln lc]] w _
  obtain ⟨wd, hwd⟩ : ∃ wd, ofL (kw kd) = wd := ⟨_, rfl⟩
  have hu : useN kd = 1 := hus
  clear hus
  obtain ⟨W1, hW1⟩ : ∃ W1, w.alloc (.cells #[.int .i64 (kd : Int), .int .i64 a, .int .i64 b, .string key, .slice va vn vc, .slice la ln lc] 38) = W1 := ⟨_, rfl⟩
  have K1 : Kept (fun _ => False) w W1 := by rw [← hW1]; exact (Kept.refl _ _).alloc _
  have bx1 : W1.heap[w.heap.size]? = some (.cells #[.int .i64 (kd : Int), .int .i64 a, .int .i64 b, .string key, .slice va vn vc, .slice la ln lc] 38 (0, 0)) := by rw [← hW1]; exact alloc_new _ _
  have f0 : W1.cell? ⟨0, kd * 2, none⟩ = some (.string wd) := by rw [← hwd]; exact (Fw.kept K1).word k17
  have f1 : W1.cell? ⟨0, kd * 2 + 1, none⟩ = some (.int .u8 1) := by have q := (Fw.kept K1).use k17; rw [hu] at q; exact q
  have b0 := cell_blk bx1 0 (v := .int .i64 (kd : Int)) rfl
  have HW1 : Hid (w.alloc (.cells #[.int .i64 (kd : Int), .int .i64 a, .int .i64 b, .string key, .slice va vn vc, .slice la ln lc] 38) = W1) := hW1
  obtain ⟨W2, hW2⟩ : ∃ W2, W1.alloc (.cells #[.string wd, .int .u8 1] 58) = W2 := ⟨_, rfl⟩
  have K2 : Kept (fun _ => False) W1 W2 := by rw [← hW2]; exact (Kept.refl _ _).alloc _
  have A2 : Hid (AS w0 W2 w.heap.size W1.heap.size #[.int .i64 (kd : Int), .int .i64 a, .int .i64 b, .string key, .slice va vn vc, .slice la ln lc] wd 1 p k c l) := ⟨(T.k0 K1).k0 K2, K2.get bx1 (fun z => z), by rw [← hW2]; exact alloc_new _ _⟩
  have HW2 : Hid (W1.alloc (.cells #[.string wd, .int .u8 1] 58) = W2) := hW2
  have HWD : Hid (ofL (kw kd) = wd ∧ wd.size ≤ 10) := ⟨hwd, by rw [← hwd, ofL_sizeE]; exact kw_len k17⟩
  have ws : wd.size ≤ 10 := HWD.out.2
  rw [hu] at hG
  have HG : Hid (kw kd ++ tailU 1 s = G) := hG
  clear K1 K2 bx1 hW2 T F Fw hwd hu hG
  clear hW1
  go_enter Tryd.func31, Tryd.ntmps31
  go_upto_region 1 with fail
  rw [HW1.out]
  clear HW1
  go_upto_region 2 with fail
  rw [HW2.out]
  clear HW2 f0 f1 b0
  obtain ⟨B1, hB1⟩ : ∃ B1, w.heap.size = B1 := ⟨_, rfl⟩
  obtain ⟨B2, hB2⟩ : ∃ B2, W1.heap.size = B2 := ⟨_, rfl⟩
  rw [hB1, hB2] at A2 ⊢
  clear hB1 hB2
  have c0 := cell_blk A2.out.fm 0 (v := .string wd) rfl
  have kl : Hid (k ≤ 100000000) := by have h1 := A2.out.tx.len; have h2 := H.out.2.2; show k ≤ 100000000; omega
  have SR : Hid (Src Tryd.prog 1 9 (.string wd) wd.size (Lib.byteCells (kw kd)) W2) := by
    have q := Src.ofString (P := Tryd.prog) W2 Tryd.underlying9 wd
    have e : kw kd = wd.data.toList := by rw [← HWD.out.1]; rfl
    rw [e]
    exact q
  have LN : Hid (k + wd.size ≤ maxLen ∧ ((k + wd.size) + (k + wd.size) / 4 + 192) * 1 ≤ 281474976710656) := by have := kl.out; unfold maxLen; exact ⟨by omega, by omega⟩
  go_upto_region 3 with
    (first
      | (at_builtin; refine wpList_append_all _ rfl (.tmp 10) (.tmp 12) 35 5 9 _ 1 1 rfl Tryd.underlying35 Tryd.info5 rfl w0.heap.size (.slice p k c) k (Lib.byteCells l) rfl A2.out.tx.row _ wd.size (Lib.byteCells (kw kd)) rfl SR.out LN.out.1 LN.out.2 A2.out.tx.kept.size ?_; intro p3 c3 W3 ho hg hn9)
      | fail)
  obtain ⟨k3, hk3⟩ : ∃ k3, k + wd.size = k3 := ⟨_, rfl⟩
  have A3 : Hid (AS w0 W3 B1 B2 #[.int .i64 (kd : Int), .int .i64 a, .int .i64 b, .string key, .slice va vn vc, .slice la ln lc] wd 1 p3 k3 c3 (l ++ kw kd) ∧ (l ++ kw kd).length ≤ 100000010) := by
    rw [← hk3]
    have e : wd.size = (kw kd).length := by rw [← HWD.out.1, ofL_sizeE]
    refine ⟨A2.out.more (A2.out.tx.more (x := kw kd) e ho.out hg.out) ((Oth.refl _).grown A2.out.tx.row hg.out), ?_⟩
    have h2 := H.out.2.2
    have h3 := HWD.out.2
    rw [List.length_append]
    omega
  rw [hk3]
  clear hk3 ho hg hn9 A2 SR LN c0 kl ws HWD
  obtain ⟨l3, hl3⟩ : ∃ l3, l ++ kw kd = l3 := ⟨_, rfl⟩
  have HG3 : Hid (l3 ++ tailU 1 s = l ++ G) := by rw [← hl3, ← HG.out]; show (l ++ kw kd) ++ tailU 1 s = l ++ (kw kd ++ tailU 1 s); rw [List.append_assoc]
  rw [hl3] at A3
  clear hl3 HG
  have BK : Hid (∀ z : Int, KI z → (numL [z]).length ≤ 22) := numL_one
  have f1 := cell_blk A3.out.1.fm 1 (v := .int .u8 1) rfl
  have v4 := cell_blk A3.out.1.bx 1 (v := .int .i64 a) rfl
  go_upto_region 4 with fail
  have C4 : Hid (Calls Tryd.prog 54 #[.slice p3 k3 c3, .slice (some ⟨W3.heap.size, 0, none⟩) 1 1] (W3.alloc (.cells #[.int .i64 a] 3)) (RetT fun p' k' c' w' => AS w0 w' B1 B2 #[.int .i64 (kd : Int), .int .i64 a, .int .i64 b, .string key, .slice va vn vc, .slice la ln lc] wd 1 p' k' c' (l3 ++ numL [a]))) := (as_num A3.out.1 H.out.1 KY.out.2.2.1 (by have := A3.out.2; omega))
  go_wp2_with fail
  refine C4.out.mono ?_
  rintro o W4 ⟨p4, k4, c4, rfl, t⟩
  obtain ⟨l4, hl4⟩ : ∃ x, l3 ++ numL [a] = x := ⟨_, rfl⟩
  have A4 : Hid (AS w0 W4 B1 B2 #[.int .i64 (kd : Int), .int .i64 a, .int .i64 b, .string key, .slice va vn vc, .slice la ln lc] wd 1 p4 k4 c4 (l4) ∧ l4.length ≤ 100000032) := by
    rw [← hl4]
    refine ⟨t, ?_⟩
    rw [List.length_append]
    have h1 := A3.out.2
    have h2 := (BK.out a KY.out.2.2.1)
    omega
  have E4 : Hid (l3 ++ numL [a] = l4) := hl4
  clear hl4
  have g4 := cell_blk A4.out.1.fm 1 (v := .int .u8 1) rfl
  clear t C4 v4 f1
  have FN : Hid (TX w0 W4 p4 k4 c4 (l ++ G)) := by
    have q := A4.out.1.tx
    have g := HG3.out
    have e : tailU 1 s = numL [s.a] := by
      unfold tailU
      simp
    rw [e] at g
    rw [← E4.out] at q
    rw [EA.out.1] at q
    rw [← g]
    exact q
  clear HG3
  go_wp2_with fail
  go_ret
  exact ⟨p4, k4, c4, by first | rfl | simp, FN.out⟩
end Go.Proofs.YtonfefhegghapaaDoor
