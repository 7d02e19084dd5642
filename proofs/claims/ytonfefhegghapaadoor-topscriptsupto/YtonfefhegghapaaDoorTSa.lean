import Derived.Test.YtonfefhegghapaaDoorTAb
import Derived.Test.YtonfefhegghapaaDoorTGu
import Derived.Deep.Upon
namespace Go.Proofs.YtonfefhegghapaaDoor
open Go.RowKit 

def sb (s : ByteArray) : List Nat := s.data.toList.map (fun b => b.toNat)
theorem bytesRow_size (s : ByteArray) (cap : Nat) (h : s.size ≤ cap) : (bytesRow s cap).size = cap := by
  unfold bytesRow
  rw [Array.size_append, Array.size_map, Array.size_replicate]
  show s.size + _ = _
  omega
/-- '[]byte(s)'. -/
theorem convert_bytes (s : ByteArray) (w : World) (hs : s.size ≤ 140737488355328) : ∃ c w', (convert 9 35 (.string s)).run Tryd.prog w = .ok (.slice (some ⟨w.heap.size, 0, none⟩) s.size c) w' ∧ BRd w' (some ⟨w.heap.size, 0, none⟩) s.size c s.data.toList ∧ Kept (fun _ => False) w w' ∧ w.heap.size < w'.heap.size := by
  have hge := grownCap_ge w s.size 0 5
  have hz := heap_alloc_new w.drew (.cells (bytesRow s (grownCap w s.size 0 5)) 5 ((bytesRow s (grownCap w s.size 0 5)).size, (bytesRow s (grownCap w s.size 0 5)).size + 1))
  refine ⟨_, _, run_bytes_of_string (P := Tryd.prog) w 9 35 5 s Tryd.underlying9 Tryd.underlying35 Tryd.underlying5, ⟨Array.length_toList, hge, grownCap_le_maxLen w _ _ _ (by unfold maxLen; omega), fun _ => ⟨w.heap.size, 0, rfl, fun i x hx => ?_⟩⟩, ((Kept.refl _ w).drew).alloc _, ?_⟩
  · rw [cell_of_row _ w.heap.size (0 + i) _ 5 _ (heap_alloc_new w.drew _), Nat.zero_add]
    have hi : i < s.data.size := by
      have := (List.getElem?_eq_some_iff.1 hx).1
      rw [Array.length_toList] at this
      exact this
    have hi3 : i < (s.data.map (fun b => Value.int .u8 b.toNat)).size := by simpa using hi
    unfold bytesRow
    rw [Array.getElem?_append_left hi3, Array.getElem?_map]
    rw [Array.getElem?_toList] at hx
    rw [hx]
    rfl
  · exact block_lt (heap_alloc_new w.drew _)
/-- What a step's line has behind its word. -/
def tailU (u : Nat) (s : St) : List UInt8 := (if u % 2 = 1 then numL [s.a] else []) ++ ((if u / 2 % 2 = 1 then numL [s.b] else []) ++ ((if u / 4 % 2 = 1 then bytL s.key else []) ++ ((if u / 8 % 2 = 1 then bytL s.val else []) ++ (if u / 16 % 2 = 1 then numL s.l else []))))
/-- A step's line. -/
def lineL (s : St) : List UInt8 := kw s.kind.toNat ++ tailU (useN s.kind.toNat) s
/-- A step that can be read, below. -/
structure SRd (w : World) (x : Sm) (s : St) : Prop where
  kind : x.kind = s.kind
  a : x.a = s.a
  b : x.b = s.b
  key : x.key = ofL s.key
  ka : KI s.a
  kb : KI s.b
  v : BRd w x.va x.vn x.vc s.val
  l : IRd w x.la x.ln x.lc s.l
  sm : s.key.length + s.val.length + s.l.length ≤ 134217728
theorem SRd.kept {w w' : World} {x : Sm} {s : St} (h : SRd w x s) (K : Kept (fun _ => False) w w') : SRd w' x s := ⟨h.kind, h.a, h.b, h.key, h.ka, h.kb, h.v.keep K (fun _ _ z => z), h.l.kept K, h.sm⟩
theorem numL_one (z : Int) (h : KI z) : (numL [z]).length ≤ 22 := numL_len [z] (fun y hy => by simp at hy; rw [hy]; exact h)
theorem bytL_len (l : List UInt8) : (bytL l).length ≤ 2 + 2 * l.length := by
  unfold bytL
  split
  · simp
  · rw [List.length_cons, hexs_len]
    omega
theorem kw_len {k : Nat} (h : k < 17) : (kw k).length ≤ 10 := by
  obtain rfl | rfl | rfl | rfl | rfl | rfl | rfl | rfl | rfl | rfl | rfl | rfl | rfl | rfl | rfl | rfl | rfl : k = 0 ∨ k = 1 ∨ k = 2 ∨ k = 3 ∨ k = 4 ∨ k = 5 ∨ k = 6 ∨ k = 7 ∨ k = 8 ∨ k = 9 ∨ k = 10 ∨ k = 11 ∨ k = 12 ∨ k = 13 ∨ k = 14 ∨ k = 15 ∨ k = 16 := by omega
  all_goals decide
/-- Where appendStep is. -/
structure AS (w0 W : World) (B1 B2 : Nat) (cs : Array Value) (wd : ByteArray) (u : Nat) (p : Option Addr) (k c : Nat) (l : List UInt8) : Prop where
  tx : TX w0 W p k c l
  bx : W.heap[B1]? = some (.cells cs 38 (0, 0))
  fm : W.heap[B2]? = some (.cells #[.string wd, .int .u8 (u : Int)] 58 (0, 0))
theorem AS.keep {w0 W W' : World} {B1 B2 : Nat} {cs : Array Value} {wd : ByteArray} {u : Nat} {p : Option Addr} {k c : Nat} {l : List UInt8} (h : AS w0 W B1 B2 cs wd u p k c l) (K : Kept (fun _ => False) W W') : AS w0 W' B1 B2 cs wd u p k c l := ⟨h.tx.k0 K, K.get h.bx (fun z => z), K.get h.fm (fun z => z)⟩
theorem AS.more {w0 W W' : World} {B1 B2 : Nat} {cs : Array Value} {wd : ByteArray} {u : Nat} {p p' : Option Addr} {k c k' c' : Nat} {l l' : List UInt8} (h : AS w0 W B1 B2 cs wd u p k c l) (t : TX w0 W' p' k' c' l') (O : Oth W W') : AS w0 W' B1 B2 cs wd u p' k' c' l' := ⟨t, O.get h.bx (by decide), O.get h.fm (by decide)⟩
/-- The cells of appendStep's own, and the bytes behind them, one by one. -/
theorem as_num {w0 W : World} {B1 B2 : Nat} {cs : Array Value} {wd : ByteArray} {u : Nat} {p : Option Addr} {k c : Nat} {l : List UInt8} {z : Int} (h : AS w0 W B1 B2 cs wd u p k c l) (tab : Lib.TabIs Tryd.prog w0 "internal/strconv.uint64pow10" .u64 Lib.pow10Tab) (kz : KI z) (hl : l.length ≤ 4000000000) : Calls Tryd.prog 54 #[.slice p k c, .slice (some ⟨W.heap.size, 0, none⟩) 1 1] (W.alloc (.cells #[.int .i64 z] 3)) (RetT fun p' k' c' w' => AS w0 w' B1 B2 cs wd u p' k' c' (l ++ numL [z])) := by
  have K := (Kept.refl (fun _ => False) W).alloc (.cells #[.int .i64 z] 3)
  refine (hNumsG (h.keep K).tx tab (IRd.one (alloc_new W _) kz) (fun _ b hb => ?_) (by simp; omega)).mono ?_
  · have e : b = W.heap.size := by simpa [blockOf] using hb.symm
    rw [e]
    exact ⟨_, alloc_new W _⟩
  · rintro o w' ⟨p', k', c', rfl, t, O⟩
    exact ⟨p', k', c', rfl, (h.keep K).more t O⟩
theorem as_nums {w0 W : World} {B1 B2 : Nat} {cs : Array Value} {wd : ByteArray} {u : Nat} {p : Option Addr} {k c : Nat} {l : List UInt8} {x : Sm} {s : St} (h : AS w0 W B1 B2 cs wd u p k c l) (tab : Lib.TabIs Tryd.prog w0 "internal/strconv.uint64pow10" .u64 Lib.pow10Tab) (r : SRd w0 x s) (hl : l.length ≤ 1000000000) : Calls Tryd.prog 54 #[.slice p k c, .slice x.la x.ln x.lc] W (RetT fun p' k' c' w' => AS w0 w' B1 B2 cs wd u p' k' c' (l ++ numL s.l)) := by
  refine (hNumsB h.tx tab r.l (by have := r.sm; omega)).mono ?_
  rintro o w' ⟨p', k', c', rfl, t, O⟩
  exact ⟨p', k', c', rfl, h.more t O⟩
theorem as_val {w0 W : World} {B1 B2 : Nat} {cs : Array Value} {wd : ByteArray} {u : Nat} {p : Option Addr} {k c : Nat} {l : List UInt8} {x : Sm} {s : St} (h : AS w0 W B1 B2 cs wd u p k c l) (r : SRd w0 x s) (hl : l.length ≤ 1000000000) : Calls Tryd.prog 55 #[.slice p k c, .slice x.va x.vn x.vc] W (RetT fun p' k' c' w' => AS w0 w' B1 B2 cs wd u p' k' c' (l ++ bytL s.val)) := by
  have r2 := r.kept h.tx.kept
  refine (hAppB ⟨h.tx, r2.v, fun h0 b hb => ⟨r2.v.lt h0 b hb, fun z => ?_⟩⟩ (by have := r.sm; omega)).mono ?_
  · have h1 := (own_lt h.tx.row b z).1
    have h2 := r.v.lt h0 b hb
    omega
  · rintro o w' ⟨p', k', c', rfl, t, O⟩
    exact ⟨p', k', c', rfl, h.more t O⟩
theorem as_key {w0 W W' : World} {B1 B2 : Nat} {cs : Array Value} {wd : ByteArray} {u : Nat} {p : Option Addr} {k c n : Nat} {l : List UInt8} {key : ByteArray} (h : AS w0 W B1 B2 cs wd u p k c l) (r : BRd W' (some ⟨W.heap.size, 0, none⟩) key.size n key.data.toList) (K : Kept (fun _ => False) W W') (lt : W.heap.size < W'.heap.size) (hs : key.size ≤ 134217728) (hl : l.length ≤ 1000000000) : Calls Tryd.prog 55 #[.slice p k c, .slice (some ⟨W.heap.size, 0, none⟩) key.size n] W' (RetT fun p' k' c' w' => AS w0 w' B1 B2 cs wd u p' k' c' (l ++ bytL key.data.toList)) := by
  have h2 := h.keep K
  have hh : l.length + 2 * key.data.toList.length ≤ 4294967296 := by
    have e : key.data.toList.length = key.size := Array.length_toList
    omega
  refine (hAppB ⟨h2.tx, r, fun _ b hb => ?_⟩ hh).mono ?_
  · have e : b = W.heap.size := by simpa [blockOf] using hb.symm
    subst e
    refine ⟨lt, fun z => ?_⟩
    have := (own_lt h.tx.row _ z).2
    omega
  · rintro o w' ⟨p', k', c', rfl, t, O⟩
    exact ⟨p', k', c', rfl, h2.more t O⟩
end Go.Proofs.YtonfefhegghapaaDoor
