import Derived.Test.YtgfglbbfoadiaaaReader
import Derived.Laws.IdiomStrings
namespace Go.Proofs.Ytgfglbbfoadiaaa
open Go.RowKit

/-- Bytes as a text. -/
def str (l : List Nat) : ByteArray := ⟨(l.map UInt8.ofNat).toArray⟩
theorem sb_str (l : List Nat) (h : ∀ c ∈ l, c < 256) : sb (str l) = l := by
  unfold sb str
  rw [List.toList_toArray, List.map_map]
  have e : l.map (UInt8.toNat ∘ UInt8.ofNat) = l.map id := List.map_congr_left fun c hc => by
    have := h c hc
    show (UInt8.ofNat c).toNat = c
    rw [UInt8.toNat_ofNat']
    omega
  rw [e, List.map_id]
theorem str_sb (s : ByteArray) : str (sb s) = s := by
  unfold sb str
  rw [List.map_map]
  obtain ⟨d⟩ := s
  congr 1
  apply Array.ext'
  rw [List.toList_toArray]
  have e : d.toList.map (UInt8.ofNat ∘ UInt8.toNat) = d.toList.map id := List.map_congr_left fun c _ => UInt8.ofNat_toNat
  exact e.trans (List.map_id _)
theorem str_size (l : List Nat) : (str l).size = l.length := by
  show (l.map UInt8.ofNat).toArray.size = _
  simp
theorem str_inj (l m : List Nat) (h1 : ∀ c ∈ l, c < 256) (h2 : ∀ c ∈ m, c < 256) : str l = str m ↔ l = m :=
  ⟨fun h => by rw [← sb_str l h1, ← sb_str m h2, h], fun h => by rw [h]⟩
theorem Reads.string {w : World} {a : Option Addr} {len cap : Nat} {l : List Nat} (r : Reads w a len cap l) : (convert 28 9 (.slice a len cap)).run Try.prog w = .ok (.string (str l)) w := by
  have hlen := r.length
  subst hlen
  have hm : (l.map UInt8.ofNat).length = l.length := List.length_map ..
  have some_case : ∀ ad : Addr, a = some ad → (∀ j, j < l.length → w.cell? (ad.add j) = some (.int .u8 ((l.getD j 0 : Nat) : Int))) → (convert 28 9 (.slice a l.length cap)).run Try.prog w = .ok (.string (str l)) w := fun ad e hc => by
    subst e
    have := run_convert_bytes_back (P := Try.prog) w 28 9 5 ad cap (l.map UInt8.ofNat) Try.underlying28 Try.underlying5 Try.underlying9 (fun j hj => by
      have hj' : j < l.length := by rw [← hm]; exact hj
      rw [hc j hj']
      have hb := r.bytes l[j] (List.getElem_mem hj')
      have e1 : l.getD j 0 = l[j] := by rw [List.getD_eq_getElem?_getD, List.getElem?_eq_getElem hj']; rfl
      rw [e1, List.getElem_map, UInt8.toNat_ofNat']
      congr 3
      omega)
    rw [hm] at this
    exact this
  by_cases h0 : 0 < l.length
  · obtain ⟨b, off, e, hc⟩ := r.cells h0
    exact some_case _ e (fun j hj => by rw [Addr.add_none]; exact hc j hj)
  · have hl : l = [] := List.eq_nil_of_length_eq_zero (by omega)
    subst hl
    cases a with
    | some ad => exact some_case ad rfl (fun j hj => absurd hj (by simp))
    | none =>
      show (convert 28 9 (.slice none 0 cap)).run Try.prog w = _
      rw [run_convert_bytes_string (P := Try.prog) w 28 9 5 none 0 cap Try.underlying28 Try.underlying5 Try.underlying9]
      simp [Conv.bytesToString]
      rfl
theorem eq_bytes (x y : ByteArray) : (x.toList == y.toList) = decide (x = y) := by
  rw [ByteArray.toList_eq, ByteArray.toList_eq]
  obtain ⟨⟨x⟩⟩ := x
  obtain ⟨⟨y⟩⟩ := y
  rw [Bool.eq_iff_iff]
  simp

set_option maxRecDepth 100000 in
theorem same_any (a1 a2 : Option Addr) (len1 cap1 len2 cap2 : Nat) (l m : List Nat) (w : World) (r1 : Reads w a1 len1 cap1 l) (r2 : Reads w a2 len2 cap2 m) (b : Bool) (hb : b = decide (l = m)) :
    Calls Try.prog 16 #[.slice a1 len1 cap1, .slice a2 len2 cap2] w fun x w' => x = .returned (.bool b) ∧ w' = w := by
  have s1 := r1.string
  have s2 := r2.string
  have SI := str_inj l m r1.bytes r2.bytes
  have SH : Hid (str l = str m ↔ l = m) := SI
  have BH : Hid (b = decide (l = m)) := hb
  clear r1 r2 SI hb
  generalize str l = x at *
  generalize str m = y at *
  go_enter Try.func16, Try.ntmps16
  go_wp2_with fail
  go_ret
  refine ⟨congrArg Ending.returned (congrArg Value.bool ?_), rfl⟩
  rw [eq_bytes, BH.out, Bool.eq_iff_iff, decide_eq_true_iff, decide_eq_true_iff]
  exact SH.out

theorem ownsRow_base {w : World} {base base' : Nat} {e : TypeId} {size : Nat} {v : Value} {n : Nat} {xs : List Value} (h : w.ownsRow base e size v n xs) (hb : base' ≤ base) : w.ownsRow base' e size v n xs := by
  refine ⟨h.1, ?_⟩
  rcases h.2 with q | ⟨g, cap, cur, q, hg, rest⟩
  · exact .inl q
  · exact .inr ⟨g, cap, cur, q, by omega, rest⟩
theorem Took.after {w w1 w2 : World} {R : Nat} {D : Option Nat} {e : Int} {k : Nat} {l : List Nat} (t : Took w R D w1 e k l) (q : Kept (fun _ => False) w1 w2) : Took w R D w2 e k l :=
  ⟨t.isR.kept q (fun f => f) (fun _ _ f => f), t.kept.trans q (fun _ _ f => f.elim)⟩

theorem newReader (a : Option Addr) (len cap : Nat) (l : List Nat) (w : World) (r : Reads w a len cap l) (hs : len ≤ 140737488355328) :
    Calls Try.prog 12 #[.slice a len cap] w fun x w' => ∃ R D, x = .returned (.pointer (some ⟨R, 0, none⟩)) ∧ w.heap.size ≤ R ∧ (∀ j, D = some j → w.heap.size ≤ j ∧ j < w'.heap.size) ∧ IsR w' R D 0 0 l ∧ Kept (fun _ => False) w w' := by
  have R : Hid (Reads w a len cap l) := r
  have hl := r.length
  have hb := r.bytes
  clear r
  go_enter Try.func12, Try.ntmps12
  go_wp2_with fail
  refine (clone a len cap l w R.out hs).mono ?_
  rintro x w1 ⟨p, c, rfl, ho, k⟩
  have OH : Hid (w1.ownsRow w.heap.size 5 1 (.slice p len c) len (cellsOf l)) := ho
  have KH : Hid (Kept (fun _ => False) w w1) := k
  clear ho k
  go_wp2_with fail
  go_ret
  obtain ⟨a2, c2, e2, r2, o2⟩ := owns_reads OH.out hb
  simp at e2
  obtain ⟨rfl, rfl⟩ := e2
  have k2 : Kept (fun _ => False) w1 (w1.alloc (.cells #[.int .i64 0, .slice p len c, .int .i64 0] 71)) := (Kept.refl _ w1).alloc _
  have r3 := r2.kept k2 (fun _ _ f => f)
  have hlt : ∀ j, (Value.slice p len c).ownBlock = some j → w.heap.size ≤ j ∧ j < w1.heap.size := fun j hj => OH.out.lt j hj
  refine ⟨w1.heap.size, (Value.slice p len c).ownBlock, rfl, KH.out.size, fun j hj => ⟨(hlt j hj).1, by simp; have := (hlt j hj).2; omega⟩, ⟨⟨p, c, ?_, ?_, fun q hq => o2 q hq⟩, fun q => by have := (hlt _ q).2; omega, ?_, fun q => absurd rfl q⟩, KH.out.trans k2 (fun _ _ f => f)⟩
  · rw [hl]
    exact heap_alloc_new w1 _
  · rw [hl]
    exact r3
  · unfold maxLen; omega

theorem rBytes_ok (R : Nat) (D : Option Nat) (e most : Int) (k n s : Nat) (l : List Nat) (w : World) (h : IsR w R D e k l) (hv : Pk.parse most l = (n, s, 0)) (hn : s + n ≤ l.length) (hs : n ≤ 140737488355328) :
    Calls Try.prog 39 #[.pointer (some ⟨R, 0, none⟩), .int .i64 most] w fun x w' => ∃ p c, x = .returned (.slice p n c) ∧ w'.ownsRow w.heap.size 5 1 (.slice p n c) n (cellsOf ((l.drop s).take n)) ∧ Took w R D w' e (k + (s + n)) (l.drop (s + n)) := by
  go_enter Try.func39, Try.ntmps39
  go_wp2_with fail
  refine (counted_ok R D e most k n s l w h hv hn).mono ?_
  rintro x w1 ⟨a, cap, rfl, r, _, T⟩
  have TH : Hid (Took w R D w1 e (k + (s + n)) (l.drop (s + n))) := T
  have RH : Hid (Reads w1 a n cap ((l.drop s).take n)) := r
  clear T r
  go_wp2_with fail
  refine (clone a n cap _ w1 RH.out hs).mono ?_
  rintro x w2 ⟨p, c, rfl, ho, q⟩
  have OH : Hid (w2.ownsRow w1.heap.size 5 1 (.slice p n c) n (cellsOf ((l.drop s).take n))) := ho
  have QH : Hid (Kept (fun _ => False) w1 w2) := q
  clear ho q
  go_wp2_with fail
  go_ret
  exact ⟨p, c, rfl, ownsRow_base OH.out TH.out.kept.size, TH.out.after QH.out⟩
/-- What Bytes and Text come to: an error, none where it is 0. -/
def cErr (most : Int) (l : List Nat) : Int := match Pk.parse most l with | (n, s, e) => if e = 0 then (if s + n ≤ l.length then 0 else 30) else e
theorem counted_err (R : Nat) (D : Option Nat) (e most x : Int) (k : Nat) (l : List Nat) (w : World) (h : IsR w R D e k l) (hv : cErr most l = x) (hx : x ≠ 0) :
    Calls Try.prog 63 #[.pointer (some ⟨R, 0, none⟩), .int .i64 most] w fun y w' => y = .returned (.slice none 0 0) ∧ Took w R D w' (first e x) k [] := by
  obtain ⟨⟨n, s, y⟩, hp⟩ : ∃ q, Pk.parse most l = q := ⟨_, rfl⟩
  unfold cErr at hv
  rw [hp] at hv
  simp only at hv
  by_cases hy : y = 0
  · subst hy
    rw [if_pos rfl] at hv
    by_cases hn : s + n ≤ l.length
    · rw [if_pos hn] at hv; exact absurd hv.symm hx
    · rw [if_neg hn] at hv
      subst hv
      exact counted_short R D e most k n s l w h hp hn
  · rw [if_neg hy] at hv
    subst hv
    exact counted_bad R D e most y k n s l w h hp hy
theorem rBytes_bad (R : Nat) (D : Option Nat) (e most x : Int) (k : Nat) (l : List Nat) (w : World) (h : IsR w R D e k l) (hv : cErr most l = x) (hx : x ≠ 0) :
    Calls Try.prog 39 #[.pointer (some ⟨R, 0, none⟩), .int .i64 most] w fun y w' => ∃ p c, y = .returned (.slice p 0 c) ∧ w'.ownsRow w.heap.size 5 1 (.slice p 0 c) 0 (cellsOf []) ∧ Took w R D w' (first e x) k [] := by
  go_enter Try.func39, Try.ntmps39
  go_wp2_with fail
  refine (counted_err R D e most x k l w h hv hx).mono ?_
  rintro y w1 ⟨rfl, T⟩
  have TH : Hid (Took w R D w1 (first e x) k []) := T
  clear T
  go_wp2_with fail
  refine (clone none 0 0 [] w1 (Reads.nil w1) (by omega)).mono ?_
  rintro y w2 ⟨p, c, rfl, ho, q⟩
  have OH : Hid (w2.ownsRow w1.heap.size 5 1 (.slice p 0 c) 0 (cellsOf [])) := ho
  have QH : Hid (Kept (fun _ => False) w1 w2) := q
  clear ho q
  go_wp2_with fail
  go_ret
  exact ⟨p, c, rfl, ownsRow_base OH.out TH.out.kept.size, TH.out.after QH.out⟩
theorem rBytes_nil (most : Int) (w : World) : Calls Try.prog 39 #[.pointer none, .int .i64 most] w fun y w' => ∃ p c, y = .returned (.slice p 0 c) ∧ Kept (fun _ => False) w w' := by
  go_enter Try.func39, Try.ntmps39
  go_wp2_with fail
  refine (counted_nil most w).mono ?_
  rintro y w1 ⟨rfl, rfl⟩
  go_wp2_with fail
  refine (clone none 0 0 [] w1 (Reads.nil w1) (by omega)).mono ?_
  rintro y w2 ⟨p, c, rfl, _, q⟩
  have QH : Hid (Kept (fun _ => False) w1 w2) := q
  clear q
  go_wp2_with fail
  go_ret
  exact ⟨p, c, rfl, QH.out⟩
theorem rText_ok (R : Nat) (D : Option Nat) (e most : Int) (k n s : Nat) (l : List Nat) (w : World) (h : IsR w R D e k l) (hv : Pk.parse most l = (n, s, 0)) (hn : s + n ≤ l.length) :
    Calls Try.prog 41 #[.pointer (some ⟨R, 0, none⟩), .int .i64 most] w fun x w' => x = .returned (.string (str ((l.drop s).take n))) ∧ Took w R D w' e (k + (s + n)) (l.drop (s + n)) := by
  go_enter Try.func41, Try.ntmps41
  go_wp2_with fail
  refine (counted_ok R D e most k n s l w h hv hn).mono ?_
  rintro x w1 ⟨a, cap, rfl, r, _, T⟩
  have TH : Hid (Took w R D w1 e (k + (s + n)) (l.drop (s + n))) := T
  have S := r.string
  clear T r
  go_wp2_with fail
  go_ret
  exact ⟨rfl, TH.out⟩
theorem rText_bad (R : Nat) (D : Option Nat) (e most x : Int) (k : Nat) (l : List Nat) (w : World) (h : IsR w R D e k l) (hv : cErr most l = x) (hx : x ≠ 0) :
    Calls Try.prog 41 #[.pointer (some ⟨R, 0, none⟩), .int .i64 most] w fun y w' => y = .returned (.string (str [])) ∧ Took w R D w' (first e x) k [] := by
  go_enter Try.func41, Try.ntmps41
  go_wp2_with fail
  refine (counted_err R D e most x k l w h hv hx).mono ?_
  rintro y w1 ⟨rfl, T⟩
  have TH : Hid (Took w R D w1 (first e x) k []) := T
  have S := (Reads.nil w1).string
  clear T
  go_wp2_with fail
  go_ret
  exact ⟨rfl, TH.out⟩
theorem rText_nil (most : Int) (w : World) : Calls Try.prog 41 #[.pointer none, .int .i64 most] w fun y w' => y = .returned (.string (str [])) ∧ w' = w := by
  go_enter Try.func41, Try.ntmps41
  go_wp2_with fail
  refine (counted_nil most w).mono ?_
  rintro y w1 ⟨rfl, rfl⟩
  have S := (Reads.nil w1).string
  go_wp2_with fail
  go_ret
  exact ⟨rfl, rfl⟩
end Go.Proofs.Ytgfglbbfoadiaaa
