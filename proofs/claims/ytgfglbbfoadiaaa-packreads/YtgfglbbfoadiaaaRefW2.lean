import Derived.Test.YtgfglbbfoadiaaaRefW
import Derived.Test.YtgfglbbfoadiaaaSizesWalk
namespace Go.Proofs.Ytgfglbbfoadiaaa
open Go.RowKit

theorem convert_bytes (s : ByteArray) (w : World) (hs : s.size ≤ 140737488355328) : ∃ c w', (convert 9 28 (.string s)).run Try.prog w = .ok (.slice (some ⟨w.heap.size, 0, none⟩) s.size c) w' ∧ Reads w' (some ⟨w.heap.size, 0, none⟩) s.size c (sb s) ∧ Kept (fun _ => False) w w' := by
  refine ⟨_, _, run_bytes_of_string (P := Try.prog) w 9 28 5 s Try.underlying9 Try.underlying28 Try.underlying5, ⟨sb_length s, grownCap_ge w _ _ _, grownCap_le_maxLen w _ _ _ (by unfold maxLen; omega), sb_bytes s, fun _ => ⟨w.heap.size, 0, rfl, fun i hi => ?_⟩⟩, ((Kept.refl _ w).drew).alloc _⟩
  rw [cell_of_row _ w.heap.size (0 + i) _ 5 _ (heap_alloc_new w.drew _), Nat.zero_add]
  have hl : i < (sb s).length := by rw [sb_length]; exact hi
  have e1 : (byteCells s)[i]? = some (.int .u8 (((sb s).getD i 0 : Nat) : Int)) := by rw [sb_cells]; exact cellsOf_get _ i hl
  have hi2 : i < (byteCells s).length := by rw [byteCells_length]; exact hi
  have hi3 : i < (s.data.map (fun b => Value.int .u8 b.toNat)).size := by simpa using hi
  unfold bytesRow
  rw [Array.getElem?_append_left hi3]
  unfold byteCells at e1
  rw [← e1]
  simp
theorem vText (V : Nat) (u : Value) (l : List Nat) (s : ByteArray) (w : World) (h : IsV w V 0 u l) (hs : l.length + 9 + s.size ≤ 140737488355328) :
    Calls Try.prog 51 #[.pointer (some ⟨V, 0, none⟩), .string s] w fun x w' => x = .returned (.tuple #[]) ∧ ∃ u', PutV w V u w' 0 u' (l ++ Pk.form s.size ++ sb s) := by
  obtain ⟨c, w1, hr, rd, k⟩ := convert_bytes s w (by omega)
  have RD : Hid (Reads w1 (some ⟨w.heap.size, 0, none⟩) s.size c (sb s)) := rd
  have K : Hid (PutV w V u w1 0 u l) := PutV.quiet h k
  have F : Hid (¬ wfoot V u w.heap.size) := fun q => by
    rcases q with q | q
    · have := block_lt h.blk; omega
    · have := (h.own.lt _ q).2; omega
  clear h rd k
  go_enter Try.func51, Try.ntmps51
  go_wp2_with fail
  refine (vBytes V u l _ s.size c (sb s) w1 K.out.isV RD.out (fun _ p hp q => by cases hp; exact F.out q) hs).mono ?_
  rintro x w2 ⟨rfl, u', P⟩
  have P2 : Hid (PutV w V u w2 0 u' (l ++ Pk.form s.size ++ sb s)) := K.out.trans P
  clear P
  go_wp2_with fail
  go_end0
  exact ⟨rfl, u', P2.out⟩
theorem vText_err (V : Nat) (e : Int) (u : Value) (l : List Nat) (s : ByteArray) (w : World) (h : IsV w V e u l) (he : e ≠ 0) (hs : s.size ≤ 140737488355328) :
    Calls Try.prog 51 #[.pointer (some ⟨V, 0, none⟩), .string s] w fun x w' => x = .returned (.tuple #[]) ∧ PutV w V u w' e u l := by
  obtain ⟨c, w1, hr, rd, k⟩ := convert_bytes s w (by omega)
  have K : Hid (PutV w V u w1 e u l) := PutV.quiet h k
  clear h rd k
  go_enter Try.func51, Try.ntmps51
  go_wp2_with fail
  refine (vBytes_err V e u l _ s.size c w1 K.out.isV he (by omega)).mono ?_
  rintro x w2 ⟨rfl, P⟩
  have P2 : Hid (PutV w V u w2 e u l) := K.out.trans P
  clear P
  go_wp2_with fail
  go_end0
  exact ⟨rfl, P2.out⟩
set_option maxRecDepth 100000 in
theorem vData (V : Nat) (u : Value) (l : List Nat) (w : World) (h : IsV w V 0 u l) (hs : l.length ≤ 140737488355328) :
    Calls Try.prog 52 #[.pointer (some ⟨V, 0, none⟩)] w fun x w' => ∃ p c, x = .returned (.slice p l.length c) ∧ Reads w' p l.length c l ∧ Kept (fun _ => False) w w' := by
  obtain ⟨a, cap, rfl, r, _⟩ := owns_reads h.own h.bytes
  have HB : Hid (∀ c ∈ l, c < 256) := h.bytes
  have K0 : Hid (Kept (fun _ => False) w (w.alloc (.cells #[] 5))) := (Kept.refl _ w).alloc _
  have R0 : Hid (Reads (w.alloc (.cells #[] 5)) a l.length cap l) := r.kept K0.out (fun _ _ f => f)
  have c0 := h.err
  have c1 : (w.alloc (.cells #[] 5)).cell? ⟨V, 0, none⟩ = some (.slice a l.length cap) := K0.out.cell h.dat (fun f => f)
  have c2 := h.dat
  clear h r
  go_enter Try.func52, Try.ntmps52
  go_wp2_with (first | (at_builtin; refine wpList_append_bytes _ rfl (.tmp 8) (.tmp 12) 28 rfl w.heap.size (.slice (some ⟨w.heap.size, 0, none⟩) 0 0) 0 [] rfl (World.ownsRow_made w #[] 0 (Nat.le_refl _) (by unfold maxLen; omega) rfl) (.slice a l.length cap) l.length l rfl R0.out.src (by omega) (by simp) ?_; intro p2 k2 w2 ho hg _ nr) | fail)
  go_ret
  rw [Nat.zero_add, List.nil_append] at ho
  obtain ⟨a2, c3, e2, r2, _⟩ := owns_reads ho.out HB.out
  simp at e2
  obtain ⟨rfl, rfl⟩ := e2
  refine ⟨p2, k2, by simp, r2, K0.out.grown hg.out (fun k hk q => ?_)⟩
  simp [Value.ownBlock] at q
  omega
theorem vData_err (V : Nat) (e : Int) (u : Value) (l : List Nat) (w : World) (h : IsV w V e u l) (he : e ≠ 0) :
    Calls Try.prog 52 #[.pointer (some ⟨V, 0, none⟩)] w fun x w' => x = .returned (.slice none 0 0) ∧ w' = w := by
  have c0 := h.err
  have he' : (e != 0) = true := by simpa using he
  clear h
  go_enter Try.func52, Try.ntmps52
  go_wp2_with fail
  go_ret
  exact ⟨rfl, rfl⟩
/-- Both sizes. -/
def szv (n : Int) : Int := if n < 0 then 0 else ((Pk.form n.toNat).length : Int)
def sze (n : Int) : Int := if n < 0 then 33 else 0
theorem sizeP (n : Int) (w : World) (hn : n < 9223372036854775808) : Calls Try.prog 8 #[.int .i64 n] w fun x w' => x = .returned (.tuple #[.int .i64 (szv n), .int .i64 (sze n)]) ∧ w' = w := by
  by_cases h : n < 0
  · refine (size_neg n w h).mono ?_
    rintro x w' ⟨rfl, rfl⟩
    unfold szv sze
    rw [if_pos h, if_pos h]
    exact ⟨rfl, rfl⟩
  · obtain ⟨k, rfl⟩ : ∃ k : Nat, n = (k : Int) := ⟨n.toNat, by omega⟩
    refine (size_pos k _ w (by omega) rfl).mono ?_
    rintro x w' ⟨rfl, rfl⟩
    unfold szv sze
    rw [if_neg h, if_neg h]
    exact ⟨rfl, rfl⟩
theorem sizeR (n : Int) (w : World) (hn : n < 9223372036854775808) : Calls Try.prog 26 #[.int .i64 n] w fun x w' => x = .returned (.tuple #[.int .i64 (szv n), .int .i64 (sze n)]) ∧ Kept (fun _ => False) w w' := by
  unfold szv sze
  by_cases h : n < 0
  · rw [if_pos h, if_pos h]
    go_enter Try.func26, Try.ntmps26
    go_wp2_with fail
    go_ret2
    exact ⟨rfl, Kept.refl _ _⟩
  · rw [if_neg h, if_neg h]
    obtain ⟨k, rfl⟩ : ∃ k : Nat, n = (k : Int) := ⟨n.toNat, by omega⟩
    rw [Int.toNat_natCast]
    go_enter Try.func26, Try.ntmps26
    go_wp2_with fail
    refine (refForm k w (by omega)).mono ?_
    rintro x w1 ⟨p, c, rfl, _, q⟩
    have Q : Hid (Kept (fun _ => False) w w1) := q
    clear q
    go_wp2_with fail
    go_ret2
    exact ⟨rfl, Q.out⟩
set_option maxRecDepth 100000 in
theorem lent_any (a : Option Addr) (len cap : Nat) (l : List Nat) (w : World) (r : Reads w a len cap l) (hs : len + 1 ≤ 140737488355328) :
    Calls Try.prog 27 #[.slice a len cap] w fun x w' => ∃ p c, x = .returned (.slice p (len + 1) c) ∧ w'.ownsRow w.heap.size 5 1 (.slice p (len + 1) c) (len + 1) (cellsOf (l ++ [77])) ∧ Kept (fun _ => False) w w' := by
  have K0 : Hid (Kept (fun _ => False) w (w.alloc (.cells #[] 5))) := (Kept.refl _ w).alloc _
  have R0 : Hid (Reads (w.alloc (.cells #[] 5)) a len cap l) := r.kept K0.out (fun _ _ f => f)
  clear r
  go_enter Try.func27, Try.ntmps27
  go_wp2_with (first
    | (at_builtin; refine wpList_append_bytes _ rfl (.tmp 3) (.tmp 4) 28 rfl w.heap.size (.slice (some ⟨w.heap.size, 0, none⟩) 0 0) 0 [] rfl (World.ownsRow_made w #[] 0 (Nat.le_refl _) (by unfold maxLen; omega) rfl) (.slice a len cap) len l rfl R0.out.src (by omega) (by simp) ?_; intro p2 k2 w2 ho hg _ nr; rw [Nat.zero_add, List.nil_append] at ho; rw [Nat.zero_add] at nr ⊢)
    | (at_builtin; refine wpList_append_bytes _ rfl (.tmp 5) (.tmp 6) 28 rfl w.heap.size (.slice p2 len k2) len l rfl (ho.out.alloc _) (.slice (some ⟨w2.heap.size, 0, none⟩) 1 1) 1 [77] rfl (Reads.lit w2 77 (by omega)).src (by omega) (by have := hg.out.size; simp at this ⊢; omega) ?_; intro p3 k3 w3 ho3 hg3 _ nr3)
    | fail)
  go_ret
  refine ⟨p3, k3, rfl, ho3.out, ?_⟩
  have k1 : Kept (fun _ => False) w w2 := K0.out.grown hg.out (fun k hk q => by simp [Value.ownBlock] at q; omega)
  refine (k1.alloc _).grown hg3.out (fun k hk q => ?_)
  have := (ho.out.lt k q).1
  omega
end Go.Proofs.Ytgfglbbfoadiaaa
