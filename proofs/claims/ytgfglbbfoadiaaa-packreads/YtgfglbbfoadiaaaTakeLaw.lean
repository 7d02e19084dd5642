import Derived.Test.YtgfglbbfoadiaaaPairs
import Derived.Test.YtgfglbbfoadiaaaBookKept
import Derived.Test.YtgfglbbfoadiaaaOps
namespace Go.Proofs.Ytgfglbbfoadiaaa
open Go.RowKit

/-- Both readers and the book. -/
structure RS (base : Nat) (w0 w : World) (R : Nat) (D : Option Nat) (Q : Nat) (E : Option Nat) (K : Nat) (hs : List Held) (e : Int) (k : Nat) (l L : List Nat) : Prop where
  isR : IsR w R D e k l
  isQ : IsQ w Q E e k L
  alike : Alike e k l L
  book : IsB base w K hs
  bD : ByteBlk w D
  bE : ByteBlk w E
  nD : ∀ j, D = some j → ¬ bfoot hs j
  nE : ∀ j, E = some j → ¬ bfoot hs j
  fR : base ≤ R
  fQ : base ≤ Q
  below : Below base w0 w
  size : base ≤ w.heap.size
section
variable {base : Nat} {w0 w w1 w2 : World} {R : Nat} {D : Option Nat} {Q : Nat} {E : Option Nat} {K : Nat} {hs : List Held} {e e2 : Int} {k k2 : Nat} {l l2 L : List Nat}
theorem RS.quiet (h : RS base w0 w R D Q E K hs e k l L) (q : Kept (fun _ => False) w w1) : RS base w0 w1 R D Q E K hs e k l L :=
  ⟨h.isR.kept q (fun f => f) (fun _ _ f => f), h.isQ.kept q (fun f => f) (fun _ _ f => f), h.alike, h.book.kept q (fun _ f => f.elim) (fun _ f => f.elim), h.bD.kept q (fun _ _ f => f), h.bE.kept q (fun _ _ f => f), h.nD, h.nE, h.fR, h.fQ, h.below.trans (q.below h.size (fun _ f => f.elim)), Nat.le_trans h.size q.size⟩
theorem IsR.blk71 (h : IsR w R D e k l) : ∃ cs, w.heap[R]? = some (.cells cs 71 (0, 0)) := by obtain ⟨_, _, b, _⟩ := h.ex; exact ⟨_, b⟩
theorem IsQ.blk83 (h : IsQ w Q E e k L) : ∃ cs, w.heap[Q]? = some (.cells cs 83 (0, 0)) := by obtain ⟨_, _, b, _⟩ := h.ex; exact ⟨_, b⟩
theorem blk_ne {i j : Nat} {cs ds : Array Value} {s t : TypeId} {f g : Nat × Nat} (h1 : w.heap[i]? = some (.cells cs s f)) (h2 : w.heap[j]? = some (.cells ds t g)) (h : s ≠ t) : i ≠ j := fun q => by
  subst q
  rw [h1] at h2
  simp at h2
  exact h h2.2.1
theorem IsB.keptOne {x : Nat} {cs : Array Value} {t : TypeId} {fr : Nat × Nat} (h : IsB base w K hs) (q : Kept (fun j => j = x) w w1) (hb : w.heap[x]? = some (.cells cs t fr)) (h1 : t ≠ 53) (h2 : t ≠ 28) (h3 : t ≠ 5) : IsB base w1 K hs :=
  h.kept q (fun j s => by subst s; exact not_bookish hb h1 h2) (fun j s f => by
    subst s
    obtain ⟨_, _, ds, hb2⟩ := h.foot f
    exact blk_ne hb hb2 h3 rfl)
theorem RS.isQ1 (h : RS base w0 w R D Q E K hs e k l L) (t : Took w R D w1 e2 k2 l2) : IsQ w1 Q E e k L := by
  obtain ⟨cs, hR⟩ := h.isR.blk71
  obtain ⟨ds, hQ⟩ := h.isQ.blk83
  exact h.isQ.kept t.kept (blk_ne hQ hR (by decide)) (fun j hj => by
    obtain ⟨fs, hE⟩ := h.bE j hj
    exact blk_ne hE hR (by decide))
theorem RS.both (h : RS base w0 w R D Q E K hs e k l L) (t : Took w R D w1 e2 k2 l2) (q : TookQ w1 Q E w2 e2 k2 L) (al : Alike e2 k2 l2 L) : RS base w0 w2 R D Q E K hs e2 k2 l2 L := by
  obtain ⟨cs, hR⟩ := h.isR.blk71
  have q1 := h.isQ1 t
  obtain ⟨ds, hQ⟩ := q1.blk83
  obtain ⟨cs1, hR1⟩ := t.isR.blk71
  have b1 := h.book.keptOne t.kept hR (by decide) (by decide) (by decide)
  have D1 : ByteBlk w1 D := h.bD.kept t.kept (fun j hj => by obtain ⟨fs, hE⟩ := h.bD j hj; exact blk_ne hE hR (by decide))
  have E1 : ByteBlk w1 E := h.bE.kept t.kept (fun j hj => by obtain ⟨fs, hE⟩ := h.bE j hj; exact blk_ne hE hR (by decide))
  have s1 := t.kept.size
  have s2 := q.kept.size
  have hsz := h.size
  refine ⟨t.isR.kept q.kept (blk_ne hR1 hQ (by decide)) (fun j hj => by obtain ⟨fs, hE⟩ := D1 j hj; exact blk_ne hE hQ (by decide)), q.isQ, al, b1.keptOne q.kept hQ (by decide) (by decide) (by decide),
    D1.kept q.kept (fun j hj => by obtain ⟨fs, hE⟩ := D1 j hj; exact blk_ne hE hQ (by decide)), E1.kept q.kept (fun j hj => by obtain ⟨fs, hE⟩ := E1 j hj; exact blk_ne hE hQ (by decide)), h.nD, h.nE, h.fR, h.fQ, (h.below.trans (t.kept.below hsz (fun j f => ?_))).trans (q.kept.below (by omega) (fun j f => ?_)), by omega⟩
  · have := h.fR; omega
  · have := h.fQ; omega
theorem RS.hold (h : RS base w0 w R D Q E K hs e k l L) {p q : Option Addr} {n c d : Nat} {xs : List Value} (ho : w.ownsRow base 5 1 (.slice p n c) n xs) (x1 : ∀ j, (Value.slice p n c).ownBlock = some j → D ≠ some j ∧ E ≠ some j)
    (b2 : IsB base w2 K (hs ++ [⟨p, n, c, q, d⟩])) (kk : Kept (fun j => bookish base w j ∨ (Value.slice p n c).ownBlock = some j) w w2) (nr : ∀ j, (Value.slice q (n + 70) d).ownBlock = some j → (Value.slice p n c).ownBlock = some j ∨ w.heap.size ≤ j) :
    RS base w0 w2 R D Q E K (hs ++ [⟨p, n, c, q, d⟩]) e k l L := by
  obtain ⟨cs, hR⟩ := h.isR.blk71
  obtain ⟨ds, hQ⟩ := h.isQ.blk83
  have far : ∀ {j : Nat} {cs : Array Value} {t : TypeId} {fr : Nat × Nat}, w.heap[j]? = some (.cells cs t fr) → t ≠ 53 → t ≠ 28 → (Value.slice p n c).ownBlock ≠ some j → ¬ (bookish base w j ∨ (Value.slice p n c).ownBlock = some j) := fun hb h1 h2 h3 s => by
    rcases s with s | s
    · exact not_bookish hb h1 h2 s
    · exact h3 s
  have sD : ∀ j, D = some j → ¬ (bookish base w j ∨ (Value.slice p n c).ownBlock = some j) := fun j hj => by
    obtain ⟨fs, hb⟩ := h.bD j hj
    exact far hb (by decide) (by decide) (fun q => (x1 j q).1 hj)
  have sE : ∀ j, E = some j → ¬ (bookish base w j ∨ (Value.slice p n c).ownBlock = some j) := fun j hj => by
    obtain ⟨fs, hb⟩ := h.bE j hj
    exact far hb (by decide) (by decide) (fun q => (x1 j q).2 hj)
  have nf : ∀ {j : Nat}, j < w.heap.size → ¬ bfoot hs j → (Value.slice p n c).ownBlock ≠ some j → ¬ bfoot (hs ++ [⟨p, n, c, q, d⟩]) j := fun {j} hj h1 h2 f => by
    obtain ⟨x, hx, f⟩ := f
    rcases List.mem_append.1 hx with hx | hx
    · exact h1 ⟨x, hx, f⟩
    · simp at hx
      subst hx
      rcases f with f | f
      · exact h2 f
      · rcases nr j f with r | r
        · exact h2 r
        · omega
  refine ⟨h.isR.kept kk (far hR (by decide) (by decide) (own_ne hR ho (by decide))) sD, h.isQ.kept kk (far hQ (by decide) (by decide) (own_ne hQ ho (by decide))) sE, h.alike, b2, h.bD.kept kk sD, h.bE.kept kk sE, fun j hj => ?_, fun j hj => ?_, h.fR, h.fQ, h.below.trans (kk.below h.size (fun j s => ?_)), Nat.le_trans h.size kk.size⟩
  · obtain ⟨fs, hb⟩ := h.bD j hj
    exact nf (block_lt hb) (h.nD j hj) (fun q => (x1 j q).1 hj)
  · obtain ⟨fs, hb⟩ := h.bE j hj
    exact nf (block_lt hb) (h.nE j hj) (fun q => (x1 j q).2 hj)
  · rcases s with s | s
    · exact s.1
    · exact (owns_block ho s).1
end
def TakeRes (base : Nat) (w0 w : World) (R : Nat) (D : Option Nat) (Q : Nat) (E : Option Nat) (K : Nat) (hs : List Held) (L : List Nat) : Prop :=
  ∃ hs2 e2 k2 l2, RS base w0 w R D Q E K hs2 e2 k2 l2 L ∧ hs2.length ≤ hs.length + 1

set_option maxRecDepth 100000 in
set_option maxHeartbeats 1000000 in
theorem take_2 (base : Nat) (w0 w : World) (R : Nat) (D : Option Nat) (Q : Nat) (E : Option Nat) (K : Nat) (hs : List Held) (e : Int) (k : Nat) (l L : List Nat) (n : Int) (b : Nat) (a : Option Addr) (len cap : Nat) (s : ByteArray) (S : RS base w0 w R D Q E K hs e k l L) :
    Calls Try.prog 30 #[.pointer (some ⟨R, 0, none⟩), .pointer (some ⟨Q, 0, none⟩), .agg #[.int .i64 2, .int .i64 n, .int .u8 (b : Int), .slice a len cap, .string s], .pointer (some ⟨K, 0, none⟩)] w fun x w' => x = .returned (.bool true) ∧ TakeRes base w0 w' R D Q E K hs L := by
  have k0 : Kept (fun _ => False) w (w.alloc (.cells #[.int .i64 2, .int .i64 n, .int .u8 (b : Int), .slice a len cap, .string s] 45)) := ((Kept.refl _ w).alloc _)
  have S0 : Hid (RS base w0 (w.alloc (.cells #[.int .i64 2, .int .i64 n, .int .u8 (b : Int), .slice a len cap, .string s] 45)) R D Q E K hs e k l L) := S.quiet k0
  have X0 : Hid ((w.alloc (.cells #[.int .i64 2, .int .i64 n, .int .u8 (b : Int), .slice a len cap, .string s] 45)).heap[w.heap.size]? = some (.cells #[.int .i64 2, .int .i64 n, .int .u8 (b : Int), .slice a len cap, .string s] 45 (0, 0))) := heap_alloc_new w _
  have NR : Hid (w.heap.size ≠ R ∧ w.heap.size ≠ Q) := by have h1 := S.isR.lt; have h2 := S.isQ.lt; exact ⟨by omega, by omega⟩
  obtain ⟨v, e2, k2, l2, pR, pQ, al⟩ := pairB R D Q E e k l L S.alike
  clear S k0
  go_enter Try.func30, Try.ntmps30
  go_wp2_with fail
  refine (pR _ S0.out.isR).mono ?_
  rintro x w1 ⟨rfl, T⟩
  have TH : Hid (Took (w.alloc (.cells #[.int .i64 2, .int .i64 n, .int .u8 (b : Int), .slice a len cap, .string s] 45)) R D w1 e2 k2 l2) := T
  clear T
  go_wp2_with fail
  refine (pQ w1 (S0.out.isQ1 TH.out)).mono ?_
  rintro x w2 ⟨rfl, T⟩
  have SZ : Hid (RS base w0 w2 R D Q E K hs e2 k2 l2 L) := S0.out.both TH.out T al
  clear T
  go_wp2_with fail
  refine (rErr R D e2 k2 l2 w2 SZ.out.isR).mono ?_
  rintro x wy ⟨rfl, rfl⟩
  go_wp2_with fail
  refine (qErr Q E e2 k2 L _ SZ.out.isQ).mono ?_
  rintro x wy ⟨rfl, rfl⟩
  go_wp2_with fail
  refine (rAt R D e2 k2 l2 _ SZ.out.isR).mono ?_
  rintro x wy ⟨rfl, rfl⟩
  go_wp2_with fail
  refine (qAt Q E e2 k2 L _ SZ.out.isQ).mono ?_
  rintro x wy ⟨rfl, rfl⟩
  go_wp2_with fail
  go_ret
  exact ⟨by simp, hs, e2, k2, l2, SZ.out, by omega⟩

set_option maxRecDepth 100000 in
set_option maxHeartbeats 1000000 in
theorem take_3 (base : Nat) (w0 w : World) (R : Nat) (D : Option Nat) (Q : Nat) (E : Option Nat) (K : Nat) (hs : List Held) (e : Int) (k : Nat) (l L : List Nat) (n : Int) (b : Nat) (a : Option Addr) (len cap : Nat) (s : ByteArray) (S : RS base w0 w R D Q E K hs e k l L) :
    Calls Try.prog 30 #[.pointer (some ⟨R, 0, none⟩), .pointer (some ⟨Q, 0, none⟩), .agg #[.int .i64 3, .int .i64 n, .int .u8 (b : Int), .slice a len cap, .string s], .pointer (some ⟨K, 0, none⟩)] w fun x w' => x = .returned (.bool true) ∧ TakeRes base w0 w' R D Q E K hs L := by
  have k0 : Kept (fun _ => False) w (w.alloc (.cells #[.int .i64 3, .int .i64 n, .int .u8 (b : Int), .slice a len cap, .string s] 45)) := ((Kept.refl _ w).alloc _)
  have S0 : Hid (RS base w0 (w.alloc (.cells #[.int .i64 3, .int .i64 n, .int .u8 (b : Int), .slice a len cap, .string s] 45)) R D Q E K hs e k l L) := S.quiet k0
  have X0 : Hid ((w.alloc (.cells #[.int .i64 3, .int .i64 n, .int .u8 (b : Int), .slice a len cap, .string s] 45)).heap[w.heap.size]? = some (.cells #[.int .i64 3, .int .i64 n, .int .u8 (b : Int), .slice a len cap, .string s] 45 (0, 0))) := heap_alloc_new w _
  have NR : Hid (w.heap.size ≠ R ∧ w.heap.size ≠ Q) := by have h1 := S.isR.lt; have h2 := S.isQ.lt; exact ⟨by omega, by omega⟩
  obtain ⟨v, e2, k2, l2, pR, pQ, al⟩ := pairO R D Q E e k l L S.alike
  clear S k0
  go_enter Try.func30, Try.ntmps30
  go_wp2_with fail
  refine (pR _ S0.out.isR).mono ?_
  rintro x w1 ⟨rfl, T⟩
  have TH : Hid (Took (w.alloc (.cells #[.int .i64 3, .int .i64 n, .int .u8 (b : Int), .slice a len cap, .string s] 45)) R D w1 e2 k2 l2) := T
  clear T
  go_wp2_with fail
  refine (pQ w1 (S0.out.isQ1 TH.out)).mono ?_
  rintro x w2 ⟨rfl, T⟩
  have SZ : Hid (RS base w0 w2 R D Q E K hs e2 k2 l2 L) := S0.out.both TH.out T al
  clear T
  go_wp2_with fail
  refine (rErr R D e2 k2 l2 w2 SZ.out.isR).mono ?_
  rintro x wy ⟨rfl, rfl⟩
  go_wp2_with fail
  refine (qErr Q E e2 k2 L _ SZ.out.isQ).mono ?_
  rintro x wy ⟨rfl, rfl⟩
  go_wp2_with fail
  refine (rAt R D e2 k2 l2 _ SZ.out.isR).mono ?_
  rintro x wy ⟨rfl, rfl⟩
  go_wp2_with fail
  refine (qAt Q E e2 k2 L _ SZ.out.isQ).mono ?_
  rintro x wy ⟨rfl, rfl⟩
  go_wp2_with fail
  go_ret
  exact ⟨by simp, hs, e2, k2, l2, SZ.out, by omega⟩

set_option maxRecDepth 100000 in
set_option maxHeartbeats 1000000 in
theorem take_6 (base : Nat) (w0 w : World) (R : Nat) (D : Option Nat) (Q : Nat) (E : Option Nat) (K : Nat) (hs : List Held) (e : Int) (k : Nat) (l L : List Nat) (n : Int) (b : Nat) (a : Option Addr) (len cap : Nat) (s : ByteArray) (S : RS base w0 w R D Q E K hs e k l L) :
    Calls Try.prog 30 #[.pointer (some ⟨R, 0, none⟩), .pointer (some ⟨Q, 0, none⟩), .agg #[.int .i64 6, .int .i64 n, .int .u8 (b : Int), .slice a len cap, .string s], .pointer (some ⟨K, 0, none⟩)] w fun x w' => x = .returned (.bool true) ∧ TakeRes base w0 w' R D Q E K hs L := by
  have k0 : Kept (fun _ => False) w (w.alloc (.cells #[.int .i64 6, .int .i64 n, .int .u8 (b : Int), .slice a len cap, .string s] 45)) := ((Kept.refl _ w).alloc _)
  have S0 : Hid (RS base w0 (w.alloc (.cells #[.int .i64 6, .int .i64 n, .int .u8 (b : Int), .slice a len cap, .string s] 45)) R D Q E K hs e k l L) := S.quiet k0
  have X0 : Hid ((w.alloc (.cells #[.int .i64 6, .int .i64 n, .int .u8 (b : Int), .slice a len cap, .string s] 45)).heap[w.heap.size]? = some (.cells #[.int .i64 6, .int .i64 n, .int .u8 (b : Int), .slice a len cap, .string s] 45 (0, 0))) := heap_alloc_new w _
  have NR : Hid (w.heap.size ≠ R ∧ w.heap.size ≠ Q) := by have h1 := S.isR.lt; have h2 := S.isQ.lt; exact ⟨by omega, by omega⟩
  obtain ⟨e2, k2, l2, pR, pQ, al⟩ := pairE R D Q E e k l L S.alike
  clear S k0
  go_enter Try.func30, Try.ntmps30
  go_wp2_with fail
  refine (pR _ S0.out.isR).mono ?_
  rintro x w1 ⟨rfl, T⟩
  have TH : Hid (Took (w.alloc (.cells #[.int .i64 6, .int .i64 n, .int .u8 (b : Int), .slice a len cap, .string s] 45)) R D w1 e2 k2 l2) := T
  clear T
  go_wp2_with fail
  refine (pQ w1 (S0.out.isQ1 TH.out)).mono ?_
  rintro x w2 ⟨rfl, T⟩
  have SZ : Hid (RS base w0 w2 R D Q E K hs e2 k2 l2 L) := S0.out.both TH.out T al
  clear T
  go_wp2_with fail
  refine (rErr R D e2 k2 l2 w2 SZ.out.isR).mono ?_
  rintro x wy ⟨rfl, rfl⟩
  go_wp2_with fail
  refine (qErr Q E e2 k2 L _ SZ.out.isQ).mono ?_
  rintro x wy ⟨rfl, rfl⟩
  go_wp2_with fail
  refine (rAt R D e2 k2 l2 _ SZ.out.isR).mono ?_
  rintro x wy ⟨rfl, rfl⟩
  go_wp2_with fail
  refine (qAt Q E e2 k2 L _ SZ.out.isQ).mono ?_
  rintro x wy ⟨rfl, rfl⟩
  go_wp2_with fail
  go_ret
  exact ⟨by simp, hs, e2, k2, l2, SZ.out, by omega⟩

set_option maxRecDepth 100000 in
set_option maxHeartbeats 1000000 in
theorem take_1 (base : Nat) (w0 w : World) (R : Nat) (D : Option Nat) (Q : Nat) (E : Option Nat) (K : Nat) (hs : List Held) (e : Int) (k : Nat) (l L : List Nat) (n : Int) (b : Nat) (a : Option Addr) (len cap : Nat) (s : ByteArray) (S : RS base w0 w R D Q E K hs e k l L) :
    Calls Try.prog 30 #[.pointer (some ⟨R, 0, none⟩), .pointer (some ⟨Q, 0, none⟩), .agg #[.int .i64 1, .int .i64 n, .int .u8 (b : Int), .slice a len cap, .string s], .pointer (some ⟨K, 0, none⟩)] w fun x w' => x = .returned (.bool true) ∧ TakeRes base w0 w' R D Q E K hs L := by
  have k0 : Kept (fun _ => False) w (w.alloc (.cells #[.int .i64 1, .int .i64 n, .int .u8 (b : Int), .slice a len cap, .string s] 45)).drew := ((Kept.refl _ w).alloc _).drew
  have S0 : Hid (RS base w0 (w.alloc (.cells #[.int .i64 1, .int .i64 n, .int .u8 (b : Int), .slice a len cap, .string s] 45)).drew R D Q E K hs e k l L) := S.quiet k0
  have X0 : Hid ((w.alloc (.cells #[.int .i64 1, .int .i64 n, .int .u8 (b : Int), .slice a len cap, .string s] 45)).drew.heap[w.heap.size]? = some (.cells #[.int .i64 1, .int .i64 n, .int .u8 (b : Int), .slice a len cap, .string s] 45 (0, 0))) := heap_alloc_new w _
  have NR : Hid (w.heap.size ≠ R ∧ w.heap.size ≠ Q) := by have h1 := S.isR.lt; have h2 := S.isQ.lt; exact ⟨by omega, by omega⟩
  obtain ⟨v, e2, k2, l2, pR, pQ, al⟩ := pairU R D Q E e n k l L S.alike
  have PR : Hid (∀ w, IsR w R D e k l → Calls Try.prog 19 #[.pointer (some ⟨R, 0, none⟩), .int .i64 n] w fun x w' => x = .returned (.int .i64 v) ∧ Took w R D w' e2 k2 l2) := pR
  have PQ : Hid (∀ w, IsQ w Q E e k L → Calls Try.prog 55 #[.pointer (some ⟨Q, 0, none⟩), .int .i64 n] w fun x w' => x = .returned (.int .i64 v) ∧ TookQ w Q E w' e2 k2 L) := pQ
  have AL : Hid (Alike e2 k2 l2 L) := al
  clear S k0 pR pQ al
  go_enter Try.func30, Try.ntmps30
  go_wp2_with fail
  go_region_held3 (fun w' => w'.cell? ⟨w.heap.size, 1, none⟩ = some (.int .i64 n))
    (first | go_keep | exact TH.out.kept.cell (by assumption) NR.out.1 | exact TQ.out.kept.cell (by assumption) NR.out.2)
    (first
      | (go_at_call 19; refine (PR.out _ S0.out.isR).mono ?_; rintro x w1 ⟨rfl, T⟩; have TH : Hid (Took _ R D w1 e2 k2 l2) := T; have Q1 : Hid (IsQ w1 Q E e k L) := S0.out.isQ1 T; clear T)
      | (go_at_call 55; refine (PQ.out w1 Q1.out).mono ?_; rintro x w2 ⟨rfl, T⟩; have TQ : Hid (TookQ w1 Q E w2 e2 k2 L) := T; have SZ : Hid (RS base w0 w2 R D Q E K hs e2 k2 l2 L) := S0.out.both TH.out T AL.out; clear T)
      | fail)
  go_wp2_with fail
  refine (rErr R D e2 k2 l2 w2 SZ.out.isR).mono ?_
  rintro x wy ⟨rfl, rfl⟩
  go_wp2_with fail
  refine (qErr Q E e2 k2 L _ SZ.out.isQ).mono ?_
  rintro x wy ⟨rfl, rfl⟩
  go_wp2_with fail
  refine (rAt R D e2 k2 l2 _ SZ.out.isR).mono ?_
  rintro x wy ⟨rfl, rfl⟩
  go_wp2_with fail
  refine (qAt Q E e2 k2 L _ SZ.out.isQ).mono ?_
  rintro x wy ⟨rfl, rfl⟩
  go_wp2_with fail
  go_ret
  exact ⟨by simp, hs, e2, k2, l2, SZ.out, by omega⟩

set_option maxRecDepth 100000 in
set_option maxHeartbeats 1000000 in
theorem take_5 (base : Nat) (w0 w : World) (R : Nat) (D : Option Nat) (Q : Nat) (E : Option Nat) (K : Nat) (hs : List Held) (e : Int) (k : Nat) (l L : List Nat) (n : Int) (b : Nat) (a : Option Addr) (len cap : Nat) (s : ByteArray) (S : RS base w0 w R D Q E K hs e k l L) :
    Calls Try.prog 30 #[.pointer (some ⟨R, 0, none⟩), .pointer (some ⟨Q, 0, none⟩), .agg #[.int .i64 5, .int .i64 n, .int .u8 (b : Int), .slice a len cap, .string s], .pointer (some ⟨K, 0, none⟩)] w fun x w' => x = .returned (.bool true) ∧ TakeRes base w0 w' R D Q E K hs L := by
  have k0 : Kept (fun _ => False) w (w.alloc (.cells #[.int .i64 5, .int .i64 n, .int .u8 (b : Int), .slice a len cap, .string s] 45)).drew := ((Kept.refl _ w).alloc _).drew
  have S0 : Hid (RS base w0 (w.alloc (.cells #[.int .i64 5, .int .i64 n, .int .u8 (b : Int), .slice a len cap, .string s] 45)).drew R D Q E K hs e k l L) := S.quiet k0
  have X0 : Hid ((w.alloc (.cells #[.int .i64 5, .int .i64 n, .int .u8 (b : Int), .slice a len cap, .string s] 45)).drew.heap[w.heap.size]? = some (.cells #[.int .i64 5, .int .i64 n, .int .u8 (b : Int), .slice a len cap, .string s] 45 (0, 0))) := heap_alloc_new w _
  have NR : Hid (w.heap.size ≠ R ∧ w.heap.size ≠ Q) := by have h1 := S.isR.lt; have h2 := S.isQ.lt; exact ⟨by omega, by omega⟩
  obtain ⟨m, e2, k2, l2, _, _, pR, pQ, al, _, _⟩ := pairY R D Q E e n k l L S.alike
  have PR : Hid (∀ w, IsR w R D e k l → Calls Try.prog 41 #[.pointer (some ⟨R, 0, none⟩), .int .i64 n] w fun x w' => x = .returned (.string (str m)) ∧ Took w R D w' e2 k2 l2) := pR
  have PQ : Hid (∀ w, IsQ w Q E e k L → Calls Try.prog 59 #[.pointer (some ⟨Q, 0, none⟩), .int .i64 n] w fun x w' => x = .returned (.string (str m)) ∧ TookQ w Q E w' e2 k2 L) := pQ
  have AL : Hid (Alike e2 k2 l2 L) := al
  clear S k0 pR pQ al
  go_enter Try.func30, Try.ntmps30
  go_wp2_with fail
  go_region_held3 (fun w' => w'.cell? ⟨w.heap.size, 1, none⟩ = some (.int .i64 n))
    (first | go_keep | exact TH.out.kept.cell (by assumption) NR.out.1 | exact TQ.out.kept.cell (by assumption) NR.out.2)
    (first
      | (go_at_call 41; refine (PR.out _ S0.out.isR).mono ?_; rintro x w1 ⟨rfl, T⟩; have TH : Hid (Took _ R D w1 e2 k2 l2) := T; have Q1 : Hid (IsQ w1 Q E e k L) := S0.out.isQ1 T; clear T)
      | (go_at_call 59; refine (PQ.out w1 Q1.out).mono ?_; rintro x w2 ⟨rfl, T⟩; have TQ : Hid (TookQ w1 Q E w2 e2 k2 L) := T; have SZ : Hid (RS base w0 w2 R D Q E K hs e2 k2 l2 L) := S0.out.both TH.out T AL.out; clear T)
      | fail)
  go_wp2_with fail
  refine (rErr R D e2 k2 l2 w2 SZ.out.isR).mono ?_
  rintro x wy ⟨rfl, rfl⟩
  go_wp2_with fail
  refine (qErr Q E e2 k2 L _ SZ.out.isQ).mono ?_
  rintro x wy ⟨rfl, rfl⟩
  go_wp2_with fail
  refine (rAt R D e2 k2 l2 _ SZ.out.isR).mono ?_
  rintro x wy ⟨rfl, rfl⟩
  go_wp2_with fail
  refine (qAt Q E e2 k2 L _ SZ.out.isQ).mono ?_
  rintro x wy ⟨rfl, rfl⟩
  go_wp2_with fail
  go_ret
  exact ⟨by simp, hs, e2, k2, l2, SZ.out, by omega⟩

set_option maxRecDepth 100000 in
set_option maxHeartbeats 1000000 in
theorem take_4 (base : Nat) (w0 w : World) (R : Nat) (D : Option Nat) (Q : Nat) (E : Option Nat) (K : Nat) (hs : List Held) (e : Int) (k : Nat) (l L : List Nat) (n : Int) (b : Nat) (a : Option Addr) (len cap : Nat) (s : ByteArray) (S : RS base w0 w R D Q E K hs e k l L) (hb : hs.length ≤ 4194304000000) :
    Calls Try.prog 30 #[.pointer (some ⟨R, 0, none⟩), .pointer (some ⟨Q, 0, none⟩), .agg #[.int .i64 4, .int .i64 n, .int .u8 (b : Int), .slice a len cap, .string s], .pointer (some ⟨K, 0, none⟩)] w fun x w' => x = .returned (.bool true) ∧ TakeRes base w0 w' R D Q E K hs L := by
  have k0 : Kept (fun _ => False) w (w.alloc (.cells #[.int .i64 4, .int .i64 n, .int .u8 (b : Int), .slice a len cap, .string s] 45)) := ((Kept.refl _ w).alloc _)
  have S0 : Hid (RS base w0 (w.alloc (.cells #[.int .i64 4, .int .i64 n, .int .u8 (b : Int), .slice a len cap, .string s] 45)) R D Q E K hs e k l L) := S.quiet k0
  have X0 : Hid ((w.alloc (.cells #[.int .i64 4, .int .i64 n, .int .u8 (b : Int), .slice a len cap, .string s] 45)).heap[w.heap.size]? = some (.cells #[.int .i64 4, .int .i64 n, .int .u8 (b : Int), .slice a len cap, .string s] 45 (0, 0))) := heap_alloc_new w _
  have NR : Hid (w.heap.size ≠ R ∧ w.heap.size ≠ Q) := by have h1 := S.isR.lt; have h2 := S.isQ.lt; exact ⟨by omega, by omega⟩
  obtain ⟨m, e2, k2, l2, pR, pQ, _, _, al, mb, ml⟩ := pairY R D Q E e n k l L S.alike
  have sm := S.alike.small
  have BS : Hid (base ≤ w.heap.size) := S.size
  clear S k0
  obtain ⟨mn, hmn⟩ : ∃ t, m.length = t := ⟨_, rfl⟩
  have MN : Hid (m.length = mn) := hmn
  rw [hmn] at pR pQ ml
  clear hmn
  go_enter Try.func30, Try.ntmps30
  go_wp2_with fail
  refine (pR _ S0.out.isR).mono ?_
  rintro x w1 ⟨p, c, rfl, ho, T⟩
  have TH : Hid (Took (w.alloc (.cells #[.int .i64 4, .int .i64 n, .int .u8 (b : Int), .slice a len cap, .string s] 45)) R D w1 e2 k2 l2) := T
  have bx := T.kept.get X0.out NR.out.1
  have X1 : Hid (w1.heap[w.heap.size]? = some (.cells #[.int .i64 4, .int .i64 n, .int .u8 (b : Int), .slice a len cap, .string s] 45 (0, 0))) := bx
  have d1 := cell_blk bx 1 (v := .int .i64 n) rfl
  have ge : Hid (∀ j, (Value.slice p mn c).ownBlock = some j → w.heap.size < j) := fun j hj => by have := (owns_block ho hj).1; simp at this; omega
  have O1 : Hid (w1.ownsRow base 5 1 (.slice p mn c) mn (cellsOf m)) := ownsRow_base ho (by have := BS.out; simp; omega)
  clear T bx ho
  go_wp2_with fail
  refine (pQ w1 (S0.out.isQ1 TH.out)).mono ?_
  rintro x w2 ⟨p2, c2, rfl, r2, T⟩
  have S2 : Hid (RS base w0 w2 R D Q E K hs e2 k2 l2 L) := S0.out.both TH.out T al
  have O2 : Hid (w2.ownsRow base 5 1 (.slice p mn c) mn (cellsOf m)) := T.kept.owns O1.out (fun j hj q => by
    obtain ⟨_, cs, hb⟩ := owns_block O1.out hj
    obtain ⟨ds, hQ⟩ := (S0.out.isQ1 TH.out).blk83
    exact blk_ne hb hQ (by decide) q)
  have R2 : Hid (Reads w2 p2 mn c2 m) := r2
  have FD : Hid (∀ j, (Value.slice p mn c).ownBlock = some j → D ≠ some j ∧ E ≠ some j) := fun j hj => ⟨fun q => by
      obtain ⟨cs, hb⟩ := S0.out.bD j q
      have h1 := block_lt hb
      have h2 := ge.out j hj
      simp at h1
      omega, fun q => by
      obtain ⟨cs, hb⟩ := S0.out.bE j q
      have h1 := block_lt hb
      have h2 := ge.out j hj
      simp at h1
      omega⟩
  have FB : Hid (∀ j, (Value.slice p mn c).ownBlock = some j → ¬ bfoot hs j) := fun j hj f => by
    have h1 := (S0.out.book.foot f).2.1
    have h2 := ge.out j hj
    simp at h1
    omega
  have MB : Hid (∀ d ∈ m, d < 256) := mb
  clear T r2
  go_wp2_with fail
  refine (same_any p p2 mn c mn c2 m m w2 (reads_of_own O2.out MB.out) R2.out true (by simp)).mono ?_
  rintro x w3 ⟨rfl, rfl⟩
  go_wp2_with fail
  refine (hold_any base K hs p mn c m w3 S2.out.book O2.out FB.out (by omega) (by omega) S2.out.size).mono ?_
  rintro x w6 ⟨rfl, hq, hd, b6, k6, n6⟩
  have SZ : Hid (RS base w0 w6 R D Q E K (hs ++ [⟨p, mn, c, hq, hd⟩]) e2 k2 l2 L) := S2.out.hold O2.out FD.out b6 k6 n6
  clear b6 k6 n6
  go_wp2_with fail
  refine (rErr R D e2 k2 l2 w6 SZ.out.isR).mono ?_
  rintro x wy ⟨rfl, rfl⟩
  go_wp2_with fail
  refine (qErr Q E e2 k2 L _ SZ.out.isQ).mono ?_
  rintro x wy ⟨rfl, rfl⟩
  go_wp2_with fail
  refine (rAt R D e2 k2 l2 _ SZ.out.isR).mono ?_
  rintro x wy ⟨rfl, rfl⟩
  go_wp2_with fail
  refine (qAt Q E e2 k2 L _ SZ.out.isQ).mono ?_
  rintro x wy ⟨rfl, rfl⟩
  go_wp2_with fail
  go_ret
  exact ⟨by simp, _, e2, k2, l2, SZ.out, by simp⟩

set_option maxRecDepth 100000 in
set_option maxHeartbeats 1000000 in
theorem take_0 (base : Nat) (w0 w : World) (R : Nat) (D : Option Nat) (Q : Nat) (E : Option Nat) (K : Nat) (hs : List Held) (e : Int) (k : Nat) (l L : List Nat) (kind : Int) (n : Int) (b : Nat) (a : Option Addr) (len cap : Nat) (s : ByteArray) (S : RS base w0 w R D Q E K hs e k l L) (h1 : kind ≠ 1) (h2 : kind ≠ 2) (h3 : kind ≠ 3) (h4 : kind ≠ 4) (h5 : kind ≠ 5) (h6 : kind ≠ 6) :
    Calls Try.prog 30 #[.pointer (some ⟨R, 0, none⟩), .pointer (some ⟨Q, 0, none⟩), .agg #[.int .i64 kind, .int .i64 n, .int .u8 (b : Int), .slice a len cap, .string s], .pointer (some ⟨K, 0, none⟩)] w fun x w' => x = .returned (.bool true) ∧ TakeRes base w0 w' R D Q E K hs L := by
  have SZ : Hid (RS base w0 (w.alloc (.cells #[.int .i64 kind, .int .i64 n, .int .u8 (b : Int), .slice a len cap, .string s] 45)) R D Q E K hs e k l L) := S.quiet ((Kept.refl _ w).alloc _)
  clear S
  have g1 : (kind == 1) = false := by simpa using h1
  have g2 : (kind == 2) = false := by simpa using h2
  have g3 : (kind == 3) = false := by simpa using h3
  have g4 : (kind == 4) = false := by simpa using h4
  have g5 : (kind == 5) = false := by simpa using h5
  have g6 : (kind == 6) = false := by simpa using h6
  go_enter Try.func30, Try.ntmps30
  go_wp2_with fail
  refine (rErr R D e k l _ SZ.out.isR).mono ?_
  rintro x wy ⟨rfl, rfl⟩
  go_wp2_with fail
  refine (qErr Q E e k L _ SZ.out.isQ).mono ?_
  rintro x wy ⟨rfl, rfl⟩
  go_wp2_with fail
  refine (rAt R D e k l _ SZ.out.isR).mono ?_
  rintro x wy ⟨rfl, rfl⟩
  go_wp2_with fail
  refine (qAt Q E e k L _ SZ.out.isQ).mono ?_
  rintro x wy ⟨rfl, rfl⟩
  go_wp2_with fail
  go_ret
  exact ⟨by simp, hs, e, k, l, SZ.out, by omega⟩

theorem take_law (base : Nat) (w0 w : World) (R : Nat) (D : Option Nat) (Q : Nat) (E : Option Nat) (K : Nat) (hs : List Held) (e : Int) (k : Nat) (l L : List Nat) (o : Opv) (S : RS base w0 w R D Q E K hs e k l L) (hb : hs.length ≤ 4194304000000) :
    Calls Try.prog 30 #[.pointer (some ⟨R, 0, none⟩), .pointer (some ⟨Q, 0, none⟩), o.val, .pointer (some ⟨K, 0, none⟩)] w fun x w' => x = .returned (.bool true) ∧ TakeRes base w0 w' R D Q E K hs L := by
  obtain ⟨kind, n, b, a, len, cap, l1, s⟩ := o
  by_cases h1 : kind = 1
  · subst h1; exact take_1 base w0 w R D Q E K hs e k l L n b a len cap s S
  by_cases h2 : kind = 2
  · subst h2; exact take_2 base w0 w R D Q E K hs e k l L n b a len cap s S
  by_cases h3 : kind = 3
  · subst h3; exact take_3 base w0 w R D Q E K hs e k l L n b a len cap s S
  by_cases h4 : kind = 4
  · subst h4; exact take_4 base w0 w R D Q E K hs e k l L n b a len cap s S hb
  by_cases h5 : kind = 5
  · subst h5; exact take_5 base w0 w R D Q E K hs e k l L n b a len cap s S
  by_cases h6 : kind = 6
  · subst h6; exact take_6 base w0 w R D Q E K hs e k l L n b a len cap s S
  exact take_0 base w0 w R D Q E K hs e k l L kind n b a len cap s S h1 h2 h3 h4 h5 h6
end Go.Proofs.Ytgfglbbfoadiaaa
