import Derived.Test.YtgfglbbfoadiaaaPutLaw
namespace Go.Proofs.Ytgfglbbfoadiaaa
open Go.RowKit

theorem own_len (p : Option Addr) (a b c : Nat) : (Value.slice p a c).ownBlock = (Value.slice p b c).ownBlock := by cases p <;> rfl
/-- A shorter slice of an owned row. -/
theorem owns_cut {w : World} {base : Nat} {p : Option Addr} {n c : Nat} {l : List Nat} {x : Nat} (h : w.ownsRow base 5 1 (.slice p (n + 1) c) (n + 1) (cellsOf (l ++ [x]))) (hl : l.length = n) : w.ownsRow base 5 1 (.slice p n c) n (cellsOf l) := by
  refine ⟨by rw [cellsOf_length, hl]; omega, ?_⟩
  rcases h.2 with ⟨q, _⟩ | ⟨g, cap, cur, q, hb, hg, hk, hm, hs, ht⟩
  · simp at q
  · simp at q
    obtain ⟨rfl, rfl⟩ := q
    refine .inr ⟨g, c, cur, rfl, hb, hg, by omega, hm, hs, ?_⟩
    rw [Nat.mul_one] at ht ⊢
    have : (cur.toList.take (n + 1)).take n = (cellsOf (l ++ [x])).take n := by rw [ht]
    rw [List.take_take, Nat.min_eq_left (by omega)] at this
    rw [this, cellsOf_append, List.take_append_of_le_length (by rw [cellsOf_length]; omega), ← hl, ← cellsOf_length l, List.take_length]
/-- What is new lies apart from the writers and the book. -/
structure New (base : Nat) (w : World) (B : Nat) (v : Value) (V : Nat) (u : Value) (hs : List Held) (x : Value) : Prop where
  w1 : ∀ j, x.ownBlock = some j → ¬ wfoot B v j
  v1 : ∀ j, x.ownBlock = some j → ¬ wfoot V u j
  b1 : ∀ j, x.ownBlock = some j → ¬ bfoot hs j
theorem WS.new {base : Nat} {w0 w w1 : World} {B : Nat} {v : Value} {V : Nat} {u : Value} {K : Nat} {hs : List Held} {e : Int} {l : List Nat} (h : WS base w0 w B v V u K hs e l) {x : Value} {n : Nat} {xs : List Value} (ho : w1.ownsRow w.heap.size 5 1 x n xs) : New base w B v V u hs x := by
  have ge : ∀ j, x.ownBlock = some j → w.heap.size ≤ j := fun j hj => (owns_block ho hj).1
  refine ⟨fun j hj q => ?_, fun j hj q => ?_, fun j hj q => ?_⟩
  · have := ge j hj
    rcases q with q | q
    · have := block_lt h.isW.blk; omega
    · have := (h.isW.own.lt _ q).2; omega
  · have := ge j hj
    rcases q with q | q
    · have := block_lt h.isV.blk; omega
    · have := (h.isV.own.lt _ q).2; omega
  · have := ge j hj
    have := (h.book.foot q).2.1
    omega
theorem own_slice2 {w : World} {base k c : Nat} {p : Option Addr} {l : List Nat} (h : w.ownsRow base 5 1 (.slice p k c) k (cellsOf l)) (hb : ∀ d ∈ l, d < 256) : Reads w p k c l ∧ ∀ a, p = some a → (Value.slice p k c).ownBlock = some a.block := by
  obtain ⟨a2, c2, e2, r2, o2⟩ := owns_reads h hb
  simp at e2
  obtain ⟨rfl, rfl⟩ := e2
  exact ⟨r2, o2⟩

set_option maxRecDepth 100000 in
set_option maxHeartbeats 1000000 in
theorem lput_4 (base : Nat) (w0 w : World) (B : Nat) (v : Value) (V : Nat) (u : Value) (K : Nat) (hs : List Held) (l : List Nat) (n : Int) (b : Nat) (a : Option Addr) (len cap : Nat) (l1 : List Nat) (s : ByteArray) (S : WS base w0 w B v V u K hs 0 l) (rd : Reads w a len cap l1) (old : 0 < len → ∀ p, a = some p → p.block < base) (lb : l.length ≤ 8388608) (hb : hs.length ≤ 8388608) (lenb : len ≤ 1048576) :
    Calls Try.prog 24 #[.pointer (some ⟨B, 0, none⟩), .pointer (some ⟨V, 0, none⟩), .agg #[.int .i64 4, .int .i64 n, .int .u8 (b : Int), .slice a len cap, .string s], .pointer (some ⟨K, 0, none⟩)] w fun x w' => x = .returned (.bool true) ∧ PutRes base w0 w' B V K hs l (6 + len + s.size) := by
  have bnd : l.length ≤ 8388608 ∧ hs.length ≤ 8388608 := ⟨lb, hb⟩
  clear lb hb
  have k0 : Kept (fun _ => False) w (w.alloc (.cells #[.int .i64 4, .int .i64 n, .int .u8 (b : Int), .slice a len cap, .string s] 45)) := (Kept.refl _ w).alloc _
  have S0 : Hid (WS base w0 (w.alloc (.cells #[.int .i64 4, .int .i64 n, .int .u8 (b : Int), .slice a len cap, .string s] 45)) B v V u K hs 0 l) := S.quiet k0
  have X0 : Hid ((w.alloc (.cells #[.int .i64 4, .int .i64 n, .int .u8 (b : Int), .slice a len cap, .string s] 45)).heap[w.heap.size]? = some (.cells #[.int .i64 4, .int .i64 n, .int .u8 (b : Int), .slice a len cap, .string s] 45 (0, 0))) := heap_alloc_new w _
  have OB : Hid (base ≤ w.heap.size) := S.size
  have R0 : Hid (Reads (w.alloc (.cells #[.int .i64 4, .int .i64 n, .int .u8 (b : Int), .slice a len cap, .string s] 45)) a len cap l1) := rd.kept k0 (fun _ _ f => f)
  have RL : Hid (l1.length = len) := rd.length
  have RBY : Hid (∀ d ∈ l1, d < 256) := rd.bytes
  have OLD : Hid (0 < len → ∀ p, a = some p → p.block < base) := old
  have NB : Hid (¬ wfoot B v w.heap.size) := fun q => by
    rcases q with q | q
    · have := block_lt S.isW.blk; omega
    · have := (S.isW.own.lt _ q).2; omega
  have NV : Hid (¬ wfoot V u w.heap.size) := fun q => by
    rcases q with q | q
    · have := block_lt S.isV.blk; omega
    · have := (S.isV.own.lt _ q).2; omega
  have f9 : Hid ((Pk.form len).length ≤ 9) := Pk.form_le9 len (by omega)
  clear S rd old k0
  go_enter Try.func24, Try.ntmps24
  go_wp2_with fail
  refine (lent_any a len cap l1 _ R0.out (by omega)).mono ?_
  rintro x w1 ⟨p, c, rfl, ho, k1⟩
  have S1 : Hid (WS base w0 w1 B v V u K hs 0 l) := S0.out.quiet k1
  have bx := k1.get X0.out (fun f => f)
  have X1 : Hid (w1.heap[w.heap.size]? = some (.cells #[.int .i64 4, .int .i64 n, .int .u8 (b : Int), .slice a len cap, .string s] 45 (0, 0))) := bx
  have oc := owns_cut ho RL.out
  have NW : Hid (New base (w.alloc (.cells #[.int .i64 4, .int .i64 n, .int .u8 (b : Int), .slice a len cap, .string s] 45)) B v V u hs (.slice p len c)) := S0.out.new oc
  have O1 : Hid (w1.ownsRow base 5 1 (.slice p len c) len (cellsOf l1)) := ownsRow_base oc (by have := OB.out; simp; omega)
  have O2 : Hid (w1.ownsRow base 5 1 (.slice p (len + 1) c) (len + 1) (cellsOf (l1 ++ [77]))) := ownsRow_base ho (by have := OB.out; simp; omega)
  have RA : Hid (Reads w1 p len c l1) := (own_slice2 oc RBY.out).1
  have FA : Hid (∀ a, p = some a → ¬ wfoot B v a.block) := fun a ha => NW.out.w1 _ ((own_slice2 oc RBY.out).2 a ha)
  have R1 : Hid (Reads w1 a len cap l1) := R0.out.kept k1 (fun _ _ f => f)
  have d3 := cell_blk bx 3 (v := .slice a len cap) rfl
  have hcr := RA.out.room
  have hcs := RA.out.small
  have lc1 : len + 1 ≤ c := (own_slice2 ho (fun d hd => by rcases List.mem_append.1 hd with q | q; exact RBY.out d q; simp at q; omega)).1.room
  unfold maxLen at hcs
  clear bx ho oc k1
  go_wp2_with fail
  refine (wBytes B v l p len c l1 w1 S1.out.W0 RA.out (fun _ a ha => FA.out a ha) (by have := f9.out; omega)).mono ?_
  rintro x w2 ⟨rfl, v2, P⟩
  have PH : Hid (Put w1 B v w2 0 v2 (l ++ Pk.form len ++ l1)) := P
  have bx := PH.out.kept.get X1.out NB.out
  have X2 : Hid (w2.heap[w.heap.size]? = some (.cells #[.int .i64 4, .int .i64 n, .int .u8 (b : Int), .slice a len cap, .string s] 45 (0, 0))) := bx
  have RB : Hid (Reads w2 a len cap l1) := R1.out.kept0 PH.out.kept (fun h0 p hp q => by
    have := OLD.out h0 p hp
    rcases q with q | q
    · have := S1.out.fB; omega
    · have := S1.out.fv _ q; omega)
  have FB : Hid (0 < len → ∀ p, a = some p → ¬ wfoot V u p.block) := fun h0 p hp q => by
    have := OLD.out h0 p hp
    rcases q with q | q
    · have := S1.out.fV; omega
    · have := S1.out.fu _ q; omega
  have O3 : Hid (w2.ownsRow base 5 1 (.slice p len c) len (cellsOf l1)) := PH.out.kept.owns O1.out NW.out.w1
  have O4 : Hid (w2.ownsRow base 5 1 (.slice p (len + 1) c) (len + 1) (cellsOf (l1 ++ [77]))) := PH.out.kept.owns O2.out (fun j hj => NW.out.w1 j (by rw [own_len p len (len + 1) c]; exact hj))
  have g3 := cell_blk bx 3 (v := .slice a len cap) rfl
  clear bx P
  go_wp2_with fail
  refine (vBytes V u l a len cap l1 w2 (S1.out.isV1 PH.out) RB.out FB.out (by omega)).mono ?_
  rintro x w3 ⟨rfl, u2, Q⟩
  have S3 : Hid (WS base w0 w3 B v2 V u2 K hs 0 (l ++ Pk.form len ++ l1)) := S1.out.both PH.out (by simp) Q
  have bx := Q.kept.get X2.out NV.out
  have X3 : Hid (w3.heap[w.heap.size]? = some (.cells #[.int .i64 4, .int .i64 n, .int .u8 (b : Int), .slice a len cap, .string s] 45 (0, 0))) := bx
  have RC : Hid (Reads w3 a len cap l1) := RB.out.kept0 Q.kept FB.out
  have O5 : Hid (w3.ownsRow base 5 1 (.slice p len c) len (cellsOf l1)) := Q.kept.owns O3.out NW.out.v1
  have O6 : Hid (w3.ownsRow base 5 1 (.slice p (len + 1) c) (len + 1) (cellsOf (l1 ++ [77]))) := Q.kept.owns O4.out (fun j hj => NW.out.v1 j (by rw [own_len p len (len + 1) c]; exact hj))
  have q3 := cell_blk bx 3 (v := .slice a len cap) rfl
  have UN : Hid (∀ j, u2.ownBlock = some j → u.ownBlock = some j ∨ w2.heap.size ≤ j) := Q.near
  clear bx Q
  go_wp2_with fail
  refine (lent_any a len cap l1 _ RC.out (by omega)).mono ?_
  rintro x w4 ⟨p4, c4, rfl, ho4, k4⟩
  have S4 : Hid (WS base w0 w4 B v2 V u2 K hs 0 (l ++ Pk.form len ++ l1)) := S3.out.quiet k4
  have by77 : ∀ d ∈ l1 ++ [77], d < 256 := fun d hd => by rcases List.mem_append.1 hd with q | q; exact RBY.out d q; simp at q; omega
  have RD : Hid (Reads w4 p4 (len + 1) c4 (l1 ++ [77])) := (own_slice2 ho4 by77).1
  have RE : Hid (Reads w4 p (len + 1) c (l1 ++ [77])) := (own_slice2 (k4.owns O6.out (fun _ _ f => f)) by77).1
  have O7 : Hid (w4.ownsRow base 5 1 (.slice p len c) len (cellsOf l1)) := k4.owns O5.out (fun _ _ f => f)
  have bx := k4.get X3.out (fun f => f)
  have r3 := cell_blk bx 3 (v := .slice a len cap) rfl
  have XN : Hid (∀ j, (Value.slice p len c).ownBlock = some j → (v2 : Value).ownBlock ≠ some j ∧ (u2 : Value).ownBlock ≠ some j) := fun j hj => ⟨fun q => by
      rcases PH.out.near j q with r | r
      · exact NW.out.w1 j hj (.inr r)
      · have := (O1.out.lt j hj).2; omega, fun q => by
      rcases UN.out j q with r | r
      · exact NW.out.v1 j hj (.inr r)
      · have := (O1.out.lt j hj).2; have := PH.out.kept.size; omega⟩
  clear bx ho4 k4 by77
  go_wp2_with fail
  refine (same_any p p4 (len + 1) c (len + 1) c4 _ _ w4 RE.out RD.out true (by simp)).mono ?_
  rintro x w5 ⟨rfl, rfl⟩
  go_wp2_with fail
  refine (hold_any base K hs p len c l1 w5 S4.out.book O7.out NW.out.b1 (by omega) (by omega) S4.out.size).mono ?_
  rintro x w6 ⟨rfl, hq, hd, b6, k6, n6⟩
  have S6 : Hid (WS base w0 w6 B v2 V u2 K (hs ++ [⟨p, len, c, hq, hd⟩]) 0 (l ++ Pk.form len ++ l1)) := S4.out.hold O7.out XN.out b6 k6 n6
  clear b6 k6 n6
  go_wp2_with fail
  refine (wErr B 0 v2 _ w6 S6.out.isW).mono ?_
  rintro x w7 ⟨rfl, rfl⟩
  go_wp2_with fail
  refine (vErr V 0 u2 _ w7 S6.out.isV).mono ?_
  rintro x w8 ⟨rfl, rfl⟩
  go_wp2_with fail
  go_ret
  exact ⟨by simp, v2, u2, _, 0, l ++ Pk.form len ++ l1, S6.out, by rw [List.length_append, List.length_append, RL.out]; have := f9.out; omega, by simp⟩

set_option maxRecDepth 100000 in
set_option maxHeartbeats 1000000 in
theorem lput_4e (base : Nat) (w0 w : World) (B : Nat) (v : Value) (V : Nat) (u : Value) (K : Nat) (hs : List Held) (e : Int) (l : List Nat) (n : Int) (b : Nat) (a : Option Addr) (len cap : Nat) (l1 : List Nat) (s : ByteArray) (S : WS base w0 w B v V u K hs e l) (he : e ≠ 0) (rd : Reads w a len cap l1) (old : 0 < len → ∀ p, a = some p → p.block < base) (lb : l.length ≤ 8388608) (hb : hs.length ≤ 8388608) (lenb : len ≤ 1048576) :
    Calls Try.prog 24 #[.pointer (some ⟨B, 0, none⟩), .pointer (some ⟨V, 0, none⟩), .agg #[.int .i64 4, .int .i64 n, .int .u8 (b : Int), .slice a len cap, .string s], .pointer (some ⟨K, 0, none⟩)] w fun x w' => x = .returned (.bool true) ∧ PutRes base w0 w' B V K hs l (6 + len + s.size) := by
  have bnd : l.length ≤ 8388608 ∧ hs.length ≤ 8388608 := ⟨lb, hb⟩
  clear lb hb
  have k0 : Kept (fun _ => False) w (w.alloc (.cells #[.int .i64 4, .int .i64 n, .int .u8 (b : Int), .slice a len cap, .string s] 45)) := (Kept.refl _ w).alloc _
  have S0 : Hid (WS base w0 (w.alloc (.cells #[.int .i64 4, .int .i64 n, .int .u8 (b : Int), .slice a len cap, .string s] 45)) B v V u K hs e l) := S.quiet k0
  have X0 : Hid ((w.alloc (.cells #[.int .i64 4, .int .i64 n, .int .u8 (b : Int), .slice a len cap, .string s] 45)).heap[w.heap.size]? = some (.cells #[.int .i64 4, .int .i64 n, .int .u8 (b : Int), .slice a len cap, .string s] 45 (0, 0))) := heap_alloc_new w _
  have OB : Hid (base ≤ w.heap.size) := S.size
  have R0 : Hid (Reads (w.alloc (.cells #[.int .i64 4, .int .i64 n, .int .u8 (b : Int), .slice a len cap, .string s] 45)) a len cap l1) := rd.kept k0 (fun _ _ f => f)
  have RL : Hid (l1.length = len) := rd.length
  have RBY : Hid (∀ d ∈ l1, d < 256) := rd.bytes
  have OLD : Hid (0 < len → ∀ p, a = some p → p.block < base) := old
  have NB : Hid (¬ wfoot B v w.heap.size) := fun q => by
    rcases q with q | q
    · have := block_lt S.isW.blk; omega
    · have := (S.isW.own.lt _ q).2; omega
  have NV : Hid (¬ wfoot V u w.heap.size) := fun q => by
    rcases q with q | q
    · have := block_lt S.isV.blk; omega
    · have := (S.isV.own.lt _ q).2; omega
  have f9 : Hid ((Pk.form len).length ≤ 9) := Pk.form_le9 len (by omega)
  clear S rd old k0
  go_enter Try.func24, Try.ntmps24
  go_wp2_with fail
  refine (lent_any a len cap l1 _ R0.out (by omega)).mono ?_
  rintro x w1 ⟨p, c, rfl, ho, k1⟩
  have S1 : Hid (WS base w0 w1 B v V u K hs e l) := S0.out.quiet k1
  have bx := k1.get X0.out (fun f => f)
  have X1 : Hid (w1.heap[w.heap.size]? = some (.cells #[.int .i64 4, .int .i64 n, .int .u8 (b : Int), .slice a len cap, .string s] 45 (0, 0))) := bx
  have oc := owns_cut ho RL.out
  have NW : Hid (New base (w.alloc (.cells #[.int .i64 4, .int .i64 n, .int .u8 (b : Int), .slice a len cap, .string s] 45)) B v V u hs (.slice p len c)) := S0.out.new oc
  have O1 : Hid (w1.ownsRow base 5 1 (.slice p len c) len (cellsOf l1)) := ownsRow_base oc (by have := OB.out; simp; omega)
  have O2 : Hid (w1.ownsRow base 5 1 (.slice p (len + 1) c) (len + 1) (cellsOf (l1 ++ [77]))) := ownsRow_base ho (by have := OB.out; simp; omega)
  have RA : Hid (Reads w1 p len c l1) := (own_slice2 oc RBY.out).1
  have FA : Hid (∀ a, p = some a → ¬ wfoot B v a.block) := fun a ha => NW.out.w1 _ ((own_slice2 oc RBY.out).2 a ha)
  have R1 : Hid (Reads w1 a len cap l1) := R0.out.kept k1 (fun _ _ f => f)
  have d3 := cell_blk bx 3 (v := .slice a len cap) rfl
  have hcr := RA.out.room
  have hcs := RA.out.small
  have lc1 : len + 1 ≤ c := (own_slice2 ho (fun d hd => by rcases List.mem_append.1 hd with q | q; exact RBY.out d q; simp at q; omega)).1.room
  unfold maxLen at hcs
  clear bx ho oc k1
  go_wp2_with fail
  refine (wBytes_err B v _ (.slice p len c) e w1 S1.out.isW he).mono ?_
  rintro x w2 ⟨rfl, hw2⟩
  have PH : Hid (Put w1 B v w2 e v (if e = 0 then l else [])) := by rw [hw2]; exact Put.refl S1.out.isW
  have bx := PH.out.kept.get X1.out NB.out
  have X2 : Hid (w2.heap[w.heap.size]? = some (.cells #[.int .i64 4, .int .i64 n, .int .u8 (b : Int), .slice a len cap, .string s] 45 (0, 0))) := bx
  have RB : Hid (Reads w2 a len cap l1) := R1.out.kept0 PH.out.kept (fun h0 p hp q => by
    have := OLD.out h0 p hp
    rcases q with q | q
    · have := S1.out.fB; omega
    · have := S1.out.fv _ q; omega)
  have FB : Hid (0 < len → ∀ p, a = some p → ¬ wfoot V u p.block) := fun h0 p hp q => by
    have := OLD.out h0 p hp
    rcases q with q | q
    · have := S1.out.fV; omega
    · have := S1.out.fu _ q; omega
  have O3 : Hid (w2.ownsRow base 5 1 (.slice p len c) len (cellsOf l1)) := PH.out.kept.owns O1.out NW.out.w1
  have O4 : Hid (w2.ownsRow base 5 1 (.slice p (len + 1) c) (len + 1) (cellsOf (l1 ++ [77]))) := PH.out.kept.owns O2.out (fun j hj => NW.out.w1 j (by rw [own_len p len (len + 1) c]; exact hj))
  have g3 := cell_blk bx 3 (v := .slice a len cap) rfl
  clear bx hw2
  go_wp2_with fail
  refine (vBytes_err V e u l a len cap w2 (S1.out.isV1 PH.out) he (by omega)).mono ?_
  rintro x w3 ⟨rfl, Q⟩
  have S3 : Hid (WS base w0 w3 B v V u K hs e (l)) := S1.out.both PH.out (by simp) Q
  have bx := Q.kept.get X2.out NV.out
  have X3 : Hid (w3.heap[w.heap.size]? = some (.cells #[.int .i64 4, .int .i64 n, .int .u8 (b : Int), .slice a len cap, .string s] 45 (0, 0))) := bx
  have RC : Hid (Reads w3 a len cap l1) := RB.out.kept0 Q.kept FB.out
  have O5 : Hid (w3.ownsRow base 5 1 (.slice p len c) len (cellsOf l1)) := Q.kept.owns O3.out NW.out.v1
  have O6 : Hid (w3.ownsRow base 5 1 (.slice p (len + 1) c) (len + 1) (cellsOf (l1 ++ [77]))) := Q.kept.owns O4.out (fun j hj => NW.out.v1 j (by rw [own_len p len (len + 1) c]; exact hj))
  have q3 := cell_blk bx 3 (v := .slice a len cap) rfl
  clear bx Q
  go_wp2_with fail
  refine (lent_any a len cap l1 _ RC.out (by omega)).mono ?_
  rintro x w4 ⟨p4, c4, rfl, ho4, k4⟩
  have S4 : Hid (WS base w0 w4 B v V u K hs e (l)) := S3.out.quiet k4
  have by77 : ∀ d ∈ l1 ++ [77], d < 256 := fun d hd => by rcases List.mem_append.1 hd with q | q; exact RBY.out d q; simp at q; omega
  have RD : Hid (Reads w4 p4 (len + 1) c4 (l1 ++ [77])) := (own_slice2 ho4 by77).1
  have RE : Hid (Reads w4 p (len + 1) c (l1 ++ [77])) := (own_slice2 (k4.owns O6.out (fun _ _ f => f)) by77).1
  have O7 : Hid (w4.ownsRow base 5 1 (.slice p len c) len (cellsOf l1)) := k4.owns O5.out (fun _ _ f => f)
  have bx := k4.get X3.out (fun f => f)
  have r3 := cell_blk bx 3 (v := .slice a len cap) rfl
  have XN : Hid (∀ j, (Value.slice p len c).ownBlock = some j → (v : Value).ownBlock ≠ some j ∧ (u : Value).ownBlock ≠ some j) := fun j hj => ⟨fun q => by
      rcases PH.out.near j q with r | r
      · exact NW.out.w1 j hj (.inr r)
      · have := (O1.out.lt j hj).2; omega, fun q => NW.out.v1 j hj (.inr q)⟩
  clear bx ho4 k4 by77
  go_wp2_with fail
  refine (same_any p p4 (len + 1) c (len + 1) c4 _ _ w4 RE.out RD.out true (by simp)).mono ?_
  rintro x w5 ⟨rfl, rfl⟩
  go_wp2_with fail
  refine (hold_any base K hs p len c l1 w5 S4.out.book O7.out NW.out.b1 (by omega) (by omega) S4.out.size).mono ?_
  rintro x w6 ⟨rfl, hq, hd, b6, k6, n6⟩
  have S6 : Hid (WS base w0 w6 B v V u K (hs ++ [⟨p, len, c, hq, hd⟩]) e (l)) := S4.out.hold O7.out XN.out b6 k6 n6
  clear b6 k6 n6
  go_wp2_with fail
  refine (wErr B e v _ w6 S6.out.isW).mono ?_
  rintro x w7 ⟨rfl, rfl⟩
  go_wp2_with fail
  refine (vErr V e u _ w7 S6.out.isV).mono ?_
  rintro x w8 ⟨rfl, rfl⟩
  go_wp2_with fail
  go_ret
  exact ⟨by simp, v, u, _, e, l, S6.out, by omega, by simp⟩

set_option maxRecDepth 100000 in
set_option maxHeartbeats 1000000 in
theorem lput_6 (base : Nat) (w0 w : World) (B : Nat) (v : Value) (V : Nat) (u : Value) (K : Nat) (hs : List Held) (l : List Nat) (n : Int) (b : Nat) (a : Option Addr) (len cap : Nat) (s : ByteArray) (S : WS base w0 w B v V u K hs 0 l) (lb : l.length ≤ 8388608) (hb : hs.length ≤ 8388608) :
    Calls Try.prog 24 #[.pointer (some ⟨B, 0, none⟩), .pointer (some ⟨V, 0, none⟩), .agg #[.int .i64 6, .int .i64 n, .int .u8 (b : Int), .slice a len cap, .string s], .pointer (some ⟨K, 0, none⟩)] w fun x w' => x = .returned (.bool true) ∧ PutRes base w0 w' B V K hs l (6 + len + s.size) := by
  have bnd : l.length ≤ 8388608 ∧ hs.length ≤ 8388608 := ⟨lb, hb⟩
  clear lb hb
  have S0 : Hid (WS base w0 (w.alloc (.cells #[.int .i64 6, .int .i64 n, .int .u8 (b : Int), .slice a len cap, .string s] 45)) B v V u K hs 0 l) := S.quiet ((Kept.refl _ w).alloc _)
  have LB : Hid (∀ d ∈ l, d < 256) := S.isV.bytes
  have W0 : Hid (IsW (w.alloc (.cells #[.int .i64 6, .int .i64 n, .int .u8 (b : Int), .slice a len cap, .string s] 45)) B 0 v l) := by show IsW _ _ _ _ _; have := S0.out.isW; exact this
  clear S
  go_enter Try.func24, Try.ntmps24
  go_wp2_with fail
  refine (wData B 0 v l _ W0.out (by omega)).mono ?_
  rintro x w1 ⟨p1, c1, rfl, ho1, k1⟩
  have S1 : Hid (WS base w0 w1 B v V u K hs 0 l) := S0.out.quiet k1
  have W1 : Hid (IsW w1 B 0 v l) := W0.out.kept k1 (fun f => f) (fun _ _ f => f)
  have N1 : Hid (New base (w.alloc (.cells #[.int .i64 6, .int .i64 n, .int .u8 (b : Int), .slice a len cap, .string s] 45)) B v V u hs (.slice p1 l.length c1)) := S0.out.new ho1
  have A1 : Hid (w1.ownsRow base 5 1 (.slice p1 l.length c1) l.length (cellsOf l)) := ownsRow_base ho1 S0.out.size
  clear ho1 k1
  go_wp2_with fail
  refine (wData B 0 v l w1 W1.out (by omega)).mono ?_
  rintro x w2 ⟨p2, c2, rfl, ho2, k2⟩
  have S2 : Hid (WS base w0 w2 B v V u K hs 0 l) := S1.out.quiet k2
  have N2 : Hid (New base w1 B v V u hs (.slice p2 l.length c2)) := S1.out.new ho2
  have A2 : Hid (w2.ownsRow base 5 1 (.slice p2 l.length c2) l.length (cellsOf l)) := ownsRow_base ho2 S1.out.size
  have A1b : Hid (w2.ownsRow base 5 1 (.slice p1 l.length c1) l.length (cellsOf l)) := k2.owns A1.out (fun _ _ f => f)
  have DJ : Hid (∀ j, (Value.slice p2 l.length c2).ownBlock = some j → (Value.slice p1 l.length c1).ownBlock ≠ some j) := fun j hj q => by
    have := (owns_block ho2 hj).1
    have := (A1.out.lt j q).2
    omega
  clear ho2 k2
  go_wp2_with fail
  refine (vData V u l w2 S2.out.isV (by omega)).mono ?_
  rintro x w3 ⟨p3, c3, rfl, r3, k3⟩
  have S3 : Hid (WS base w0 w3 B v V u K hs 0 l) := S2.out.quiet k3
  have A31 : Hid (w3.ownsRow base 5 1 (.slice p1 l.length c1) l.length (cellsOf l)) := k3.owns A1b.out (fun _ _ f => f)
  have A32 : Hid (w3.ownsRow base 5 1 (.slice p2 l.length c2) l.length (cellsOf l)) := k3.owns A2.out (fun _ _ f => f)
  have R3 : Hid (Reads w3 p3 l.length c3 l) := r3
  clear r3 k3
  go_wp2_with fail
  refine (same_any p1 p3 l.length c1 l.length c3 l l w3 (own_slice2 A31.out LB.out).1 R3.out true (by simp)).mono ?_
  rintro x w4 ⟨rfl, rfl⟩
  go_wp2_with fail
  refine (vData V u l w4 S3.out.isV (by omega)).mono ?_
  rintro x w5 ⟨p5, c5, rfl, r5, k5⟩
  have S6 : Hid (WS base w0 w5 B v V u K hs 0 l) := S3.out.quiet k5
  have A61 : Hid (w5.ownsRow base 5 1 (.slice p1 l.length c1) l.length (cellsOf l)) := k5.owns A31.out (fun _ _ f => f)
  have A62 : Hid (w5.ownsRow base 5 1 (.slice p2 l.length c2) l.length (cellsOf l)) := k5.owns A32.out (fun _ _ f => f)
  have R5 : Hid (Reads w5 p5 l.length c5 l) := r5
  clear r5 k5
  go_wp2_with fail
  refine (same_any p2 p5 l.length c2 l.length c5 l l w5 (own_slice2 A62.out LB.out).1 R5.out true (by simp)).mono ?_
  rintro x w6 ⟨rfl, rfl⟩
  have XA : Hid (∀ j, (Value.slice p1 l.length c1).ownBlock = some j → v.ownBlock ≠ some j ∧ u.ownBlock ≠ some j) := fun j hj => ⟨fun q => N1.out.w1 j hj (.inr q), fun q => N1.out.v1 j hj (.inr q)⟩
  have XB : Hid (∀ j, (Value.slice p2 l.length c2).ownBlock = some j → v.ownBlock ≠ some j ∧ u.ownBlock ≠ some j) := fun j hj => ⟨fun q => N2.out.w1 j hj (.inr q), fun q => N2.out.v1 j hj (.inr q)⟩
  go_wp2_with fail
  refine (hold_any base K hs p1 l.length c1 l w6 S6.out.book A61.out N1.out.b1 (by omega) (by omega) S6.out.size).mono ?_
  rintro x w7 ⟨rfl, q7, d7, b7, k7, n7⟩
  have S7 : Hid (WS base w0 w7 B v V u K (hs ++ [⟨p1, l.length, c1, q7, d7⟩]) 0 l) := S6.out.hold A61.out XA.out b7 k7 n7
  have A72 : Hid (w7.ownsRow base 5 1 (.slice p2 l.length c2) l.length (cellsOf l)) := k7.owns A62.out (fun j hj q => by
    rcases q with q | q
    · obtain ⟨_, cs, hb⟩ := owns_block A62.out hj
      exact not_bookish hb (by decide) (by decide) q
    · exact DJ.out j hj q)
  have F7 : Hid (∀ j, (Value.slice p2 l.length c2).ownBlock = some j → ¬ bfoot (hs ++ [⟨p1, l.length, c1, q7, d7⟩]) j) := fun j hj f => by
    obtain ⟨y, hy, f⟩ := f
    rcases List.mem_append.1 hy with hy | hy
    · exact N2.out.b1 j hj ⟨y, hy, f⟩
    · simp at hy
      subst hy
      rcases f with f | f
      · exact DJ.out j hj f
      · rcases n7 j f with r | r
        · exact DJ.out j hj r
        · have := (A62.out.lt j hj).2; omega
  clear b7 k7 n7
  go_wp2_with fail
  refine (hold_any base K _ p2 l.length c2 l w7 S7.out.book A72.out F7.out (by omega) (by simp; omega) S7.out.size).mono ?_
  rintro x w8 ⟨rfl, q8, d8, b8, k8, n8⟩
  have S8 : Hid (WS base w0 w8 B v V u K (hs ++ [⟨p1, l.length, c1, q7, d7⟩] ++ [⟨p2, l.length, c2, q8, d8⟩]) 0 l) := S7.out.hold A72.out XB.out b8 k8 n8
  clear b8 k8 n8
  go_wp2_with fail
  refine (wErr B 0 v _ w8 S8.out.isW).mono ?_
  rintro x w9 ⟨rfl, rfl⟩
  go_wp2_with fail
  refine (vErr V 0 u _ w9 S8.out.isV).mono ?_
  rintro x wz ⟨rfl, rfl⟩
  go_wp2_with fail
  go_ret
  exact ⟨by simp, v, u, _, 0, l, S8.out, by omega, by simp⟩

set_option maxRecDepth 100000 in
set_option maxHeartbeats 1000000 in
theorem lput_6e (base : Nat) (w0 w : World) (B : Nat) (v : Value) (V : Nat) (u : Value) (K : Nat) (hs : List Held) (e : Int) (l : List Nat) (n : Int) (b : Nat) (a : Option Addr) (len cap : Nat) (s : ByteArray) (S : WS base w0 w B v V u K hs e l) (he : e ≠ 0) (lb : l.length ≤ 8388608) (hb : hs.length ≤ 8388608) :
    Calls Try.prog 24 #[.pointer (some ⟨B, 0, none⟩), .pointer (some ⟨V, 0, none⟩), .agg #[.int .i64 6, .int .i64 n, .int .u8 (b : Int), .slice a len cap, .string s], .pointer (some ⟨K, 0, none⟩)] w fun x w' => x = .returned (.bool true) ∧ PutRes base w0 w' B V K hs l (6 + len + s.size) := by
  have bnd : l.length ≤ 8388608 ∧ hs.length ≤ 8388608 := ⟨lb, hb⟩
  clear lb hb
  have S0 : Hid (WS base w0 (w.alloc (.cells #[.int .i64 6, .int .i64 n, .int .u8 (b : Int), .slice a len cap, .string s] 45)) B v V u K hs e l) := S.quiet ((Kept.refl _ w).alloc _)
  have LB : Hid (∀ d ∈ l, d < 256) := S.isV.bytes
  have W0 : Hid (IsW (w.alloc (.cells #[.int .i64 6, .int .i64 n, .int .u8 (b : Int), .slice a len cap, .string s] 45)) B e v []) := by show IsW _ _ _ _ _; have := S0.out.isW; rw [if_neg he] at this; exact this
  clear S
  go_enter Try.func24, Try.ntmps24
  go_wp2_with fail
  refine (wData B e v [] _ W0.out (by simp)).mono ?_
  rintro x w1 ⟨p1, c1, rfl, ho1, k1⟩
  have S1 : Hid (WS base w0 w1 B v V u K hs e l) := S0.out.quiet k1
  have W1 : Hid (IsW w1 B e v []) := W0.out.kept k1 (fun f => f) (fun _ _ f => f)
  have N1 : Hid (New base (w.alloc (.cells #[.int .i64 6, .int .i64 n, .int .u8 (b : Int), .slice a len cap, .string s] 45)) B v V u hs (.slice p1 0 c1)) := S0.out.new ho1
  have A1 : Hid (w1.ownsRow base 5 1 (.slice p1 0 c1) 0 (cellsOf [])) := ownsRow_base ho1 S0.out.size
  clear ho1 k1
  go_wp2_with fail
  refine (wData B e v [] w1 W1.out (by simp)).mono ?_
  rintro x w2 ⟨p2, c2, rfl, ho2, k2⟩
  have S2 : Hid (WS base w0 w2 B v V u K hs e l) := S1.out.quiet k2
  have N2 : Hid (New base w1 B v V u hs (.slice p2 0 c2)) := S1.out.new ho2
  have A2 : Hid (w2.ownsRow base 5 1 (.slice p2 0 c2) 0 (cellsOf [])) := ownsRow_base ho2 S1.out.size
  have A1b : Hid (w2.ownsRow base 5 1 (.slice p1 0 c1) 0 (cellsOf [])) := k2.owns A1.out (fun _ _ f => f)
  have DJ : Hid (∀ j, (Value.slice p2 0 c2).ownBlock = some j → (Value.slice p1 0 c1).ownBlock ≠ some j) := fun j hj q => by
    have := (owns_block ho2 hj).1
    have := (A1.out.lt j q).2
    omega
  clear ho2 k2
  go_wp2_with fail
  refine (vData_err V e u l w2 S2.out.isV he).mono ?_
  rintro x w3 ⟨rfl, rfl⟩
  go_wp2_with fail
  refine (same_any p1 none 0 c1 0 0 [] [] w3 (own_slice2 A1b.out (fun _ h => absurd h (by simp))).1 (Reads.nil _) true (by simp)).mono ?_
  rintro x w4 ⟨rfl, rfl⟩
  go_wp2_with fail
  refine (vData_err V e u l w4 S2.out.isV he).mono ?_
  rintro x w5 ⟨rfl, rfl⟩
  go_wp2_with fail
  refine (same_any p2 none 0 c2 0 0 [] [] w5 (own_slice2 A2.out (fun _ h => absurd h (by simp))).1 (Reads.nil _) true (by simp)).mono ?_
  rintro x w6 ⟨rfl, rfl⟩
  have S6 : Hid (WS base w0 w6 B v V u K hs e l) := S2
  have A61 : Hid (w6.ownsRow base 5 1 (.slice p1 0 c1) 0 (cellsOf [])) := A1b
  have A62 : Hid (w6.ownsRow base 5 1 (.slice p2 0 c2) 0 (cellsOf [])) := A2
  have XA : Hid (∀ j, (Value.slice p1 0 c1).ownBlock = some j → v.ownBlock ≠ some j ∧ u.ownBlock ≠ some j) := fun j hj => ⟨fun q => N1.out.w1 j hj (.inr q), fun q => N1.out.v1 j hj (.inr q)⟩
  have XB : Hid (∀ j, (Value.slice p2 0 c2).ownBlock = some j → v.ownBlock ≠ some j ∧ u.ownBlock ≠ some j) := fun j hj => ⟨fun q => N2.out.w1 j hj (.inr q), fun q => N2.out.v1 j hj (.inr q)⟩
  go_wp2_with fail
  refine (hold_any base K hs p1 0 c1 [] w6 S6.out.book A61.out N1.out.b1 (by omega) (by omega) S6.out.size).mono ?_
  rintro x w7 ⟨rfl, q7, d7, b7, k7, n7⟩
  have S7 : Hid (WS base w0 w7 B v V u K (hs ++ [⟨p1, 0, c1, q7, d7⟩]) e l) := S6.out.hold A61.out XA.out b7 k7 n7
  have A72 : Hid (w7.ownsRow base 5 1 (.slice p2 0 c2) 0 (cellsOf [])) := k7.owns A62.out (fun j hj q => by
    rcases q with q | q
    · obtain ⟨_, cs, hb⟩ := owns_block A62.out hj
      exact not_bookish hb (by decide) (by decide) q
    · exact DJ.out j hj q)
  have F7 : Hid (∀ j, (Value.slice p2 0 c2).ownBlock = some j → ¬ bfoot (hs ++ [⟨p1, 0, c1, q7, d7⟩]) j) := fun j hj f => by
    obtain ⟨y, hy, f⟩ := f
    rcases List.mem_append.1 hy with hy | hy
    · exact N2.out.b1 j hj ⟨y, hy, f⟩
    · simp at hy
      subst hy
      rcases f with f | f
      · exact DJ.out j hj f
      · rcases n7 j f with r | r
        · exact DJ.out j hj r
        · have := (A62.out.lt j hj).2; omega
  clear b7 k7 n7
  go_wp2_with fail
  refine (hold_any base K _ p2 0 c2 [] w7 S7.out.book A72.out F7.out (by omega) (by simp; omega) S7.out.size).mono ?_
  rintro x w8 ⟨rfl, q8, d8, b8, k8, n8⟩
  have S8 : Hid (WS base w0 w8 B v V u K (hs ++ [⟨p1, 0, c1, q7, d7⟩] ++ [⟨p2, 0, c2, q8, d8⟩]) e l) := S7.out.hold A72.out XB.out b8 k8 n8
  clear b8 k8 n8
  go_wp2_with fail
  refine (wErr B e v _ w8 S8.out.isW).mono ?_
  rintro x w9 ⟨rfl, rfl⟩
  go_wp2_with fail
  refine (vErr V e u _ w9 S8.out.isV).mono ?_
  rintro x wz ⟨rfl, rfl⟩
  go_wp2_with fail
  go_ret
  exact ⟨by simp, v, u, _, e, l, S8.out, by omega, by simp⟩

set_option maxRecDepth 100000 in
theorem lput_0 (base : Nat) (w0 w : World) (B : Nat) (v : Value) (V : Nat) (u : Value) (K : Nat) (hs : List Held) (e : Int) (l : List Nat) (kind n : Int) (b : Nat) (a : Option Addr) (len cap : Nat) (s : ByteArray) (S : WS base w0 w B v V u K hs e l) (h1 : kind ≠ 1) (h2 : kind ≠ 2) (h3 : kind ≠ 3) (h4 : kind ≠ 4) (h5 : kind ≠ 5) (h6 : kind ≠ 6) :
    Calls Try.prog 24 #[.pointer (some ⟨B, 0, none⟩), .pointer (some ⟨V, 0, none⟩), .agg #[.int .i64 kind, .int .i64 n, .int .u8 (b : Int), .slice a len cap, .string s], .pointer (some ⟨K, 0, none⟩)] w fun x w' => x = .returned (.bool true) ∧ PutRes base w0 w' B V K hs l (6 + len + s.size) := by
  have S0 : Hid (WS base w0 (w.alloc (.cells #[.int .i64 kind, .int .i64 n, .int .u8 (b : Int), .slice a len cap, .string s] 45)) B v V u K hs e l) := S.quiet ((Kept.refl _ w).alloc _)
  clear S
  have g1 : (kind == 1) = false := by simpa using h1
  have g2 : (kind == 2) = false := by simpa using h2
  have g3 : (kind == 3) = false := by simpa using h3
  have g4 : (kind == 4) = false := by simpa using h4
  have g5 : (kind == 5) = false := by simpa using h5
  have g6 : (kind == 6) = false := by simpa using h6
  go_enter Try.func24, Try.ntmps24
  go_wp2_with fail
  refine (wErr B e v _ _ S0.out.isW).mono ?_
  rintro x w3 ⟨rfl, rfl⟩
  go_wp2_with fail
  refine (vErr V e u _ _ S0.out.isV).mono ?_
  rintro x w4 ⟨rfl, rfl⟩
  go_wp2_with fail
  go_ret
  exact ⟨by simp, v, u, hs, e, l, S0.out, by omega, by omega⟩
/-- What the law's put asks of a thing. -/
structure OpOk (base : Nat) (w : World) (o : Opv) : Prop where
  ok : o.Ok w
  old : 0 < o.len → ∀ p, o.a = some p → p.block < base
  lb : o.len ≤ 1048576
  sb : o.s.size ≤ 1048576
theorem lput_any (base : Nat) (w0 w : World) (B : Nat) (v : Value) (V : Nat) (u : Value) (K : Nat) (hs : List Held) (e : Int) (l : List Nat) (o : Opv) (S : WS base w0 w B v V u K hs e l) (ok : OpOk base w o) (lb : l.length ≤ 8388608) (hb : hs.length ≤ 8388608) :
    Calls Try.prog 24 #[.pointer (some ⟨B, 0, none⟩), .pointer (some ⟨V, 0, none⟩), o.val, .pointer (some ⟨K, 0, none⟩)] w fun x w' => x = .returned (.bool true) ∧ PutRes base w0 w' B V K hs l (6 + o.len + o.s.size) := by
  obtain ⟨kind, n, b, a, len, cap, l1, s⟩ := o
  obtain ⟨⟨n1, n2, b1, rd⟩, old, lenb, sbb⟩ := ok
  simp only at n1 n2 b1 rd old lenb sbb
  by_cases he : e = 0
  · subst he
    by_cases h1 : kind = 1
    · subst h1
      by_cases hn : n < 0
      · exact lput_1b base w0 w B v V u K hs l n b a len cap s S hn lb sbb
      · obtain ⟨q, rfl⟩ : ∃ k : Nat, n = (k : Int) := ⟨n.toNat, by omega⟩
        exact lput_1a base w0 w B v V u K hs l q b a len cap s S (by omega) lb sbb
    by_cases h2 : kind = 2
    · subst h2; exact lput_2 base w0 w B v V u K hs l n b a len cap s S b1 lb sbb
    by_cases h3 : kind = 3
    · subst h3; exact lput_3 base w0 w B v V u K hs l n b a len cap s S b1 lb sbb
    by_cases h4 : kind = 4
    · subst h4; exact lput_4 base w0 w B v V u K hs l n b a len cap l1 s S rd old lb hb lenb
    by_cases h5 : kind = 5
    · subst h5; exact lput_5 base w0 w B v V u K hs l n b a len cap s S lb sbb
    by_cases h6 : kind = 6
    · subst h6; exact lput_6 base w0 w B v V u K hs l n b a len cap s S lb hb
    exact lput_0 base w0 w B v V u K hs 0 l kind n b a len cap s S h1 h2 h3 h4 h5 h6
  · by_cases h1 : kind = 1
    · subst h1; exact lput_1e base w0 w B v V u K hs e l n b a len cap s S he n2 lb sbb
    by_cases h2 : kind = 2
    · subst h2; exact lput_2e base w0 w B v V u K hs e l n b a len cap s S he lb sbb
    by_cases h3 : kind = 3
    · subst h3; exact lput_3e base w0 w B v V u K hs e l n b a len cap s S b1 he lb sbb
    by_cases h4 : kind = 4
    · subst h4; exact lput_4e base w0 w B v V u K hs e l n b a len cap l1 s S he rd old lb hb lenb
    by_cases h5 : kind = 5
    · subst h5; exact lput_5e base w0 w B v V u K hs e l n b a len cap s S he lb sbb
    by_cases h6 : kind = 6
    · subst h6; exact lput_6e base w0 w B v V u K hs e l n b a len cap s S he lb hb
    exact lput_0 base w0 w B v V u K hs e l kind n b a len cap s S h1 h2 h3 h4 h5 h6
end Go.Proofs.Ytgfglbbfoadiaaa
